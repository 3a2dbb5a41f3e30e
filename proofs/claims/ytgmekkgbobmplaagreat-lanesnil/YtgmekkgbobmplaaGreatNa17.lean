/- Texts laid together: LnO NNil. -/
import Derived.Test.YtgmekkgbobmplaaGreatLnNM
import Derived.Test.YtgmekkgbobmplaaGreatNa16
/- The laws' beginning: a packet is sent and taken; a lane that isn't there. -/
namespace Go.Proofs.YtgmekkgbobmplaaGreat
open Go.RowKit

theorem nsend_nil (a : Option Addr) (n cap : Nat) (w : World) : Calls Tryz.prog 12 #[.pointer none, .slice a n cap] w fun e w' => e = .returned (.tuple #[]) ∧ Below w.heap.size w w' := by
  go_enter Tryz.func12, Tryz.ntmps12
  go_wp2
  try simp only [Exit.inBlock, Exit.then]
  refine bodyPost_ret (results_none rfl _ _ _) rfl ?_
  exact ⟨rfl, Below.refl _ _⟩
def fM : Ms := ⟨9, 0, 0, 0, zeroQ, (0, 0), ⟨#[]⟩, [], [], [], []⟩
def fP : Pkt := (1, 2, fM)
theorem fM_b : MsB fM where
  k := ⟨by decide, by decide⟩
  ep := ⟨by decide, by decide⟩
  v := ⟨by decide, by decide⟩
  sl := ⟨by decide, by decide⟩
  rq := ⟨⟨⟨by decide, by decide⟩, ⟨by decide, by decide⟩⟩, ⟨⟨by decide, by decide⟩, ⟨by decide, by decide⟩⟩, by unfold maxLen; decide, by decide⟩
  rc := ⟨by decide, by decide⟩
  rf := by decide
  tx := by unfold maxLen; decide
  nx := ⟨by unfold maxLen; decide, fun x hx => by cases hx⟩
  sg := ⟨by unfold maxLen; decide, fun x hx => by cases hx⟩
  cg := ⟨by unfold maxLen; decide, fun x hx => by cases hx⟩
  ln := ⟨by unfold maxLen; decide, fun x hx => by cases hx⟩
theorem fM_s : msS fM := ⟨by decide, by decide, by decide, ⟨by decide, fun p hp => by cases hp⟩, ⟨by decide, fun p hp => by cases hp⟩, ⟨by decide, fun p hp => by cases hp⟩⟩
theorem fM_t : tmG fM = [] := rfl
theorem fP_n : nrmP fP = fP := by
  have hc : canW 0 = 0 := by decide
  show ((1, 2, ⟨9, 0, 0, 0, ⟨0, 0, 0, ⟨#[]⟩, canW 0, 0⟩, (0, canW 0), ⟨#[]⟩, [], [], [].map nCg, []⟩) : Pkt) = fP
  rw [hc]
  rfl
theorem fP_row {w : World} {b : Nat} (h : BxAt w b (pkC 1 2 fM (.slice none fM.nx.length 0) (.slice none fM.sg.length 0) (.slice none fM.cg.length 0) (.slice none fM.ln.length 0)) 50) : Reads (fun k => k = b) w (.slice (some ⟨b, 0, none⟩) [fP].length 1) (.l 19 ([fP].map dPk)) := by
  refine .l b 0 1 19 [dPk fP] (fun _ q => (pkC 1 2 fM (.slice none fM.nx.length 0) (.slice none fM.sg.length 0) (.slice none fM.cg.length 0) (.slice none fM.ln.length 0)).getD q undef) rfl (lt_of_blk h) (fun j e he => ?_) (fun j e q d he hd => ?_) (fun j e q d he hd => ?_)
  · match j, he with
    | 0, he => cases he; rfl
  · match j, he with
    | 0, he =>
      cases he
      have hq : q < 19 := (List.getElem?_eq_some_iff.1 hd).1
      rw [Nat.zero_mul]
      simp only [Nat.zero_add]
      refine h.cell q _ ?_
      rw [List.getD_eq_getElem?_getD, List.getElem?_eq_getElem (by exact hq)]
      rfl
  · match j, he with
    | 0, he =>
      cases he
      match q, hd with
      | 0, hd => cases hd; exact .i _
      | 1, hd => cases hd; exact .i _
      | 2, hd => cases hd; exact .i _
      | 3, hd => cases hd; exact .i _
      | 4, hd => cases hd; exact .i _
      | 5, hd => cases hd; exact .i _
      | 6, hd => cases hd; exact .i _
      | 7, hd => cases hd; exact .i _
      | 8, hd => cases hd; exact .i _
      | 9, hd => cases hd; exact .s _
      | 10, hd => cases hd; exact .f _
      | 11, hd => cases hd; exact .i _
      | 12, hd => cases hd; exact .i _
      | 13, hd => cases hd; exact .f _
      | 14, hd => cases hd; exact .s _
      | 15, hd => cases hd; exact .nil _ _ _
      | 16, hd => cases hd; exact .nil _ _ _
      | 17, hd => cases hd; exact .nil _ _ _
      | 18, hd => cases hd; exact .nil _ _ _
      | q + 19, hd => cases hd
theorem ints_3 {w : World} {b : Nat} {T : TypeId} (h : BxAt w b [.int .i64 3] T) : IntsIn w (some ⟨b, 0, none⟩) [3] := by
  refine .inr ⟨b, 0, rfl, lt_of_blk h, fun j z hz => ?_⟩
  rw [Nat.zero_add]
  refine h.cell j _ ?_
  match j, hz with
  | 0, hz => cases hz; rfl
  | j + 1, hz => cases hz
/-- A lane of the laws' beginning. -/
def LxAt (w0 w : World) (v : Value) (ps : List Pkt) : Prop := ∃ N P, w0.heap.size ≤ N ∧ LaneAt N P w v [3] ps [] ∧ Below w0.heap.size w0 w
theorem LxAt.same {w0 w w' : World} {v : Value} {ps : List Pkt} (h : LxAt w0 w v ps) (hb : Below w.heap.size w w') : LxAt w0 w' v ps := by
  obtain ⟨N, P, h0, h1, h2⟩ := h
  exact ⟨N, P, h0, h1.keep hb, h2.trans (hb.mono h2.size)⟩
theorem lx_post {w0 w w' : World} {v : Value} {ps ps' : List Pkt} {N : Nat} {P : Nat → Prop} (h0 : w0.heap.size ≤ N) (h1 : LaneAt N P w v [3] ps []) (h2 : Below w0.heap.size w0 w) (h : LanePost N P w w' v [3] ps' []) : LxAt w0 w' v ps' := by
  obtain ⟨P', k1, k2, _⟩ := h
  exact ⟨N, P', h0, k1, h2.trans (k2.below h2.size (fun k hk => Nat.le_trans h0 (h1.low k hk)))⟩
theorem lx_send (w0 w1 w : World) (v : Value) (h : LxAt w0 w1 v []) (hb : Below w1.heap.size w1 w) (hx : BxAt w w1.heap.size (pkC 1 2 fM (.slice none fM.nx.length 0) (.slice none fM.sg.length 0) (.slice none fM.cg.length 0) (.slice none fM.ln.length 0)) 50) : Calls Tryz.prog 12 #[v, .slice (some ⟨w1.heap.size, 0, none⟩) 1 1] w fun e w' => e = .returned (.tuple #[]) ∧ LxAt w0 w' v [fP] := by
  obtain ⟨N, P, h0, h1, h2⟩ := h
  have hP := fun k (hk : P k) => h1.lt k hk
  refine (nsend_any (G := fun k => k = w1.heap.size) (h1.keep hb) [fP] _ 1 (fP_row hx) (fun k hk hq => by have := hP k hq; omega) (by decide) (fun q hq => by
    obtain rfl := List.mem_singleton.1 hq
    exact ⟨fM_s, fM_b.n, fun p hp => by cases hp⟩) ?_).mono ?_
  · decide
  rintro e w' ⟨rfl, hp⟩
  have h9 : LanePost N P w w' v [3] (sendP [] [fP]) (noteP [] [fP]) := hp
  have h7 : noteP [] [fP] = [] := rfl
  rw [h7] at h9
  have h8 : sendP [] [fP] = [fP] := by
    show addP [] (nrmP fP) = [fP]
    rw [fP_n]
    rfl
  rw [h8] at h9
  exact ⟨rfl, lx_post h0 (h1.keep hb) (h2.trans (hb.mono h2.size)) h9⟩
theorem lx_new (w : World) (b : Nat) (hx : IntsIn w (some ⟨b, 0, none⟩) [3]) : Calls Tryz.prog 9 #[.slice (some ⟨b, 0, none⟩) 1 1] w fun e w' => ∃ g, e = .returned (.pointer (some ⟨g, 0, none⟩)) ∧ LxAt w w' (.pointer (some ⟨g, 0, none⟩)) [] := by
  refine (nnew_any (some ⟨b, 0, none⟩) 1 1 [3] rfl (by decide) w hx).mono ?_
  rintro e w' ⟨v, P, rfl, hA, hb⟩
  obtain ⟨g, rfl⟩ := hA.isptr
  exact ⟨g, rfl, _, P, Nat.le_refl _, hA, hb⟩
theorem lx_take (w0 w : World) (v : Value) (h : LxAt w0 w v [fP]) : Calls Tryz.prog 17 #[v, .int .i64 5] w fun e w' => ∃ a13 c13 a14 c14 a15 c15 a16 c16, e = .returned (.tuple #[.agg (pkC 1 2 fM (.slice a13 fM.nx.length c13) (.slice a14 fM.sg.length c14) (.slice a15 fM.cg.length c15) (.slice a16 fM.ln.length c16)).toArray, .bool true]) ∧ MsL (fun _ => True) w' fM (.slice a13 fM.nx.length c13) (.slice a14 fM.sg.length c14) (.slice a15 fM.cg.length c15) (.slice a16 fM.ln.length c16) ∧ LxAt w0 w' v [] := by
  obtain ⟨N, P, h0, h1, h2⟩ := h
  refine (ntake_any h1 (by decide) 5).mono ?_
  rintro e w' ⟨fr, tg, m, a13, c13, a14, c14, a15, c15, a16, c16, P', hq, rfl, hL, hA, hO, hs⟩
  have hp : plN 5 [fP].length = 0 := by decide
  rw [hp] at hq hA
  cases hq
  exact ⟨_, _, _, _, _, _, _, _, rfl, hL.mono2 (fun _ _ _ => trivial), N, P', h0, hA, h2.trans (hO.below h2.size (fun k hk => Nat.le_trans h0 (h1.low k hk)))⟩
theorem lx_len (w0 w : World) (v : Value) (h : LxAt w0 w v []) : Calls Tryz.prog 24 #[v] w fun e w' => e = .returned (.int .i64 0) ∧ Below w.heap.size w w' ∧ LxAt w0 w' v [] := by
  have h9 := h
  obtain ⟨N, P, h0, h1, h2⟩ := h
  refine (nlen_any h1).mono ?_
  rintro e w' ⟨rfl, hb⟩
  exact ⟨rfl, hb, h9.same hb⟩
theorem lx_inject (w0 w : World) (v : Value) (h : LxAt w0 w v []) (a13 a14 a15 a16 : Option Addr) (c13 c14 c15 c16 : Nat) (hL : MsL (fun _ => True) w fM (.slice a13 fM.nx.length c13) (.slice a14 fM.sg.length c14) (.slice a15 fM.cg.length c15) (.slice a16 fM.ln.length c16)) : Calls Tryz.prog 14 #[v, .agg (pkC 1 2 fM (.slice a13 fM.nx.length c13) (.slice a14 fM.sg.length c14) (.slice a15 fM.cg.length c15) (.slice a16 fM.ln.length c16)).toArray] w fun e w' => e = .returned (.int .i64 1) ∧ Below w0.heap.size w0 w' := by
  obtain ⟨N, P, h0, h1, h2⟩ := h
  refine (ninject_any h1 (by decide) 1 2 fM fM_b fM_s (fun p hp => by cases hp) (by decide) a13 a14 a15 a16 c13 c14 c15 c16 hL).mono ?_
  rintro e w' ⟨he, P', _, hO, _⟩
  have hi : injE [3] [] [] (1, 2, fM) = 1 := by decide
  rw [hi] at he
  exact ⟨he, h2.trans (hO.below h2.size (fun k hk => Nat.le_trans h0 (h1.low k hk)))⟩
set_option maxRecDepth 100000 in
set_option maxHeartbeats 6400000 in
theorem nlives_any (w : World) : Calls Tryz.prog 8 #[] w fun e w' => e = .returned (.bool true) ∧ Below w.heap.size w w' := by
  obtain ⟨wa, ha, hb, hx⟩ := one_newL [.int .i64 3] 3 w
  have HA := hid ha
  have H0 := hid (And.intro hb (ints_3 hx))
  clear ha hb hx
  go_enter Tryz.func8, Tryz.ntmps8
  go_wp2_with (first
    | (have := H5; go_at_call 14; go_must (rw [HP.out]; refine (lx_inject wa _ _ H5.out.1 a13 a14 a15 a16 c13 c14 c15 c16 H5.out.2.1).mono ?_; rintro e w6 ⟨rfl, hb⟩; have H6 := hid hb; clear hb))
    | (have := H5; refine wl_loadB rfl 50 _ rfl w3.heap.size 0 rfl (pkC 1 2 fM (.slice a13 fM.nx.length c13) (.slice a14 fM.sg.length c14) (.slice a15 fM.cg.length c15) (.slice a16 fM.ln.length c16)) 50 H5.out.2.2 _ Tryz.underlying50 rfl (by kernel_rfl) Ap HP.out rfl ?_)
    | (have := H4; go_at_call 24; go_must (refine (lx_len wa _ _ H4.out.1).mono ?_; rintro e w5 ⟨rfl, hb, h5⟩; have H5 : Hid (LxAt wa w5 _ [] ∧ MsL (fun _ => True) w5 fM (.slice a13 fM.nx.length c13) (.slice a14 fM.sg.length c14) (.slice a15 fM.cg.length c15) (.slice a16 fM.ln.length c16) ∧ BxAt w5 w3.heap.size (pkC 1 2 fM (.slice a13 fM.nx.length c13) (.slice a14 fM.sg.length c14) (.slice a15 fM.cg.length c15) (.slice a16 fM.ln.length c16)) 50) := hid ⟨h5, H4.out.2.1.under hb, H4.out.2.2.keep hb⟩; clear hb h5))
    | (have := H3; refine wl_store_blk rfl 50 _ _ rfl w3.heap.size 0 rfl _ HP.out zPk 50 (heap_alloc_last w3 _) (by simp [zPk, pkC, msC]) (by kernel_rfl) (by simp [pkC, msC, Value.oneCell']) ?_; go_must (intro w4 Hz; have hb4 : Below w3.heap.size w3 w4 := Hz.out.2.below ((Below.refl _ _).alloc (Nat.le_refl _) _) (Nat.le_refl _); have H4 : Hid (LxAt wa w4 _ [] ∧ MsL (fun _ => True) w4 fM (.slice a13 fM.nx.length c13) (.slice a14 fM.sg.length c14) (.slice a15 fM.cg.length c15) (.slice a16 fM.ln.length c16) ∧ BxAt w4 w3.heap.size (pkC 1 2 fM (.slice a13 fM.nx.length c13) (.slice a14 fM.sg.length c14) (.slice a15 fM.cg.length c15) (.slice a16 fM.ln.length c16)) 50) := hid ⟨H3.out.2.same hb4, H3.out.1.under hb4, Hz.out.1⟩; have yt := H4.out.2.2.cell 1 _ rfl; clear Hz hb4))
    | (have := H2; go_at_call 17; go_must (refine (lx_take wa _ _ H2.out).mono ?_; rintro e w3 ⟨a13, c13, a14, c14, a15, c15, a16, c16, rfl, hm, h3⟩; have H3 := hid (And.intro hm h3); clear hm h3; obtain ⟨Ap, eP⟩ : ∃ Ap, Ap = Value.agg (pkC 1 2 fM (.slice a13 fM.nx.length c13) (.slice a14 fM.sg.length c14) (.slice a15 fM.cg.length c15) (.slice a16 fM.ln.length c16)).toArray := ⟨_, rfl⟩; rw [← eP]; have HP := hid eP; clear eP))
    | (have := H1; go_at_call 12; go_must (refine (lx_send wa w1 _ _ H1.out ((Below.refl _ _).alloc (Nat.le_refl _) _) (heap_alloc_last w1 _)).mono ?_; rintro e w2 ⟨rfl, h2⟩; have H2 := hid h2; clear h2))
    | (go_at_call 9; go_must (rw [HA.out]; refine (lx_new wa _ H0.out.2).mono ?_; rintro e w1 ⟨g, rfl, h1⟩; have H1 := hid h1; clear h1)))
  go_ret
  exact ⟨rfl, H0.out.1.trans (H6.out.mono H0.out.1.size)⟩
end Go.Proofs.YtgmekkgbobmplaaGreat

/- The law of a lane that isn't there, walked. -/
namespace Go.Proofs.YtgmekkgbobmplaaGreat
open Go.RowKit

set_option maxRecDepth 100000 in
set_option maxHeartbeats 6400000 in
theorem nnilLaw_any (q : Pkt) (n : Int) (a13 a14 a15 a16 : Option Addr) (c13 c14 c15 c16 : Nat) (w : World) : Calls Tryz.prog 7 #[.agg (pkC q.1 q.2.1 q.2.2 (.slice a13 q.2.2.nx.length c13) (.slice a14 q.2.2.sg.length c14) (.slice a15 q.2.2.cg.length c15) (.slice a16 q.2.2.ln.length c16)).toArray, .int .i64 n] w fun e w' => e = .returned (.bool true) ∧ Below w.heap.size w w' := by
  obtain ⟨wa, ha, hb, hx⟩ := one_newL (pkC q.1 q.2.1 q.2.2 (.slice a13 q.2.2.nx.length c13) (.slice a14 q.2.2.sg.length c14) (.slice a15 q.2.2.cg.length c15) (.slice a16 q.2.2.ln.length c16)) 50 w
  obtain ⟨A, eA⟩ : ∃ A, A = pkC q.1 q.2.1 q.2.2 (.slice a13 q.2.2.nx.length c13) (.slice a14 q.2.2.sg.length c14) (.slice a15 q.2.2.cg.length c15) (.slice a16 q.2.2.ln.length c16) := ⟨_, rfl⟩
  rw [← eA] at ha ⊢
  have HA := hid ha
  have HBx := hid (fun (u : World) (hu : Below wa.heap.size wa u) => hx.keep hu)
  have HB0 := hid hb
  have HAg := hid eA
  have hAl : A.length = 19 := by rw [eA]; rfl
  clear ha hb hx eA
  go_enter Tryz.func7, Tryz.ntmps7
  go_upto_region 1 with fail
  rw [HA.out]
  go_wp2_with (first
    | (have := H7; go_at_call 24; go_must (refine (nlen_nil _).mono ?_; rintro e w8 ⟨rfl, hb⟩; have H8 := hid (H7.out.trans (hb.mono H7.out.size)); clear hb))
    | (have := H6; go_at_call 14; go_must (refine (ninject_nil A _).mono ?_; rintro e w7 ⟨rfl, hb⟩; have H7 := hid (H6.out.trans (hb.mono H6.out.size)); clear hb))
    | (have := H6; refine wl_loadB rfl 50 _ rfl w.heap.size 0 rfl (pkC q.1 q.2.1 q.2.2 (.slice a13 q.2.2.nx.length c13) (.slice a14 q.2.2.sg.length c14) (.slice a15 q.2.2.cg.length c15) (.slice a16 q.2.2.ln.length c16)) 50 (HBx.out _ H6.out) _ Tryz.underlying50 rfl (by kernel_rfl) (.agg A.toArray) (by rw [HAg.out]) rfl ?_)
    | (have := H5; go_at_call 22; go_must (refine (ncopy_nil _ _).mono ?_; rintro e w6 ⟨rfl, hb⟩; have H6 := hid (H5.out.trans (hb.mono H5.out.size)); clear hb))
    | (have := H4; go_at_call 20; go_must (refine (ndrop_nil _ _).mono ?_; rintro e w5 ⟨rfl, hb⟩; have H5 := hid (H4.out.trans (hb.mono H4.out.size)); clear hb))
    | (have := H3; refine wl_store_blk rfl 50 _ _ rfl w3.heap.size 0 rfl zPk.toArray rfl zPk 50 (heap_alloc_last w3 _) (by simp [zPk]) (by kernel_rfl) (by simp [zPk, Value.oneCell']) ?_; go_must (intro w4 Hz; have H4 : Hid (Below wa.heap.size wa w4) := hid (Hz.out.2.below (H3.out.alloc H3.out.size _) H3.out.size); clear Hz))
    | (have := H2; go_at_call 17; go_must (refine (ntake_nil _ _).mono ?_; rintro e w3 ⟨rfl, hb⟩; have H3 := hid (H2.out.trans (hb.mono H2.out.size)); clear hb))
    | (have := H1; go_at_call 12; go_must (refine (nsend_nil _ _ _ _).mono ?_; rintro e w2 ⟨rfl, hb⟩; have H2 : Hid (Below wa.heap.size wa w2) := hid ((H1.out.alloc H1.out.size _).trans (hb.mono (H1.out.alloc H1.out.size _).size)); clear hb))
    | (have := H1; refine wl_loadB rfl 50 _ rfl w.heap.size 0 rfl (pkC q.1 q.2.1 q.2.2 (.slice a13 q.2.2.nx.length c13) (.slice a14 q.2.2.sg.length c14) (.slice a15 q.2.2.cg.length c15) (.slice a16 q.2.2.ln.length c16)) 50 (HBx.out _ H1.out) _ Tryz.underlying50 rfl (by kernel_rfl) (.agg A.toArray) (by rw [HAg.out]) rfl ?_)
    | (go_at_call 8; go_must (refine (nlives_any _).mono ?_; rintro e w1 ⟨rfl, hb⟩; have H1 := hid hb; clear hb)))
  go_ret
  exact ⟨rfl, HB0.out.trans (H8.out.mono HB0.out.size)⟩
end Go.Proofs.YtgmekkgbobmplaaGreat
