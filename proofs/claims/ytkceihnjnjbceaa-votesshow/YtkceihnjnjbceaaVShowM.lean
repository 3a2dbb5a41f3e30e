/- What is settled is shown by proofs, and stays. -/
import Derived.Test.YtkceihnjnjbceaaVSaM
import Derived.Test.YtkceihnjnjbceaaVEaM
import Derived.Test.YtkceihnjnjbceaaOpVM
import Derived.Deep.DeepMust
namespace Go.Proofs.Ytkceihnjnjbceaa
open Go.RowKit

set_option maxRecDepth 100000 in
set_option maxHeartbeats 3200000 in
theorem vshow_no (ep : Int) (a : Option Addr) (n cap : Nat) (l : List Int) (hn : l.length = n) (hm : n ≤ maxLen) (o : Option Addr) (no co : Nat) (hr : rightC ep l = false) (w : World) (hI : IntsIn w a l) :
    Calls Try.prog 5 #[.agg #[.int .i64 ep, .slice a n cap], .slice o no co] w fun e w' => e = .returned (.bool true) ∧ Below w.heap.size w w' := by
  have HL : Hid (∀ u : World, Calls Try.prog 9 #[] u fun e w' => e = .returned (.bool true) ∧ Below u.heap.size u w') := hid ulives_any
  have H0 : Hid (CvAt (w.alloc (.cells #[.int .i64 ep, .slice a n cap] 24)) w.heap.size ep (.slice a n cap) ∧ Below w.heap.size w (w.alloc (.cells #[.int .i64 ep, .slice a n cap] 24))) := hid ⟨heap_alloc_last w _, (Below.refl _ _).alloc (Nat.le_refl _) _⟩
  have HN : Hid (∀ u : World, Below w.heap.size w u → Calls Try.prog 12 #[.agg #[.int .i64 ep, .slice a n cap]] u fun e w' => e = .returned (.tuple #[.pointer none, .int .i64 1]) ∧ Below u.heap.size u w') := hid (fun u hu => vnew_no ep a n cap l hn hm u (hI.keep hu (Nat.le_refl _)) hr)
  clear hI hr
  go_enter Try.func5, Try.ntmps5
  go_wp2_with (first
    | (go_at_call 9; go_must (refine (HL.out _).mono ?_; rintro e w1 ⟨rfl, hb1⟩; have H1 : Hid (CvAt w1 w.heap.size ep (.slice a n cap) ∧ Below w.heap.size w w1) := hid ⟨H0.out.1.keep hb1, H0.out.2.trans (hb1.mono H0.out.2.size)⟩; obtain ⟨x0, x1⟩ := H1.out.1.cells; clear hb1))
    | (go_at_call 12; go_must (refine (HN.out _ H1.out.2).mono ?_; rintro e w2 ⟨rfl, hb2⟩; have H2 := hid (H1.out.2.trans (hb2.mono H1.out.2.size)); clear hb2)))
  go_ret
  exact ⟨rfl, H2.out⟩
/-- What was settled: its five cells at block q. -/
def WsAt (w : World) (q B : Nat) (s : Ta) : Prop := ∃ x0 x1 x2 x3 x4, w.heap[q]? = some (.cells #[x0, x1, x2, x3, x4] 51 (0, 0)) ∧ (chF s = true → x0 = .string (chB s).1 ∧ x2 = .int .i64 (s.ep + 1) ∧ ∃ ad cd, x3 = .slice ad (nxB s).length cd ∧ IntsIn w ad (nxB s) ∧ ∀ x, ad = some x → x.block ≠ q ∧ B ≤ x.block ∧ x.block < w.heap.size)
/-- While votes come: q what was settled. -/
structure ShSt (w0 w : World) (B : Nat) (F : List Nat) (v : Value) (s : Ta) (ep : Int) (l : List Int) (cv : Value) (q : Nat) : Prop where
  tl : TlAt F w v s
  cf : CvAt w w0.heap.size ep cv
  bel : Below w0.heap.size w0 w
  far : ∀ b, b ∈ F → w0.heap.size < b ∧ b < B
  ws : WsAt w q B s
  qB : B ≤ q
  gt : w0.heap.size < B
  is : s.ep = ep ∧ s.mem = l
theorem WsAt.stay {w w' : World} {q B : Nat} {s : Ta} (h : WsAt w q B s) (hs : w.heap.size ≤ w'.heap.size) (hb : ∀ k, B ≤ k → k < w.heap.size → w'.heap[k]? = w.heap[k]?) (hq : B ≤ q) : WsAt w' q B s := by
  obtain ⟨x0, x1, x2, x3, x4, h1, h2⟩ := h
  refine ⟨x0, x1, x2, x3, x4, (hb q hq (lt_of_blk h1)).trans h1, fun hf => ?_⟩
  obtain ⟨k1, k2, ad, cd, k3, k4, k5⟩ := h2 hf
  exact ⟨k1, k2, ad, cd, k3, ints_stayV k4 hs (fun x hx => hb _ (k5 x hx).2.1 (k5 x hx).2.2), fun x hx => ⟨(k5 x hx).1, (k5 x hx).2.1, Nat.lt_of_lt_of_le (k5 x hx).2.2 hs⟩⟩
theorem ShSt.keep {w0 w w' : World} {B : Nat} {F : List Nat} {v : Value} {s : Ta} {ep : Int} {l : List Int} {cv : Value} {q : Nat} (h : ShSt w0 w B F v s ep l cv q) (hb : Below w.heap.size w w') : ShSt w0 w' B F v s ep l cv q :=
  ⟨h.tl.keep hb, h.cf.keep hb, h.bel.trans (hb.mono h.bel.size), h.far, h.ws.stay hb.size (fun k _ hk => hb.block k hk) h.qB, h.qB, h.gt, h.is⟩
/-- What a vote leaves: what was settled is of the state ahead of it. -/
structure SmSt (w0 w : World) (B : Nat) (F : List Nat) (v : Value) (s s2 : Ta) (ep : Int) (l : List Int) (cv : Value) (q : Nat) : Prop where
  tl : TlAt F w v s2
  cf : CvAt w w0.heap.size ep cv
  bel : Below w0.heap.size w0 w
  far : ∀ b, b ∈ F → w0.heap.size < b ∧ b < B
  ws : WsAt w q B s
  qB : B ≤ q
  gt : w0.heap.size < B
  is : s2.ep = ep ∧ s2.mem = l
theorem SmSt.keep {w0 w w' : World} {B : Nat} {F : List Nat} {v : Value} {s s2 : Ta} {ep : Int} {l : List Int} {cv : Value} {q : Nat} (h : SmSt w0 w B F v s s2 ep l cv q) (hb : Below w.heap.size w w') : SmSt w0 w' B F v s s2 ep l cv q :=
  ⟨h.tl.keep hb, h.cf.keep hb, h.bel.trans (hb.mono h.bel.size), h.far, h.ws.stay hb.size (fun k _ hk => hb.block k hk) h.qB, h.qB, h.gt, h.is⟩
theorem ShSt.vote {w0 w w' : World} {B : Nat} {F : List Nat} {v : Value} {s s2 : Ta} {ep : Int} {l : List Int} {cv : Value} {q : Nat} (h : ShSt w0 w B F v s ep l cv q) (ho : Out F w w') (ht : TlAt F w' v s2) (hi : s2.ep = s.ep ∧ s2.mem = s.mem) : SmSt w0 w' B F v s s2 ep l cv q :=
  ⟨ht, (ho.block _ (lt_of_blk h.cf) (fun hm => by have := (h.far _ hm).1; omega)).trans h.cf,
   ⟨ho.os.trans h.bel.os, ho.tape.trans h.bel.tape, ho.output.trans h.bel.output, Nat.le_trans h.bel.size ho.size, fun k hk => (ho.block k (Nat.lt_of_lt_of_le hk h.bel.size) (fun hm => by have := (h.far k hm).1; omega)).trans (h.bel.block k hk)⟩, h.far,
   h.ws.stay ho.size (fun k hB hk => ho.block k hk (fun hm => by have := (h.far k hm).2; omega)) h.qB, h.qB, h.gt, ⟨hi.1.trans h.is.1, hi.2.trans h.is.2⟩⟩
theorem SmSt.fin {w0 w : World} {B : Nat} {F : List Nat} {v : Value} {s s2 : Ta} {ep : Int} {l : List Int} {cv : Value} {q : Nat} (h : SmSt w0 w B F v s s2 ep l cv q) (x0 x1 x2 x3 x4 : Value) (hw : chF s2 = true → x0 = .string (chB s2).1 ∧ x2 = .int .i64 (s2.ep + 1) ∧ ∃ ad cd, x3 = .slice ad (nxB s2).length cd ∧ IntsIn w ad (nxB s2) ∧ ∀ x, ad = some x → x.block ≠ q ∧ B ≤ x.block ∧ x.block < w.heap.size) :
    ShSt w0 (((((w.setCell ⟨q, 0, none⟩ x0).setCell ⟨q, 1, none⟩ x1).setCell ⟨q, 2, none⟩ x2).setCell ⟨q, 3, none⟩ x3).setCell ⟨q, 4, none⟩ x4) B F v s2 ep l cv q := by
  obtain ⟨y0, y1, y2, y3, y4, hq, _⟩ := h.ws
  obtain ⟨w', e⟩ : ∃ w', w' = (((((w.setCell ⟨q, 0, none⟩ x0).setCell ⟨q, 1, none⟩ x1).setCell ⟨q, 2, none⟩ x2).setCell ⟨q, 3, none⟩ x3).setCell ⟨q, 4, none⟩ x4) := ⟨_, rfl⟩
  have hoth : ∀ k, k ≠ q → w'.heap[k]? = w.heap[k]? := fun k hk => by
    rw [e, Below.heap_setCell _ _ _ _ hk, Below.heap_setCell _ _ _ _ hk, Below.heap_setCell _ _ _ _ hk, Below.heap_setCell _ _ _ _ hk, Below.heap_setCell _ _ _ _ hk]
  have hq2 : w'.heap[q]? = some (.cells #[x0, x1, x2, x3, x4] 51 (0, 0)) := by rw [e]; exact set_put hq _ _ _ _ _
  have hb0 : Below 0 w w' := by
    rw [e]
    exact (((((Below.refl 0 w).setCell (Nat.zero_le _) _).setCell (Nat.zero_le _) _).setCell (Nat.zero_le _) _).setCell (Nat.zero_le _) _).setCell (Nat.zero_le _) _
  rw [← e]
  clear e
  have hB := h.qB
  have hG := h.gt
  refine ⟨h.tl.stay hb0.size (fun b hb => hoth b (by have := (h.far b hb).2; omega)), (hoth _ (by omega)).trans h.cf, ?_, h.far, ⟨x0, x1, x2, x3, x4, hq2, fun hf => ?_⟩, h.qB, h.gt, h.is⟩
  · exact ⟨hb0.os.trans h.bel.os, hb0.tape.trans h.bel.tape, hb0.output.trans h.bel.output, Nat.le_trans h.bel.size hb0.size, fun k hk => (hoth k (by omega)).trans (h.bel.block k hk)⟩
  · obtain ⟨k1, k2, ad, cd, k3, k4, k5⟩ := hw hf
    exact ⟨k1, k2, ad, cd, k3, ints_stayV k4 hb0.size (fun x hx => hoth _ (k5 x hx).1), fun x hx => ⟨(k5 x hx).1, (k5 x hx).2.1, Nat.lt_of_lt_of_le (k5 x hx).2.2 hb0.size⟩⟩
/-- What is settled now, at block p, beside what was, at block q. -/
structure RvSt (w0 w : World) (B : Nat) (F : List Nat) (v : Value) (s s2 : Ta) (ep : Int) (l : List Int) (cv : Value) (q p : Nat) (a1 : Option Addr) (c1 : Nat) (a2 : Option Addr) (c2 : Nat) (a3 : Option Addr) (c3 : Nat) : Prop where
  sm : SmSt w0 w B F v s s2 ep l cv q
  rp : w.heap[p]? = some (.cells #[.string (chB s2).1, .slice a1 (signsOf s2 (chB s2) (setS s2)).length c1, .int .i64 (ep + 1), .slice a2 (nxB s2).length c2, .slice a3 (signsOf s2 (chB s2) (chB s2).2).length c3] 51 (0, 0))
  i1 : PairsIn w a1 (signsOf s2 (chB s2) (setS s2))
  i2 : IntsIn w a2 (nxB s2)
  i3 : PairsIn w a3 (signsOf s2 (chB s2) (chB s2).2)
  fr : ∀ x, a2 = some x → x.block ≠ q ∧ B ≤ x.block ∧ x.block < w.heap.size
theorem RvSt.keep {w0 w w' : World} {B : Nat} {F : List Nat} {v : Value} {s s2 : Ta} {ep : Int} {l : List Int} {cv : Value} {q p : Nat} {a1 : Option Addr} {c1 : Nat} {a2 : Option Addr} {c2 : Nat} {a3 : Option Addr} {c3 : Nat} (h : RvSt w0 w B F v s s2 ep l cv q p a1 c1 a2 c2 a3 c3) (hb : Below w.heap.size w w') : RvSt w0 w' B F v s s2 ep l cv q p a1 c1 a2 c2 a3 c3 :=
  ⟨h.sm.keep hb, (hb.block _ (lt_of_blk h.rp)).trans h.rp, h.i1.keep hb (Nat.le_refl _), h.i2.keep hb (Nat.le_refl _), h.i3.keep hb (Nat.le_refl _), fun x hx => ⟨(h.fr x hx).1, (h.fr x hx).2.1, Nat.lt_of_lt_of_le (h.fr x hx).2.2 hb.size⟩⟩
set_option maxRecDepth 100000 in
set_option maxHeartbeats 12800000 in
theorem vshow_go (ep : Int) (a : Option Addr) (n cap : Nat) (l : List Int) (hn : l.length = n) (o : Option Addr) (no co : Nat) (os : List VtA) (hno : os.length = no) (hmo : no ≤ maxLen) (hos : ∀ x, x ∈ os → vtOk x) (hr : rightC ep l = true) (w : World) (hI : IntsIn w a l) (hO : VtsIn w o os) :
    Calls Try.prog 5 #[.agg #[.int .i64 ep, .slice a n cap], .slice o no co] w fun e w' => e = .returned (.bool true) ∧ Below w.heap.size w w' := by
  have hml := mem_len (rightC_ep hr).2
  have HP := hid (And.intro hml (And.intro hn (And.intro hr hos)))
  have HL : Hid (∀ u : World, Calls Try.prog 9 #[] u fun e w' => e = .returned (.bool true) ∧ Below u.heap.size u w') := hid ulives_any
  have H0 : Hid (CvAt (w.alloc (.cells #[.int .i64 ep, .slice a n cap] 24)) w.heap.size ep (.slice a n cap) ∧ Below w.heap.size w (w.alloc (.cells #[.int .i64 ep, .slice a n cap] 24))) := hid ⟨heap_alloc_last w _, (Below.refl _ _).alloc (Nat.le_refl _) _⟩
  have HN : Hid (∀ u : World, Below w.heap.size w u → Calls Try.prog 12 #[.agg #[.int .i64 ep, .slice a n cap]] u fun e w' => ∃ g F, e = .returned (.tuple #[.pointer (some ⟨g, 0, none⟩), .int .i64 0]) ∧ TlAt F w' (.pointer (some ⟨g, 0, none⟩)) ⟨ep, l, []⟩ ∧ (∀ b, b ∈ F → u.heap.size ≤ b) ∧ Below u.heap.size u w') := hid (fun u hu => vnew_yes ep a n cap l hn u (hI.keep hu (Nat.le_refl _)) hr)
  have hc0 : chF (⟨ep, l, []⟩ : Ta) = false := by
    cases hf : chF (⟨ep, l, []⟩ : Ta) with
    | false => rfl
    | true =>
      obtain ⟨_, v, hv, _⟩ := chosen_some (TOk.new hr) (chB_of hf)
      simp at hv
  have HSn : Hid (∀ (F : List Nat) (v : Value) (u : World), TlAt F u v ⟨ep, l, []⟩ → Calls Try.prog 18 #[v] u fun e w' => e = .returned (.tuple #[.agg #[.string ⟨#[]⟩, .slice none 0 0, .int .i64 0, .slice none 0 0, .slice none 0 0], .bool false]) ∧ Below u.heap.size u w') := hid (fun F v u hu => vsettled_none F v _ u hu hc0)
  have HC0 := hid hc0
  have hmo3 : (no : Int) ≤ 9223372036854775807 := by unfold maxLen at hmo; omega
  have HI := hid (And.intro hI (And.intro hO hno))
  clear hI hO hml hr hno hmo hc0 hos
  go_enter Try.func5, Try.ntmps5
  go_wp2_with (first
    | (go_at_call 9; go_must (refine (HL.out _).mono ?_; rintro e w1 ⟨rfl, hb1⟩; have H1 : Hid (CvAt w1 w.heap.size ep (.slice a n cap) ∧ Below w.heap.size w w1) := hid ⟨H0.out.1.keep hb1, H0.out.2.trans (hb1.mono H0.out.2.size)⟩; obtain ⟨x0, x1⟩ := H1.out.1.cells; clear hb1))
    | (go_at_call 12; go_must (refine (HN.out _ H1.out.2).mono ?_; rintro e w3 ⟨g, F, rfl, ht3, hf3, hb3⟩; have H3 : Hid (CvAt w3 w.heap.size ep (.slice a n cap) ∧ Below w.heap.size w w3 ∧ TlAt F w3 (.pointer (some ⟨g, 0, none⟩)) ⟨ep, l, []⟩ ∧ ∀ b, b ∈ F → w.heap.size < b) := hid ⟨H1.out.1.keep hb3, H1.out.2.trans (hb3.mono H1.out.2.size), ht3, fun b hb => Nat.lt_of_lt_of_le (lt_of_blk H1.out.1) (hf3 b hb)⟩; clear hb3 ht3 hf3 x0 x1))
    | (go_at_call 18; go_must (refine (HSn.out _ _ _ H3.out.2.2.1).mono ?_; rintro e w4 ⟨rfl, hb4⟩; have H4 := hid hb4; clear hb4)))
  have H5 : Hid (ShSt w (w4.alloc (.cells #[.string ⟨#[]⟩, .slice none 0 0, .int .i64 0, .slice none 0 0, .slice none 0 0] 51)) w4.heap.size F (.pointer (some ⟨g, 0, none⟩)) ⟨ep, l, []⟩ ep l (.slice a n cap) w4.heap.size) := hid (by
    have hb : Below w3.heap.size w3 (w4.alloc (.cells #[.string ⟨#[]⟩, .slice none 0 0, .int .i64 0, .slice none 0 0, .slice none 0 0] 51)) := H4.out.alloc H4.out.size _
    exact ⟨H3.out.2.2.1.keep hb, H3.out.1.keep hb, H3.out.2.1.trans (hb.mono H3.out.2.1.size), fun b hb => ⟨H3.out.2.2.2 b hb, Nat.lt_of_lt_of_le (H3.out.2.2.1.lt b hb) H4.out.size⟩, ⟨_, _, _, _, _, heap_alloc_last w4 _, fun hf => by rw [HC0.out] at hf; cases hf⟩, Nat.le_refl _, Nat.lt_of_lt_of_le (lt_of_blk H3.out.1) H4.out.size, rfl, rfl⟩)
  generalize w4.alloc (.cells #[.string ⟨#[]⟩, .slice none 0 0, .int .i64 0, .slice none 0 0, .slice none 0 0] 51) = w5 at H5 ⊢
  obtain ⟨q, eq⟩ : ∃ q, q = w4.heap.size := ⟨_, rfl⟩
  obtain ⟨B, eB⟩ : ∃ B, B = w4.heap.size := ⟨_, rfl⟩
  have H6 : Hid (ShSt w w5 B F (.pointer (some ⟨g, 0, none⟩)) ⟨ep, l, []⟩ ep l (.slice a n cap) q) := hid (by rw [eq, eB]; exact H5.out)
  rw [← eq]
  clear eq eB H5 H4 H3
  go_loopw [8, 9] (fun d i wr => ∃ (j : Nat) (s : Ta), j ≤ no ∧ i = .int .i64 (j : Int) ∧ d = .bool (chF s) ∧ ShSt w wr B F (.pointer (some ⟨g, 0, none⟩)) s ep l (.slice a n cap) q) (fun _ i _ => ((no : Int) - intOf i).toNat)
  case atStart => exact ⟨0, _, by omega, rfl, by rw [HC0.out], H6.out⟩
  case round =>
    obtain ⟨j, s, hj, rfl, rfl, hst⟩ := hrel
    by_cases hjn : j = no
    · have hj1 : ¬ ((j : Int) < (no : Int)) := by omega
      have HS := hid hst
      have HCt : Hid (∀ u : World, TlAt F u (.pointer (some ⟨g, 0, none⟩)) s → Calls Try.prog 17 #[.pointer (some ⟨g, 0, none⟩)] u fun e w' => e = .returned (.int .i64 (s.vs.length : Int)) ∧ Below u.heap.size u w') := hid (fun u hu => vcount_at F _ _ u hu)
      have hle : (s.vs.length : Int) ≤ (n : Int) := by have h1 := hst.tl.ok.len; have h2 := hst.is.2; have h3 := HP.out.2.1; rw [h2] at h1; omega
      generalize (s.vs.length : Int) = V at HCt hle
      clear hst hj hjn
      go_wp2
      have HSe : Hid (ShSt w wr.drew B F (.pointer (some ⟨g, 0, none⟩)) s ep l (.slice a n cap) q) := hid (HS.out.keep (Below.refl _ _).drew)
      refine wp_region_G (S := fun ww => CvAt ww w.heap.size ep (.slice a n cap)) (ex := []) (by kernel_rfl) ?_
      try (change wpAnyG _ _ _ _ _ _ _ _ _ (World.drew _))
      refine wpAnyG_take (i := 0) (v := ?v301) rfl (by kernel_rfl) (fun _ _ _ h => h) (Or.inl ⟨by rfl, ?hy301⟩) HSe.out.cf ?rest301
      case hy301 => (intro ww _; go_simp; try with_reducible rfl)
      go_simp
      refine wpAnyG_take (i := 2) (v := ?v302) rfl (by kernel_rfl) (fun _ _ _ h => h) (Or.inl ⟨by rfl, ?hy302⟩) HSe.out.cf ?rest302
      case hy302 => (intro ww _; go_simp; try with_reducible rfl)
      go_simp
      refine wpAnyG_take (i := 3) (v := ?v303) rfl (by kernel_rfl) (fun _ _ _ h => h) (Or.inl ⟨by rfl, ?hy303⟩) HSe.out.cf ?rest303
      case hy303 => (intro ww hS; obtain ⟨y4, y5⟩ := hS.cells; go_simp; try with_reducible rfl)
      go_simp
      refine wpAnyG_take (i := 4) (v := ?v304) rfl (by kernel_rfl) (fun _ _ _ h => h) (Or.inl ⟨by rfl, ?hy304⟩) HSe.out.cf ?rest304
      case hy304 => (intro ww _; go_simp; try with_reducible rfl)
      go_simp
      refine wpAnyG_all (rs := [1]) (by kernel_rfl) (by simp) ?_
      intro i hi
      obtain rfl := List.mem_singleton.1 hi
      clear hi
      refine wpOp_v rfl (by rfl) (fun K hK => ?_)
      go_simp
      refine (HCt.out _ HSe.out.tl).mono ?_
      rintro e w6 ⟨rfl, hb6⟩
      have H7 : Hid (ShSt w w6 B F (.pointer (some ⟨g, 0, none⟩)) s ep l (.slice a n cap) q) := hid (HSe.out.keep hb6)
      clear hb6
      refine hK _ _ ⟨fun _ => H7.out.cf, ?_⟩
      clear hK K
      go_simp
      refine wpAnyG_take (i := 5) (v := ?v305) rfl (by kernel_rfl) (fun _ _ _ h => h) (Or.inl ⟨by rfl, ?hy305⟩) H7.out.cf ?rest305
      case hy305 => (intro ww _; go_simp; try with_reducible rfl)
      go_simp
      refine wpAnyG_all (rs := [6]) (by kernel_rfl) (by simp) ?_
      intro i hi
      obtain rfl := List.mem_singleton.1 hi
      clear hi
      refine wpOp_v rfl (by rfl) (fun K hK => ?_)
      go_simp
      refine hK _ _ ⟨fun _ => H7.out.cf, ?_⟩
      clear hK K
      go_simp
      refine wpAnyG_done (by kernel_rfl) ?_ _
      go_simp
      go_wp2
      go_ret
      exact ⟨rfl, H7.out.bel⟩
    · have hj1 : (j : Int) < (no : Int) := by omega
      have hj0 : (0 : Int) ≤ (j : Int) := Int.natCast_nonneg _
      have hjl : j < os.length := by have := HI.out.2.2; omega
      obtain ⟨x, hx⟩ : ∃ x, os[j]? = some x := ⟨_, List.getElem?_eq_getElem hjl⟩
      obtain ⟨ga, off, aj, cj, rfl, hga, ⟨e0, e1, e2, e3⟩, hij⟩ := HI.out.2.1 j x hx
      have hvt := HP.out.2.2.2 x (List.mem_of_getElem? hx)
      obtain ⟨f, t, nx, z⟩ := x
      have HV : Hid (∀ ww : World, Below w.heap.size w ww → (ww.cell? ⟨ga, off + j * 4, none⟩ = some (.int .i64 f) ∧ ww.cell? ⟨ga, off + j * 4 + 1, none⟩ = some (.string t)) ∧ ww.cell? ⟨ga, off + j * 4 + 2, none⟩ = some (.slice aj nx.length cj) ∧ ww.cell? ⟨ga, off + j * 4 + 3, none⟩ = some (.int .i64 z)) := hid (fun ww hw => ⟨⟨(hw.cell (p := ⟨ga, _, none⟩) hga).trans e0, (hw.cell (p := ⟨ga, _, none⟩) hga).trans e1⟩, (hw.cell (p := ⟨ga, _, none⟩) hga).trans e2, (hw.cell (p := ⟨ga, _, none⟩) hga).trans e3⟩)
      have ht : t.size ≤ 140737488355328 := Nat.le_trans hvt.1 (by decide)
      have hmx : n ≤ maxLen := by have := HP.out.1; have := HP.out.2.1; unfold maxLen; omega
      obtain ⟨SG, eSG⟩ : ∃ SG, SG = sgOf f (voS ep l t nx) (voC ep l t nx) z := ⟨_, rfl⟩
      have HG : Hid (∀ u : World, Below w.heap.size w u → Calls Try.prog 14 #[.agg #[.int .i64 f, .string t, .slice aj nx.length cj, .int .i64 z], .agg #[.int .i64 ep, .slice a n cap]] u fun e w' => ∃ ad cd, e = .returned (.slice ad SG.length cd) ∧ PairsIn w' ad SG ∧ Below u.heap.size u w') := hid (fun u hu => by
        have := usigs_any f t ht aj nx.length cj nx rfl hvt.2 z ep a n cap l HP.out.2.1 hmx u (HI.out.1.keep hu (Nat.le_refl _)) (hij.keep hu (Nat.le_refl _))
        rw [← eSG] at this
        exact this.mono fun e w' ⟨ad, cd, k1, k2, k3⟩ => ⟨ad, cd, k1, k2.1, k3⟩)
      have hSG : SG.length ≤ maxLen := by
        have : SG.length ≤ 3 := by rw [eSG, sgOf]; split <;> (try split) <;> (try split) <;> (try split) <;> simp
        unfold maxLen; omega
      obtain ⟨s2, es2⟩ : ∃ s2, s2 = added s f t nx SG := ⟨_, rfl⟩
      have HAd : Hid (∀ (u : World) (ad : Option Addr) (cd : Nat), Below w.heap.size w u → TlAt F u (.pointer (some ⟨g, 0, none⟩)) s → PairsIn u ad SG → Calls Try.prog 15 #[.pointer (some ⟨g, 0, none⟩), .int .i64 f, .string t, .slice aj nx.length cj, .slice ad SG.length cd] u fun e w' => (∃ E, e = .returned (.int .i64 E)) ∧ TlAt F w' (.pointer (some ⟨g, 0, none⟩)) s2 ∧ Out F u w') := hid (fun u ad cd hu ht2 hp => by
        have := vadd_at F _ s f t ht aj nx.length cj nx rfl hvt.2 ad SG.length cd SG rfl hSG u ht2 (hij.keep hu (Nat.le_refl _)) hp
        rw [← es2] at this
        exact this.mono fun e w' ⟨k1, k2, k3⟩ => ⟨⟨_, k1⟩, k2, k3⟩)
      have hok2 : TOk s2 := by rw [es2]; exact hst.tl.ok.add ht
      have his : s2.ep = s.ep ∧ s2.mem = s.mem := by rw [es2]; exact added_ep s f t nx SG
      have hsty : chF s = true → chF s2 = true ∧ chB s2 = chB s := fun hf => by rw [es2]; exact chosen_stays hst.tl.ok ht hf
      have HS := hid hst
      have H2 := hid (And.intro hok2 (And.intro his hsty))
      have HJ := hid (And.intro hj hjn)
      clear hst hj hjn hjl hx hga e0 e1 e2 e3 hij hvt ht hmx eSG hSG es2 hok2 his hsty
      go_wp2
      have HSd : Hid (ShSt w wr.drew B F (.pointer (some ⟨g, 0, none⟩)) s ep l (.slice a n cap) q) := hid (HS.out.keep (Below.refl _ _).drew)
      refine wp_region_G (S := fun ww => Below w.heap.size w ww ∧ CvAt ww w.heap.size ep (.slice a n cap)) (ex := []) (by kernel_rfl) ?_
      try (change wpAnyG _ _ _ _ _ _ _ _ _ (World.drew _))
      refine wpAnyG_take (i := 0) (v := ?v1) rfl (by kernel_rfl) (fun _ _ _ h => h) (Or.inl ⟨by rfl, ?hy1⟩) ⟨HSd.out.bel, HSd.out.cf⟩ ?rest1
      case hy1 => (intro ww _; go_simp; try with_reducible rfl)
      go_simp
      refine wpAnyG_take (i := 1) (v := ?v2) rfl (by kernel_rfl) (fun _ _ _ h => h) (Or.inl ⟨by rfl, ?hy2⟩) ⟨HSd.out.bel, HSd.out.cf⟩ ?rest2
      case hy2 => (intro ww _; go_simp; try with_reducible rfl)
      go_simp
      refine wpAnyG_take (i := 2) (v := ?v3) rfl (by kernel_rfl) (fun _ _ _ h => h) (Or.inl ⟨by rfl, ?hy3⟩) ⟨HSd.out.bel, HSd.out.cf⟩ ?rest3
      case hy3 => (intro ww _; go_simp; try with_reducible rfl)
      go_simp
      refine wpAnyG_take (i := 3) (v := ?v4) rfl (by kernel_rfl) (fun _ _ _ h => h) (Or.inl ⟨by rfl, ?hy4⟩) ⟨HSd.out.bel, HSd.out.cf⟩ ?rest4
      case hy4 => (intro ww _; go_simp; try with_reducible rfl)
      go_simp
      refine wpAnyG_take (i := 4) (v := ?v5) rfl (by kernel_rfl) (fun _ _ _ h => h) (Or.inl ⟨by rfl, ?hy5⟩) ⟨HSd.out.bel, HSd.out.cf⟩ ?rest5
      case hy5 => (intro ww _; go_simp; try with_reducible rfl)
      go_simp
      refine wpAnyG_take (i := 5) (v := ?v6) rfl (by kernel_rfl) (fun _ _ _ h => h) (Or.inl ⟨by rfl, ?hy6⟩) ⟨HSd.out.bel, HSd.out.cf⟩ ?rest6
      case hy6 => (intro ww hS; obtain ⟨⟨y0, y1⟩, y2, y3⟩ := HV.out ww hS.1; obtain ⟨y4, y5⟩ := hS.2.cells; go_simp; try with_reducible rfl)
      go_simp
      refine wpAnyG_take (i := 6) (v := ?v7) rfl (by kernel_rfl) (fun _ _ _ h => h) (Or.inl ⟨by rfl, ?hy7⟩) ⟨HSd.out.bel, HSd.out.cf⟩ ?rest7
      case hy7 => (intro ww _; go_simp; try with_reducible rfl)
      go_simp
      refine wpAnyG_take (i := 7) (v := ?v8) rfl (by kernel_rfl) (fun _ _ _ h => h) (Or.inl ⟨by rfl, ?hy8⟩) ⟨HSd.out.bel, HSd.out.cf⟩ ?rest8
      case hy8 => (intro ww _; go_simp; try with_reducible rfl)
      go_simp
      refine wpAnyG_take (i := 8) (v := ?v9) rfl (by kernel_rfl) (fun _ _ _ h => h) (Or.inl ⟨by rfl, ?hy9⟩) ⟨HSd.out.bel, HSd.out.cf⟩ ?rest9
      case hy9 => (intro ww _; go_simp; try with_reducible rfl)
      go_simp
      refine wpAnyG_take (i := 9) (v := ?v10) rfl (by kernel_rfl) (fun _ _ _ h => h) (Or.inl ⟨by rfl, ?hy10⟩) ⟨HSd.out.bel, HSd.out.cf⟩ ?rest10
      case hy10 => (intro ww _; go_simp; try with_reducible rfl)
      go_simp
      refine wpAnyG_take (i := 10) (v := ?v11) rfl (by kernel_rfl) (fun _ _ _ h => h) (Or.inl ⟨by rfl, ?hy11⟩) ⟨HSd.out.bel, HSd.out.cf⟩ ?rest11
      case hy11 => (intro ww hS; obtain ⟨⟨y0, y1⟩, y2, y3⟩ := HV.out ww hS.1; obtain ⟨y4, y5⟩ := hS.2.cells; go_simp; try with_reducible rfl)
      go_simp
      refine wpAnyG_take (i := 11) (v := ?v12) rfl (by kernel_rfl) (fun _ _ _ h => h) (Or.inl ⟨by rfl, ?hy12⟩) ⟨HSd.out.bel, HSd.out.cf⟩ ?rest12
      case hy12 => (intro ww _; go_simp; try with_reducible rfl)
      go_simp
      refine wpAnyG_take (i := 12) (v := ?v13) rfl (by kernel_rfl) (fun _ _ _ h => h) (Or.inl ⟨by rfl, ?hy13⟩) ⟨HSd.out.bel, HSd.out.cf⟩ ?rest13
      case hy13 => (intro ww _; go_simp; try with_reducible rfl)
      go_simp
      refine wpAnyG_take (i := 13) (v := ?v14) rfl (by kernel_rfl) (fun _ _ _ h => h) (Or.inl ⟨by rfl, ?hy14⟩) ⟨HSd.out.bel, HSd.out.cf⟩ ?rest14
      case hy14 => (intro ww _; go_simp; try with_reducible rfl)
      go_simp
      refine wpAnyG_take (i := 14) (v := ?v15) rfl (by kernel_rfl) (fun _ _ _ h => h) (Or.inl ⟨by rfl, ?hy15⟩) ⟨HSd.out.bel, HSd.out.cf⟩ ?rest15
      case hy15 => (intro ww _; go_simp; try with_reducible rfl)
      go_simp
      refine wpAnyG_take (i := 15) (v := ?v16) rfl (by kernel_rfl) (fun _ _ _ h => h) (Or.inl ⟨by rfl, ?hy16⟩) ⟨HSd.out.bel, HSd.out.cf⟩ ?rest16
      case hy16 => (intro ww hS; obtain ⟨⟨y0, y1⟩, y2, y3⟩ := HV.out ww hS.1; obtain ⟨y4, y5⟩ := hS.2.cells; go_simp; try with_reducible rfl)
      go_simp
      refine wpAnyG_take (i := 16) (v := ?v17) rfl (by kernel_rfl) (fun _ _ _ h => h) (Or.inl ⟨by rfl, ?hy17⟩) ⟨HSd.out.bel, HSd.out.cf⟩ ?rest17
      case hy17 => (intro ww _; go_simp; try with_reducible rfl)
      go_simp
      refine wpAnyG_take (i := 17) (v := ?v18) rfl (by kernel_rfl) (fun _ _ _ h => h) (Or.inl ⟨by rfl, ?hy18⟩) ⟨HSd.out.bel, HSd.out.cf⟩ ?rest18
      case hy18 => (intro ww _; go_simp; try with_reducible rfl)
      go_simp
      refine wpAnyG_take (i := 18) (v := ?v19) rfl (by kernel_rfl) (fun _ _ _ h => h) (Or.inl ⟨by rfl, ?hy19⟩) ⟨HSd.out.bel, HSd.out.cf⟩ ?rest19
      case hy19 => (intro ww _; go_simp; try with_reducible rfl)
      go_simp
      refine wpAnyG_take (i := 19) (v := ?v20) rfl (by kernel_rfl) (fun _ _ _ h => h) (Or.inl ⟨by rfl, ?hy20⟩) ⟨HSd.out.bel, HSd.out.cf⟩ ?rest20
      case hy20 => (intro ww hS; obtain ⟨⟨y0, y1⟩, y2, y3⟩ := HV.out ww hS.1; obtain ⟨y4, y5⟩ := hS.2.cells; go_simp; try with_reducible rfl)
      go_simp
      refine wpAnyG_take (i := 20) (v := ?v21) rfl (by kernel_rfl) (fun _ _ _ h => h) (Or.inl ⟨by rfl, ?hy21⟩) ⟨HSd.out.bel, HSd.out.cf⟩ ?rest21
      case hy21 => (intro ww hS; obtain ⟨⟨y0, y1⟩, y2, y3⟩ := HV.out ww hS.1; obtain ⟨y4, y5⟩ := hS.2.cells; go_simp; try with_reducible rfl)
      go_simp
      refine wpAnyG_all (rs := [21]) (by kernel_rfl) (by simp) ?_
      intro i hi
      obtain rfl := List.mem_singleton.1 hi
      clear hi
      refine wpOp_v rfl (by rfl) (fun K hK => ?_)
      go_simp
      refine (HG.out _ HSd.out.bel).mono ?_
      rintro e w6 ⟨ad6, cd6, rfl, hp6, hb6⟩
      have H7 : Hid (ShSt w w6 B F (.pointer (some ⟨g, 0, none⟩)) s ep l (.slice a n cap) q ∧ PairsIn w6 ad6 SG) := hid ⟨HSd.out.keep hb6, hp6⟩
      clear hp6 hb6
      refine hK _ _ ⟨fun _ => ⟨H7.out.1.bel, H7.out.1.cf⟩, ?_⟩
      clear hK K
      go_simp
      refine wpAnyG_all (rs := [22]) (by kernel_rfl) (by simp) ?_
      intro i hi
      obtain rfl := List.mem_singleton.1 hi
      clear hi
      refine wpOp_v rfl (by rfl) (fun K hK => ?_)
      go_simp
      refine (HAd.out _ _ _ H7.out.1.bel H7.out.1.tl H7.out.2).mono ?_
      rintro e w7 ⟨⟨E, rfl⟩, ht7, ho7⟩
      have H8 : Hid (SmSt w w7 B F (.pointer (some ⟨g, 0, none⟩)) s s2 ep l (.slice a n cap) q) := hid (H7.out.1.vote ho7 ht7 H2.out.2.1)
      clear ht7 ho7
      refine hK _ _ ⟨fun _ => ⟨H8.out.bel, H8.out.cf⟩, ?_⟩
      clear hK K
      go_simp
      refine wpAnyG_done (by kernel_rfl) ?_ _
      go_simp
      cases hf : chF s with
      | true =>
        obtain ⟨hf2, hB2⟩ := H2.out.2.2 hf
        have hnx : nxB s2 = nxB s := by rw [nxB, nxB, hB2]
        obtain ⟨X0, X1, X2, X3, X4, hq, hw⟩ := H8.out.ws
        obtain ⟨rfl, rfl, adw, cdw, rfl, hiw, hfw⟩ := hw hf
        have hse : s.ep = ep := HS.out.is.1
        rw [hse, ← hB2, ← hnx] at hq
        rw [← hnx] at hiw
        have HQ : Hid (∀ ww : World, Below w7.heap.size w7 ww → ww.heap[q]? = some (.cells #[.string (chB s2).1, X1, .int .i64 (ep + 1), .slice adw (nxB s2).length cdw, X4] 51 (0, 0))) := hid (fun ww hw => (hw.block _ (lt_of_blk hq)).trans hq)
        have hq7 := lt_of_blk hq
        have hw7 := lt_of_blk H8.out.cf
        have h2e : s2.ep = ep := H8.out.is.1
        have h2m : s2.mem = l := H8.out.is.2
        have hch := chosen_is H2.out.1 (chB_of hf2)
        have hpr := settled_proves H2.out.1 hf2 (setS s2)
        have hva := settled_valid H2.out.1 hf2
        rw [h2e, h2m] at hch hpr hva
        have hmx : n ≤ maxLen := by have := HP.out.1; have := HP.out.2.1; unfold maxLen; omega
        have hnm : (nxB s2).length ≤ maxLen := by have := mem_len (rightC_ep hch.2.2.2.2.2).2; unfold maxLen; omega
        have hsm : ∀ t, (signsOf s2 (chB s2) t).length ≤ maxLen := fun t => by
          have h1 := signs_cnt H2.out.1 (chB_not H2.out.1 hf2) t
          have h3 := cntB_le s2.vs (chB s2)
          have h4 := H2.out.1.len
          have h5 := H2.out.1.mlen
          unfold maxLen
          omega
        have HSt : Hid (∀ u : World, TlAt F u (.pointer (some ⟨g, 0, none⟩)) s2 → Calls Try.prog 18 #[.pointer (some ⟨g, 0, none⟩)] u fun e w' => ∃ a1 c1 a2 c2 a3 c3, e = .returned (.tuple #[.agg #[.string (chB s2).1, .slice a1 (signsOf s2 (chB s2) (setS s2)).length c1, .int .i64 (ep + 1), .slice a2 (nxB s2).length c2, .slice a3 (signsOf s2 (chB s2) (chB s2).2).length c3], .bool true]) ∧ PairsIn w' a1 (signsOf s2 (chB s2) (setS s2)) ∧ IntsIn w' a2 (nxB s2) ∧ PairsIn w' a3 (signsOf s2 (chB s2) (chB s2).2) ∧ Below u.heap.size u w' ∧ ∀ x, a2 = some x → u.heap.size < x.block) := hid (fun u hu => by have := vsettled_parts F _ s2 u hu hf2; rwa [h2e] at this)
        have HTx : Hid (∀ (u : World) (a2 : Option Addr) (c2 : Nat), Below w.heap.size w u → IntsIn u a2 (nxB s2) → Calls Try.prog 11 #[.agg #[.int .i64 ep, .slice a n cap], .string (chB s2).1, .slice a2 (nxB s2).length c2] u fun e w' => e = .returned (.tuple #[.string (setS s2), .string (chB s2).2, .int .i64 0]) ∧ Below u.heap.size u w') := hid (fun u a2 c2 hu hi => by
          have := wtexts_any ep a n cap l HP.out.2.1 hmx (chB s2).1 hch.2.2.2.2.1 a2 _ c2 (nxB s2) rfl hnm u (HI.out.1.keep hu (Nat.le_refl _)) hi
          rw [hch.2.2.1, hch.2.2.2.1, voE, if_pos hch.1] at this
          exact this)
        have HVa : Hid (∀ (u : World) (a2 : Option Addr) (c2 : Nat) (a3 : Option Addr) (c3 : Nat), Below w.heap.size w u → IntsIn u a2 (nxB s2) → PairsIn u a3 (signsOf s2 (chB s2) (chB s2).2) → Calls Try.prog 22 #[.agg #[.int .i64 ep, .slice a n cap], .agg #[.int .i64 (ep + 1), .slice a2 (nxB s2).length c2, .slice a3 (signsOf s2 (chB s2) (chB s2).2).length c3]] u fun e w' => e = .returned (.int .i64 0) ∧ Below u.heap.size u w') := hid (fun u a2 c2 a3 c3 hu hi hp => by
          have := lvalid_any ep a n cap l HP.out.2.1 hmx (ep + 1) a2 _ c2 (nxB s2) rfl hnm a3 _ c3 (signsOf s2 (chB s2) (chB s2).2) rfl (hsm _) u (HI.out.1.keep hu (Nat.le_refl _)) hi hp
          rwa [hva] at this)
        have HPr : Hid (∀ (u : World) (a1 : Option Addr) (c1 : Nat), Below w.heap.size w u → PairsIn u a1 (signsOf s2 (chB s2) (setS s2)) → Calls Try.prog 23 #[.agg #[.int .i64 ep, .slice a n cap], .string (setS s2), .slice a1 (signsOf s2 (chB s2) (setS s2)).length c1] u fun e w' => e = .returned (.bool true) ∧ Below u.heap.size u w') := hid (fun u a1 c1 hu hp => by
          have := tproves_any ep a n cap l HP.out.2.1 hmx (setS s2) a1 _ c1 (signsOf s2 (chB s2) (setS s2)) rfl (hsm _) u (HI.out.1.keep hu (Nat.le_refl _)) hp
          rwa [hpr] at this)
        have HSm : Hid (∀ (u : World) (a2 : Option Addr) (c2 : Nat), Below w7.heap.size w7 u → IntsIn u a2 (nxB s2) → Calls Try.prog 21 #[.agg #[.int .i64 (ep + 1), .slice a2 (nxB s2).length c2], .agg #[.int .i64 (ep + 1), .slice adw (nxB s2).length cdw]] u fun e w' => e = .returned (.bool true) ∧ Below u.heap.size u w') := hid (fun u a2 c2 hu hi => by
          have := vsame_dec (ep + 1) (ep + 1) a2 adw _ _ c2 cdw (nxB s2) (nxB s2) rfl rfl hnm hnm u hi (hiw.keep hu (Nat.le_refl _))
          rwa [decide_eq_true rfl, decide_eq_true rfl] at this)
        clear hiw hfw hw hse hnx hB2 hf
        have HF2 := hid hf2
        clear hch hpr hva hmx hnm hsm h2e h2m hq hf2
        have HNe : Hid (nxB s2 ≠ []) := hid (fun e => by have h1 := chosen_is H2.out.1 (chB_of HF2.out); have h2 := mem_len (rightC_ep h1.2.2.2.2.2).2; rw [e] at h2; simp at h2)
        go_wp2_with (first
          | (go_at_call 18; go_must (refine (HSt.out _ H8.out.tl).mono ?_; rintro e w9 ⟨a1, c1, a2, c2, a3, c3, rfl, hp1, hi2, hp3, hb, hfar⟩; have hba : Below w9.heap.size w9 (w9.alloc (.cells #[.string (chB s2).1, .slice a1 (signsOf s2 (chB s2) (setS s2)).length c1, .int .i64 (ep + 1), .slice a2 (nxB s2).length c2, .slice a3 (signsOf s2 (chB s2) (chB s2).2).length c3] 51)) := (Below.refl _ _).alloc (Nat.le_refl _) _; have H9 : Hid (RvSt w (w9.alloc (.cells #[.string (chB s2).1, .slice a1 (signsOf s2 (chB s2) (setS s2)).length c1, .int .i64 (ep + 1), .slice a2 (nxB s2).length c2, .slice a3 (signsOf s2 (chB s2) (chB s2).2).length c3] 51)) B F (.pointer (some ⟨g, 0, none⟩)) s s2 ep l (.slice a n cap) q w9.heap.size a1 c1 a2 c2 a3 c3 ∧ Below w7.heap.size w7 (w9.alloc (.cells #[.string (chB s2).1, .slice a1 (signsOf s2 (chB s2) (setS s2)).length c1, .int .i64 (ep + 1), .slice a2 (nxB s2).length c2, .slice a3 (signsOf s2 (chB s2) (chB s2).2).length c3] 51))) := hid ⟨⟨(H8.out.keep hb).keep hba, heap_alloc_last w9 _, hp1.keep hba (Nat.le_refl _), hi2.keep hba (Nat.le_refl _), hp3.keep hba (Nat.le_refl _), fun x hx => by have h1 := hfar x hx; have h2 := H8.out.qB; have h3 : x.block < w9.heap.size ∨ nxB s2 = [] := (by rcases hi2 with h | ⟨gg, oo, e, h, _⟩; exact .inr h; rw [hx] at e; cases e; exact .inl h); rcases h3 with h3 | h3; exact ⟨by omega, by omega, by simp; omega⟩; exact absurd h3 HNe.out⟩, hb.alloc hb.size _⟩; have hq := HQ.out _ hb; have f0 := free_at hq 0; have f1 := free_at hq 1; have f2 := free_at hq 2; have f3 := free_at hq 3; have f4 := free_at hq 4; have z0 := cell_at (L := [_, _, _, _, _]) hq 0 _ rfl; have z1 := cell_at (L := [_, _, _, _, _]) hq 1 _ rfl; have z2 := cell_at (L := [_, _, _, _, _]) hq 2 _ rfl; have z3 := cell_at (L := [_, _, _, _, _]) hq 3 _ rfl; have z4 := cell_at (L := [_, _, _, _, _]) hq 4 _ rfl; obtain ⟨k0, k1⟩ := (H8.out.keep hb).cf.cells; have hq9 : q < w9.heap.size := Nat.lt_of_lt_of_le hq7 hb.size; have hw9 : w.heap.size < w9.heap.size := Nat.lt_of_lt_of_le hw7 hb.size; clear hb hq hba hp1 hi2 hp3 hfar))
          | (go_at_call 21; go_must (refine (HSm.out _ _ _ H9.out.2 H9.out.1.i2).mono ?_; rintro e w10 ⟨rfl, hb⟩; have H10 : Hid (RvSt w w10 B F (.pointer (some ⟨g, 0, none⟩)) s s2 ep l (.slice a n cap) q w9.heap.size a1 c1 a2 c2 a3 c3 ∧ Below w7.heap.size w7 w10) := hid ⟨H9.out.1.keep hb, H9.out.2.trans (hb.mono H9.out.2.size)⟩; clear f0 f1 f2 f3 f4 z0 z1 z2 z3 z4 k0 k1; have hq := HQ.out _ H10.out.2; have f0 := free_at hq 0; have f1 := free_at hq 1; have f2 := free_at hq 2; have f3 := free_at hq 3; have f4 := free_at hq 4; have z0 := cell_at (L := [_, _, _, _, _]) hq 0 _ rfl; have z1 := cell_at (L := [_, _, _, _, _]) hq 1 _ rfl; have z2 := cell_at (L := [_, _, _, _, _]) hq 2 _ rfl; have z3 := cell_at (L := [_, _, _, _, _]) hq 3 _ rfl; have z4 := cell_at (L := [_, _, _, _, _]) hq 4 _ rfl; obtain ⟨k0, k1⟩ := H10.out.1.sm.cf.cells; have hp := H10.out.1.rp; have y0 := cell_at (L := [_, _, _, _, _]) hp 0 _ rfl; have y1 := cell_at (L := [_, _, _, _, _]) hp 1 _ rfl; have y2 := cell_at (L := [_, _, _, _, _]) hp 2 _ rfl; have y3 := cell_at (L := [_, _, _, _, _]) hp 3 _ rfl; have y4 := cell_at (L := [_, _, _, _, _]) hp 4 _ rfl; clear hb hq hp))
          | (go_at_call 11; go_must (refine (HTx.out _ _ _ H10.out.1.sm.bel H10.out.1.i2).mono ?_; rintro e w11 ⟨rfl, hb⟩; have H11 : Hid (RvSt w w11 B F (.pointer (some ⟨g, 0, none⟩)) s s2 ep l (.slice a n cap) q w9.heap.size a1 c1 a2 c2 a3 c3 ∧ Below w7.heap.size w7 w11) := hid ⟨H10.out.1.keep hb, H10.out.2.trans (hb.mono H10.out.2.size)⟩; clear f0 f1 f2 f3 f4 z0 z1 z2 z3 z4 k0 k1 y0 y1 y2 y3 y4; have hq := HQ.out _ H11.out.2; have f0 := free_at hq 0; have f1 := free_at hq 1; have f2 := free_at hq 2; have f3 := free_at hq 3; have f4 := free_at hq 4; have z0 := cell_at (L := [_, _, _, _, _]) hq 0 _ rfl; have z1 := cell_at (L := [_, _, _, _, _]) hq 1 _ rfl; have z2 := cell_at (L := [_, _, _, _, _]) hq 2 _ rfl; have z3 := cell_at (L := [_, _, _, _, _]) hq 3 _ rfl; have z4 := cell_at (L := [_, _, _, _, _]) hq 4 _ rfl; obtain ⟨k0, k1⟩ := H11.out.1.sm.cf.cells; have hp := H11.out.1.rp; have y0 := cell_at (L := [_, _, _, _, _]) hp 0 _ rfl; have y1 := cell_at (L := [_, _, _, _, _]) hp 1 _ rfl; have y2 := cell_at (L := [_, _, _, _, _]) hp 2 _ rfl; have y3 := cell_at (L := [_, _, _, _, _]) hp 3 _ rfl; have y4 := cell_at (L := [_, _, _, _, _]) hp 4 _ rfl; clear hb hq hp))
          | (go_at_call 22; go_must (refine (HVa.out _ _ _ _ _ H11.out.1.sm.bel H11.out.1.i2 H11.out.1.i3).mono ?_; rintro e w12 ⟨rfl, hb⟩; have H12 : Hid (RvSt w w12 B F (.pointer (some ⟨g, 0, none⟩)) s s2 ep l (.slice a n cap) q w9.heap.size a1 c1 a2 c2 a3 c3 ∧ Below w7.heap.size w7 w12) := hid ⟨H11.out.1.keep hb, H11.out.2.trans (hb.mono H11.out.2.size)⟩; clear f0 f1 f2 f3 f4 z0 z1 z2 z3 z4 k0 k1 y0 y1 y2 y3 y4; have hq := HQ.out _ H12.out.2; have f0 := free_at hq 0; have f1 := free_at hq 1; have f2 := free_at hq 2; have f3 := free_at hq 3; have f4 := free_at hq 4; have z0 := cell_at (L := [_, _, _, _, _]) hq 0 _ rfl; have z1 := cell_at (L := [_, _, _, _, _]) hq 1 _ rfl; have z2 := cell_at (L := [_, _, _, _, _]) hq 2 _ rfl; have z3 := cell_at (L := [_, _, _, _, _]) hq 3 _ rfl; have z4 := cell_at (L := [_, _, _, _, _]) hq 4 _ rfl; obtain ⟨k0, k1⟩ := H12.out.1.sm.cf.cells; have hp := H12.out.1.rp; have y0 := cell_at (L := [_, _, _, _, _]) hp 0 _ rfl; have y1 := cell_at (L := [_, _, _, _, _]) hp 1 _ rfl; have y2 := cell_at (L := [_, _, _, _, _]) hp 2 _ rfl; have y3 := cell_at (L := [_, _, _, _, _]) hp 3 _ rfl; have y4 := cell_at (L := [_, _, _, _, _]) hp 4 _ rfl; clear hb hq hp))
          | (go_at_call 23; go_must (refine (HPr.out _ _ _ H12.out.1.sm.bel H12.out.1.i1).mono ?_; rintro e w13 ⟨rfl, hb⟩; have H13 : Hid (RvSt w w13 B F (.pointer (some ⟨g, 0, none⟩)) s s2 ep l (.slice a n cap) q w9.heap.size a1 c1 a2 c2 a3 c3 ∧ Below w7.heap.size w7 w13) := hid ⟨H12.out.1.keep hb, H12.out.2.trans (hb.mono H12.out.2.size)⟩; clear f0 f1 f2 f3 f4 z0 z1 z2 z3 z4 k0 k1 y0 y1 y2 y3 y4; have hq := HQ.out _ H13.out.2; have f0 := free_at hq 0; have f1 := free_at hq 1; have f2 := free_at hq 2; have f3 := free_at hq 3; have f4 := free_at hq 4; have z0 := cell_at (L := [_, _, _, _, _]) hq 0 _ rfl; have z1 := cell_at (L := [_, _, _, _, _]) hq 1 _ rfl; have z2 := cell_at (L := [_, _, _, _, _]) hq 2 _ rfl; have z3 := cell_at (L := [_, _, _, _, _]) hq 3 _ rfl; have z4 := cell_at (L := [_, _, _, _, _]) hq 4 _ rfl; obtain ⟨k0, k1⟩ := H13.out.1.sm.cf.cells; have hp := H13.out.1.rp; have y0 := cell_at (L := [_, _, _, _, _]) hp 0 _ rfl; have y1 := cell_at (L := [_, _, _, _, _]) hp 1 _ rfl; have y2 := cell_at (L := [_, _, _, _, _]) hp 2 _ rfl; have y3 := cell_at (L := [_, _, _, _, _]) hp 3 _ rfl; have y4 := cell_at (L := [_, _, _, _, _]) hp 4 _ rfl; clear hb hq hp)))
        go_roundw
        case rel => exact ⟨j + 1, s2, by have := HJ.out; omega, by go_num, by rw [HF2.out], H13.out.1.sm.fin _ _ _ _ _ (fun _ => ⟨rfl, by rw [H13.out.1.sm.is.1], a2, c2, rfl, H13.out.1.i2, H13.out.1.fr⟩)⟩
        case measure => simp [intOf]; omega
      | false =>
        cases hf2 : chF s2 with
        | true =>
          obtain ⟨X0, X1, X2, X3, X4, hq, hw⟩ := H8.out.ws
          clear hw
          have HQ : Hid (∀ ww : World, Below w7.heap.size w7 ww → ww.heap[q]? = some (.cells #[X0, X1, X2, X3, X4] 51 (0, 0))) := hid (fun ww hw => (hw.block _ (lt_of_blk hq)).trans hq)
          have hq7 := lt_of_blk hq
          have hw7 := lt_of_blk H8.out.cf
          have h2e : s2.ep = ep := H8.out.is.1
          have h2m : s2.mem = l := H8.out.is.2
          have hch := chosen_is H2.out.1 (chB_of hf2)
          have hpr := settled_proves H2.out.1 hf2 (setS s2)
          have hva := settled_valid H2.out.1 hf2
          rw [h2e, h2m] at hch hpr hva
          have hmx : n ≤ maxLen := by have := HP.out.1; have := HP.out.2.1; unfold maxLen; omega
          have hnm : (nxB s2).length ≤ maxLen := by have := mem_len (rightC_ep hch.2.2.2.2.2).2; unfold maxLen; omega
          have hsm : ∀ t, (signsOf s2 (chB s2) t).length ≤ maxLen := fun t => by
            have h1 := signs_cnt H2.out.1 (chB_not H2.out.1 hf2) t
            have h3 := cntB_le s2.vs (chB s2)
            have h4 := H2.out.1.len
            have h5 := H2.out.1.mlen
            unfold maxLen
            omega
          have HSt : Hid (∀ u : World, TlAt F u (.pointer (some ⟨g, 0, none⟩)) s2 → Calls Try.prog 18 #[.pointer (some ⟨g, 0, none⟩)] u fun e w' => ∃ a1 c1 a2 c2 a3 c3, e = .returned (.tuple #[.agg #[.string (chB s2).1, .slice a1 (signsOf s2 (chB s2) (setS s2)).length c1, .int .i64 (ep + 1), .slice a2 (nxB s2).length c2, .slice a3 (signsOf s2 (chB s2) (chB s2).2).length c3], .bool true]) ∧ PairsIn w' a1 (signsOf s2 (chB s2) (setS s2)) ∧ IntsIn w' a2 (nxB s2) ∧ PairsIn w' a3 (signsOf s2 (chB s2) (chB s2).2) ∧ Below u.heap.size u w' ∧ ∀ x, a2 = some x → u.heap.size < x.block) := hid (fun u hu => by have := vsettled_parts F _ s2 u hu hf2; rwa [h2e] at this)
          have HTx : Hid (∀ (u : World) (a2 : Option Addr) (c2 : Nat), Below w.heap.size w u → IntsIn u a2 (nxB s2) → Calls Try.prog 11 #[.agg #[.int .i64 ep, .slice a n cap], .string (chB s2).1, .slice a2 (nxB s2).length c2] u fun e w' => e = .returned (.tuple #[.string (setS s2), .string (chB s2).2, .int .i64 0]) ∧ Below u.heap.size u w') := hid (fun u a2 c2 hu hi => by
            have := wtexts_any ep a n cap l HP.out.2.1 hmx (chB s2).1 hch.2.2.2.2.1 a2 _ c2 (nxB s2) rfl hnm u (HI.out.1.keep hu (Nat.le_refl _)) hi
            rw [hch.2.2.1, hch.2.2.2.1, voE, if_pos hch.1] at this
            exact this)
          have HVa : Hid (∀ (u : World) (a2 : Option Addr) (c2 : Nat) (a3 : Option Addr) (c3 : Nat), Below w.heap.size w u → IntsIn u a2 (nxB s2) → PairsIn u a3 (signsOf s2 (chB s2) (chB s2).2) → Calls Try.prog 22 #[.agg #[.int .i64 ep, .slice a n cap], .agg #[.int .i64 (ep + 1), .slice a2 (nxB s2).length c2, .slice a3 (signsOf s2 (chB s2) (chB s2).2).length c3]] u fun e w' => e = .returned (.int .i64 0) ∧ Below u.heap.size u w') := hid (fun u a2 c2 a3 c3 hu hi hp => by
            have := lvalid_any ep a n cap l HP.out.2.1 hmx (ep + 1) a2 _ c2 (nxB s2) rfl hnm a3 _ c3 (signsOf s2 (chB s2) (chB s2).2) rfl (hsm _) u (HI.out.1.keep hu (Nat.le_refl _)) hi hp
            rwa [hva] at this)
          have HPr : Hid (∀ (u : World) (a1 : Option Addr) (c1 : Nat), Below w.heap.size w u → PairsIn u a1 (signsOf s2 (chB s2) (setS s2)) → Calls Try.prog 23 #[.agg #[.int .i64 ep, .slice a n cap], .string (setS s2), .slice a1 (signsOf s2 (chB s2) (setS s2)).length c1] u fun e w' => e = .returned (.bool true) ∧ Below u.heap.size u w') := hid (fun u a1 c1 hu hp => by
            have := tproves_any ep a n cap l HP.out.2.1 hmx (setS s2) a1 _ c1 (signsOf s2 (chB s2) (setS s2)) rfl (hsm _) u (HI.out.1.keep hu (Nat.le_refl _)) hp
            rwa [hpr] at this)
          clear hf
          have HF2 := hid hf2
          clear hch hpr hva hmx hnm hsm h2e h2m hq hf2
          have HNe : Hid (nxB s2 ≠ []) := hid (fun e => by have h1 := chosen_is H2.out.1 (chB_of HF2.out); have h2 := mem_len (rightC_ep h1.2.2.2.2.2).2; rw [e] at h2; simp at h2)
          go_wp2_with (first
            | (go_at_call 18; go_must (refine (HSt.out _ H8.out.tl).mono ?_; rintro e w9 ⟨a1, c1, a2, c2, a3, c3, rfl, hp1, hi2, hp3, hb, hfar⟩; have hba : Below w9.heap.size w9 (w9.alloc (.cells #[.string (chB s2).1, .slice a1 (signsOf s2 (chB s2) (setS s2)).length c1, .int .i64 (ep + 1), .slice a2 (nxB s2).length c2, .slice a3 (signsOf s2 (chB s2) (chB s2).2).length c3] 51)) := (Below.refl _ _).alloc (Nat.le_refl _) _; have H9 : Hid (RvSt w (w9.alloc (.cells #[.string (chB s2).1, .slice a1 (signsOf s2 (chB s2) (setS s2)).length c1, .int .i64 (ep + 1), .slice a2 (nxB s2).length c2, .slice a3 (signsOf s2 (chB s2) (chB s2).2).length c3] 51)) B F (.pointer (some ⟨g, 0, none⟩)) s s2 ep l (.slice a n cap) q w9.heap.size a1 c1 a2 c2 a3 c3 ∧ Below w7.heap.size w7 (w9.alloc (.cells #[.string (chB s2).1, .slice a1 (signsOf s2 (chB s2) (setS s2)).length c1, .int .i64 (ep + 1), .slice a2 (nxB s2).length c2, .slice a3 (signsOf s2 (chB s2) (chB s2).2).length c3] 51))) := hid ⟨⟨(H8.out.keep hb).keep hba, heap_alloc_last w9 _, hp1.keep hba (Nat.le_refl _), hi2.keep hba (Nat.le_refl _), hp3.keep hba (Nat.le_refl _), fun x hx => by have h1 := hfar x hx; have h2 := H8.out.qB; have h3 : x.block < w9.heap.size ∨ nxB s2 = [] := (by rcases hi2 with h | ⟨gg, oo, e, h, _⟩; exact .inr h; rw [hx] at e; cases e; exact .inl h); rcases h3 with h3 | h3; exact ⟨by omega, by omega, by simp; omega⟩; exact absurd h3 HNe.out⟩, hb.alloc hb.size _⟩; have hq := HQ.out _ hb; have f0 := free_at hq 0; have f1 := free_at hq 1; have f2 := free_at hq 2; have f3 := free_at hq 3; have f4 := free_at hq 4; have z0 := cell_at (L := [_, _, _, _, _]) hq 0 _ rfl; have z1 := cell_at (L := [_, _, _, _, _]) hq 1 _ rfl; have z2 := cell_at (L := [_, _, _, _, _]) hq 2 _ rfl; have z3 := cell_at (L := [_, _, _, _, _]) hq 3 _ rfl; have z4 := cell_at (L := [_, _, _, _, _]) hq 4 _ rfl; obtain ⟨k0, k1⟩ := (H8.out.keep hb).cf.cells; have hq9 : q < w9.heap.size := Nat.lt_of_lt_of_le hq7 hb.size; have hw9 : w.heap.size < w9.heap.size := Nat.lt_of_lt_of_le hw7 hb.size; clear hb hq hba hp1 hi2 hp3 hfar))
            | (go_at_call 11; go_must (refine (HTx.out _ _ _ H9.out.1.sm.bel H9.out.1.i2).mono ?_; rintro e w11 ⟨rfl, hb⟩; have H11 : Hid (RvSt w w11 B F (.pointer (some ⟨g, 0, none⟩)) s s2 ep l (.slice a n cap) q w9.heap.size a1 c1 a2 c2 a3 c3 ∧ Below w7.heap.size w7 w11) := hid ⟨H9.out.1.keep hb, H9.out.2.trans (hb.mono H9.out.2.size)⟩; clear f0 f1 f2 f3 f4 z0 z1 z2 z3 z4 k0 k1; have hq := HQ.out _ H11.out.2; have f0 := free_at hq 0; have f1 := free_at hq 1; have f2 := free_at hq 2; have f3 := free_at hq 3; have f4 := free_at hq 4; have z0 := cell_at (L := [_, _, _, _, _]) hq 0 _ rfl; have z1 := cell_at (L := [_, _, _, _, _]) hq 1 _ rfl; have z2 := cell_at (L := [_, _, _, _, _]) hq 2 _ rfl; have z3 := cell_at (L := [_, _, _, _, _]) hq 3 _ rfl; have z4 := cell_at (L := [_, _, _, _, _]) hq 4 _ rfl; obtain ⟨k0, k1⟩ := H11.out.1.sm.cf.cells; have hp := H11.out.1.rp; have y0 := cell_at (L := [_, _, _, _, _]) hp 0 _ rfl; have y1 := cell_at (L := [_, _, _, _, _]) hp 1 _ rfl; have y2 := cell_at (L := [_, _, _, _, _]) hp 2 _ rfl; have y3 := cell_at (L := [_, _, _, _, _]) hp 3 _ rfl; have y4 := cell_at (L := [_, _, _, _, _]) hp 4 _ rfl; clear hb hq hp))
            | (go_at_call 22; go_must (refine (HVa.out _ _ _ _ _ H11.out.1.sm.bel H11.out.1.i2 H11.out.1.i3).mono ?_; rintro e w12 ⟨rfl, hb⟩; have H12 : Hid (RvSt w w12 B F (.pointer (some ⟨g, 0, none⟩)) s s2 ep l (.slice a n cap) q w9.heap.size a1 c1 a2 c2 a3 c3 ∧ Below w7.heap.size w7 w12) := hid ⟨H11.out.1.keep hb, H11.out.2.trans (hb.mono H11.out.2.size)⟩; clear f0 f1 f2 f3 f4 z0 z1 z2 z3 z4 k0 k1 y0 y1 y2 y3 y4; have hq := HQ.out _ H12.out.2; have f0 := free_at hq 0; have f1 := free_at hq 1; have f2 := free_at hq 2; have f3 := free_at hq 3; have f4 := free_at hq 4; have z0 := cell_at (L := [_, _, _, _, _]) hq 0 _ rfl; have z1 := cell_at (L := [_, _, _, _, _]) hq 1 _ rfl; have z2 := cell_at (L := [_, _, _, _, _]) hq 2 _ rfl; have z3 := cell_at (L := [_, _, _, _, _]) hq 3 _ rfl; have z4 := cell_at (L := [_, _, _, _, _]) hq 4 _ rfl; obtain ⟨k0, k1⟩ := H12.out.1.sm.cf.cells; have hp := H12.out.1.rp; have y0 := cell_at (L := [_, _, _, _, _]) hp 0 _ rfl; have y1 := cell_at (L := [_, _, _, _, _]) hp 1 _ rfl; have y2 := cell_at (L := [_, _, _, _, _]) hp 2 _ rfl; have y3 := cell_at (L := [_, _, _, _, _]) hp 3 _ rfl; have y4 := cell_at (L := [_, _, _, _, _]) hp 4 _ rfl; clear hb hq hp))
            | (go_at_call 23; go_must (refine (HPr.out _ _ _ H12.out.1.sm.bel H12.out.1.i1).mono ?_; rintro e w13 ⟨rfl, hb⟩; have H13 : Hid (RvSt w w13 B F (.pointer (some ⟨g, 0, none⟩)) s s2 ep l (.slice a n cap) q w9.heap.size a1 c1 a2 c2 a3 c3 ∧ Below w7.heap.size w7 w13) := hid ⟨H12.out.1.keep hb, H12.out.2.trans (hb.mono H12.out.2.size)⟩; clear f0 f1 f2 f3 f4 z0 z1 z2 z3 z4 k0 k1 y0 y1 y2 y3 y4; have hq := HQ.out _ H13.out.2; have f0 := free_at hq 0; have f1 := free_at hq 1; have f2 := free_at hq 2; have f3 := free_at hq 3; have f4 := free_at hq 4; have z0 := cell_at (L := [_, _, _, _, _]) hq 0 _ rfl; have z1 := cell_at (L := [_, _, _, _, _]) hq 1 _ rfl; have z2 := cell_at (L := [_, _, _, _, _]) hq 2 _ rfl; have z3 := cell_at (L := [_, _, _, _, _]) hq 3 _ rfl; have z4 := cell_at (L := [_, _, _, _, _]) hq 4 _ rfl; obtain ⟨k0, k1⟩ := H13.out.1.sm.cf.cells; have hp := H13.out.1.rp; have y0 := cell_at (L := [_, _, _, _, _]) hp 0 _ rfl; have y1 := cell_at (L := [_, _, _, _, _]) hp 1 _ rfl; have y2 := cell_at (L := [_, _, _, _, _]) hp 2 _ rfl; have y3 := cell_at (L := [_, _, _, _, _]) hp 3 _ rfl; have y4 := cell_at (L := [_, _, _, _, _]) hp 4 _ rfl; clear hb hq hp)))
          go_roundw
          case rel => exact ⟨j + 1, s2, by have := HJ.out; omega, by go_num, by rw [HF2.out], H13.out.1.sm.fin _ _ _ _ _ (fun _ => ⟨rfl, by rw [H13.out.1.sm.is.1], a2, c2, rfl, H13.out.1.i2, H13.out.1.fr⟩)⟩
          case measure => simp [intOf]; omega
        | false =>
          obtain ⟨X0, X1, X2, X3, X4, hq, hw⟩ := H8.out.ws
          clear hw
          have HQ : Hid (∀ ww : World, Below w7.heap.size w7 ww → ww.heap[q]? = some (.cells #[X0, X1, X2, X3, X4] 51 (0, 0))) := hid (fun ww hw => (hw.block _ (lt_of_blk hq)).trans hq)
          have hq7 := lt_of_blk hq
          have hw7 := lt_of_blk H8.out.cf
          have HSt : Hid (∀ u : World, TlAt F u (.pointer (some ⟨g, 0, none⟩)) s2 → Calls Try.prog 18 #[.pointer (some ⟨g, 0, none⟩)] u fun e w' => e = .returned (.tuple #[.agg #[.string ⟨#[]⟩, .slice none 0 0, .int .i64 0, .slice none 0 0, .slice none 0 0], .bool false]) ∧ Below u.heap.size u w') := hid (fun u hu => vsettled_none F _ s2 u hu hf2)
          clear hq
          go_wp2_with (first
            | (go_at_call 18; go_must (refine (HSt.out _ H8.out.tl).mono ?_; rintro e w9 ⟨rfl, hb⟩; have H9 : Hid (SmSt w w9 B F (.pointer (some ⟨g, 0, none⟩)) s s2 ep l (.slice a n cap) q) := hid (H8.out.keep hb); have hq := HQ.out _ hb; have f0 := free_at hq 0; have f1 := free_at hq 1; have f2 := free_at hq 2; have f3 := free_at hq 3; have f4 := free_at hq 4; have z0 := cell_at (L := [_, _, _, _, _]) hq 0 _ rfl; have z1 := cell_at (L := [_, _, _, _, _]) hq 1 _ rfl; have z2 := cell_at (L := [_, _, _, _, _]) hq 2 _ rfl; have z3 := cell_at (L := [_, _, _, _, _]) hq 3 _ rfl; have z4 := cell_at (L := [_, _, _, _, _]) hq 4 _ rfl; obtain ⟨k0, k1⟩ := H9.out.cf.cells; have hq9 : q < w9.heap.size := Nat.lt_of_lt_of_le hq7 hb.size; have hw9 : w.heap.size < w9.heap.size := Nat.lt_of_lt_of_le hw7 hb.size; clear hb hq)))
          go_roundw
          case rel => exact ⟨j + 1, s2, by have := HJ.out; omega, by go_num, by rw [hf2], (H9.out.fin _ _ _ _ _ (fun hf3 => by rw [hf2] at hf3; cases hf3)).keep ((Below.refl _ _).alloc (Nat.le_refl _) _)⟩
          case measure => simp [intOf]; omega
theorem votesShow_walk (ep : Int) (a : Option Addr) (n cap : Nat) (l : List Int) (hn : l.length = n) (hm : n ≤ maxLen) (o : Option Addr) (no co : Nat) (os : List VtA) (hno : os.length = no) (hmo : no ≤ maxLen) (hos : ∀ x, x ∈ os → vtOk x) (w : World) (hI : IntsIn w a l) (hO : VtsIn w o os) :
    Calls Try.prog 5 #[.agg #[.int .i64 ep, .slice a n cap], .slice o no co] w fun e w' => e = .returned (.bool true) ∧ Below w.heap.size w w' := by
  cases hr : rightC ep l with
  | false => exact vshow_no ep a n cap l hn hm o no co hr w hI
  | true => exact vshow_go ep a n cap l hn o no co os hno hmo hos hr w hI hO
end Go.Proofs.Ytkceihnjnjbceaa
