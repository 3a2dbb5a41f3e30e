/- Texts laid together: LnL DtC DtD DtE DpZ WiD WiE WiF WsB WiG WiH. -/
import Derived.Test.YtgmekkgbobmplaaGreatLnKM
import Derived.Test.YtgmekkgbobmplaaGreatDtBM
import Derived.Test.YtgmekkgbobmplaaGreatNa8
import Derived.Test.YtgmekkgbobmplaaGreatNa2
import Derived.Test.YtgmekkgbobmplaaGreatNa4
import Derived.Test.YtgmekkgbobmplaaGreatNa5
import Derived.BigQuiet
/- The program's lane: nothing is taken, Drop, Copy. -/
namespace Go.Proofs.YtgmekkgbobmplaaGreat
open Go.RowKit

section
variable {P : Nat → Prop} {N : Nat} {n : Int} {w : World} {v : Value} {bad : List Int} {ps : List Pkt} {L : List Sg}
set_option maxRecDepth 100000 in
set_option maxHeartbeats 3200000 in
theorem ntake_no (hw : ∀ u : World, Below w.heap.size w u → Calls Tryz.prog 40 #[v, .int .i64 n] u fun e w' => e = .returned (.tuple #[.int .i64 0, .bool false]) ∧ Below u.heap.size u w') : Calls Tryz.prog 17 #[v, .int .i64 n] w fun e w' => e = .returned (.tuple #[.agg zPk.toArray, .bool false]) ∧ Below w.heap.size w w' := by
  obtain ⟨wa, ha, hba, hz⟩ := one_newL zPk 50 w
  obtain ⟨A, eA⟩ : ∃ A, A = Value.agg zPk.toArray := ⟨_, rfl⟩
  have HAg := hid eA
  have H0 := hid (And.intro hba hz)
  have HPl := hid hw
  unfold zPk at ha
  have HA := hid ha
  clear hw ha hba hz eA
  go_enter Tryz.func17, Tryz.ntmps17
  go_upto_region 1 with fail
  rw [HA.out]
  go_wp2_with (first
    | (have := H1; refine wl_store_blk rfl 50 _ _ rfl w.heap.size 0 rfl zPk.toArray rfl zPk 50 H1.out.2 (by simp [zPk]) (by kernel_rfl) (by simp [zPk, Value.oneCell']) ?_; go_must (intro w4 Hz; have H4 := Hz; clear Hz))
    | (go_at_call 40; go_must (refine (HPl.out _ H0.out.1).mono ?_; rintro e w1 ⟨rfl, hb⟩; have H1 : Hid (Below w.heap.size w w1 ∧ BxAt w1 w.heap.size zPk 50) := hid ⟨H0.out.1.trans (hb.mono H0.out.1.size), H0.out.2.keep hb⟩; clear hb)))
  refine ret_pair (s := 4) (s2 := 5) (ad := ⟨w.heap.size, 0, none⟩) rfl rfl (load_whole (L := zPk) H4.out.1 _ Tryz.underlying50 rfl (by kernel_rfl)) rfl rfl ?_
  exact ⟨rfl, H4.out.2.below H1.out.1 (Nat.le_refl _)⟩
theorem ntake_none (h : LaneAt N P w v bad ps L) (hp : ps.length = 0) (n : Int) : Calls Tryz.prog 17 #[v, .int .i64 n] w fun e w' => e = .returned (.tuple #[.agg zPk.toArray, .bool false]) ∧ Below w.heap.size w w' := ntake_no (fun _ hu => nplace_none (h.keep hu) hp n)
theorem ntake_nil (n : Int) (w : World) : Calls Tryz.prog 17 #[.pointer none, .int .i64 n] w fun e w' => e = .returned (.tuple #[.agg zPk.toArray, .bool false]) ∧ Below w.heap.size w w' := ntake_no (fun u _ => nplace_nil n u)
set_option maxRecDepth 100000 in
set_option maxHeartbeats 3200000 in
theorem ndrop_no (hw : ∀ u : World, Below w.heap.size w u → Calls Tryz.prog 17 #[v, .int .i64 n] u fun e w' => e = .returned (.tuple #[.agg zPk.toArray, .bool false]) ∧ Below u.heap.size u w') : Calls Tryz.prog 20 #[v, .int .i64 n] w fun e w' => e = .returned (.bool false) ∧ Below w.heap.size w w' := by
  obtain ⟨A, eA⟩ : ∃ A, A = Value.agg zPk.toArray := ⟨_, rfl⟩
  have HAg := hid eA
  rw [← eA] at hw
  have HT := hid hw
  clear hw eA
  go_enter Tryz.func20, Tryz.ntmps20
  go_wp2_with (first
    | (have := H1; refine wl_store_blk rfl 50 _ _ rfl w1.heap.size 0 rfl zPk.toArray HAg.out zPk 50 (heap_alloc_last w1 _) (by simp [zPk]) (by kernel_rfl) (by simp [zPk, Value.oneCell']) ?_; go_must (intro w4 Hz; have H4 := Hz; clear Hz))
    | (go_at_call 17; go_must (refine (HT.out _ (Below.refl _ _)).mono ?_; rintro e w1 ⟨rfl, hb⟩; have H1 := hid hb; clear hb)))
  go_ret
  exact ⟨rfl, H4.out.2.below (H1.out.alloc H1.out.size _) H1.out.size⟩
theorem ndrop_none (h : LaneAt N P w v bad ps L) (hp : ps.length = 0) (n : Int) : Calls Tryz.prog 20 #[v, .int .i64 n] w fun e w' => e = .returned (.bool false) ∧ Below w.heap.size w w' := ndrop_no (fun _ hu => ntake_none (h.keep hu) hp n)
theorem ndrop_nil (n : Int) (w : World) : Calls Tryz.prog 20 #[.pointer none, .int .i64 n] w fun e w' => e = .returned (.bool false) ∧ Below w.heap.size w w' := ndrop_no (fun u _ => ntake_nil n u)
/-- One more packet, if there is room. -/
def addP (ps : List Pkt) (q : Pkt) : List Pkt := if ps.length < 4096 then ps ++ [q] else ps
theorem addP_yes {ps : List Pkt} {q : Pkt} (h : ps.length < 4096) : addP ps q = ps ++ [q] := if_pos h
theorem addP_no {ps : List Pkt} {q : Pkt} (h : ¬ ps.length < 4096) : addP ps q = ps := if_neg h
/-- One more packet, whose lists are new. -/
theorem LaneAt.add1 {w2 : World} (h : LaneAt N P w v bad ps L) (hb : Below w.heap.size w w2) (fr to : Int) (m : Ms) (a13 a14 a15 a16 : Option Addr) (c13 c14 c15 c16 : Nat) (hL : MsL (fun k => w.heap.size ≤ k) w2 m (.slice a13 m.nx.length c13) (.slice a14 m.sg.length c14) (.slice a15 m.cg.length c15) (.slice a16 m.ln.length c16)) :
    Calls Tryz.prog 35 #[v, .agg (pkC fr to m (.slice a13 m.nx.length c13) (.slice a14 m.sg.length c14) (.slice a15 m.cg.length c15) (.slice a16 m.ln.length c16)).toArray] w2 fun e w' => e = .returned (.bool (decide (ps.length < 4096))) ∧ LanePost N P w w' v bad (addP ps (fr, to, m)) L := by
  have hP := fun k (hk : P k) => h.lt k hk
  obtain ⟨F, g, ab, kb, vr, vk, Fb, B, rfl, hM, hPi⟩ := h
  have hW := (hM.keep hb).wide hM.le hM.lt
  have hlow : ∀ k, Lfp (fun k => F k ∨ (w.heap.size ≤ k ∧ k < w2.heap.size)) g vr Fb k → P k ∨ w.heap.size ≤ k := by
    rintro k (hk | hk | hk | hk | hk)
    · exact .inl ((hPi k).2 (.inl hk))
    · exact .inl ((hPi k).2 (.inr (.inl hk)))
    · exact .inl ((hPi k).2 (.inr (.inr (.inl hk))))
    · exact .inl ((hPi k).2 (.inr (.inr (.inr hk))))
    · exact .inr hk.1
  refine (nadd_any hW fr to m a13 a14 a15 a16 c13 c14 c15 c16 (hL.mono2 (fun k hl hk => .inr ⟨hk, hl⟩))).mono ?_
  rintro e w' ⟨h1, h2⟩
  by_cases hl : ps.length < 4096
  · obtain ⟨he, P2, hA, hO, hn⟩ := h1 hl
    rw [decide_eq_true hl, addP_yes hl]
    refine ⟨he, P2, hA, (Outs.ofB hb).trans hO (fun j hj hq => ?_), fun k hk => ?_⟩
    · rcases hlow j hq with hq | hq
      · exact hq
      · omega
    · rcases hn k hk with hq | hq
      · exact hlow k hq
      · exact .inr (Nat.le_trans hb.size hq)
  · obtain ⟨he, hb2⟩ := h2 hl
    rw [decide_eq_false hl, addP_no hl]
    exact ⟨he, P, ⟨F, g, ab, kb, vr, vk, Fb, B, rfl, hM.keep (hb.trans (hb2.mono hb.size)), hPi⟩, Outs.ofB (hb.trans (hb2.mono hb.size)), fun k hk => .inl hk⟩
set_option maxRecDepth 100000 in
set_option maxHeartbeats 3200000 in
theorem ndrop_any (h : LaneAt N P w v bad ps L) (hp : 0 < ps.length) (n : Int) : Calls Tryz.prog 20 #[v, .int .i64 n] w fun e w' => e = .returned (.bool true) ∧ LanePost N P w w' v bad (rmv ps (plN n ps.length)) L := by
  have HT := hid (ntake_any h hp n)
  clear h hp
  go_enter Tryz.func20, Tryz.ntmps20
  go_wp2_with (first
    | (have := H1; refine wl_store_blk rfl 50 _ _ rfl w1.heap.size 0 rfl _ HAg.out zPk 50 (heap_alloc_last w1 _) (by simp [zPk, pkC, msC]) (by kernel_rfl) (by simp [pkC, msC, Value.oneCell']) ?_; go_must (intro w4 Hz; have H4 := Hz; clear Hz))
    | (go_at_call 17; go_must (refine HT.out.mono ?_; rintro e w1 ⟨fr, to, m, a13, c13, a14, c14, a15, c15, a16, c16, P', _, rfl, _, hA, hO, hs⟩; have H1 := hid (And.intro hA (And.intro hO hs)); clear hA hO hs; obtain ⟨A, eA⟩ : ∃ A, A = Value.agg (pkC fr to m (.slice a13 m.nx.length c13) (.slice a14 m.sg.length c14) (.slice a15 m.cg.length c15) (.slice a16 m.ln.length c16)).toArray := ⟨_, rfl⟩; rw [← eA]; have HAg := hid eA; clear eA)))
  go_ret
  have hb9 : Below w1.heap.size w1 (w1.alloc (.cells zPk.toArray 50)) := (Below.refl _ _).alloc (Nat.le_refl _) _
  have hb : Below w1.heap.size w1 w4 := H4.out.2.below hb9 (Nat.le_refl _)
  exact ⟨rfl, P', H1.out.1.keep hb, ⟨hb.os.trans H1.out.2.1.os, hb.tape.trans H1.out.2.1.tape, hb.output.trans H1.out.2.1.output, Nat.le_trans H1.out.2.1.size hb.size, fun k hk hn => (hb.block k (Nat.lt_of_lt_of_le hk H1.out.2.1.size)).trans (H1.out.2.1.block k hk hn)⟩, fun k hk => .inl (H1.out.2.2 k hk)⟩
set_option maxRecDepth 100000 in
set_option maxHeartbeats 3200000 in
theorem ncopy_no (hw : ∀ u : World, Below w.heap.size w u → Calls Tryz.prog 40 #[v, .int .i64 n] u fun e w' => e = .returned (.tuple #[.int .i64 0, .bool false]) ∧ Below u.heap.size u w') : Calls Tryz.prog 22 #[v, .int .i64 n] w fun e w' => e = .returned (.bool false) ∧ Below w.heap.size w w' := by
  have HPl := hid hw
  clear hw
  go_enter Tryz.func22, Tryz.ntmps22
  go_wp2_with (go_at_call 40; go_must (refine (HPl.out _ (Below.refl _ _)).mono ?_; rintro e w1 ⟨rfl, hb⟩; have H1 := hid hb; clear hb))
  go_ret
  exact ⟨rfl, H1.out⟩
theorem ncopy_none (h : LaneAt N P w v bad ps L) (hp : ps.length = 0) (n : Int) : Calls Tryz.prog 22 #[v, .int .i64 n] w fun e w' => e = .returned (.bool false) ∧ Below w.heap.size w w' := ncopy_no (fun _ hu => nplace_none (h.keep hu) hp n)
theorem ncopy_nil (n : Int) (w : World) : Calls Tryz.prog 22 #[.pointer none, .int .i64 n] w fun e w' => e = .returned (.bool false) ∧ Below w.heap.size w w' := ncopy_no (fun u _ => nplace_nil n u)
/-- A packet, its reals those with their bits. -/
def nrmP (q : Pkt) : Pkt := (q.1, q.2.1, normM q.2.2)
set_option maxRecDepth 100000 in
set_option maxHeartbeats 6400000 in
theorem ncopy_any (h : LaneAt N P w v bad ps L) (hp : 0 < ps.length) (hs : ∀ q, q ∈ ps → msS q.2.2) (n : Int) : Calls Tryz.prog 22 #[v, .int .i64 n] w fun e w' => ∃ q, ps[plN n ps.length]? = some q ∧ e = .returned (.bool (decide (ps.length < 4096))) ∧ LanePost N P w w' v bad (addP ps (nrmP q)) L := by
  have HPl := hid (nplace_any h hp n)
  have hlt := plN_lt n hp
  generalize plN n ps.length = p at HPl hlt ⊢
  have HAt := hid h
  obtain ⟨F, g, ab, kb, vr, vk, Fb, B, rfl, hM, hP⟩ := h
  have hrow := hM.row
  rw [hM.len] at hrow
  obtain ⟨ad, cap, rfl, _, _, hr⟩ := row_lane hrow
  obtain ⟨r, rfl, hrl, _⟩ := hr hp
  obtain ⟨b, hb⟩ : ∃ b, B[p]? = some b := ⟨_, List.getElem?_eq_getElem (by rw [hM.len]; exact hlt)⟩
  obtain ⟨⟨fr, to, m⟩, hq⟩ : ∃ q, ps[p]? = some q := ⟨_, List.getElem?_eq_getElem hlt⟩
  obtain ⟨hFb, a13, c13, a14, c14, a15, c15, a16, c16, hbx, hml⟩ := hM.pk p b _ hb hq
  have hms := hs _ (List.mem_of_getElem? hq)
  have hcell : ∀ u : World, Below w.heap.size w u → u.cell? ⟨r, p, none⟩ = some (.pointer (some ⟨b, 0, none⟩)) := fun u hu => by
    have h9 := (hM.keep hu).row.cells (g := r) rfl p (ptrV b) (by rw [List.getElem?_map, hb]; rfl)
    rw [Addr.add_lit, Nat.zero_add] at h9
    exact h9
  have hmx := hM.mx
  have q1 : (p : Int) < (ps.length : Int) := by omega
  have q0 : (0 : Int) ≤ (p : Int) := Int.natCast_nonneg _
  obtain ⟨A, eA⟩ : ∃ A, A = Value.agg (pkC fr to m (.slice a13 m.nx.length c13) (.slice a14 m.sg.length c14) (.slice a15 m.cg.length c15) (.slice a16 m.ln.length c16)).toArray := ⟨_, rfl⟩
  have HOw := hid (fun (u : World) (hu : Below w.heap.size w u) => nown_any fr to m hms _ _ _ _ u (hml.under hu))
  have HM := hid hM
  have HC := hid hcell
  have HX := hid (And.intro hbx hq)
  have HAg := hid eA
  replace HOw : Hid (∀ u : World, Below w.heap.size w u → Calls Tryz.prog 32 #[A] u fun e w' => ∃ a1 c1 a2 c2 a3 c3 a4 c4, e = .returned (.agg (pkC fr to (normM m) (.slice a1 (normM m).nx.length c1) (.slice a2 (normM m).sg.length c2) (.slice a3 (normM m).cg.length c3) (.slice a4 (normM m).ln.length c4)).toArray) ∧ MsL (fun k => u.heap.size ≤ k) w' (normM m) (.slice a1 (normM m).nx.length c1) (.slice a2 (normM m).sg.length c2) (.slice a3 (normM m).cg.length c3) (.slice a4 (normM m).ln.length c4) ∧ Below u.heap.size u w') := hid (fun u hu => by
    rw [eA]
    refine (HOw.out u hu).mono ?_
    rintro e w' ⟨a1, c1, a2, c2, a3, c3, a4, c4, rfl, h1, h2⟩
    have hl : (normM m).cg.length = m.cg.length := by simp [normM]
    rw [← hl] at h1 ⊢
    exact ⟨a1, c1, a2, c2, a3, c3, a4, c4, rfl, h1, h2⟩)
  clear hM hcell hbx hml hFb hq hb hP hrow hr hrl hp hlt hmx eA hs hms
  unfold ptrV at HPl ⊢
  go_enter Tryz.func22, Tryz.ntmps22
  go_wp2_with (first
    | (go_at_call 35; go_must (refine ((HAt.out.keep H1.out).add1 H2.out.2 fr to (normM m) _ _ _ _ _ _ _ _ H2.out.1).mono ?_; rintro e w3 ⟨rfl, h3⟩; have H3 := hid h3; clear h3))
    | (go_at_call 32; go_must (refine (HOw.out _ H1.out).mono ?_; rintro e w2 ⟨a1, c1, a2, c2, a3, c3, a4, c4, rfl, h1, h2⟩; have H2 := hid (And.intro h1 h2); clear h1 h2))
    | (refine wl_loadB rfl 50 _ rfl b 0 rfl (pkC fr to m (.slice a13 m.nx.length c13) (.slice a14 m.sg.length c14) (.slice a15 m.cg.length c15) (.slice a16 m.ln.length c16)) 50 (HX.out.1.keep H1.out) _ Tryz.underlying50 rfl (by kernel_rfl) A HAg.out rfl ?_)
    | (go_at_call 40; go_must (refine HPl.out.mono ?_; rintro e w1 ⟨rfl, hb⟩; have H1 := hid hb; clear hb; have y1 := (HM.out.keep H1.out).blk.cell 1 _ rfl; have yr := HC.out w1 H1.out)))
  go_ret
  have hlow : ∀ {w3 : World} {qs : List Pkt}, LanePost N P w1 w3 (ptrV g) bad qs L → LanePost N P w w3 (ptrV g) bad qs L := fun ⟨P2, k1, k2, k3⟩ => ⟨P2, k1, (Outs.ofB H1.out).trans k2 (fun _ _ hq => hq), fun k hk => by
    rcases k3 k hk with hq | hq
    · exact .inl hq
    · exact .inr (Nat.le_trans H1.out.size hq)⟩
  exact ⟨_, HX.out.2, rfl, hlow H3.out⟩
end
end Go.Proofs.YtgmekkgbobmplaaGreat

/- The program's text of a request, of a result; are two requests the same. -/
namespace Go.Proofs.YtgmekkgbobmplaaGreat
open Go.RowKit

set_option maxRecDepth 100000 in
set_option maxHeartbeats 6400000 in
theorem dtext_any (r : Rq) (hb : r.b < 18446744073709551616) (w : World) : Calls Tryz.prog 145 #[.agg #[.int .i64 r.c, .int .i64 r.st, .int .i64 r.k, .string r.key, .float .f64 r.b, .int .i64 r.id]] w fun e' w' => e' = .returned (.tuple #[.string (rqT r), .int .i64 (rqE r)]) ∧ Below w.heap.size w w' := by
  have H0 : Hid (RqAt (w.alloc (.cells #[.int .i64 r.c, .int .i64 r.st, .int .i64 r.k, .string r.key, .float .f64 r.b, .int .i64 r.id] 41)) w.heap.size r ∧ Below w.heap.size w (w.alloc (.cells #[.int .i64 r.c, .int .i64 r.st, .int .i64 r.k, .string r.key, .float .f64 r.b, .int .i64 r.id] 41))) := hid ⟨heap_alloc_last w _, (Below.refl w.heap.size w).alloc (Nat.le_refl _) _⟩
  have HN : Hid (∀ X, nullB r = X → ∀ u, Calls Tryz.prog 134 #[.agg #[.int .i64 r.c, .int .i64 r.st, .int .i64 r.k, .string r.key, .float .f64 r.b, .int .i64 r.id]] u fun e w' => e = .returned (.bool X) ∧ Below u.heap.size u w') := hid (fun X hX u => by rw [← hX]; exact dnull_any r u)
  have HR : Hid (∀ X, rightB r = X → ∀ u, Calls Tryz.prog 102 #[.agg #[.int .i64 r.c, .int .i64 r.st, .int .i64 r.k, .string r.key, .float .f64 r.b, .int .i64 r.id]] u fun e w' => e = .returned (.bool X) ∧ Below u.heap.size u w') := hid (fun X hX u => by rw [← hX]; exact dright_any r u)
  cases hN : nullB r with
  | true =>
    rw [show rqT r = ⟨#[0]⟩ by rw [rqT, if_pos hN], show rqE r = 0 by rw [rqE, if_pos hN]]
    have HNb := hid (HN.out _ hN)
    clear hN hb
    go_enter Tryz.func145, Tryz.ntmps145
    go_wp2_with (go_at_call 134; refine (HNb.out _).mono ?_; rintro e w1 ⟨rfl, hb1⟩; have H1 := hid (And.intro (H0.out.1.keep hb1) (H0.out.2.trans (hb1.mono H0.out.2.size))); clear hb1; obtain ⟨⟨z0, z1⟩, z2, z3, z4, z5⟩ := H1.out.1.cells)
    go_ret2
    exact ⟨rfl, H1.out.2⟩
  | false =>
    have HNb := hid (HN.out _ hN)
    cases hR : rightB r with
    | false =>
      rw [show rqT r = ⟨#[]⟩ by rw [rqT, hN, hR]; rfl, show rqE r = 1 by rw [rqE, hN, hR]; rfl]
      have HRb := hid (HR.out _ hR)
      clear hN hR hb
      go_enter Tryz.func145, Tryz.ntmps145
      go_wp2_with (first
        | (go_at_call 134; refine (HNb.out _).mono ?_; rintro e w1 ⟨rfl, hb1⟩; have H1 := hid (And.intro (H0.out.1.keep hb1) (H0.out.2.trans (hb1.mono H0.out.2.size))); clear hb1; obtain ⟨⟨z0, z1⟩, z2, z3, z4, z5⟩ := H1.out.1.cells)
        | (go_at_call 102; refine (HRb.out _).mono ?_; rintro e w2 ⟨rfl, hb2⟩; have H2 := hid (And.intro (H1.out.1.keep hb2) (H1.out.2.trans (hb2.mono H1.out.2.size))); clear hb2 z0 z1 z2 z3 z4 z5; obtain ⟨⟨z0, z1⟩, z2, z3, z4, z5⟩ := H2.out.1.cells))
      go_ret2
      exact ⟨rfl, H2.out.2⟩
    | true =>
      rw [show rqT r = ⟨(rqL r).toArray⟩ by rw [rqT, hN, hR]; rfl, show rqE r = 0 by rw [rqE, hN, hR]; rfl]
      have HRb := hid (HR.out _ hR)
      obtain ⟨⟨c1, c2⟩, ⟨s1, s2⟩, ⟨k1, k2⟩, hk, i1, i2⟩ := right_fields hR
      have HZ := hid (And.intro hk (canW_lt hb))
      obtain ⟨C, eC⟩ : ∃ C : Nat, r.c = (C : Int) := ⟨r.c.toNat, by omega⟩
      obtain ⟨S, eS⟩ : ∃ S : Nat, r.st = (S : Int) := ⟨r.st.toNat, by omega⟩
      obtain ⟨N, eN⟩ : ∃ N : Nat, r.k = (N : Int) := ⟨r.k.toNat, by omega⟩
      obtain ⟨I, eI⟩ : ∃ I : Nat, r.id = (I : Int) := ⟨r.id.toNat, by omega⟩
      have HF : Hid ((C < 256 ∧ S < 4294967296 ∧ N < 256 ∧ I < 256) ∧ rqL r = be 1 1 ++ (be 1 C ++ (be 4 S ++ (be 1 N ++ (be 2 r.key.size ++ (r.key.data.toList ++ (be 8 (canW r.b) ++ be 1 I))))))) := hid ⟨by omega, by rw [rqL, eC, eS, eN, eI]; rfl⟩
      clear c1 c2 s1 s2 k1 k2 hk i1 i2 hN hR hb
      obtain ⟨c, st, k, key, b, id⟩ := r
      simp only at eC eS eN eI HF HZ H0 HN HR HNb HRb ⊢
      subst eC eS eN eI
      have HKB : Hid (∀ u, Calls Tryz.prog 135 #[.float .f64 b] u fun e w' => e = .returned (.int .u64 (canW b : Nat)) ∧ w' = u) := hid (fun u => bits_any b u)
      generalize canW b = W8 at HF HZ HKB
      go_enter Tryz.func145, Tryz.ntmps145
      go_wp2_with (first
        | (go_at_call 134; refine (HNb.out _).mono ?_; rintro e w1 ⟨rfl, hb1⟩; have H1 := hid (And.intro (H0.out.1.keep hb1) (H0.out.2.trans (hb1.mono H0.out.2.size))); clear hb1; obtain ⟨⟨z0, z1⟩, z2, z3, z4, z5⟩ := H1.out.1.cells)
        | (go_at_call 102; refine (HRb.out _).mono ?_; rintro e w2 ⟨rfl, hb2⟩; have H2 := hid (And.intro (H1.out.1.keep hb2) (H1.out.2.trans (hb2.mono H1.out.2.size))); clear hb2 z0 z1 z2 z3 z4 z5; obtain ⟨⟨z0, z1⟩, z2, z3, z4, z5⟩ := H2.out.1.cells)
        | (go_at_call 66; refine (pwnew 34 (by decide) _).mono ?_; rintro e w3 ⟨rfl, h3⟩; have T0 := hid h3; clear h3; have HQT0 : Hid (RqAt w3 w.heap.size ⟨C, S, N, key, b, I⟩) := hid (((T0.out.2).block _ (lt_of_blk H2.out.1)).trans H2.out.1); (try clear z0 z1 z2 z3 z4 z5); obtain ⟨⟨z0, z1⟩, z2, z3, z4, z5⟩ := HQT0.out.cells)
        | (go_at_call 114; have := T6; refine (pwbyte 34 (by decide) (by decide) _ _ _ ([] ++ be 1 1 ++ be 1 C ++ be 4 S ++ be 1 N ++ (be 2 key.size ++ key.data.toList) ++ be 8 W8) I (by have := HF.out.1.2.2.2; omega) (by have := HZ.out.1; simp only [List.length_append, List.length_nil, be_len]; (try rw [data_len]); omega) (by exact T6.out)).mono ?_; rintro e v6 ⟨rfl, h6⟩; have T7 := hid h6; clear h6; have HQT7 : Hid (RqAt v6 w.heap.size ⟨C, S, N, key, b, I⟩) := hid (((T7.out.2).block _ (lt_of_blk H2.out.1)).trans H2.out.1); (try clear z0 z1 z2 z3 z4 z5); obtain ⟨⟨z0, z1⟩, z2, z3, z4, z5⟩ := HQT7.out.cells)
        | (go_at_call 143; have := T5; refine (pwbits 34 (by decide) (by decide) _ _ _ ([] ++ be 1 1 ++ be 1 C ++ be 4 S ++ be 1 N ++ (be 2 key.size ++ key.data.toList)) W8 HZ.out.2 (by have := HZ.out.1; simp only [List.length_append, List.length_nil, be_len]; (try rw [data_len]); omega) (by exact T5.out)).mono ?_; rintro e v5 ⟨rfl, h5⟩; have T6 := hid h5; clear h5; have HQT6 : Hid (RqAt v5 w.heap.size ⟨C, S, N, key, b, I⟩) := hid (((T6.out.2).block _ (lt_of_blk H2.out.1)).trans H2.out.1); (try clear z0 z1 z2 z3 z4 z5); obtain ⟨⟨z0, z1⟩, z2, z3, z4, z5⟩ := HQT6.out.cells)
        | (go_at_call 117; have := T4; refine (pwtext 34 (by decide) (by decide) _ _ _ ([] ++ be 1 1 ++ be 1 C ++ be 4 S ++ be 1 N) key (by have := HZ.out.1; omega) (by have := HZ.out.1; simp only [List.length_append, List.length_nil, be_len]; (try rw [data_len]); omega) (by exact T4.out)).mono ?_; rintro e v4 ⟨rfl, h4⟩; have T5 := hid h4; clear h4; have HQT5 : Hid (RqAt v4 w.heap.size ⟨C, S, N, key, b, I⟩) := hid (((T5.out.2).block _ (lt_of_blk H2.out.1)).trans H2.out.1); (try clear z0 z1 z2 z3 z4 z5); obtain ⟨⟨z0, z1⟩, z2, z3, z4, z5⟩ := HQT5.out.cells)
        | (go_at_call 114; have := T3; refine (pwbyte 34 (by decide) (by decide) _ _ _ ([] ++ be 1 1 ++ be 1 C ++ be 4 S) N (by have := HF.out.1.2.2.1; omega) (by have := HZ.out.1; simp only [List.length_append, List.length_nil, be_len]; (try rw [data_len]); omega) (by exact T3.out)).mono ?_; rintro e v3 ⟨rfl, h3⟩; have T4 := hid h3; clear h3; have HQT4 : Hid (RqAt v3 w.heap.size ⟨C, S, N, key, b, I⟩) := hid (((T4.out.2).block _ (lt_of_blk H2.out.1)).trans H2.out.1); (try clear z0 z1 z2 z3 z4 z5); obtain ⟨⟨z0, z1⟩, z2, z3, z4, z5⟩ := HQT4.out.cells)
        | (go_at_call 157; have := T2; refine (pwlong 34 (by decide) (by decide) _ _ _ ([] ++ be 1 1 ++ be 1 C) S (by have := HF.out.1.2.1; omega) (by have := HZ.out.1; simp only [List.length_append, List.length_nil, be_len]; (try rw [data_len]); omega) (by exact T2.out)).mono ?_; rintro e v2 ⟨rfl, h2⟩; have T3 := hid h2; clear h2; have HQT3 : Hid (RqAt v2 w.heap.size ⟨C, S, N, key, b, I⟩) := hid (((T3.out.2).block _ (lt_of_blk H2.out.1)).trans H2.out.1); (try clear z0 z1 z2 z3 z4 z5); obtain ⟨⟨z0, z1⟩, z2, z3, z4, z5⟩ := HQT3.out.cells)
        | (go_at_call 114; have := T1; refine (pwbyte 34 (by decide) (by decide) _ _ _ ([] ++ be 1 1) C (by have := HF.out.1.1; omega) (by have := HZ.out.1; simp only [List.length_append, List.length_nil, be_len]; (try rw [data_len]); omega) (by exact T1.out)).mono ?_; rintro e v1 ⟨rfl, h1⟩; have T2 := hid h1; clear h1; have HQT2 : Hid (RqAt v1 w.heap.size ⟨C, S, N, key, b, I⟩) := hid (((T2.out.2).block _ (lt_of_blk H2.out.1)).trans H2.out.1); (try clear z0 z1 z2 z3 z4 z5); obtain ⟨⟨z0, z1⟩, z2, z3, z4, z5⟩ := HQT2.out.cells)
        | (go_at_call 114; have := T0; refine (pwbyte 34 (by decide) (by decide) _ _ _ [] 1 (by decide) (by decide) (by exact T0.out)).mono ?_; rintro e v0 ⟨rfl, h0⟩; have T1 := hid h0; clear h0; have HQT1 : Hid (RqAt v0 w.heap.size ⟨C, S, N, key, b, I⟩) := hid (((T1.out.2).block _ (lt_of_blk H2.out.1)).trans H2.out.1); (try clear z0 z1 z2 z3 z4 z5); obtain ⟨⟨z0, z1⟩, z2, z3, z4, z5⟩ := HQT1.out.cells)
        | (go_at_call 135; refine (HKB.out _).mono ?_; rintro e w9 ⟨rfl, rfl⟩)
        | (go_at_call 68; refine (pwdone 34 _ _ _ _ (by exact T7.out)).mono ?_; rintro e wd ⟨rfl, hd⟩; have HDn := hid (H2.out.2.trans (hd.mono H2.out.2.size)); clear hd))
      go_ret2
      refine ⟨?_, HDn.out⟩
      rw [HF.out.2]
      rfl
set_option maxRecDepth 100000 in
set_option maxHeartbeats 6400000 in
theorem dresultText_any (c : Int) (f : Nat) (hf : f < 18446744073709551616) (w : World) : Calls Tryz.prog 113 #[.agg #[.int .i64 c, .float .f64 f]] w fun e' w' => e' = .returned (.tuple #[.string (rsT c f), .int .i64 (rsE c)]) ∧ Below w.heap.size w w' := by
  have H0 : Hid (RsAt (w.alloc (.cells #[.int .i64 c, .float .f64 f] 43)) w.heap.size c f ∧ Below w.heap.size w (w.alloc (.cells #[.int .i64 c, .float .f64 f] 43))) := hid ⟨heap_alloc_last w _, (Below.refl w.heap.size w).alloc (Nat.le_refl _) _⟩
  have HR : Hid (∀ X, rsB c = X → ∀ u, Calls Tryz.prog 142 #[.agg #[.int .i64 c, .float .f64 f]] u fun e w' => e = .returned (.bool X) ∧ Below u.heap.size u w') := hid (fun X hX u => by rw [← hX]; exact dresult_any c f u)
  cases hR : rsB c with
  | false =>
    rw [show rsT c f = ⟨#[]⟩ by rw [rsT, hR]; rfl, show rsE c = 1 by rw [rsE, hR]; rfl]
    have HRb := hid (HR.out _ hR)
    clear hR hf
    go_enter Tryz.func113, Tryz.ntmps113
    go_wp2_with (go_at_call 142; refine (HRb.out _).mono ?_; rintro e w1 ⟨rfl, hb1⟩; have H1 := hid (H0.out.2.trans (hb1.mono H0.out.2.size)); clear hb1)
    go_ret2
    exact ⟨rfl, H1.out⟩
  | true =>
    have HRb := hid (HR.out _ hR)
    rw [show rsE c = 0 by rw [rsE, hR]; rfl]
    have hc : 0 ≤ c ∧ c ≤ 8 := by simpa [rsB] using hR
    obtain ⟨C, rfl⟩ : ∃ C : Nat, c = (C : Int) := ⟨c.toNat, by omega⟩
    have HT : Hid (rsT (C : Int) f = ⟨([] ++ be 1 C ++ be 8 (canW f)).toArray⟩) := hid (by rw [rsT, hR]; rfl)
    rw [HT.out]
    have HZ := hid (And.intro (show C < 256 by omega) (canW_lt hf))
    have HKB : Hid (∀ u, Calls Tryz.prog 135 #[.float .f64 f] u fun e w' => e = .returned (.int .u64 (canW f : Nat)) ∧ w' = u) := hid (fun u => bits_any f u)
    clear hR hc hf HT
    generalize canW f = W8 at HZ HKB ⊢
    go_enter Tryz.func113, Tryz.ntmps113
    go_wp2_with (first
      | (go_at_call 142; refine (HRb.out _).mono ?_; rintro e w1 ⟨rfl, hb1⟩; have H1 := hid (And.intro (H0.out.1.keep hb1) (H0.out.2.trans (hb1.mono H0.out.2.size))); clear hb1; obtain ⟨z0, z1⟩ := H1.out.1.cells)
      | (go_at_call 66; refine (pwnew 9 (by decide) _).mono ?_; rintro e w3 ⟨rfl, h3⟩; have T0 := hid h3; clear h3; have HQ0 : Hid (RsAt w3 w.heap.size (C : Int) f) := hid ((T0.out.2.block _ (lt_of_blk H1.out.1)).trans H1.out.1); clear z0 z1; obtain ⟨z0, z1⟩ := HQ0.out.cells)
      | (go_at_call 143; refine (pwbits 9 (by decide) (by decide) _ _ _ ([] ++ be 1 C) W8 HZ.out.2 (by simp only [List.length_append, List.length_nil, be_len]; decide) (by exact T1.out)).mono ?_; rintro e w5 ⟨rfl, h5⟩; have T2 := hid h5; clear h5)
      | (go_at_call 114; refine (pwbyte 9 (by decide) (by decide) _ _ _ [] C HZ.out.1 (by decide) (by exact T0.out)).mono ?_; rintro e w4 ⟨rfl, h4⟩; have T1 := hid h4; clear h4; have HQ1 : Hid (RsAt w4 w.heap.size (C : Int) f) := hid ((T1.out.2.block _ (lt_of_blk H1.out.1)).trans H1.out.1); clear z0 z1; obtain ⟨z0, z1⟩ := HQ1.out.cells)
      | (go_at_call 135; refine (HKB.out _).mono ?_; rintro e w9 ⟨rfl, rfl⟩)
      | (go_at_call 68; refine (pwdone 9 _ _ _ _ (by exact T2.out)).mono ?_; rintro e wd ⟨rfl, hd⟩; have HDn := hid (H1.out.2.trans (hd.mono H1.out.2.size)); clear hd))
    go_ret2
    exact ⟨rfl, HDn.out⟩
end Go.Proofs.YtgmekkgbobmplaaGreat

/- What the program reads any bytes as: a request, a result. -/
namespace Go.Proofs.YtgmekkgbobmplaaGreat
open Go.RowKit

theorem rq_c {w : World} {b : Nat} {r : Rq} (h : RqAt w b r) (v : Int) : RqAt (w.setCell ⟨b, 0, none⟩ (.int .i64 v)) b { r with c := v } := (blk_set h 0 _).trans (by simp)
end Go.Proofs.YtgmekkgbobmplaaGreat

/- The program's texts of what is signed: of what is prepared, of a state. -/
namespace Go.Proofs.YtgmekkgbobmplaaGreat
open Go.RowKit

/-- Are all numbers Longs? Their bytes, one behind the other. -/
def sgB (l : List Int) : Bool := l.all (inR 4 ·)
def sgL (l : List Int) : List UInt8 := l.flatMap (fun x => be 4 x.toNat)
def sgT (m : Nat) (l : List Int) (x : ByteArray) : ByteArray := if sgB l then ⟨(be 1 m ++ sgL l).toArray⟩ ++ x else ⟨#[]⟩
def sgE (l : List Int) : Int := if sgB l then 0 else 1
theorem sg_get {l : List Int} {j : Nat} (h : j < l.length) : l[j]? = some (l.getD j 0) := by simp [h]
theorem sgL_snoc (l : List Int) (j : Nat) (hj : j < l.length) : sgL (l.take (j + 1)) = sgL (l.take j) ++ be 4 (l.getD j 0).toNat := by
  rw [List.take_add_one, sg_get hj, sgL, List.flatMap_append]
  simp [sgL]
theorem sgB_snoc (l : List Int) (j : Nat) (hj : j < l.length) : sgB (l.take (j + 1)) = (sgB (l.take j) && inR 4 (l.getD j 0)) := by
  rw [List.take_add_one, sg_get hj, sgB, List.all_append]
  simp [sgB]
theorem sgB_at {l : List Int} (h : sgB l = true) (j : Nat) (hj : j < l.length) : inR 4 (l.getD j 0) = true := by
  rw [sgB, List.all_eq_true] at h
  exact h _ (List.mem_of_getElem? (sg_get hj))
theorem sgL_len (l : List Int) : (sgL l).length = 4 * l.length := by
  induction l with
  | nil => rfl
  | cons x l ih =>
    rw [sgL, List.flatMap_cons, List.length_append, be_len, List.length_cons]
    rw [sgL] at ih
    omega
theorem wl_len (lim : Int) (l : List UInt8) (er n : Int) : (wL lim l er 4 n).length ≤ l.length + 4 := by
  rw [wL]
  split
  · rw [List.length_append, be_len]
    omega
  · omega
theorem we_er (lim : Int) (l : List UInt8) (er n : Int) (h : er ≠ 0 ∨ inR 4 n = false) : wE lim l er 4 n ≠ 0 := by
  rw [wE]
  unfold adm
  split
  · next h1 =>
    rcases h with h | h
    · exact absurd h1 h
    · rw [h]
      simp
  · next h1 => exact h1
theorem ints_new (w : World) (l : List Int) (t : TypeId) : IntsIn (w.alloc (.cells (l.map (Value.int .i64)).toArray t)) (some ⟨w.heap.size, 0, none⟩) l :=
  .inr ⟨w.heap.size, 0, rfl, by simp, fun j z hz => by
    rw [Nat.zero_add]
    exact cell_at (heap_alloc_last w _) j _ (by rw [List.getElem?_map, hz]; rfl)⟩
theorem sg_three (e v s : Int) : sgB [e, v, s] = spB e v s := by simp [sgB, spB, Bool.and_assoc]
end Go.Proofs.YtgmekkgbobmplaaGreat

/- Which text holds the contracts of deeds: here the trial's (DtA). For landed code: change this import. -/

/- The program's small tests of a message's parts. -/
namespace Go.Proofs.YtgmekkgbobmplaaGreat
open Go.RowKit

set_option maxRecDepth 100000 in
theorem iwithin_any (n a b : Int) (w : World) : Calls Tryz.prog 100 #[.int .i64 n, .int .i64 a, .int .i64 b] w fun e w' => e = .returned (.bool (inB n a b)) ∧ w' = w := by
  unfold inB
  by_cases h1 : a ≤ n
  · rw [decide_eq_true h1]
    by_cases h2 : n ≤ b
    · rw [decide_eq_true h2]
      go_enter Tryz.func100, Tryz.ntmps100
      go_wp2
      go_ret
      exact ⟨by simp, rfl⟩
    · rw [decide_eq_false h2]
      go_enter Tryz.func100, Tryz.ntmps100
      go_wp2
      go_ret
      exact ⟨by simp <;> omega, rfl⟩
  · rw [decide_eq_false h1]
    have hd : decide (a ≤ n) = false := decide_eq_false h1
    go_enter Tryz.func100, Tryz.ntmps100
    go_wp2
    go_ret
    exact ⟨by simp, rfl⟩
set_option maxRecDepth 100000 in
theorem ikind_any (n : Int) (w : World) : Calls Tryz.prog 64 #[.int .i64 n] w fun e w' => e = .returned (.bool (inB n 1 10)) ∧ w' = w := by
  unfold inB
  by_cases h1 : 1 ≤ n
  · rw [decide_eq_true h1]
    by_cases h2 : n ≤ 10
    · rw [decide_eq_true h2]
      go_enter Tryz.func64, Tryz.ntmps64
      go_wp2
      go_ret
      exact ⟨by simp, rfl⟩
    · rw [decide_eq_false h2]
      go_enter Tryz.func64, Tryz.ntmps64
      go_wp2
      go_ret
      exact ⟨by simp <;> omega, rfl⟩
  · rw [decide_eq_false h1]
    have hd : decide (1 ≤ n) = false := decide_eq_false h1
    go_enter Tryz.func64, Tryz.ntmps64
    go_wp2
    go_ret
    exact ⟨by simp, rfl⟩
set_option maxRecDepth 100000 in
theorem iend_any (e : Int) (h0 : -1 ≤ e) (h1 : e ≤ 60) (w : World) : Calls Tryz.prog 107 #[.int .i64 e] w fun r w' => r = .returned (.int .i64 (4 * (e + 1))) ∧ w' = w := by
  go_enter Tryz.func107, Tryz.ntmps107
  go_wp2
  go_ret
  exact ⟨rfl, rfl⟩
set_option maxRecDepth 100000 in
theorem iview_any (v : Int) (w : World) : Calls Tryz.prog 137 #[.int .i64 v] w fun r w' => r = .returned (.bool (inB v 0 15)) ∧ w' = w := by
  go_enter Tryz.func137, Tryz.ntmps137
  go_wp2_with (go_at_call 100; refine (iwithin_any _ _ _ _).mono ?_; rintro e w1 ⟨rfl, hw⟩; replace hw := hw.symm; subst hw)
  go_ret
  exact ⟨rfl, rfl⟩
set_option maxRecDepth 100000 in
set_option maxHeartbeats 1600000 in
theorem iof_any (e s : Int) (h0 : 0 ≤ e) (h1 : e ≤ 60) (w : World) : Calls Tryz.prog 138 #[.int .i64 e, .int .i64 s] w fun r w' => r = .returned (.bool (ofB e s)) ∧ w' = w := by
  unfold ofB
  have HA : Hid (∀ u : World, Calls Tryz.prog 107 #[.int .i64 (e - 1)] u fun r w' => r = .returned (.int .i64 (4 * e)) ∧ w' = u) := hid (fun u => by have := iend_any (e - 1) (by omega) (by omega) u; rw [show e - 1 + 1 = e by omega] at this; exact this)
  have HB : Hid (∀ u : World, Calls Tryz.prog 107 #[.int .i64 e] u fun r w' => r = .returned (.int .i64 (4 * (e + 1))) ∧ w' = u) := hid (fun u => iend_any e (by omega) h1 u)
  by_cases h2 : 4 * e < s
  · rw [decide_eq_true h2]
    go_enter Tryz.func138, Tryz.ntmps138
    go_wp2_with (first
      | (have := H1; go_at_call 107; refine (HB.out _).mono ?_; rintro e w2 ⟨rfl, hw⟩; replace hw := hw.symm; subst hw)
      | (go_at_call 107; refine (HA.out _).mono ?_; rintro e w1 ⟨rfl, hw⟩; replace hw := hw.symm; subst hw; have H1 := hid trivial))
    go_ret
    exact ⟨by simp, rfl⟩
  · rw [decide_eq_false h2]
    have hd : decide (4 * e < s) = false := decide_eq_false h2
    go_enter Tryz.func138, Tryz.ntmps138
    go_wp2_with (first
      | (go_at_call 107; refine (HA.out _).mono ?_; rintro e w1 ⟨rfl, hw⟩; replace hw := hw.symm; subst hw; have H1 := hid trivial))
    go_ret
    exact ⟨by simp, rfl⟩
set_option maxRecDepth 100000 in
theorem isig_any (p : Sg) (w : World) : Calls Tryz.prog 141 #[.agg #[.int .i64 p.1, .string p.2]] w fun r w' => r = .returned (.bool (sigB p)) ∧ Below w.heap.size w w' := by
  go_enter Tryz.func141, Tryz.ntmps141
  go_wp2_with (go_at_call 100; refine (iwithin_any _ _ _ _).mono ?_; rintro e w1 ⟨rfl, hw⟩; replace hw := hw.symm; subst hw)
  go_ret
  exact ⟨rfl, (Below.refl w.heap.size w).alloc (Nat.le_refl _) _⟩
set_option maxRecDepth 100000 in
set_option maxHeartbeats 1600000 in
theorem ideed_any (r : Rq) (w : World) : Calls Tryz.prog 105 #[.agg #[.int .i64 r.c, .int .i64 r.st, .int .i64 r.k, .string r.key, .float .f64 r.b, .int .i64 r.id]] w fun e w' => e = .returned (.bool (askB r)) ∧ Below w.heap.size w w' := by
  have H0 : Hid (RqAt (w.alloc (.cells #[.int .i64 r.c, .int .i64 r.st, .int .i64 r.k, .string r.key, .float .f64 r.b, .int .i64 r.id] 41)) w.heap.size r ∧ Below w.heap.size w (w.alloc (.cells #[.int .i64 r.c, .int .i64 r.st, .int .i64 r.k, .string r.key, .float .f64 r.b, .int .i64 r.id] 41))) := hid ⟨heap_alloc_last w _, (Below.refl w.heap.size w).alloc (Nat.le_refl _) _⟩
  obtain ⟨⟨y0, y1⟩, y2, y3, y4, y5⟩ := H0.out.1.cells
  have HR : Hid (∀ u : World, Calls Tryz.prog 102 #[.agg #[.int .i64 r.c, .int .i64 r.st, .int .i64 r.k, .string r.key, .float .f64 r.b, .int .i64 r.id]] u fun e w' => e = .returned (.bool (rightB r)) ∧ Below u.heap.size u w') := hid (fun u => dright_any r u)
  have HN : Hid (∀ u : World, Calls Tryz.prog 134 #[.agg #[.int .i64 r.c, .int .i64 r.st, .int .i64 r.k, .string r.key, .float .f64 r.b, .int .i64 r.id]] u fun e w' => e = .returned (.bool (nullB r)) ∧ Below u.heap.size u w') := hid (fun u => dnull_any r u)
  rw [askB]
  cases hr : rightB r with
  | true =>
    rw [hr] at HR
    clear hr
    go_enter Tryz.func105, Tryz.ntmps105
    go_wp2_with (first
      | (go_at_call 102; refine (HR.out _).mono ?_; rintro e w1 ⟨rfl, hb⟩; have H1 := hid (H0.out.2.trans (hb.mono H0.out.2.size)); clear hb))
    go_ret
    exact ⟨by simp, H1.out⟩
  | false =>
    rw [hr] at HR
    clear hr
    go_enter Tryz.func105, Tryz.ntmps105
    go_wp2_with (first
      | (go_at_call 134; refine (HN.out _).mono ?_; rintro e w2 ⟨rfl, hb⟩; have H2 := hid (H1.out.2.trans (hb.mono H1.out.2.size)); clear hb)
      | (go_at_call 102; refine (HR.out _).mono ?_; rintro e w1 ⟨rfl, hb⟩; have H1 := hid (And.intro (H0.out.1.keep hb) (H0.out.2.trans (hb.mono H0.out.2.size))); clear hb y0 y1 y2 y3 y4 y5; obtain ⟨⟨y0, y1⟩, y2, y3, y4, y5⟩ := H1.out.1.cells))
    go_ret
    exact ⟨by simp, H2.out⟩
set_option maxRecDepth 100000 in
theorem iaskers_any (r : Rq) (w : World) : Calls Tryz.prog 106 #[.agg #[.int .i64 r.c, .int .i64 r.st, .int .i64 r.k, .string r.key, .float .f64 r.b, .int .i64 r.id]] w fun e w' => e = .returned (.int .i64 ((if nullB r then 0 else 1 : Nat) : Int)) ∧ Below w.heap.size w w' := by
  have H0 : Hid (RqAt (w.alloc (.cells #[.int .i64 r.c, .int .i64 r.st, .int .i64 r.k, .string r.key, .float .f64 r.b, .int .i64 r.id] 41)) w.heap.size r ∧ Below w.heap.size w (w.alloc (.cells #[.int .i64 r.c, .int .i64 r.st, .int .i64 r.k, .string r.key, .float .f64 r.b, .int .i64 r.id] 41))) := hid ⟨heap_alloc_last w _, (Below.refl w.heap.size w).alloc (Nat.le_refl _) _⟩
  obtain ⟨⟨y0, y1⟩, y2, y3, y4, y5⟩ := H0.out.1.cells
  have HN : Hid (∀ u : World, Calls Tryz.prog 134 #[.agg #[.int .i64 r.c, .int .i64 r.st, .int .i64 r.k, .string r.key, .float .f64 r.b, .int .i64 r.id]] u fun e w' => e = .returned (.bool (nullB r)) ∧ Below u.heap.size u w') := hid (fun u => dnull_any r u)
  cases hr : nullB r with
  | true =>
    rw [hr] at HN
    clear hr
    go_enter Tryz.func106, Tryz.ntmps106
    go_wp2_with (go_at_call 134; refine (HN.out _).mono ?_; rintro e w1 ⟨rfl, hb⟩; have H1 := hid (H0.out.2.trans (hb.mono H0.out.2.size)); clear hb)
    go_ret
    exact ⟨rfl, H1.out⟩
  | false =>
    rw [hr] at HN
    clear hr
    go_enter Tryz.func106, Tryz.ntmps106
    go_wp2_with (go_at_call 134; refine (HN.out _).mono ?_; rintro e w1 ⟨rfl, hb⟩; have H1 := hid (H0.out.2.trans (hb.mono H0.out.2.size)); clear hb)
    go_ret
    exact ⟨rfl, H1.out⟩
set_option maxRecDepth 100000 in
theorem imembers_any (a : Option Addr) (n cap : Nat) (l : List Int) (hn : l.length = n) (hm : n ≤ maxLen) (w : World) (hI : IntsIn w a l) : Calls Tryz.prog 108 #[.slice a n cap] w fun e w' => e = .returned (.bool (memB l)) ∧ Below w.heap.size w w' := by
  have HC : Hid (Calls Tryz.prog 139 #[.agg #[.int .i64 0, .slice a n cap]] w fun e w' => e = .returned (.bool (memB l)) ∧ Below w.heap.size w w') := hid (by
    have := cright_any 0 a n cap l hn hm w hI
    rw [show rightC 0 l = memB l by simp [rightC]] at this
    exact this)
  clear hn hm hI
  go_enter Tryz.func108, Tryz.ntmps108
  go_wp2_with (go_at_call 139; refine (HC.out).mono ?_; rintro e w1 ⟨rfl, hb⟩; have H1 := hid hb; clear hb)
  go_ret
  exact ⟨rfl, H1.out⟩
set_option maxRecDepth 100000 in
theorem iresult_any (c : Int) (f : Nat) (hf : f < 18446744073709551616) (w : World) : Calls Tryz.prog 110 #[.agg #[.int .i64 c, .float .f64 f]] w fun e w' => e = .returned (.bool (rsB c)) ∧ Below w.heap.size w w' := by
  have H0 : Hid (RsAt (w.alloc (.cells #[.int .i64 c, .float .f64 f] 43)) w.heap.size c f ∧ Below w.heap.size w (w.alloc (.cells #[.int .i64 c, .float .f64 f] 43))) := hid ⟨heap_alloc_last w _, (Below.refl w.heap.size w).alloc (Nat.le_refl _) _⟩
  obtain ⟨y0, y1⟩ := H0.out.1.cells
  have HT : Hid (∀ u : World, Calls Tryz.prog 113 #[.agg #[.int .i64 c, .float .f64 f]] u fun e w' => e = .returned (.tuple #[.string (rsT c f), .int .i64 (rsE c)]) ∧ Below u.heap.size u w') := hid (fun u => dresultText_any c f hf u)
  clear hf
  cases hr : rsB c with
  | true =>
    rw [show rsE c = 0 by rw [rsE, hr]; rfl] at HT
    clear hr
    go_enter Tryz.func110, Tryz.ntmps110
    go_wp2_with (go_at_call 113; refine (HT.out _).mono ?_; rintro e w1 ⟨rfl, hb⟩; have H1 := hid (H0.out.2.trans (hb.mono H0.out.2.size)); clear hb)
    go_ret
    exact ⟨by simp, H1.out⟩
  | false =>
    rw [show rsE c = 1 by rw [rsE, hr]; rfl] at HT
    clear hr
    go_enter Tryz.func110, Tryz.ntmps110
    go_wp2_with (go_at_call 113; refine (HT.out _).mono ?_; rintro e w1 ⟨rfl, hb⟩; have H1 := hid (H0.out.2.trans (hb.mono H0.out.2.size)); clear hb)
    go_ret
    exact ⟨by simp, H1.out⟩
end Go.Proofs.YtgmekkgbobmplaaGreat

/- The program's tests of signatures. -/
namespace Go.Proofs.YtgmekkgbobmplaaGreat
open Go.RowKit

set_option maxRecDepth 100000 in
set_option maxHeartbeats 3200000 in
theorem ifitSigs_any (a : Option Addr) (n cap : Nat) (l : List Sg) (hn : l.length = n) (hm : n ≤ maxLen) (w : World) (hP : PairsIn w a l) : Calls Tryz.prog 112 #[.slice a n cap] w fun e w' => e = .returned (.bool (sigsB l)) ∧ Below w.heap.size w w' := by
  obtain ⟨V, eV⟩ : ∃ V, V = sigsB l := ⟨_, rfl⟩
  rw [← eV]
  have hmi : (n : Int) ≤ 9223372036854775807 := by unfold maxLen at hm; omega
  by_cases h16 : 16 < n
  · have h16i : (16 : Int) < (n : Int) := by omega
    have hf : V = false := by rw [eV, sigsB, decide_eq_false (by omega)]; rfl
    subst hf
    clear eV hP hn hm h16
    go_enter Tryz.func112, Tryz.ntmps112
    go_wp2
    go_ret
    exact ⟨rfl, Below.refl _ _⟩
  · have h16i : ¬ ((16 : Int) < (n : Int)) := by omega
    have HV : Hid (V = allTo (fun i => sigB (l.getD i sg0)) n) := hid (by rw [eV, sigsB, decide_eq_true (by omega), hn]; rfl)
    have HP := hid hP
    have HN := hid hn
    have HL : Hid (n ≤ 16) := hid (by omega)
    clear eV hP hn hm h16
    go_enter Tryz.func112, Tryz.ntmps112
    go_wp2
    go_loopw [10] (fun i wr => ∃ j : Nat, j ≤ n ∧ i = .int .i64 (j : Int) ∧ allTo (fun i => sigB (l.getD i sg0)) j = true ∧ Below w.heap.size w wr)
      (fun i _ => ((n : Int) - intOf i).toNat)
    case atStart => exact ⟨0, Nat.zero_le _, rfl, rfl, Below.refl _ _⟩
    case round =>
      obtain ⟨j, hj, rfl, hok, hB⟩ := hrel
      have HB := hid hB
      have HOk := hid hok
      clear hok hB
      have hj0 : (0 : Int) ≤ (j : Int) := Int.natCast_nonneg _
      by_cases hjn : j = n
      · have hj1 : ¬ ((j : Int) < (n : Int)) := by omega
        have hv : Hid (V = true) := hid (by rw [HV.out, ← hjn]; exact HOk.out)
        clear hj hjn
        go_wp2
        go_ret
        exact ⟨by rw [hv.out]; rfl, HB.out⟩
      · have hj1 : (j : Int) < (n : Int) := by omega
        have hjl : j < l.length := by have := HN.out; omega
        obtain ⟨g, off, rfl, hc1, hc2⟩ : ∃ g off, a = some ⟨g, off, none⟩ ∧ wr.cell? ⟨g, off + j * 2, none⟩ = some (.int .i64 (l.getD j sg0).1) ∧ wr.cell? ⟨g, off + j * 2 + 1, none⟩ = some (.string (l.getD j sg0).2) := by
          rcases HP.out with e | ⟨g, off, ha, hg, hc⟩
          · rw [e] at hjl; simp at hjl
          · have hx : l[j]? = some (l.getD j sg0) := by simp [hjl]
            obtain ⟨k1, k2⟩ := hc j _ hx
            exact ⟨g, off, ha, (World.cell?_of_block (a := ⟨g, off + j * 2, none⟩) (HB.out.block g hg)).trans k1, (World.cell?_of_block (a := ⟨g, off + j * 2 + 1, none⟩) (HB.out.block g hg)).trans k2⟩
        have HJ := hid (And.intro hj hjn)
        have HS : Hid (∀ u : World, Calls Tryz.prog 141 #[.agg #[.int .i64 (l.getD j sg0).1, .string (l.getD j sg0).2]] u fun r w' => r = .returned (.bool (sigB (l.getD j sg0))) ∧ Below u.heap.size u w') := hid (fun u => isig_any (l.getD j sg0) u)
        have HFa : Hid (sigB (l.getD j sg0) = false → V = false) := hid (fun e => by rw [HV.out]; exact allTo_no j (by omega) e)
        have HTr : Hid (sigB (l.getD j sg0) = true → allTo (fun i => sigB (l.getD i sg0)) (j + 1) = true) := hid (fun e => by rw [allTo, HOk.out, e]; rfl)
        generalize l.getD j sg0 = p at hc1 hc2 HS HFa HTr
        clear hj hjn hjl
        cases hp : sigB p with
        | true =>
          rw [hp] at HS
          have HT := hid (HTr.out hp)
          clear hp
          go_wp2_with (go_at_call 141; refine (HS.out _).mono ?_; rintro e w2 ⟨rfl, hb⟩; have H2 := hid ((HB.out.alloc (HB.out.size) (.cells #[.int .i64 p.1, .string p.2] 87)).trans (hb.mono (by have := HB.out.size; simp; omega))); clear hb)
          go_roundw
          case rel => exact ⟨j + 1, by have := HJ.out; omega, by go_num, HT.out, H2.out⟩
          case measure => simp [intOf]; omega
        | false =>
          rw [hp] at HS
          have hf := hid (HFa.out hp)
          clear hp
          go_wp2_with (go_at_call 141; refine (HS.out _).mono ?_; rintro e w2 ⟨rfl, hb⟩; have H2 := hid ((HB.out.alloc (HB.out.size) (.cells #[.int .i64 p.1, .string p.2] 87)).trans (hb.mono (by have := HB.out.size; simp; omega))); clear hb)
          go_ret
          exact ⟨by rw [hf.out]; rfl, H2.out⟩
set_option maxRecDepth 100000 in
theorem iareSigs_any (a : Option Addr) (n cap : Nat) (l : List Sg) (hn : l.length = n) (hm : n ≤ maxLen) (k : Nat) (w : World) (hP : PairsIn w a l) : Calls Tryz.prog 103 #[.slice a n cap, .int .i64 (k : Int)] w fun e w' => e = .returned (.bool (oneB l k)) ∧ Below w.heap.size w w' := by
  have HF : Hid (Calls Tryz.prog 112 #[.slice a n cap] w fun e w' => e = .returned (.bool (sigsB l)) ∧ Below w.heap.size w w') := hid (ifitSigs_any a n cap l hn hm w hP)
  rw [oneB, hn]
  clear hm hP
  by_cases h : n = k
  · have hb : ((n : Int) == (k : Int)) = true := by rw [h]; simp
    have hi : (n : Int) = (k : Int) := by omega
    rw [decide_eq_true h, Bool.true_and]
    clear h
    go_enter Tryz.func103, Tryz.ntmps103
    go_wp2_with (go_at_call 112; refine (HF.out).mono ?_; rintro e w1 ⟨rfl, hb⟩; have H1 := hid hb; clear hb)
    go_ret
    exact ⟨rfl, H1.out⟩
  · have hi : ¬ ((n : Int) = (k : Int)) := by omega
    have hb : ((n : Int) == (k : Int)) = false := by simpa using hi
    have hd : decide (n = k) = false := decide_eq_false h
    rw [decide_eq_false h, Bool.false_and]
    go_enter Tryz.func103, Tryz.ntmps103
    go_wp2
    go_ret
    exact ⟨by simp, Below.refl _ _⟩
end Go.Proofs.YtgmekkgbobmplaaGreat

/- The program's tests of certificates and changes. -/
namespace Go.Proofs.YtgmekkgbobmplaaGreat
open Go.RowKit

set_option maxRecDepth 100000 in
set_option maxHeartbeats 3200000 in
theorem icert_any (ep : Int) (h0 : 0 ≤ ep) (h1 : ep ≤ 60) (c : Ct) (a : Option Addr) (n cap : Nat) (hn : c.2.2.2.length = n) (hm : n ≤ maxLen) (w : World) (hP : PairsIn w a c.2.2.2) :
    Calls Tryz.prog 170 #[.int .i64 ep, .agg #[.int .i64 c.1, .int .i64 c.2.1, .int .i64 c.2.2.1.c, .int .i64 c.2.2.1.st, .int .i64 c.2.2.1.k, .string c.2.2.1.key, .float .f64 c.2.2.1.b, .int .i64 c.2.2.1.id, .slice a n cap]] w fun e w' => e = .returned (.bool (ctB ep c)) ∧ Below w.heap.size w w' := by
  have H0 : Hid (BxAt (w.alloc (.cells #[.int .i64 c.1, .int .i64 c.2.1, .int .i64 c.2.2.1.c, .int .i64 c.2.2.1.st, .int .i64 c.2.2.1.k, .string c.2.2.1.key, .float .f64 c.2.2.1.b, .int .i64 c.2.2.1.id, .slice a n cap] 92)) w.heap.size [.int .i64 c.1, .int .i64 c.2.1, .int .i64 c.2.2.1.c, .int .i64 c.2.2.1.st, .int .i64 c.2.2.1.k, .string c.2.2.1.key, .float .f64 c.2.2.1.b, .int .i64 c.2.2.1.id, .slice a n cap] 92 ∧ Below w.heap.size w (w.alloc (.cells #[.int .i64 c.1, .int .i64 c.2.1, .int .i64 c.2.2.1.c, .int .i64 c.2.2.1.st, .int .i64 c.2.2.1.k, .string c.2.2.1.key, .float .f64 c.2.2.1.b, .int .i64 c.2.2.1.id, .slice a n cap] 92))) := hid ⟨heap_alloc_last w _, (Below.refl w.heap.size w).alloc (Nat.le_refl _) _⟩
  have y0 := H0.out.1.cell 0 _ rfl; have y1 := H0.out.1.cell 1 _ rfl; have y2 := H0.out.1.cell 2 _ rfl; have y3 := H0.out.1.cell 3 _ rfl; have y4 := H0.out.1.cell 4 _ rfl; have y5 := H0.out.1.cell 5 _ rfl; have y6 := H0.out.1.cell 6 _ rfl; have y7 := H0.out.1.cell 7 _ rfl; have y8 := H0.out.1.cell 8 _ rfl
  obtain ⟨B1, e1⟩ : ∃ B, B = inB c.1 0 15 := ⟨_, rfl⟩
  have HT1 : Hid (∀ u : World, Below w.heap.size w u → Calls Tryz.prog 137 #[.int .i64 c.1] u fun e w' => e = .returned (.bool B1) ∧ Below u.heap.size u w') := hid (fun u hu => by rw [e1]; exact (iview_any _ u).mono fun e w' ⟨h1, h2⟩ => ⟨h1, by rw [h2]; exact Below.refl _ _⟩)
  obtain ⟨B2, e2⟩ : ∃ B, B = ofB ep c.2.1 := ⟨_, rfl⟩
  have HT2 : Hid (∀ u : World, Below w.heap.size w u → Calls Tryz.prog 138 #[.int .i64 ep, .int .i64 c.2.1] u fun e w' => e = .returned (.bool B2) ∧ Below u.heap.size u w') := hid (fun u hu => by rw [e2]; exact (iof_any ep _ h0 h1 u).mono fun e w' ⟨h1, h2⟩ => ⟨h1, by rw [h2]; exact Below.refl _ _⟩)
  obtain ⟨B3, e3⟩ : ∃ B, B = askB c.2.2.1 := ⟨_, rfl⟩
  have HT3 : Hid (∀ u : World, Below w.heap.size w u → Calls Tryz.prog 105 #[.agg #[.int .i64 c.2.2.1.c, .int .i64 c.2.2.1.st, .int .i64 c.2.2.1.k, .string c.2.2.1.key, .float .f64 c.2.2.1.b, .int .i64 c.2.2.1.id]] u fun e w' => e = .returned (.bool B3) ∧ Below u.heap.size u w') := hid (fun u hu => by rw [e3]; exact ideed_any _ u)
  obtain ⟨B4, e4⟩ : ∃ B, B = sigsB c.2.2.2 := ⟨_, rfl⟩
  have HT4 : Hid (∀ u : World, Below w.heap.size w u → Calls Tryz.prog 112 #[.slice a n cap] u fun e w' => e = .returned (.bool B4) ∧ Below u.heap.size u w') := hid (fun u hu => by rw [e4]; exact ifitSigs_any a n cap _ hn hm u (hP.keep hu (Nat.le_refl _)))
  rw [show ctB ep c = ((B1 && B2) && (B3 && B4)) by rw [e1, e2, e3, e4]; rfl]
  clear e1 e2 e3 e4 hP hn hm h0 h1
  cases B1 with
  | false =>
    go_enter Tryz.func170, Tryz.ntmps170
    go_wp2_with (first
      | (have := H0; go_at_call 137; refine (HT1.out _ H0.out.2).mono ?_; rintro e w1 ⟨rfl, hb⟩; have H1 := hid (And.intro (H0.out.1.keep hb) (H0.out.2.trans (hb.mono H0.out.2.size))); clear hb y0 y1 y2 y3 y4 y5 y6 y7 y8; have y0 := H1.out.1.cell 0 _ rfl; have y1 := H1.out.1.cell 1 _ rfl; have y2 := H1.out.1.cell 2 _ rfl; have y3 := H1.out.1.cell 3 _ rfl; have y4 := H1.out.1.cell 4 _ rfl; have y5 := H1.out.1.cell 5 _ rfl; have y6 := H1.out.1.cell 6 _ rfl; have y7 := H1.out.1.cell 7 _ rfl; have y8 := H1.out.1.cell 8 _ rfl))
    go_ret
    exact ⟨by simp, H1.out.2⟩
  | true =>
    cases B2 with
    | false =>
      go_enter Tryz.func170, Tryz.ntmps170
      go_wp2_with (first
        | (have := H1; go_at_call 138; refine (HT2.out _ H1.out.2).mono ?_; rintro e w2 ⟨rfl, hb⟩; have H2 := hid (And.intro (H1.out.1.keep hb) (H1.out.2.trans (hb.mono H1.out.2.size))); clear hb y0 y1 y2 y3 y4 y5 y6 y7 y8; have y0 := H2.out.1.cell 0 _ rfl; have y1 := H2.out.1.cell 1 _ rfl; have y2 := H2.out.1.cell 2 _ rfl; have y3 := H2.out.1.cell 3 _ rfl; have y4 := H2.out.1.cell 4 _ rfl; have y5 := H2.out.1.cell 5 _ rfl; have y6 := H2.out.1.cell 6 _ rfl; have y7 := H2.out.1.cell 7 _ rfl; have y8 := H2.out.1.cell 8 _ rfl)
        | (have := H0; go_at_call 137; refine (HT1.out _ H0.out.2).mono ?_; rintro e w1 ⟨rfl, hb⟩; have H1 := hid (And.intro (H0.out.1.keep hb) (H0.out.2.trans (hb.mono H0.out.2.size))); clear hb y0 y1 y2 y3 y4 y5 y6 y7 y8; have y0 := H1.out.1.cell 0 _ rfl; have y1 := H1.out.1.cell 1 _ rfl; have y2 := H1.out.1.cell 2 _ rfl; have y3 := H1.out.1.cell 3 _ rfl; have y4 := H1.out.1.cell 4 _ rfl; have y5 := H1.out.1.cell 5 _ rfl; have y6 := H1.out.1.cell 6 _ rfl; have y7 := H1.out.1.cell 7 _ rfl; have y8 := H1.out.1.cell 8 _ rfl))
      go_ret
      exact ⟨by simp, H2.out.2⟩
    | true =>
      cases B3 with
      | false =>
        go_enter Tryz.func170, Tryz.ntmps170
        go_wp2_with (first
          | (have := H2; go_at_call 105; refine (HT3.out _ H2.out.2).mono ?_; rintro e w3 ⟨rfl, hb⟩; have H3 := hid (And.intro (H2.out.1.keep hb) (H2.out.2.trans (hb.mono H2.out.2.size))); clear hb y0 y1 y2 y3 y4 y5 y6 y7 y8; have y0 := H3.out.1.cell 0 _ rfl; have y1 := H3.out.1.cell 1 _ rfl; have y2 := H3.out.1.cell 2 _ rfl; have y3 := H3.out.1.cell 3 _ rfl; have y4 := H3.out.1.cell 4 _ rfl; have y5 := H3.out.1.cell 5 _ rfl; have y6 := H3.out.1.cell 6 _ rfl; have y7 := H3.out.1.cell 7 _ rfl; have y8 := H3.out.1.cell 8 _ rfl)
          | (have := H1; go_at_call 138; refine (HT2.out _ H1.out.2).mono ?_; rintro e w2 ⟨rfl, hb⟩; have H2 := hid (And.intro (H1.out.1.keep hb) (H1.out.2.trans (hb.mono H1.out.2.size))); clear hb y0 y1 y2 y3 y4 y5 y6 y7 y8; have y0 := H2.out.1.cell 0 _ rfl; have y1 := H2.out.1.cell 1 _ rfl; have y2 := H2.out.1.cell 2 _ rfl; have y3 := H2.out.1.cell 3 _ rfl; have y4 := H2.out.1.cell 4 _ rfl; have y5 := H2.out.1.cell 5 _ rfl; have y6 := H2.out.1.cell 6 _ rfl; have y7 := H2.out.1.cell 7 _ rfl; have y8 := H2.out.1.cell 8 _ rfl)
          | (have := H0; go_at_call 137; refine (HT1.out _ H0.out.2).mono ?_; rintro e w1 ⟨rfl, hb⟩; have H1 := hid (And.intro (H0.out.1.keep hb) (H0.out.2.trans (hb.mono H0.out.2.size))); clear hb y0 y1 y2 y3 y4 y5 y6 y7 y8; have y0 := H1.out.1.cell 0 _ rfl; have y1 := H1.out.1.cell 1 _ rfl; have y2 := H1.out.1.cell 2 _ rfl; have y3 := H1.out.1.cell 3 _ rfl; have y4 := H1.out.1.cell 4 _ rfl; have y5 := H1.out.1.cell 5 _ rfl; have y6 := H1.out.1.cell 6 _ rfl; have y7 := H1.out.1.cell 7 _ rfl; have y8 := H1.out.1.cell 8 _ rfl))
        go_ret
        exact ⟨by simp, H3.out.2⟩
      | true =>
        cases B4 with
        | false =>
          go_enter Tryz.func170, Tryz.ntmps170
          go_wp2_with (first
            | (have := H3; go_at_call 112; refine (HT4.out _ H3.out.2).mono ?_; rintro e w4 ⟨rfl, hb⟩; have H4 := hid (And.intro (H3.out.1.keep hb) (H3.out.2.trans (hb.mono H3.out.2.size))); clear hb y0 y1 y2 y3 y4 y5 y6 y7 y8; have y0 := H4.out.1.cell 0 _ rfl; have y1 := H4.out.1.cell 1 _ rfl; have y2 := H4.out.1.cell 2 _ rfl; have y3 := H4.out.1.cell 3 _ rfl; have y4 := H4.out.1.cell 4 _ rfl; have y5 := H4.out.1.cell 5 _ rfl; have y6 := H4.out.1.cell 6 _ rfl; have y7 := H4.out.1.cell 7 _ rfl; have y8 := H4.out.1.cell 8 _ rfl)
            | (have := H2; go_at_call 105; refine (HT3.out _ H2.out.2).mono ?_; rintro e w3 ⟨rfl, hb⟩; have H3 := hid (And.intro (H2.out.1.keep hb) (H2.out.2.trans (hb.mono H2.out.2.size))); clear hb y0 y1 y2 y3 y4 y5 y6 y7 y8; have y0 := H3.out.1.cell 0 _ rfl; have y1 := H3.out.1.cell 1 _ rfl; have y2 := H3.out.1.cell 2 _ rfl; have y3 := H3.out.1.cell 3 _ rfl; have y4 := H3.out.1.cell 4 _ rfl; have y5 := H3.out.1.cell 5 _ rfl; have y6 := H3.out.1.cell 6 _ rfl; have y7 := H3.out.1.cell 7 _ rfl; have y8 := H3.out.1.cell 8 _ rfl)
            | (have := H1; go_at_call 138; refine (HT2.out _ H1.out.2).mono ?_; rintro e w2 ⟨rfl, hb⟩; have H2 := hid (And.intro (H1.out.1.keep hb) (H1.out.2.trans (hb.mono H1.out.2.size))); clear hb y0 y1 y2 y3 y4 y5 y6 y7 y8; have y0 := H2.out.1.cell 0 _ rfl; have y1 := H2.out.1.cell 1 _ rfl; have y2 := H2.out.1.cell 2 _ rfl; have y3 := H2.out.1.cell 3 _ rfl; have y4 := H2.out.1.cell 4 _ rfl; have y5 := H2.out.1.cell 5 _ rfl; have y6 := H2.out.1.cell 6 _ rfl; have y7 := H2.out.1.cell 7 _ rfl; have y8 := H2.out.1.cell 8 _ rfl)
            | (have := H0; go_at_call 137; refine (HT1.out _ H0.out.2).mono ?_; rintro e w1 ⟨rfl, hb⟩; have H1 := hid (And.intro (H0.out.1.keep hb) (H0.out.2.trans (hb.mono H0.out.2.size))); clear hb y0 y1 y2 y3 y4 y5 y6 y7 y8; have y0 := H1.out.1.cell 0 _ rfl; have y1 := H1.out.1.cell 1 _ rfl; have y2 := H1.out.1.cell 2 _ rfl; have y3 := H1.out.1.cell 3 _ rfl; have y4 := H1.out.1.cell 4 _ rfl; have y5 := H1.out.1.cell 5 _ rfl; have y6 := H1.out.1.cell 6 _ rfl; have y7 := H1.out.1.cell 7 _ rfl; have y8 := H1.out.1.cell 8 _ rfl))
          go_ret
          exact ⟨by simp, H4.out.2⟩
        | true =>
          go_enter Tryz.func170, Tryz.ntmps170
          go_wp2_with (first
            | (have := H3; go_at_call 112; refine (HT4.out _ H3.out.2).mono ?_; rintro e w4 ⟨rfl, hb⟩; have H4 := hid (And.intro (H3.out.1.keep hb) (H3.out.2.trans (hb.mono H3.out.2.size))); clear hb y0 y1 y2 y3 y4 y5 y6 y7 y8; have y0 := H4.out.1.cell 0 _ rfl; have y1 := H4.out.1.cell 1 _ rfl; have y2 := H4.out.1.cell 2 _ rfl; have y3 := H4.out.1.cell 3 _ rfl; have y4 := H4.out.1.cell 4 _ rfl; have y5 := H4.out.1.cell 5 _ rfl; have y6 := H4.out.1.cell 6 _ rfl; have y7 := H4.out.1.cell 7 _ rfl; have y8 := H4.out.1.cell 8 _ rfl)
            | (have := H2; go_at_call 105; refine (HT3.out _ H2.out.2).mono ?_; rintro e w3 ⟨rfl, hb⟩; have H3 := hid (And.intro (H2.out.1.keep hb) (H2.out.2.trans (hb.mono H2.out.2.size))); clear hb y0 y1 y2 y3 y4 y5 y6 y7 y8; have y0 := H3.out.1.cell 0 _ rfl; have y1 := H3.out.1.cell 1 _ rfl; have y2 := H3.out.1.cell 2 _ rfl; have y3 := H3.out.1.cell 3 _ rfl; have y4 := H3.out.1.cell 4 _ rfl; have y5 := H3.out.1.cell 5 _ rfl; have y6 := H3.out.1.cell 6 _ rfl; have y7 := H3.out.1.cell 7 _ rfl; have y8 := H3.out.1.cell 8 _ rfl)
            | (have := H1; go_at_call 138; refine (HT2.out _ H1.out.2).mono ?_; rintro e w2 ⟨rfl, hb⟩; have H2 := hid (And.intro (H1.out.1.keep hb) (H1.out.2.trans (hb.mono H1.out.2.size))); clear hb y0 y1 y2 y3 y4 y5 y6 y7 y8; have y0 := H2.out.1.cell 0 _ rfl; have y1 := H2.out.1.cell 1 _ rfl; have y2 := H2.out.1.cell 2 _ rfl; have y3 := H2.out.1.cell 3 _ rfl; have y4 := H2.out.1.cell 4 _ rfl; have y5 := H2.out.1.cell 5 _ rfl; have y6 := H2.out.1.cell 6 _ rfl; have y7 := H2.out.1.cell 7 _ rfl; have y8 := H2.out.1.cell 8 _ rfl)
            | (have := H0; go_at_call 137; refine (HT1.out _ H0.out.2).mono ?_; rintro e w1 ⟨rfl, hb⟩; have H1 := hid (And.intro (H0.out.1.keep hb) (H0.out.2.trans (hb.mono H0.out.2.size))); clear hb y0 y1 y2 y3 y4 y5 y6 y7 y8; have y0 := H1.out.1.cell 0 _ rfl; have y1 := H1.out.1.cell 1 _ rfl; have y2 := H1.out.1.cell 2 _ rfl; have y3 := H1.out.1.cell 3 _ rfl; have y4 := H1.out.1.cell 4 _ rfl; have y5 := H1.out.1.cell 5 _ rfl; have y6 := H1.out.1.cell 6 _ rfl; have y7 := H1.out.1.cell 7 _ rfl; have y8 := H1.out.1.cell 8 _ rfl))
          go_ret
          exact ⟨by simp, H4.out.2⟩
end Go.Proofs.YtgmekkgbobmplaaGreat

/- The document's test of two lists of certificates. -/
namespace Go.Proofs.YtgmekkgbobmplaaGreat
open Go.RowKit

def ctSame (a b : Ct) : Bool := decide (a.1 = b.1) && (decide (a.2.1 = b.2.1) && (wholeB a.2.2.1 b.2.2.1 && decide (a.2.2.2 = b.2.2.2)))
def ctsSame (l1 l2 : List Ct) : Bool := decide (l1.length = l2.length) && allTo (fun i => ctSame (l1.getD i ct0) (l2.getD i ct0)) l1.length
set_option maxRecDepth 100000 in
set_option maxHeartbeats 6400000 in
theorem wsameCerts_any {F1 F2 : Nat → Prop} (a1 a2 : Option Addr) (n1 n2 c1 c2 : Nat) (l1 l2 : List Ct) (hn1 : l1.length = n1) (hn2 : l2.length = n2) (hm1 : n1 ≤ maxLen) (hb1 : ∀ x, x ∈ l1 → x.2.2.2.length ≤ maxLen) (hb2 : ∀ x, x ∈ l2 → x.2.2.2.length ≤ maxLen) (w : World) (h1 : Reads F1 w (.slice a1 n1 c1) (dCts l1)) (h2 : Reads F2 w (.slice a2 n2 c2) (dCts l2)) :
    Calls Tryz.prog 127 #[.slice a1 n1 c1, .slice a2 n2 c2] w fun e w' => e = .returned (.bool (ctsSame l1 l2)) ∧ Below w.heap.size w w' := by
  obtain ⟨V, eV⟩ : ∃ V, V = ctsSame l1 l2 := ⟨_, rfl⟩
  rw [← eV]
  by_cases hne : n1 = n2
  · subst hne
    have hm3 : (n1 : Int) ≤ 9223372036854775807 := by unfold maxLen at hm1; omega
    have HV : Hid (V = allTo (fun i => ctSame (l1.getD i ct0) (l2.getD i ct0)) n1) := hid (by rw [eV, ctsSame, hn1, hn2, decide_eq_true rfl]; rfl)
    have HZ := hid (And.intro h1 (And.intro h2 (And.intro hn1 hn2)))
    have HBd := hid (And.intro hb1 hb2)
    clear h1 h2 hn1 hn2 hm1 eV hb1 hb2
    go_enter Tryz.func127, Tryz.ntmps127
    go_wp2
    go_loopw [5] (fun i wr => ∃ j : Nat, j ≤ n1 ∧ i = .int .i64 (j : Int) ∧ Below w.heap.size w wr ∧ allTo (fun i => ctSame (l1.getD i ct0) (l2.getD i ct0)) j = true)
      (fun i _ => ((n1 : Int) - intOf i).toNat)
    case atStart => exact ⟨0, by omega, rfl, Below.refl _ _, rfl⟩
    case round =>
      obtain ⟨j, hj, rfl, hbel, hok⟩ := hrel
      have HB := hid hbel
      have HOk := hid hok
      clear hbel hok
      have hj0 : (0 : Int) ≤ (j : Int) := Int.natCast_nonneg _
      by_cases hjn : j = n1
      · have hj1 : ¬ ((j : Int) < (n1 : Int)) := by omega
        have hv : Hid (V = true) := hid (by rw [HV.out, ← hjn]; exact HOk.out)
        clear hj hjn
        go_wp2
        go_ret
        exact ⟨by rw [hv.out]; rfl, HB.out⟩
      · have hj1 : (j : Int) < (n1 : Int) := by omega
        have hjl1 : j < l1.length := by have := HZ.out.2.2.1; omega
        have hjl2 : j < l2.length := by have := HZ.out.2.2.2; omega
        obtain ⟨g1, off1, cp1, ax, kx, hv1, hP1, hg1, hc1⟩ := ct_at (HZ.out.1.under HB.out (Nat.le_refl _)) j hjl1
        obtain ⟨g2, off2, cp2, ay, ky, hv2, hP2, hg2, hc2⟩ := ct_at (HZ.out.2.1.under HB.out (Nat.le_refl _)) j hjl2
        simp only [Value.slice.injEq] at hv1 hv2
        obtain ⟨rfl, -, rfl⟩ := hv1
        obtain ⟨rfl, -, rfl⟩ := hv2
        have HP := hid (And.intro hP1 hP2)
        have HFa : Hid (ctSame (l1.getD j ct0) (l2.getD j ct0) = false → V = false) := hid (fun e => by rw [HV.out]; exact allTo_no j (by omega) e)
        have HTr : Hid (ctSame (l1.getD j ct0) (l2.getD j ct0) = true → allTo (fun i => ctSame (l1.getD i ct0) (l2.getD i ct0)) (j + 1) = true) := hid (fun e => by rw [allTo, HOk.out, e]; rfl)
        have HBx := hid (And.intro (HBd.out.1 (l1.getD j ct0) (by rw [List.getD_eq_getElem?_getD, List.getElem?_eq_getElem hjl1]; exact List.getElem_mem hjl1)) (HBd.out.2 (l2.getD j ct0) (by rw [List.getD_eq_getElem?_getD, List.getElem?_eq_getElem hjl2]; exact List.getElem_mem hjl2)))
        have HJ := hid (And.intro hj hjn)
        have HG := hid (And.intro (And.intro hg1 hc1) (And.intro hg2 hc2))
        generalize l1.getD j ct0 = x at HP HFa HTr HBx HG
        generalize l2.getD j ct0 = y at HP HFa HTr HBx HG
        clear hj hjn hjl1 hjl2 hP1 hP2 hg1 hc1 hg2 hc2
        have p0 : ∀ cx : Cls wr, cx.1.cell? ⟨g1, off1 + j * 9, none⟩ = some (.int .i64 x.1) := fun cx => (cx.2.cell (p := ⟨g1, off1 + j * 9 + 0, none⟩) HG.out.1.1).trans (HG.out.1.2 0 _ rfl)
        have p1 : ∀ cx : Cls wr, cx.1.cell? ⟨g1, off1 + j * 9 + 1, none⟩ = some (.int .i64 x.2.1) := fun cx => (cx.2.cell (p := ⟨g1, off1 + j * 9 + 1, none⟩) HG.out.1.1).trans (HG.out.1.2 1 _ rfl)
        have p2 : ∀ cx : Cls wr, cx.1.cell? ⟨g1, off1 + j * 9 + 2, none⟩ = some (.int .i64 x.2.2.1.c) := fun cx => (cx.2.cell (p := ⟨g1, off1 + j * 9 + 2, none⟩) HG.out.1.1).trans (HG.out.1.2 2 _ rfl)
        have p3 : ∀ cx : Cls wr, cx.1.cell? ⟨g1, off1 + j * 9 + 3, none⟩ = some (.int .i64 x.2.2.1.st) := fun cx => (cx.2.cell (p := ⟨g1, off1 + j * 9 + 3, none⟩) HG.out.1.1).trans (HG.out.1.2 3 _ rfl)
        have p4 : ∀ cx : Cls wr, cx.1.cell? ⟨g1, off1 + j * 9 + 4, none⟩ = some (.int .i64 x.2.2.1.k) := fun cx => (cx.2.cell (p := ⟨g1, off1 + j * 9 + 4, none⟩) HG.out.1.1).trans (HG.out.1.2 4 _ rfl)
        have p5 : ∀ cx : Cls wr, cx.1.cell? ⟨g1, off1 + j * 9 + 5, none⟩ = some (.string x.2.2.1.key) := fun cx => (cx.2.cell (p := ⟨g1, off1 + j * 9 + 5, none⟩) HG.out.1.1).trans (HG.out.1.2 5 _ rfl)
        have p6 : ∀ cx : Cls wr, cx.1.cell? ⟨g1, off1 + j * 9 + 6, none⟩ = some (.float .f64 x.2.2.1.b) := fun cx => (cx.2.cell (p := ⟨g1, off1 + j * 9 + 6, none⟩) HG.out.1.1).trans (HG.out.1.2 6 _ rfl)
        have p7 : ∀ cx : Cls wr, cx.1.cell? ⟨g1, off1 + j * 9 + 7, none⟩ = some (.int .i64 x.2.2.1.id) := fun cx => (cx.2.cell (p := ⟨g1, off1 + j * 9 + 7, none⟩) HG.out.1.1).trans (HG.out.1.2 7 _ rfl)
        have p8 : ∀ cx : Cls wr, cx.1.cell? ⟨g1, off1 + j * 9 + 8, none⟩ = some (.slice ax x.2.2.2.length kx) := fun cx => (cx.2.cell (p := ⟨g1, off1 + j * 9 + 8, none⟩) HG.out.1.1).trans (HG.out.1.2 8 _ rfl)
        have q0 : ∀ cx : Cls wr, cx.1.cell? ⟨g2, off2 + j * 9, none⟩ = some (.int .i64 y.1) := fun cx => (cx.2.cell (p := ⟨g2, off2 + j * 9 + 0, none⟩) HG.out.2.1).trans (HG.out.2.2 0 _ rfl)
        have q1 : ∀ cx : Cls wr, cx.1.cell? ⟨g2, off2 + j * 9 + 1, none⟩ = some (.int .i64 y.2.1) := fun cx => (cx.2.cell (p := ⟨g2, off2 + j * 9 + 1, none⟩) HG.out.2.1).trans (HG.out.2.2 1 _ rfl)
        have q2 : ∀ cx : Cls wr, cx.1.cell? ⟨g2, off2 + j * 9 + 2, none⟩ = some (.int .i64 y.2.2.1.c) := fun cx => (cx.2.cell (p := ⟨g2, off2 + j * 9 + 2, none⟩) HG.out.2.1).trans (HG.out.2.2 2 _ rfl)
        have q3 : ∀ cx : Cls wr, cx.1.cell? ⟨g2, off2 + j * 9 + 3, none⟩ = some (.int .i64 y.2.2.1.st) := fun cx => (cx.2.cell (p := ⟨g2, off2 + j * 9 + 3, none⟩) HG.out.2.1).trans (HG.out.2.2 3 _ rfl)
        have q4 : ∀ cx : Cls wr, cx.1.cell? ⟨g2, off2 + j * 9 + 4, none⟩ = some (.int .i64 y.2.2.1.k) := fun cx => (cx.2.cell (p := ⟨g2, off2 + j * 9 + 4, none⟩) HG.out.2.1).trans (HG.out.2.2 4 _ rfl)
        have q5 : ∀ cx : Cls wr, cx.1.cell? ⟨g2, off2 + j * 9 + 5, none⟩ = some (.string y.2.2.1.key) := fun cx => (cx.2.cell (p := ⟨g2, off2 + j * 9 + 5, none⟩) HG.out.2.1).trans (HG.out.2.2 5 _ rfl)
        have q6 : ∀ cx : Cls wr, cx.1.cell? ⟨g2, off2 + j * 9 + 6, none⟩ = some (.float .f64 y.2.2.1.b) := fun cx => (cx.2.cell (p := ⟨g2, off2 + j * 9 + 6, none⟩) HG.out.2.1).trans (HG.out.2.2 6 _ rfl)
        have q7 : ∀ cx : Cls wr, cx.1.cell? ⟨g2, off2 + j * 9 + 7, none⟩ = some (.int .i64 y.2.2.1.id) := fun cx => (cx.2.cell (p := ⟨g2, off2 + j * 9 + 7, none⟩) HG.out.2.1).trans (HG.out.2.2 7 _ rfl)
        have q8 : ∀ cx : Cls wr, cx.1.cell? ⟨g2, off2 + j * 9 + 8, none⟩ = some (.slice ay y.2.2.2.length ky) := fun cx => (cx.2.cell (p := ⟨g2, off2 + j * 9 + 8, none⟩) HG.out.2.1).trans (HG.out.2.2 8 _ rfl)
        have HWh : Hid (∀ u : World, Below wr.heap.size wr u → Calls Tryz.prog 81 #[.agg #[.int .i64 x.2.2.1.c, .int .i64 x.2.2.1.st, .int .i64 x.2.2.1.k, .string x.2.2.1.key, .float .f64 x.2.2.1.b, .int .i64 x.2.2.1.id], .agg #[.int .i64 y.2.2.1.c, .int .i64 y.2.2.1.st, .int .i64 y.2.2.1.k, .string y.2.2.1.key, .float .f64 y.2.2.1.b, .int .i64 y.2.2.1.id]] u fun e w' => e = .returned (.bool (wholeB x.2.2.1 y.2.2.1)) ∧ Below u.heap.size u w') := hid (fun u hu => qwhole_any x.2.2.1 y.2.2.1 u)
        have HSg : Hid (∀ u : World, Below wr.heap.size wr u → Calls Tryz.prog 80 #[.slice ax x.2.2.2.length kx, .slice ay y.2.2.2.length ky] u fun e w' => e = .returned (.bool (decide (x.2.2.2 = y.2.2.2))) ∧ Below u.heap.size u w') := hid (fun u hu => wsame_dec ax ay _ _ kx ky x.2.2.2 y.2.2.2 rfl rfl HBx.out.1 HBx.out.2 u (HP.out.1.keep hu (Nat.le_refl _)) (HP.out.2.keep hu (Nat.le_refl _)))
        go_wp2_with fail
        by_cases hs1 : ¬ x.1 = y.1
        · have hb : (x.1 != y.1) = true := by simpa using hs1
          have HF := hid (HFa.out (by rw [ctSame, decide_eq_false hs1]; rfl))
          clear hs1
          haveI := Cls.ne wr
          refine wp_region_cls wr (by kernel_rfl) (by kernel_rfl) ?_
          repeat (go_big_quiet_step ((first
            | (go_at_call 81; exact Cls.of _ (fun u hu => HWh.out u hu))
            | (go_at_call 80; exact Cls.of _ (fun u hu => HSg.out u hu)))))
          refine wpQuiet_nil ?_
          rintro _ ⟨cx, rfl⟩
          go_wp2
          go_ret
          exact ⟨by rw [HF.out]; rfl, HB.out.trans (cx.2.mono HB.out.size)⟩
        have hs1 : x.1 = y.1 := Classical.not_not.1 hs1
        have hb1 : (x.1 != y.1) = false := by simpa using hs1
        by_cases hs2 : ¬ x.2.1 = y.2.1
        · have hb : (x.2.1 != y.2.1) = true := by simpa using hs2
          have HF := hid (HFa.out (by rw [ctSame, decide_eq_false hs2, Bool.false_and, Bool.and_false]))
          clear hs1 hs2
          haveI := Cls.ne wr
          refine wp_region_cls wr (by kernel_rfl) (by kernel_rfl) ?_
          repeat (go_big_quiet_step ((first
            | (go_at_call 81; exact Cls.of _ (fun u hu => HWh.out u hu))
            | (go_at_call 80; exact Cls.of _ (fun u hu => HSg.out u hu)))))
          refine wpQuiet_nil ?_
          rintro _ ⟨cx, rfl⟩
          go_wp2
          go_ret
          exact ⟨by rw [HF.out]; rfl, HB.out.trans (cx.2.mono HB.out.size)⟩
        have hs2 : x.2.1 = y.2.1 := Classical.not_not.1 hs2
        have hb2 : (x.2.1 != y.2.1) = false := by simpa using hs2
        have HC : Hid (ctSame x y = (wholeB x.2.2.1 y.2.2.1 && decide (x.2.2.2 = y.2.2.2))) := hid (by rw [ctSame, decide_eq_true hs1, decide_eq_true hs2]; rfl)
        clear hs1 hs2
        cases hw : wholeB x.2.2.1 y.2.2.1 with
        | false =>
          rw [hw] at HWh HC
          have HF := hid (HFa.out HC.out)
          clear hw
          haveI := Cls.ne wr
          refine wp_region_cls wr (by kernel_rfl) (by kernel_rfl) ?_
          repeat (go_big_quiet_step ((first
            | (go_at_call 81; exact Cls.of _ (fun u hu => HWh.out u hu))
            | (go_at_call 80; exact Cls.of _ (fun u hu => HSg.out u hu)))))
          refine wpQuiet_nil ?_
          rintro _ ⟨cx, rfl⟩
          go_wp2
          go_ret
          exact ⟨by rw [HF.out]; rfl, HB.out.trans (cx.2.mono HB.out.size)⟩
        | true =>
          rw [hw] at HWh HC
          clear hw
          cases hg : decide (x.2.2.2 = y.2.2.2) with
          | false =>
            rw [hg] at HSg HC
            have HF := hid (HFa.out HC.out)
            clear hg
            haveI := Cls.ne wr
            refine wp_region_cls wr (by kernel_rfl) (by kernel_rfl) ?_
            repeat (go_big_quiet_step ((first
              | (go_at_call 81; exact Cls.of _ (fun u hu => HWh.out u hu))
              | (go_at_call 80; exact Cls.of _ (fun u hu => HSg.out u hu)))))
            refine wpQuiet_nil ?_
            rintro _ ⟨cx, rfl⟩
            go_wp2
            go_ret
            exact ⟨by rw [HF.out]; rfl, HB.out.trans (cx.2.mono HB.out.size)⟩
          | true =>
            rw [hg] at HSg HC
            have HT := hid (HTr.out HC.out)
            clear hg
            haveI := Cls.ne wr
            refine wp_region_cls wr (by kernel_rfl) (by kernel_rfl) ?_
            repeat (go_big_quiet_step ((first
              | (go_at_call 81; exact Cls.of _ (fun u hu => HWh.out u hu))
              | (go_at_call 80; exact Cls.of _ (fun u hu => HSg.out u hu)))))
            refine wpQuiet_nil ?_
            rintro _ ⟨cx, rfl⟩
            go_wp2
            go_roundw
            case rel => exact ⟨j + 1, by have := HJ.out; omega, by go_num, HB.out.trans (cx.2.mono HB.out.size), HT.out⟩
            case measure => simp [intOf]; omega
  · have hz : ¬ ((n1 : Int) = (n2 : Int)) := by omega
    have HN : Hid (V = false) := hid (by rw [eV, ctsSame, decide_eq_false (by omega)]; rfl)
    clear hne hn1 hn2 h1 h2 hm1 eV hb1 hb2
    go_enter Tryz.func127, Tryz.ntmps127
    go_wp2
    go_ret
    exact ⟨by rw [HN.out]; rfl, Below.refl _ _⟩
end Go.Proofs.YtgmekkgbobmplaaGreat

/- The program's test of a list of certificates. -/
namespace Go.Proofs.YtgmekkgbobmplaaGreat
open Go.RowKit

set_option maxRecDepth 100000 in
set_option maxHeartbeats 6400000 in
theorem icerts_any {F : Nat → Prop} (ep : Int) (h0 : 0 ≤ ep) (h1 : ep ≤ 60) (v : Value) (l : List Ct) (hl : l.length ≤ maxLen) (hb : ∀ x, x ∈ l → ctR x) (w : World) (hR : Reads F w v (dCts l)) :
    Calls Tryz.prog 156 #[.int .i64 ep, v] w fun e w' => e = .returned (.bool (ctsB ep l)) ∧ Below w.heap.size w w' := by
  obtain ⟨V, eV⟩ : ∃ V, V = ctsB ep l := ⟨_, rfl⟩
  rw [← eV]
  obtain ⟨ad, cap, hv⟩ := hR.form
  rw [List.length_map] at hv
  subst hv
  obtain ⟨n, en⟩ : ∃ n, n = l.length := ⟨_, rfl⟩
  have HR := hid hR
  rw [← en] at hl HR
  have hmi : (n : Int) ≤ 9223372036854775807 := by unfold maxLen at hl; omega
  have HE := hid (And.intro h0 h1)
  clear hR h0 h1
  rw [← en]
  by_cases h4 : 4 < n
  · have h4i : (4 : Int) < (n : Int) := by omega
    have hf : V = false := by rw [eV, ctsB, decide_eq_false (by omega)]; rfl
    subst hf
    clear eV hl hb en h4 HR
    go_enter Tryz.func156, Tryz.ntmps156
    go_wp2
    go_ret
    exact ⟨rfl, Below.refl _ _⟩
  · have h4i : ¬ ((4 : Int) < (n : Int)) := by omega
    have HV : Hid (V = allTo (ctAt ep l) n) := hid (by rw [eV, ctsB, decide_eq_true (by omega), en]; rfl)
    have HN := hid en
    have HL : Hid (n ≤ 4) := hid (by omega)
    have HBd := hid hb
    clear eV hl hb en h4
    go_enter Tryz.func156, Tryz.ntmps156
    go_wp2
    go_loopw [12] (fun i wr => ∃ j : Nat, j ≤ n ∧ i = .int .i64 (j : Int) ∧ allTo (ctAt ep l) j = true ∧ Below w.heap.size w wr)
      (fun i _ => ((n : Int) - intOf i).toNat)
    case atStart => exact ⟨0, Nat.zero_le _, rfl, rfl, Below.refl _ _⟩
    case round =>
      obtain ⟨j, hj, rfl, hok, hB⟩ := hrel
      have HB := hid hB
      have HOk := hid hok
      clear hok hB
      have hj0 : (0 : Int) ≤ (j : Int) := Int.natCast_nonneg _
      by_cases hjn : j = n
      · have hj1 : ¬ ((j : Int) < (n : Int)) := by omega
        have hv : Hid (V = true) := hid (by rw [HV.out, ← hjn]; exact HOk.out)
        clear hj hjn
        go_wp2
        go_ret
        exact ⟨by rw [hv.out]; rfl, HB.out⟩
      · have hj1 : (j : Int) < (n : Int) := by omega
        have hjl : j < l.length := by have := HN.out; omega
        have hR2 := HR.out
        rw [HN.out] at hR2
        obtain ⟨g, off, cp, a8, k8, hv, hp, hg, hc⟩ := ct_at (hR2.under HB.out (Nat.le_refl _)) j hjl
        cases hv
        have HP := hid hp
        have hprev : j ≠ 0 → wr.cell? ⟨g, off + (j - 1) * 9 + 1, none⟩ = some (.int .i64 (l.getD (j - 1) ct0).2.1) := fun hz => by
          obtain ⟨g2, o2, c2, a2, k2, hv2, _, _, hc2⟩ := ct_at (hR2.under HB.out (Nat.le_refl _)) (j - 1) (by omega)
          cases hv2
          exact hc2 1 _ rfl
        have HPr := hid (And.intro hprev hg)
        have HJ := hid (And.intro hj hjn)
        have HT : Hid (ctAt ep l j = (ctB ep (l.getD j ct0) && (decide (j = 0) || decide ((l.getD (j - 1) ct0).2.1 < (l.getD j ct0).2.1)))) := hid rfl
        have HFa : Hid (ctAt ep l j = false → V = false) := hid (fun e => by rw [HV.out]; exact allTo_no j (by omega) e)
        have HTr : Hid (ctAt ep l j = true → allTo (ctAt ep l) (j + 1) = true) := hid (fun e => by rw [allTo, HOk.out, e]; rfl)
        have HYb := hid (HBd.out (l.getD j ct0) (by rw [List.getD_eq_getElem?_getD, List.getElem?_eq_getElem hjl]; exact List.getElem_mem hjl))
        generalize l.getD j ct0 = y at hc HP HT HYb
        generalize (l.getD (j - 1) ct0).2.1 = ps at HPr HT
        have k0 : wr.cell? ⟨g, off + j * 9, none⟩ = some (.int .i64 y.1) := hc 0 _ rfl
        have k1 : wr.cell? ⟨g, off + j * 9 + 1, none⟩ = some (.int .i64 y.2.1) := hc 1 _ rfl
        have k2 : wr.cell? ⟨g, off + j * 9 + 2, none⟩ = some (.int .i64 y.2.2.1.c) := hc 2 _ rfl
        have k3 : wr.cell? ⟨g, off + j * 9 + 3, none⟩ = some (.int .i64 y.2.2.1.st) := hc 3 _ rfl
        have k4 : wr.cell? ⟨g, off + j * 9 + 4, none⟩ = some (.int .i64 y.2.2.1.k) := hc 4 _ rfl
        have k5 : wr.cell? ⟨g, off + j * 9 + 5, none⟩ = some (.string y.2.2.1.key) := hc 5 _ rfl
        have k6 : wr.cell? ⟨g, off + j * 9 + 6, none⟩ = some (.float .f64 y.2.2.1.b) := hc 6 _ rfl
        have k7 : wr.cell? ⟨g, off + j * 9 + 7, none⟩ = some (.int .i64 y.2.2.1.id) := hc 7 _ rfl
        have k8' : wr.cell? ⟨g, off + j * 9 + 8, none⟩ = some (.slice a8 y.2.2.2.length k8) := hc 8 _ rfl
        have hz : (j : Int) ≤ 4 := by have := HL.out; omega
        clear hj hjn hjl hR2 hp hg hc hprev
        go_wp2_with (refine wl_store_blk rfl 92 _ _ rfl wr.heap.size 0 rfl #[.int .i64 y.1, .int .i64 y.2.1, .int .i64 y.2.2.1.c, .int .i64 y.2.2.1.st, .int .i64 y.2.2.1.k, .string y.2.2.1.key, .float .f64 y.2.2.1.b, .int .i64 y.2.2.1.id, .slice a8 y.2.2.2.length k8] rfl [.int .i64 0, .int .i64 0, .int .i64 0, .int .i64 0, .int .i64 0, .string ⟨#[]⟩, .float .f64 0, .int .i64 0, .slice none 0 0] 92 (heap_alloc_last wr _) (by simp) (by kernel_rfl) (by simp [Value.oneCell']) ?_; intro w1 Hz; have H1 : Hid (BxAt w1 wr.heap.size (ctC y (.slice a8 y.2.2.2.length k8)) 92 ∧ Below wr.heap.size wr w1) := hid ⟨Hz.out.1, Hz.out.2.below ((Below.refl wr.heap.size wr).alloc (Nat.le_refl _) _) (Nat.le_refl _)⟩; clear Hz)
        clear k0 k1 k2 k3 k4 k5 k6 k7 k8'
        go_simp
        have HBx : Hid (∀ x : Cls w1, BxAt x.1 wr.heap.size (ctC y (.slice a8 y.2.2.2.length k8)) 92) := hid (fun x => H1.out.1.keep x.2)
        have d0 : ∀ x : Cls w1, x.1.cell? ⟨wr.heap.size, 0, none⟩ = some (.int .i64 y.1) := fun x => (HBx.out x).cell 0 _ rfl
        have d1 : ∀ x : Cls w1, x.1.cell? ⟨wr.heap.size, 1, none⟩ = some (.int .i64 y.2.1) := fun x => (HBx.out x).cell 1 _ rfl
        have d2 : ∀ x : Cls w1, x.1.cell? ⟨wr.heap.size, 2, none⟩ = some (.int .i64 y.2.2.1.c) := fun x => (HBx.out x).cell 2 _ rfl
        have d3 : ∀ x : Cls w1, x.1.cell? ⟨wr.heap.size, 3, none⟩ = some (.int .i64 y.2.2.1.st) := fun x => (HBx.out x).cell 3 _ rfl
        have d4 : ∀ x : Cls w1, x.1.cell? ⟨wr.heap.size, 4, none⟩ = some (.int .i64 y.2.2.1.k) := fun x => (HBx.out x).cell 4 _ rfl
        have d5 : ∀ x : Cls w1, x.1.cell? ⟨wr.heap.size, 5, none⟩ = some (.string y.2.2.1.key) := fun x => (HBx.out x).cell 5 _ rfl
        have d6 : ∀ x : Cls w1, x.1.cell? ⟨wr.heap.size, 6, none⟩ = some (.float .f64 y.2.2.1.b) := fun x => (HBx.out x).cell 6 _ rfl
        have d7 : ∀ x : Cls w1, x.1.cell? ⟨wr.heap.size, 7, none⟩ = some (.int .i64 y.2.2.1.id) := fun x => (HBx.out x).cell 7 _ rfl
        have d8 : ∀ x : Cls w1, x.1.cell? ⟨wr.heap.size, 8, none⟩ = some (.slice a8 y.2.2.2.length k8) := fun x => (HBx.out x).cell 8 _ rfl
        have HCe : Hid (∀ u : World, Below w1.heap.size w1 u → Calls Tryz.prog 170 #[.int .i64 ep, .agg #[.int .i64 y.1, .int .i64 y.2.1, .int .i64 y.2.2.1.c, .int .i64 y.2.2.1.st, .int .i64 y.2.2.1.k, .string y.2.2.1.key, .float .f64 y.2.2.1.b, .int .i64 y.2.2.1.id, .slice a8 y.2.2.2.length k8]] u fun e w' => e = .returned (.bool (ctB ep y)) ∧ Below u.heap.size u w') := hid (fun u hu => icert_any ep HE.out.1 HE.out.2 y a8 _ k8 rfl HYb.out.2.2.1 u ((HP.out.keep H1.out.2 (Nat.le_refl _)).keep hu (Nat.le_refl _)))
        haveI := Cls.ne w1
        cases hct : ctB ep y with
        | false =>
          rw [hct] at HCe HT
          have hf := hid (HFa.out HT.out)
          clear hct
          refine wp_region_cls w1 (by kernel_rfl) (by kernel_rfl) ?_
          repeat (go_big_quiet_step ((first
            | (go_at_call 170; exact Cls.of _ (fun u hu => HCe.out u hu)))))
          refine wpQuiet_nil ?_
          rintro _ ⟨x, rfl⟩
          go_wp2
          go_ret
          exact ⟨by rw [hf.out]; rfl, HB.out.trans ((H1.out.2.trans (x.2.mono H1.out.2.size)).mono HB.out.size)⟩
        | true =>
          rw [hct] at HCe HT
          clear hct
          by_cases hj00 : j = 0
          · have hp := hid (HTr.out (by rw [HT.out, decide_eq_true hj00]; rfl))
            have hd : decide ((0 : Int) < (j : Int)) = false := decide_eq_false (by omega)
            have hd2 : decide (0 < j) = false := decide_eq_false (by omega)
            clear hj00
            refine wp_region_cls w1 (by kernel_rfl) (by kernel_rfl) ?_
            repeat (go_big_quiet_step ((first
              | (go_at_call 170; exact Cls.of _ (fun u hu => HCe.out u hu)))))
            refine wpQuiet_nil ?_
            rintro _ ⟨x, rfl⟩
            go_wp2
            go_roundw
            case rel => exact ⟨j + 1, by have := HJ.out; omega, by go_num, hp.out, HB.out.trans ((H1.out.2.trans (x.2.mono H1.out.2.size)).mono HB.out.size)⟩
            case measure => simp [intOf]; omega
          · obtain ⟨jm, ejm⟩ : ∃ jm : Nat, jm = j - 1 := ⟨_, rfl⟩
            have dp : ∀ x : Cls w1, x.1.cell? ⟨g, off + jm * 9 + 1, none⟩ = some (.int .i64 ps) := fun x => (World.cell?_of_block (a := ⟨g, off + jm * 9 + 1, none⟩) ((x.2.block g (Nat.lt_of_lt_of_le HPr.out.2 H1.out.2.size)).trans (H1.out.2.block g HPr.out.2))).trans (by rw [ejm]; exact HPr.out.1 hj00)
            have hw : IntKind.i64.wrap ((j : Int) - 1) = (jm : Int) := by rw [show (j : Int) - 1 = (jm : Int) by omega]; exact wrap_small _ (by omega) (by omega)
            have hjm0 : (0 : Int) ≤ (jm : Int) := Int.natCast_nonneg _
            have hjm1 : (jm : Int) < (n : Int) := by omega
            have hd : decide ((0 : Int) < (j : Int)) = true := decide_eq_true (by omega)
            have hd2 : decide (0 < j) = true := decide_eq_true (by omega)
            have HT2 : Hid (ctAt ep l j = decide (ps < y.2.1)) := hid (by rw [HT.out, decide_eq_false hj00]; rfl)
            clear ejm hj00
            by_cases hlt : ps < y.2.1
            · have hp := hid (HTr.out (by rw [HT2.out, decide_eq_true hlt]))
              have hle : decide (y.2.1 ≤ ps) = false := decide_eq_false (by omega)
              have hle2 : ¬ (y.2.1 ≤ ps) := by omega
              refine wp_region_cls w1 (by kernel_rfl) (by kernel_rfl) ?_
              repeat (go_big_quiet_step ((first
                | (go_at_call 170; exact Cls.of _ (fun u hu => HCe.out u hu)))))
              refine wpQuiet_nil ?_
              rintro _ ⟨x, rfl⟩
              go_wp2
              go_roundw
              case rel => exact ⟨j + 1, by have := HJ.out; omega, by go_num, hp.out, HB.out.trans ((H1.out.2.trans (x.2.mono H1.out.2.size)).mono HB.out.size)⟩
              case measure => simp [intOf]; omega
            · have hf := hid (HFa.out (by rw [HT2.out, decide_eq_false hlt]))
              have hle : decide (y.2.1 ≤ ps) = true := decide_eq_true (by omega)
              have hle2 : y.2.1 ≤ ps := by omega
              refine wp_region_cls w1 (by kernel_rfl) (by kernel_rfl) ?_
              repeat (go_big_quiet_step ((first
                | (go_at_call 170; exact Cls.of _ (fun u hu => HCe.out u hu)))))
              refine wpQuiet_nil ?_
              rintro _ ⟨x, rfl⟩
              go_wp2
              go_ret
              exact ⟨by rw [hf.out]; rfl, HB.out.trans ((H1.out.2.trans (x.2.mono H1.out.2.size)).mono HB.out.size)⟩
end Go.Proofs.YtgmekkgbobmplaaGreat

/- The program's tests of changes. -/
namespace Go.Proofs.YtgmekkgbobmplaaGreat
open Go.RowKit
set_option maxRecDepth 100000 in
set_option maxHeartbeats 3200000 in
theorem ichange_any {F : Nat → Prop} (ep : Int) (h0 : 0 ≤ ep) (h1 : ep ≤ 60) (c : Cg) (a : Option Addr) (n cap : Nat) (hl : c.2.2.1.length ≤ maxLen) (hb : ∀ x, x ∈ c.2.2.1 → ctR x) (w : World) (hR : Reads F w (.slice a n cap) (dCts c.2.2.1)) :
    Calls Tryz.prog 140 #[.int .i64 ep, .agg #[.int .i64 c.1, .int .i64 c.2.1, .slice a n cap, .int .i64 c.2.2.2.1, .string c.2.2.2.2]] w fun e w' => e = .returned (.bool (cgB ep c)) ∧ Below w.heap.size w w' := by
  have H0 : Hid (BxAt (w.alloc (.cells #[.int .i64 c.1, .int .i64 c.2.1, .slice a n cap, .int .i64 c.2.2.2.1, .string c.2.2.2.2] 90)) w.heap.size [.int .i64 c.1, .int .i64 c.2.1, .slice a n cap, .int .i64 c.2.2.2.1, .string c.2.2.2.2] 90 ∧ Below w.heap.size w (w.alloc (.cells #[.int .i64 c.1, .int .i64 c.2.1, .slice a n cap, .int .i64 c.2.2.2.1, .string c.2.2.2.2] 90))) := hid ⟨heap_alloc_last w _, (Below.refl w.heap.size w).alloc (Nat.le_refl _) _⟩
  have y0 := H0.out.1.cell 0 _ rfl; have y1 := H0.out.1.cell 1 _ rfl; have y2 := H0.out.1.cell 2 _ rfl; have y3 := H0.out.1.cell 3 _ rfl; have y4 := H0.out.1.cell 4 _ rfl
  obtain ⟨B1, e1⟩ : ∃ B, B = inB c.1 0 15 := ⟨_, rfl⟩
  have HT1 : Hid (∀ u : World, Below w.heap.size w u → Calls Tryz.prog 100 #[.int .i64 c.1, .int .i64 0, .int .i64 15] u fun e w' => e = .returned (.bool B1) ∧ Below u.heap.size u w') := hid (fun u hu => by rw [e1]; exact (iwithin_any _ _ _ u).mono fun e w' ⟨h1, h2⟩ => ⟨h1, by rw [h2]; exact Below.refl _ _⟩)
  obtain ⟨B2, e2⟩ : ∃ B, B = inB c.2.1 1 15 := ⟨_, rfl⟩
  have HT2 : Hid (∀ u : World, Below w.heap.size w u → Calls Tryz.prog 100 #[.int .i64 c.2.1, .int .i64 1, .int .i64 15] u fun e w' => e = .returned (.bool B2) ∧ Below u.heap.size u w') := hid (fun u hu => by rw [e2]; exact (iwithin_any _ _ _ u).mono fun e w' ⟨h1, h2⟩ => ⟨h1, by rw [h2]; exact Below.refl _ _⟩)
  obtain ⟨B3, e3⟩ : ∃ B, B = ctsB ep c.2.2.1 := ⟨_, rfl⟩
  have HT3 : Hid (∀ u : World, Below w.heap.size w u → Calls Tryz.prog 156 #[.int .i64 ep, .slice a n cap] u fun e w' => e = .returned (.bool B3) ∧ Below u.heap.size u w') := hid (fun u hu => by rw [e3]; exact icerts_any ep h0 h1 _ _ hl hb u (hR.under hu (Nat.le_refl _)))
  obtain ⟨B4, e4⟩ : ∃ B, B = sigB c.2.2.2 := ⟨_, rfl⟩
  have HT4 : Hid (∀ u : World, Below w.heap.size w u → Calls Tryz.prog 141 #[.agg #[.int .i64 c.2.2.2.1, .string c.2.2.2.2]] u fun e w' => e = .returned (.bool B4) ∧ Below u.heap.size u w') := hid (fun u hu => by rw [e4]; exact isig_any _ u)
  rw [show cgB ep c = ((B1 && B2) && (B3 && B4)) by rw [e1, e2, e3, e4]; rfl]
  clear e1 e2 e3 e4 hR hl hb h0 h1
  cases B1 with
  | false =>
    go_enter Tryz.func140, Tryz.ntmps140
    go_wp2_with (first
      | (have := H0; go_at_call 100; refine (HT1.out _ H0.out.2).mono ?_; rintro e w1 ⟨rfl, hb⟩; have H1 := hid (And.intro (H0.out.1.keep hb) (H0.out.2.trans (hb.mono H0.out.2.size))); clear hb y0 y1 y2 y3 y4; have y0 := H1.out.1.cell 0 _ rfl; have y1 := H1.out.1.cell 1 _ rfl; have y2 := H1.out.1.cell 2 _ rfl; have y3 := H1.out.1.cell 3 _ rfl; have y4 := H1.out.1.cell 4 _ rfl))
    go_ret
    exact ⟨by simp, H1.out.2⟩
  | true =>
    cases B2 with
    | false =>
      go_enter Tryz.func140, Tryz.ntmps140
      go_wp2_with (first
        | (have := H1; go_at_call 100; refine (HT2.out _ H1.out.2).mono ?_; rintro e w2 ⟨rfl, hb⟩; have H2 := hid (And.intro (H1.out.1.keep hb) (H1.out.2.trans (hb.mono H1.out.2.size))); clear hb y0 y1 y2 y3 y4; have y0 := H2.out.1.cell 0 _ rfl; have y1 := H2.out.1.cell 1 _ rfl; have y2 := H2.out.1.cell 2 _ rfl; have y3 := H2.out.1.cell 3 _ rfl; have y4 := H2.out.1.cell 4 _ rfl)
        | (have := H0; go_at_call 100; refine (HT1.out _ H0.out.2).mono ?_; rintro e w1 ⟨rfl, hb⟩; have H1 := hid (And.intro (H0.out.1.keep hb) (H0.out.2.trans (hb.mono H0.out.2.size))); clear hb y0 y1 y2 y3 y4; have y0 := H1.out.1.cell 0 _ rfl; have y1 := H1.out.1.cell 1 _ rfl; have y2 := H1.out.1.cell 2 _ rfl; have y3 := H1.out.1.cell 3 _ rfl; have y4 := H1.out.1.cell 4 _ rfl))
      go_ret
      exact ⟨by simp, H2.out.2⟩
    | true =>
      cases B3 with
      | false =>
        go_enter Tryz.func140, Tryz.ntmps140
        go_wp2_with (first
          | (have := H2; go_at_call 156; refine (HT3.out _ H2.out.2).mono ?_; rintro e w3 ⟨rfl, hb⟩; have H3 := hid (And.intro (H2.out.1.keep hb) (H2.out.2.trans (hb.mono H2.out.2.size))); clear hb y0 y1 y2 y3 y4; have y0 := H3.out.1.cell 0 _ rfl; have y1 := H3.out.1.cell 1 _ rfl; have y2 := H3.out.1.cell 2 _ rfl; have y3 := H3.out.1.cell 3 _ rfl; have y4 := H3.out.1.cell 4 _ rfl)
          | (have := H1; go_at_call 100; refine (HT2.out _ H1.out.2).mono ?_; rintro e w2 ⟨rfl, hb⟩; have H2 := hid (And.intro (H1.out.1.keep hb) (H1.out.2.trans (hb.mono H1.out.2.size))); clear hb y0 y1 y2 y3 y4; have y0 := H2.out.1.cell 0 _ rfl; have y1 := H2.out.1.cell 1 _ rfl; have y2 := H2.out.1.cell 2 _ rfl; have y3 := H2.out.1.cell 3 _ rfl; have y4 := H2.out.1.cell 4 _ rfl)
          | (have := H0; go_at_call 100; refine (HT1.out _ H0.out.2).mono ?_; rintro e w1 ⟨rfl, hb⟩; have H1 := hid (And.intro (H0.out.1.keep hb) (H0.out.2.trans (hb.mono H0.out.2.size))); clear hb y0 y1 y2 y3 y4; have y0 := H1.out.1.cell 0 _ rfl; have y1 := H1.out.1.cell 1 _ rfl; have y2 := H1.out.1.cell 2 _ rfl; have y3 := H1.out.1.cell 3 _ rfl; have y4 := H1.out.1.cell 4 _ rfl))
        go_ret
        exact ⟨by simp, H3.out.2⟩
      | true =>
        cases B4 with
        | false =>
          go_enter Tryz.func140, Tryz.ntmps140
          go_wp2_with (first
            | (have := H3; go_at_call 141; refine (HT4.out _ H3.out.2).mono ?_; rintro e w4 ⟨rfl, hb⟩; have H4 := hid (And.intro (H3.out.1.keep hb) (H3.out.2.trans (hb.mono H3.out.2.size))); clear hb y0 y1 y2 y3 y4; have y0 := H4.out.1.cell 0 _ rfl; have y1 := H4.out.1.cell 1 _ rfl; have y2 := H4.out.1.cell 2 _ rfl; have y3 := H4.out.1.cell 3 _ rfl; have y4 := H4.out.1.cell 4 _ rfl)
            | (have := H2; go_at_call 156; refine (HT3.out _ H2.out.2).mono ?_; rintro e w3 ⟨rfl, hb⟩; have H3 := hid (And.intro (H2.out.1.keep hb) (H2.out.2.trans (hb.mono H2.out.2.size))); clear hb y0 y1 y2 y3 y4; have y0 := H3.out.1.cell 0 _ rfl; have y1 := H3.out.1.cell 1 _ rfl; have y2 := H3.out.1.cell 2 _ rfl; have y3 := H3.out.1.cell 3 _ rfl; have y4 := H3.out.1.cell 4 _ rfl)
            | (have := H1; go_at_call 100; refine (HT2.out _ H1.out.2).mono ?_; rintro e w2 ⟨rfl, hb⟩; have H2 := hid (And.intro (H1.out.1.keep hb) (H1.out.2.trans (hb.mono H1.out.2.size))); clear hb y0 y1 y2 y3 y4; have y0 := H2.out.1.cell 0 _ rfl; have y1 := H2.out.1.cell 1 _ rfl; have y2 := H2.out.1.cell 2 _ rfl; have y3 := H2.out.1.cell 3 _ rfl; have y4 := H2.out.1.cell 4 _ rfl)
            | (have := H0; go_at_call 100; refine (HT1.out _ H0.out.2).mono ?_; rintro e w1 ⟨rfl, hb⟩; have H1 := hid (And.intro (H0.out.1.keep hb) (H0.out.2.trans (hb.mono H0.out.2.size))); clear hb y0 y1 y2 y3 y4; have y0 := H1.out.1.cell 0 _ rfl; have y1 := H1.out.1.cell 1 _ rfl; have y2 := H1.out.1.cell 2 _ rfl; have y3 := H1.out.1.cell 3 _ rfl; have y4 := H1.out.1.cell 4 _ rfl))
          go_ret
          exact ⟨by simp, H4.out.2⟩
        | true =>
          go_enter Tryz.func140, Tryz.ntmps140
          go_wp2_with (first
            | (have := H3; go_at_call 141; refine (HT4.out _ H3.out.2).mono ?_; rintro e w4 ⟨rfl, hb⟩; have H4 := hid (And.intro (H3.out.1.keep hb) (H3.out.2.trans (hb.mono H3.out.2.size))); clear hb y0 y1 y2 y3 y4; have y0 := H4.out.1.cell 0 _ rfl; have y1 := H4.out.1.cell 1 _ rfl; have y2 := H4.out.1.cell 2 _ rfl; have y3 := H4.out.1.cell 3 _ rfl; have y4 := H4.out.1.cell 4 _ rfl)
            | (have := H2; go_at_call 156; refine (HT3.out _ H2.out.2).mono ?_; rintro e w3 ⟨rfl, hb⟩; have H3 := hid (And.intro (H2.out.1.keep hb) (H2.out.2.trans (hb.mono H2.out.2.size))); clear hb y0 y1 y2 y3 y4; have y0 := H3.out.1.cell 0 _ rfl; have y1 := H3.out.1.cell 1 _ rfl; have y2 := H3.out.1.cell 2 _ rfl; have y3 := H3.out.1.cell 3 _ rfl; have y4 := H3.out.1.cell 4 _ rfl)
            | (have := H1; go_at_call 100; refine (HT2.out _ H1.out.2).mono ?_; rintro e w2 ⟨rfl, hb⟩; have H2 := hid (And.intro (H1.out.1.keep hb) (H1.out.2.trans (hb.mono H1.out.2.size))); clear hb y0 y1 y2 y3 y4; have y0 := H2.out.1.cell 0 _ rfl; have y1 := H2.out.1.cell 1 _ rfl; have y2 := H2.out.1.cell 2 _ rfl; have y3 := H2.out.1.cell 3 _ rfl; have y4 := H2.out.1.cell 4 _ rfl)
            | (have := H0; go_at_call 100; refine (HT1.out _ H0.out.2).mono ?_; rintro e w1 ⟨rfl, hb⟩; have H1 := hid (And.intro (H0.out.1.keep hb) (H0.out.2.trans (hb.mono H0.out.2.size))); clear hb y0 y1 y2 y3 y4; have y0 := H1.out.1.cell 0 _ rfl; have y1 := H1.out.1.cell 1 _ rfl; have y2 := H1.out.1.cell 2 _ rfl; have y3 := H1.out.1.cell 3 _ rfl; have y4 := H1.out.1.cell 4 _ rfl))
          go_ret
          exact ⟨by simp, H4.out.2⟩
end Go.Proofs.YtgmekkgbobmplaaGreat
