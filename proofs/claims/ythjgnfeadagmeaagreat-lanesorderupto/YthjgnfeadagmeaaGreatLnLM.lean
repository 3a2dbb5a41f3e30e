/- The program's lane: nothing is taken, Drop, Copy. -/
import Derived.Test.YthjgnfeadagmeaaGreatLnKM
namespace Go.Proofs.YthjgnfeadagmeaaGreat
open Go.RowKit

section
variable {P : Nat → Prop} {N : Nat} {n : Int} {w : World} {v : Value} {bad : List Int} {ps : List Pkt} {L : List Sg}
set_option maxRecDepth 100000 in
set_option maxHeartbeats 3200000 in
theorem ntake_no (hw : ∀ u : World, Below w.heap.size w u → Calls Tryz.prog 40 #[v, .int .i64 n] u fun e w' => e = .returned (.tuple #[.int .i64 0, .bool false]) ∧ Below u.heap.size u w') : Calls Tryz.prog 17 #[v, .int .i64 n] w fun e w' => e = .returned (.tuple #[.agg zPk.toArray, .bool false]) ∧ Below w.heap.size w w' := by
  obtain ⟨wa, ha, hba, hz⟩ := one_newL zPk 50 w
  obtain ⟨A, eA⟩ : ∃ A, A = Value.agg zPk.toArray := ⟨_, rfl⟩
  have HAg := hid eA
  have H0 := hid (And.intro hba hz)
  have HPl := hid hw
  unfold zPk at ha
  have HA := hid ha
  clear hw ha hba hz eA
  go_enter Tryz.func17, Tryz.ntmps17
  go_upto_region 1 with fail
  rw [HA.out]
  go_wp2_with (first
    | (have := H1; refine wl_store_blk rfl 50 _ _ rfl w.heap.size 0 rfl zPk.toArray rfl zPk 50 H1.out.2 (by simp [zPk]) (by kernel_rfl) (by simp [zPk, Value.oneCell']) ?_; go_must (intro w4 Hz; have H4 := Hz; clear Hz))
    | (go_at_call 40; go_must (refine (HPl.out _ H0.out.1).mono ?_; rintro e w1 ⟨rfl, hb⟩; have H1 : Hid (Below w.heap.size w w1 ∧ BxAt w1 w.heap.size zPk 50) := hid ⟨H0.out.1.trans (hb.mono H0.out.1.size), H0.out.2.keep hb⟩; clear hb)))
  refine ret_pair (s := 4) (s2 := 5) (ad := ⟨w.heap.size, 0, none⟩) rfl rfl (load_whole (L := zPk) H4.out.1 _ Tryz.underlying50 rfl (by kernel_rfl)) rfl rfl ?_
  exact ⟨rfl, H4.out.2.below H1.out.1 (Nat.le_refl _)⟩
theorem ntake_none (h : LaneAt N P w v bad ps L) (hp : ps.length = 0) (n : Int) : Calls Tryz.prog 17 #[v, .int .i64 n] w fun e w' => e = .returned (.tuple #[.agg zPk.toArray, .bool false]) ∧ Below w.heap.size w w' := ntake_no (fun _ hu => nplace_none (h.keep hu) hp n)
theorem ntake_nil (n : Int) (w : World) : Calls Tryz.prog 17 #[.pointer none, .int .i64 n] w fun e w' => e = .returned (.tuple #[.agg zPk.toArray, .bool false]) ∧ Below w.heap.size w w' := ntake_no (fun u _ => nplace_nil n u)
set_option maxRecDepth 100000 in
set_option maxHeartbeats 3200000 in
theorem ndrop_no (hw : ∀ u : World, Below w.heap.size w u → Calls Tryz.prog 17 #[v, .int .i64 n] u fun e w' => e = .returned (.tuple #[.agg zPk.toArray, .bool false]) ∧ Below u.heap.size u w') : Calls Tryz.prog 20 #[v, .int .i64 n] w fun e w' => e = .returned (.bool false) ∧ Below w.heap.size w w' := by
  obtain ⟨A, eA⟩ : ∃ A, A = Value.agg zPk.toArray := ⟨_, rfl⟩
  have HAg := hid eA
  rw [← eA] at hw
  have HT := hid hw
  clear hw eA
  go_enter Tryz.func20, Tryz.ntmps20
  go_wp2_with (first
    | (have := H1; refine wl_store_blk rfl 50 _ _ rfl w1.heap.size 0 rfl zPk.toArray HAg.out zPk 50 (heap_alloc_last w1 _) (by simp [zPk]) (by kernel_rfl) (by simp [zPk, Value.oneCell']) ?_; go_must (intro w4 Hz; have H4 := Hz; clear Hz))
    | (go_at_call 17; go_must (refine (HT.out _ (Below.refl _ _)).mono ?_; rintro e w1 ⟨rfl, hb⟩; have H1 := hid hb; clear hb)))
  go_ret
  exact ⟨rfl, H4.out.2.below (H1.out.alloc H1.out.size _) H1.out.size⟩
theorem ndrop_none (h : LaneAt N P w v bad ps L) (hp : ps.length = 0) (n : Int) : Calls Tryz.prog 20 #[v, .int .i64 n] w fun e w' => e = .returned (.bool false) ∧ Below w.heap.size w w' := ndrop_no (fun _ hu => ntake_none (h.keep hu) hp n)
theorem ndrop_nil (n : Int) (w : World) : Calls Tryz.prog 20 #[.pointer none, .int .i64 n] w fun e w' => e = .returned (.bool false) ∧ Below w.heap.size w w' := ndrop_no (fun u _ => ntake_nil n u)
/-- One more packet, if there is room. -/
def addP (ps : List Pkt) (q : Pkt) : List Pkt := if ps.length < 4096 then ps ++ [q] else ps
theorem addP_yes {ps : List Pkt} {q : Pkt} (h : ps.length < 4096) : addP ps q = ps ++ [q] := if_pos h
theorem addP_no {ps : List Pkt} {q : Pkt} (h : ¬ ps.length < 4096) : addP ps q = ps := if_neg h
/-- One more packet, whose lists are new. -/
theorem LaneAt.add1 {w2 : World} (h : LaneAt N P w v bad ps L) (hb : Below w.heap.size w w2) (fr to : Int) (m : Ms) (a13 a14 a15 a16 : Option Addr) (c13 c14 c15 c16 : Nat) (hL : MsL (fun k => w.heap.size ≤ k) w2 m (.slice a13 m.nx.length c13) (.slice a14 m.sg.length c14) (.slice a15 m.cg.length c15) (.slice a16 m.ln.length c16)) :
    Calls Tryz.prog 35 #[v, .agg (pkC fr to m (.slice a13 m.nx.length c13) (.slice a14 m.sg.length c14) (.slice a15 m.cg.length c15) (.slice a16 m.ln.length c16)).toArray] w2 fun e w' => e = .returned (.bool (decide (ps.length < 4096))) ∧ LanePost N P w w' v bad (addP ps (fr, to, m)) L := by
  have hP := fun k (hk : P k) => h.lt k hk
  obtain ⟨F, g, ab, kb, vr, vk, Fb, B, rfl, hM, hPi⟩ := h
  have hW := (hM.keep hb).wide hM.le hM.lt
  have hlow : ∀ k, Lfp (fun k => F k ∨ (w.heap.size ≤ k ∧ k < w2.heap.size)) g vr Fb k → P k ∨ w.heap.size ≤ k := by
    rintro k (hk | hk | hk | hk | hk)
    · exact .inl ((hPi k).2 (.inl hk))
    · exact .inl ((hPi k).2 (.inr (.inl hk)))
    · exact .inl ((hPi k).2 (.inr (.inr (.inl hk))))
    · exact .inl ((hPi k).2 (.inr (.inr (.inr hk))))
    · exact .inr hk.1
  refine (nadd_any hW fr to m a13 a14 a15 a16 c13 c14 c15 c16 (hL.mono2 (fun k hl hk => .inr ⟨hk, hl⟩))).mono ?_
  rintro e w' ⟨h1, h2⟩
  by_cases hl : ps.length < 4096
  · obtain ⟨he, P2, hA, hO, hn⟩ := h1 hl
    rw [decide_eq_true hl, addP_yes hl]
    refine ⟨he, P2, hA, (Outs.ofB hb).trans hO (fun j hj hq => ?_), fun k hk => ?_⟩
    · rcases hlow j hq with hq | hq
      · exact hq
      · omega
    · rcases hn k hk with hq | hq
      · exact hlow k hq
      · exact .inr (Nat.le_trans hb.size hq)
  · obtain ⟨he, hb2⟩ := h2 hl
    rw [decide_eq_false hl, addP_no hl]
    exact ⟨he, P, ⟨F, g, ab, kb, vr, vk, Fb, B, rfl, hM.keep (hb.trans (hb2.mono hb.size)), hPi⟩, Outs.ofB (hb.trans (hb2.mono hb.size)), fun k hk => .inl hk⟩
set_option maxRecDepth 100000 in
set_option maxHeartbeats 3200000 in
theorem ndrop_any (h : LaneAt N P w v bad ps L) (hp : 0 < ps.length) (n : Int) : Calls Tryz.prog 20 #[v, .int .i64 n] w fun e w' => e = .returned (.bool true) ∧ LanePost N P w w' v bad (rmv ps (plN n ps.length)) L := by
  have HT := hid (ntake_any h hp n)
  clear h hp
  go_enter Tryz.func20, Tryz.ntmps20
  go_wp2_with (first
    | (have := H1; refine wl_store_blk rfl 50 _ _ rfl w1.heap.size 0 rfl _ HAg.out zPk 50 (heap_alloc_last w1 _) (by simp [zPk, pkC, msC]) (by kernel_rfl) (by simp [pkC, msC, Value.oneCell']) ?_; go_must (intro w4 Hz; have H4 := Hz; clear Hz))
    | (go_at_call 17; go_must (refine HT.out.mono ?_; rintro e w1 ⟨fr, to, m, a13, c13, a14, c14, a15, c15, a16, c16, P', _, rfl, _, hA, hO, hs⟩; have H1 := hid (And.intro hA (And.intro hO hs)); clear hA hO hs; obtain ⟨A, eA⟩ : ∃ A, A = Value.agg (pkC fr to m (.slice a13 m.nx.length c13) (.slice a14 m.sg.length c14) (.slice a15 m.cg.length c15) (.slice a16 m.ln.length c16)).toArray := ⟨_, rfl⟩; rw [← eA]; have HAg := hid eA; clear eA)))
  go_ret
  have hb9 : Below w1.heap.size w1 (w1.alloc (.cells zPk.toArray 50)) := (Below.refl _ _).alloc (Nat.le_refl _) _
  have hb : Below w1.heap.size w1 w4 := H4.out.2.below hb9 (Nat.le_refl _)
  exact ⟨rfl, P', H1.out.1.keep hb, ⟨hb.os.trans H1.out.2.1.os, hb.tape.trans H1.out.2.1.tape, hb.output.trans H1.out.2.1.output, Nat.le_trans H1.out.2.1.size hb.size, fun k hk hn => (hb.block k (Nat.lt_of_lt_of_le hk H1.out.2.1.size)).trans (H1.out.2.1.block k hk hn)⟩, fun k hk => .inl (H1.out.2.2 k hk)⟩
set_option maxRecDepth 100000 in
set_option maxHeartbeats 3200000 in
theorem ncopy_no (hw : ∀ u : World, Below w.heap.size w u → Calls Tryz.prog 40 #[v, .int .i64 n] u fun e w' => e = .returned (.tuple #[.int .i64 0, .bool false]) ∧ Below u.heap.size u w') : Calls Tryz.prog 22 #[v, .int .i64 n] w fun e w' => e = .returned (.bool false) ∧ Below w.heap.size w w' := by
  have HPl := hid hw
  clear hw
  go_enter Tryz.func22, Tryz.ntmps22
  go_wp2_with (go_at_call 40; go_must (refine (HPl.out _ (Below.refl _ _)).mono ?_; rintro e w1 ⟨rfl, hb⟩; have H1 := hid hb; clear hb))
  go_ret
  exact ⟨rfl, H1.out⟩
theorem ncopy_none (h : LaneAt N P w v bad ps L) (hp : ps.length = 0) (n : Int) : Calls Tryz.prog 22 #[v, .int .i64 n] w fun e w' => e = .returned (.bool false) ∧ Below w.heap.size w w' := ncopy_no (fun _ hu => nplace_none (h.keep hu) hp n)
theorem ncopy_nil (n : Int) (w : World) : Calls Tryz.prog 22 #[.pointer none, .int .i64 n] w fun e w' => e = .returned (.bool false) ∧ Below w.heap.size w w' := ncopy_no (fun u _ => nplace_nil n u)
/-- A packet, its reals those with their bits. -/
def nrmP (q : Pkt) : Pkt := (q.1, q.2.1, normM q.2.2)
set_option maxRecDepth 100000 in
set_option maxHeartbeats 6400000 in
theorem ncopy_any (h : LaneAt N P w v bad ps L) (hp : 0 < ps.length) (hs : ∀ q, q ∈ ps → msS q.2.2) (n : Int) : Calls Tryz.prog 22 #[v, .int .i64 n] w fun e w' => ∃ q, ps[plN n ps.length]? = some q ∧ e = .returned (.bool (decide (ps.length < 4096))) ∧ LanePost N P w w' v bad (addP ps (nrmP q)) L := by
  have HPl := hid (nplace_any h hp n)
  have hlt := plN_lt n hp
  generalize plN n ps.length = p at HPl hlt ⊢
  have HAt := hid h
  obtain ⟨F, g, ab, kb, vr, vk, Fb, B, rfl, hM, hP⟩ := h
  have hrow := hM.row
  rw [hM.len] at hrow
  obtain ⟨ad, cap, rfl, _, _, hr⟩ := row_lane hrow
  obtain ⟨r, rfl, hrl, _⟩ := hr hp
  obtain ⟨b, hb⟩ : ∃ b, B[p]? = some b := ⟨_, List.getElem?_eq_getElem (by rw [hM.len]; exact hlt)⟩
  obtain ⟨⟨fr, to, m⟩, hq⟩ : ∃ q, ps[p]? = some q := ⟨_, List.getElem?_eq_getElem hlt⟩
  obtain ⟨hFb, a13, c13, a14, c14, a15, c15, a16, c16, hbx, hml⟩ := hM.pk p b _ hb hq
  have hms := hs _ (List.mem_of_getElem? hq)
  have hcell : ∀ u : World, Below w.heap.size w u → u.cell? ⟨r, p, none⟩ = some (.pointer (some ⟨b, 0, none⟩)) := fun u hu => by
    have h9 := (hM.keep hu).row.cells (g := r) rfl p (ptrV b) (by rw [List.getElem?_map, hb]; rfl)
    rw [Addr.add_lit, Nat.zero_add] at h9
    exact h9
  have hmx := hM.mx
  have q1 : (p : Int) < (ps.length : Int) := by omega
  have q0 : (0 : Int) ≤ (p : Int) := Int.natCast_nonneg _
  obtain ⟨A, eA⟩ : ∃ A, A = Value.agg (pkC fr to m (.slice a13 m.nx.length c13) (.slice a14 m.sg.length c14) (.slice a15 m.cg.length c15) (.slice a16 m.ln.length c16)).toArray := ⟨_, rfl⟩
  have HOw := hid (fun (u : World) (hu : Below w.heap.size w u) => nown_any fr to m hms _ _ _ _ u (hml.under hu))
  have HM := hid hM
  have HC := hid hcell
  have HX := hid (And.intro hbx hq)
  have HAg := hid eA
  replace HOw : Hid (∀ u : World, Below w.heap.size w u → Calls Tryz.prog 32 #[A] u fun e w' => ∃ a1 c1 a2 c2 a3 c3 a4 c4, e = .returned (.agg (pkC fr to (normM m) (.slice a1 (normM m).nx.length c1) (.slice a2 (normM m).sg.length c2) (.slice a3 (normM m).cg.length c3) (.slice a4 (normM m).ln.length c4)).toArray) ∧ MsL (fun k => u.heap.size ≤ k) w' (normM m) (.slice a1 (normM m).nx.length c1) (.slice a2 (normM m).sg.length c2) (.slice a3 (normM m).cg.length c3) (.slice a4 (normM m).ln.length c4) ∧ Below u.heap.size u w') := hid (fun u hu => by
    rw [eA]
    refine (HOw.out u hu).mono ?_
    rintro e w' ⟨a1, c1, a2, c2, a3, c3, a4, c4, rfl, h1, h2⟩
    have hl : (normM m).cg.length = m.cg.length := by simp [normM]
    rw [← hl] at h1 ⊢
    exact ⟨a1, c1, a2, c2, a3, c3, a4, c4, rfl, h1, h2⟩)
  clear hM hcell hbx hml hFb hq hb hP hrow hr hrl hp hlt hmx eA hs hms
  unfold ptrV at HPl ⊢
  go_enter Tryz.func22, Tryz.ntmps22
  go_wp2_with (first
    | (go_at_call 35; go_must (refine ((HAt.out.keep H1.out).add1 H2.out.2 fr to (normM m) _ _ _ _ _ _ _ _ H2.out.1).mono ?_; rintro e w3 ⟨rfl, h3⟩; have H3 := hid h3; clear h3))
    | (go_at_call 32; go_must (refine (HOw.out _ H1.out).mono ?_; rintro e w2 ⟨a1, c1, a2, c2, a3, c3, a4, c4, rfl, h1, h2⟩; have H2 := hid (And.intro h1 h2); clear h1 h2))
    | (refine wl_loadB rfl 50 _ rfl b 0 rfl (pkC fr to m (.slice a13 m.nx.length c13) (.slice a14 m.sg.length c14) (.slice a15 m.cg.length c15) (.slice a16 m.ln.length c16)) 50 (HX.out.1.keep H1.out) _ Tryz.underlying50 rfl (by kernel_rfl) A HAg.out rfl ?_)
    | (go_at_call 40; go_must (refine HPl.out.mono ?_; rintro e w1 ⟨rfl, hb⟩; have H1 := hid hb; clear hb; have y1 := (HM.out.keep H1.out).blk.cell 1 _ rfl; have yr := HC.out w1 H1.out)))
  go_ret
  have hlow : ∀ {w3 : World} {qs : List Pkt}, LanePost N P w1 w3 (ptrV g) bad qs L → LanePost N P w w3 (ptrV g) bad qs L := fun ⟨P2, k1, k2, k3⟩ => ⟨P2, k1, (Outs.ofB H1.out).trans k2 (fun _ _ hq => hq), fun k hk => by
    rcases k3 k hk with hq | hq
    · exact .inl hq
    · exact .inr (Nat.le_trans H1.out.size hq)⟩
  exact ⟨_, HX.out.2, rfl, hlow H3.out⟩
end
end Go.Proofs.YthjgnfeadagmeaaGreat
