/- Three of four. -/
import Derived.Test.YtgnapfgiefdlaaaTeP
namespace Go.Proofs.Ytgnapfgiefdlaaa
open Go.RowKit

theorem pairs_blk {w : World} {g : Nat} {ps : List (Int × ByteArray)} {T : TypeId} {fr : Nat × Nat} (h : w.heap[g]? = some (.cells (pC ps).toArray T fr)) : PairsIn w (some ⟨g, 0, none⟩) ps :=
  .inr ⟨g, 0, rfl, lt_of_blk h, fun j p hj => ⟨by rw [Nat.zero_add]; exact cell_at h _ _ (pC_get ps j p hj).1, by rw [Nat.zero_add]; exact cell_at h _ _ (pC_get ps j p hj).2⟩⟩
theorem ints_blk {w : World} {g : Nat} {zs : List Int} {T : TypeId} {fr : Nat × Nat} (h : w.heap[g]? = some (.cells (zs.map (Value.int .i64)).toArray T fr)) : IntsIn w (some ⟨g, 0, none⟩) zs :=
  .inr ⟨g, 0, rfl, lt_of_blk h, fun j z hj => by rw [Nat.zero_add]; exact cell_at h _ _ (by rw [List.getElem?_map, hj]; rfl)⟩
def xT : ByteArray := ⟨#[120]⟩
def fourM : List Int := [1, 2, 3, 4]
def threeS : List (Int × ByteArray) := [(1, xT), (2, xT), (4, xT)]
theorem three_proves : provesB 0 fourM xT threeS = true := by decide
theorem three_gath : (gathL fourM xT threeS).length = 3 := by
  rw [← gathL_eq (S := [1, 2, 4]) (by decide) (fun z => by rw [show gOut fourM xT threeS fourM.length = [1, 2, 4] by decide])]
  rfl
theorem three_noted : noted [] threeS = threeS := by decide
theorem three_stands : stands threeS (2, xT) = true := by decide
theorem three_fit : ∀ p, p ∈ threeS → fitP p := by
  intro p hp
  simp [threeS] at hp
  rcases hp with rfl | rfl | rfl <;> exact ⟨by decide, by decide⟩
set_option maxRecDepth 100000 in
set_option maxHeartbeats 3200000 in
theorem tlives_any (w : World) : Calls Try.prog 9 #[] w fun e w' => e = .returned (.bool true) ∧ Below w.heap.size w w' := by
  obtain ⟨W, eW⟩ : ∃ W, W = ((w.alloc (.cells #[.int .i64 1, .int .i64 2, .int .i64 3, .int .i64 4] 3)).alloc (.cells #[.int .i64 0, .slice (some ⟨w.heap.size, 0, none⟩) 4 4] 24)).alloc (.cells #[.int .i64 1, .string xT, .int .i64 2, .string xT, .int .i64 4, .string xT] 34) := ⟨_, rfl⟩
  have hs : W.heap.size = w.heap.size + 3 := by rw [eW]; simp <;> omega
  have h0 : W.heap[w.heap.size]? = some (.cells (fourM.map (Value.int .i64)).toArray 3 (0, 0)) := by
    rw [eW, heap_alloc_old _ _ (by simp <;> omega), heap_alloc_old _ _ (by simp)]
    exact heap_alloc_last _ _
  have h1 : W.heap[w.heap.size + 1]? = some (.cells #[.int .i64 0, .slice (some ⟨w.heap.size, 0, none⟩) 4 4] 24 (0, 0)) := by
    rw [eW, heap_alloc_old _ _ (by simp)]
    have := heap_alloc_last (w.alloc (.cells #[.int .i64 1, .int .i64 2, .int .i64 3, .int .i64 4] 3)) (.cells #[.int .i64 0, .slice (some ⟨w.heap.size, 0, none⟩) 4 4] 24)
    simpa using this
  have h2 : W.heap[w.heap.size + 1 + 1]? = some (.cells (pC threeS).toArray 34 (0, 0)) := by
    rw [eW]
    have := heap_alloc_last ((w.alloc (.cells #[.int .i64 1, .int .i64 2, .int .i64 3, .int .i64 4] 3)).alloc (.cells #[.int .i64 0, .slice (some ⟨w.heap.size, 0, none⟩) 4 4] 24)) (.cells #[.int .i64 1, .string xT, .int .i64 2, .string xT, .int .i64 4, .string xT] 34)
    rw [show ((w.alloc (.cells #[.int .i64 1, .int .i64 2, .int .i64 3, .int .i64 4] 3)).alloc (.cells #[.int .i64 0, .slice (some ⟨w.heap.size, 0, none⟩) 4 4] 24)).heap.size = w.heap.size + 1 + 1 by simp] at this
    exact this
  have HW : Hid (∀ u, Below W.heap.size W u → (IntsIn u (some ⟨w.heap.size, 0, none⟩) fourM ∧ PairsIn u (some ⟨w.heap.size + 1 + 1, 0, none⟩) threeS) ∧ (u.cell? ⟨w.heap.size + 1, 0, none⟩ = some (.int .i64 0) ∧ u.cell? ⟨w.heap.size + 1, 1, none⟩ = some (.slice (some ⟨w.heap.size, 0, none⟩) 4 4)) ∧ u.cell? ⟨w.heap.size + 1 + 1, 2, none⟩ = some (.int .i64 2) ∧ u.cell? ⟨w.heap.size + 1 + 1, 3, none⟩ = some (.string xT)) := hid (fun u hu =>
    ⟨⟨ints_blk ((hu.block _ (lt_of_blk h0)).trans h0), pairs_blk ((hu.block _ (lt_of_blk h2)).trans h2)⟩, cell_two ((hu.block _ (lt_of_blk h1)).trans h1), cell_at ((hu.block _ (lt_of_blk h2)).trans h2) 2 _ rfl, cell_at ((hu.block _ (lt_of_blk h2)).trans h2) 3 _ rfl⟩)
  have HZ : Hid (Below w.heap.size w W ∧ W.heap.size = w.heap.size + 3) := hid ⟨by rw [eW]; exact (((Below.refl w.heap.size w).alloc (Nat.le_refl _) _).alloc (by simp) _).alloc (by simp <;> omega) _, hs⟩
  have HE := hid eW
  clear h0 h1 h2 hs eW
  go_enter Try.func9, Try.ntmps9
  go_wp2_with (first
    | (go_at_call 20; refine (tnew_any _).mono ?_; rintro e w1 ⟨v, F, rfl, hB1, hF1, hb1⟩; have hx := HE.out; unfold xT at hx; rw [← hx] at hb1 hF1; clear hx; obtain ⟨gb, rfl⟩ := hB1.form; have H1 := hid (And.intro hB1 (And.intro hF1 hb1)); clear hB1 hF1 hb1)
    | (go_at_call 21; have := H1; refine (tnote_any F _ [] _ 3 3 threeS rfl (by decide) three_fit _ H1.out.1 (HW.out _ H1.out.2.2).1.2 (fun ad e _ hm => by cases e; have := H1.out.2.1 _ hm; have := HZ.out.2; simp at *; omega)).mono ?_; rintro e w2 ⟨rfl, F2, hB2, hF2, hb2⟩; rw [three_noted] at hB2; have H2 : Hid (BkAt F2 w2 (.pointer (some ⟨gb, 0, none⟩)) threeS ∧ Below W.heap.size W w2) := hid ⟨hB2, H1.out.2.2.trans (hb2.below H1.out.2.2.size H1.out.2.1)⟩; obtain ⟨c0, c1⟩ := (HW.out _ H2.out.2).2.1; clear hB2 hF2 hb2)
    | (go_at_call 10; have := H2; refine (tproves_any 0 _ 4 4 fourM rfl (by decide) xT _ 3 3 threeS rfl (by decide) _ (HW.out _ H2.out.2).1.1 (HW.out _ H2.out.2).1.2).mono ?_; rintro e w3 ⟨rfl, hb3⟩; rw [three_proves]; have H3 : Hid (BkAt F2 w3 (.pointer (some ⟨gb, 0, none⟩)) threeS ∧ Below W.heap.size W w3) := hid ⟨H2.out.1.keep hb3.size (fun k hk => hb3.block k (H2.out.1.lt k hk)), H2.out.2.trans (hb3.mono H2.out.2.size)⟩; clear c0 c1 hb3; obtain ⟨d0, d1⟩ := (HW.out _ H3.out.2).2.1)
    | (go_at_call 12; have := H3; refine (tcount_any 0 _ 4 4 fourM rfl (by decide) xT _ 3 3 threeS rfl (by decide) _ (HW.out _ H3.out.2).1.1 (HW.out _ H3.out.2).1.2).mono ?_; rintro e w4 ⟨rfl, hb4⟩; rw [three_gath]; have H4 : Hid (BkAt F2 w4 (.pointer (some ⟨gb, 0, none⟩)) threeS ∧ Below W.heap.size W w4) := hid ⟨H3.out.1.keep hb4.size (fun k hk => hb4.block k (H3.out.1.lt k hk)), H3.out.2.trans (hb4.mono H3.out.2.size)⟩; clear d0 d1 hb4; obtain ⟨f0, f1⟩ := (HW.out _ H4.out.2).2.2)
    | (go_at_call 26; have := H4; refine (thas_any F2 _ threeS 2 xT (three_fit (2, xT) (by simp [threeS])) _ H4.out.1).mono ?_; rintro e w5 ⟨rfl, hb5⟩; rw [three_stands]; have H5 : Hid (BkAt F2 w5 (.pointer (some ⟨gb, 0, none⟩)) threeS ∧ Below W.heap.size W w5) := hid ⟨H4.out.1.keep hb5.size (fun k hk => hb5.block k (H4.out.1.lt k hk)), H4.out.2.trans (hb5.mono H4.out.2.size)⟩; clear f0 f1 hb5)
    | (go_at_call 23; have := H5; refine (tlen_any F2 _ threeS _ H5.out.1).mono ?_; rintro e w6 ⟨rfl, hb6⟩; rw [show threeS.length = 3 from rfl]; have H6 : Hid (BkAt F2 w6 (.pointer (some ⟨gb, 0, none⟩)) threeS ∧ Below W.heap.size W w6) := hid ⟨H5.out.1.keep hb6.size (fun k hk => hb6.block k (H5.out.1.lt k hk)), H5.out.2.trans (hb6.mono H5.out.2.size)⟩; clear hb6))
  go_ret
  exact ⟨rfl, HZ.out.1.trans (H6.out.2.mono (by have := HZ.out.2; omega))⟩
end Go.Proofs.Ytgnapfgiefdlaaa
