/- A digest hangs on no cut. -/
import Derived.Test.YticenbdbeehhnaaShL
import Derived.Test.YticenbdbeehhnaaRows
namespace Go.Proofs.Yticenbdbeehhnaa
open Go.RowKit

theorem one_cell (w : World) (s : ByteArray) (j : Nat) (x : ByteArray) (h : [s][j]? = some x) : (w.alloc (.cells #[.string s] 9)).cell? ⟨w.heap.size, j, none⟩ = some (.string x) := by
  refine cell_at (L := [.string s]) (t := 9) (fr := (0, 0)) (heap_alloc_last w _) j _ ?_
  have : j < 1 := (List.getElem?_eq_some_iff.1 h).1
  obtain rfl : j = 0 := by omega
  simpa using h
/-- Sum of parts that were laid last. -/
theorem ssum_new (ss : List ByteArray) (cells : Array Value) (n cap : Nat) (u : World) (hn : ss.length = n) (hc : cells = (ss.map Value.string).toArray) (hsz : (joinB ss).length < 1152921504606840000) (h63 : n ≤ 9223372036854775807) :
    Calls Try.prog 9 #[.slice (some ⟨u.heap.size, 0, none⟩) n cap] (u.alloc (.cells cells 9)) fun e w' => e = .returned (.string ⟨(shaB (joinB ss)).toArray⟩) ∧ Below u.heap.size u w' := by
  subst hn
  have := ssum_any u.heap.size cap ss (u.alloc (.cells cells 9)) (by simp) (fun j s hj => by
    subst hc
    exact cell_at (L := ss.map Value.string) (t := 9) (fr := (0, 0)) (heap_alloc_last u _) j _ (by simp [hj])) hsz h63
  refine this.mono ?_
  rintro e w' ⟨rfl, hb⟩
  exact ⟨rfl, ((Below.refl _ _).alloc (Nat.le_refl _) _).trans (hb.mono (by simp))⟩

theorem joinB_one (s : ByteArray) : joinB [s] = s.data.toList := by simp [joinB]
theorem ext_data (s : ByteArray) (i j : Nat) : (s.extract i j).data.toList = (s.data.toList.take j).drop i := by
  rw [ByteArray.data_extract, Array.toList_extract]
  simp [List.drop_take]
theorem joinB_cut (s : ByteArray) (i j : Nat) (hi : i ≤ j) : joinB [s.extract 0 i, ⟨#[]⟩, s.extract i j, s.extract j s.size, ⟨#[]⟩] = s.data.toList := by
  simp only [joinB, List.flatMap_cons, List.flatMap_nil, List.append_nil, ext_data]
  have e1 : s.data.toList.take s.size = s.data.toList := List.take_of_length_le (by rw [data_len]; exact Nat.le_refl _)
  have e2 : s.data.toList.take i = (s.data.toList.take j).take i := by rw [List.take_take, Nat.min_eq_left hi]
  rw [e1, List.drop_zero, e2]
  show (s.data.toList.take j).take i ++ ([] ++ ((s.data.toList.take j).drop i ++ s.data.toList.drop j)) = _
  rw [List.nil_append, ← List.append_assoc, List.take_append_drop, List.take_append_drop]

set_option maxRecDepth 100000 in
set_option maxHeartbeats 1600000 in
theorem shaCuts_walk (s : ByteArray) (a b : Int) (w : World) :
    Calls Try.prog 6 #[.string s, .int .i64 a, .int .i64 b] w fun e w' => e = .returned (.bool true) ∧ Below w.heap.size w w' := by
  by_cases hl : 4096 < s.size
  · have hl2 : (4096 : Int) < (s.size : Int) := by omega
    clear hl
    go_enter Try.func6, Try.ntmps6
    go_wp2_with (first
      | (go_at_call 8; refine (slives_any _).mono ?_; rintro e w1 ⟨rfl, hb1⟩; first | (have HB2 := hid (HB1.out.trans (hb1.mono HB1.out.size)); clear hb1) | (have HB1 := hid hb1; clear hb1)))
    go_ret
    exact ⟨rfl, HB2.out⟩
  · have hl2 : (s.size : Int) ≤ 4096 := by omega
    have wn : ∀ x : Int, 0 ≤ IntKind.u64.wrap x := fun x => by
      simp [IntKind.wrap, IntKind.bits, IntKind.signed]
      omega
    obtain ⟨i, hi, hi1⟩ : ∃ i : Nat, (IntKind.u64.wrap a).tmod ((s.size : Int) + 1) = (i : Int) ∧ (i : Int) ≤ (s.size : Int) := by
      have h1 := Int.emod_nonneg (IntKind.u64.wrap a) (by omega : ((s.size : Int) + 1) ≠ 0)
      have h2 := Int.emod_lt_of_pos (IntKind.u64.wrap a) (by omega : 0 < ((s.size : Int) + 1))
      refine ⟨(IntKind.u64.wrap a % ((s.size : Int) + 1)).toNat, ?_, by omega⟩
      rw [Int.tmod_eq_emod_of_nonneg (wn a)]; omega
    obtain ⟨j, hj, hj1⟩ : ∃ j : Nat, (IntKind.u64.wrap b).tmod ((s.size : Int) - (i : Int) + 1) = (j : Int) ∧ (i : Int) + (j : Int) ≤ (s.size : Int) := by
      have h1 := Int.emod_nonneg (IntKind.u64.wrap b) (by omega : ((s.size : Int) - (i : Int) + 1) ≠ 0)
      have h2 := Int.emod_lt_of_pos (IntKind.u64.wrap b) (by omega : 0 < ((s.size : Int) - (i : Int) + 1))
      refine ⟨(IntKind.u64.wrap b % ((s.size : Int) - (i : Int) + 1)).toNat, ?_, by omega⟩
      rw [Int.tmod_eq_emod_of_nonneg (wn b)]; omega
    clear wn
    have hs0 : (0 : Int) ≤ (s.size : Int) := Int.natCast_nonneg _
    have hi0 : (0 : Int) ≤ (i : Int) := Int.natCast_nonneg _
    have hj0 : (0 : Int) ≤ (j : Int) := Int.natCast_nonneg _
    obtain ⟨k, ek⟩ : ∃ k, i + j = k := ⟨_, rfl⟩
    have hk2 : (i : Int) + (j : Int) = (k : Int) := by omega
    have hk0 : (0 : Int) ≤ (k : Int) := Int.natCast_nonneg _
    have hik : (i : Int) ≤ (k : Int) := by omega
    have hks : (k : Int) ≤ (s.size : Int) := by omega
    obtain ⟨T, eT⟩ : ∃ T, T = shaB s.data.toList := ⟨_, rfl⟩
    have hT : (⟨T.toArray⟩ : ByteArray).size = 32 := by
      show T.toArray.size = 32
      rw [List.size_toArray, eT, shaB_len]
    have hk : s.size ≤ 4096 := by omega
    have H1 : Hid (∀ u : World, Calls Try.prog 9 #[.slice (some ⟨u.heap.size, 0, none⟩) 1 1] (u.alloc (.cells #[.string s] 9)) fun e w' => e = .returned (.string ⟨T.toArray⟩) ∧ Below u.heap.size u w') := hid (fun u => by
      have := ssum_new [s] #[.string s] 1 1 u rfl rfl (by rw [joinB_one, data_len]; omega) (by decide)
      rw [joinB_one, ← eT] at this
      exact this)
    have H5 : Hid (∀ u : World, Calls Try.prog 9 #[.slice (some ⟨u.heap.size, 0, none⟩) 5 5] (u.alloc (.cells #[.string (s.extract 0 i), .string ⟨#[]⟩, .string (s.extract i k), .string (s.extract k s.size), .string ⟨#[]⟩] 9)) fun e w' => e = .returned (.string ⟨T.toArray⟩) ∧ Below u.heap.size u w') := hid (fun u => by
      have ej := joinB_cut s i k (by omega)
      have := ssum_new [s.extract 0 i, ⟨#[]⟩, s.extract i k, s.extract k s.size, ⟨#[]⟩] #[.string (s.extract 0 i), .string ⟨#[]⟩, .string (s.extract i k), .string (s.extract k s.size), .string ⟨#[]⟩] 5 5 u rfl rfl (by rw [ej, data_len]; omega) (by decide)
      rw [ej, ← eT] at this
      exact this)
    clear hl eT hk ek
    go_enter Try.func6, Try.ntmps6
    go_wp2_with (first
      | (go_at_call 8; refine (slives_any _).mono ?_; rintro e w1 ⟨rfl, hb1⟩; have HB1 := hid hb1; clear hb1)
      | (go_at_call 9; refine (H1.out _).mono ?_; rintro e w2 ⟨rfl, hb2⟩; have HB2 := hid (HB1.out.trans (hb2.mono HB1.out.size)); clear hb2))
    refine wp_region_any (by kernel_rfl) ?_
    try (change wpAny _ _ _ _ _ _ _ (World.drew _))
    refine wpAny_take (i := 0) (v := .string ⟨T.toArray⟩) rfl (by kernel_rfl) (by kernel_rfl) (by kernel_rfl) (fun _ _ _ h => h) (Or.inl ⟨by rfl, ?_⟩) ?_
    · intro w; go_simp
    go_simp
    refine wpAny_take (i := 1) (v := .int .i64 32) rfl (by kernel_rfl) (by kernel_rfl) (by kernel_rfl) (fun _ _ _ h => h) (Or.inl ⟨by rfl, ?_⟩) ?_
    · intro w; go_simp
    go_simp
    refine wpAny_take (i := 2) (v := .bool true) rfl (by kernel_rfl) (by kernel_rfl) (by kernel_rfl) (fun _ _ _ h => h) (Or.inl ⟨by rfl, ?_⟩) ?_
    · intro w; go_simp
    go_simp
    refine wpAny_take (i := 3) (v := .bool true) rfl (by kernel_rfl) (by kernel_rfl) (by kernel_rfl) (fun _ _ _ h => h) (Or.inl ⟨by rfl, ?_⟩) ?_
    · intro w; go_simp
    go_simp
    refine wpAny_take (i := 4) (v := .string ⟨T.toArray⟩) rfl (by kernel_rfl) (by kernel_rfl) (by kernel_rfl) (fun _ _ _ h => h) (Or.inl ⟨by rfl, ?_⟩) ?_
    · intro w; go_simp
    go_simp
    refine wpAny_take (i := 5) (v := .string s) rfl (by kernel_rfl) (by kernel_rfl) (by kernel_rfl) (fun _ _ _ h => h) (Or.inl ⟨by rfl, ?_⟩) ?_
    · intro w; go_simp
    go_simp
    refine wpAny_take (i := 6) (v := .int .i64 (i : Int)) rfl (by kernel_rfl) (by kernel_rfl) (by kernel_rfl) (fun _ _ _ h => h) (Or.inl ⟨by rfl, ?_⟩) ?_
    · intro w; go_simp
    go_simp
    refine wpAny_take (i := 7) (v := .string (s.extract 0 i)) rfl (by kernel_rfl) (by kernel_rfl) (by kernel_rfl) (fun _ _ _ h => h) (Or.inl ⟨by rfl, ?_⟩) ?_
    · intro w; go_simp
    go_simp
    refine wpAny_take (i := 8) (v := .string s) rfl (by kernel_rfl) (by kernel_rfl) (by kernel_rfl) (fun _ _ _ h => h) (Or.inl ⟨by rfl, ?_⟩) ?_
    · intro w; go_simp
    go_simp
    refine wpAny_take (i := 9) (v := .int .i64 (i : Int)) rfl (by kernel_rfl) (by kernel_rfl) (by kernel_rfl) (fun _ _ _ h => h) (Or.inl ⟨by rfl, ?_⟩) ?_
    · intro w; go_simp
    go_simp
    refine wpAny_take (i := 10) (v := .int .i64 (k : Int)) rfl (by kernel_rfl) (by kernel_rfl) (by kernel_rfl) (fun _ _ _ h => h) (Or.inl ⟨by rfl, ?_⟩) ?_
    · intro w; go_simp
    go_simp
    refine wpAny_take (i := 11) (v := .string (s.extract i k)) rfl (by kernel_rfl) (by kernel_rfl) (by kernel_rfl) (fun _ _ _ h => h) (Or.inl ⟨by rfl, ?_⟩) ?_
    · intro w; go_simp
    go_simp
    refine wpAny_take (i := 12) (v := .string s) rfl (by kernel_rfl) (by kernel_rfl) (by kernel_rfl) (fun _ _ _ h => h) (Or.inl ⟨by rfl, ?_⟩) ?_
    · intro w; go_simp
    go_simp
    refine wpAny_take (i := 13) (v := .int .i64 (k : Int)) rfl (by kernel_rfl) (by kernel_rfl) (by kernel_rfl) (fun _ _ _ h => h) (Or.inl ⟨by rfl, ?_⟩) ?_
    · intro w; go_simp
    go_simp
    refine wpAny_take (i := 14) (v := .string (s.extract k s.size)) rfl (by kernel_rfl) (by kernel_rfl) (by kernel_rfl) (fun _ _ _ h => h) (Or.inl ⟨by rfl, ?_⟩) ?_
    · intro w; go_simp
    go_simp
    refine wpAny_ready (rs := [15]) (by kernel_rfl) (by simp) ?_
    refine AllReady.cons rfl (fun K hK => ?_) ?_
    · go_simp
      refine hK _ _ ?_
      clear hK K
      refine wpAny_ready (rs := [16]) (by kernel_rfl) (by simp) ?_
      refine AllReady.cons rfl (fun K hK => ?_) ?_
      · go_simp
        refine Calls.mono (H5.out w2.drew) ?_
        rintro e w3 ⟨rfl, hb3⟩
        have HB3 := hid ((HB2.out.drew).trans (hb3.mono HB2.out.size))
        clear hb3
        refine hK _ _ ?_
        clear hK K
        go_simp
        refine wpAny_take (i := 17) (v := .bool true) rfl (by kernel_rfl) (by kernel_rfl) (by kernel_rfl) (fun _ _ _ h => h) (Or.inl ⟨by rfl, ?_⟩) ?_
        · intro w; go_simp
        go_simp
        refine wpAny_take (i := 18) (v := .bool true) rfl (by kernel_rfl) (by kernel_rfl) (by kernel_rfl) (fun _ _ _ h => h) (Or.inl ⟨by rfl, ?_⟩) ?_
        · intro w; go_simp
        go_simp
        refine wpAny_take (i := 19) (v := .bool true) rfl (by kernel_rfl) (by kernel_rfl) (by kernel_rfl) (fun _ _ _ h => h) (Or.inl ⟨by rfl, ?_⟩) ?_
        · intro w; go_simp
        go_simp
        refine wpAny_done (by kernel_rfl) ?_ _
        go_simp
        go_wp2
        go_ret
        exact ⟨rfl, HB3.out⟩
      exact AllReady.nil
    exact AllReady.nil
end Go.Proofs.Yticenbdbeehhnaa
