/- Noughts behind a short key change nothing: the walk. -/
import Derived.Test.YtnlmjclloaholaaMaH
import Derived.RegionTactic
import Derived.Laws.OwnMore
namespace Go.Proofs.Ytnlmjclloaholaa
open Go.RowKit

theorem made_noughts (n : Nat) : (madeCells #[.int .u8 0] n).toList = bC (List.replicate n 0) := by
  rw [toList_madeCells_one, bC, List.map_replicate]
  rfl
theorem made_text (u x : World) (n g : Nat) (hg : g = u.heap.size) (hb : Below (u.heap.size + 1) (u.alloc (.cells (madeCells #[.int .u8 0] n) 5)) x) :
    (convert 41 9 (.slice (some ⟨g, 0, none⟩) n n)).run Try.prog x = .ok (.string ⟨(List.replicate n 0).toArray⟩) x := by
  subst hg
  refine row_text x u.heap.size n (List.replicate n 0) (fun j v hv => ?_) n (by rw [List.length_replicate])
  rw [hb.cell (p := ⟨u.heap.size, j, none⟩) (Nat.lt_succ_self _)]
  refine cell_at (L := (madeCells #[.int .u8 0] n).toList) (t := 5) (fr := (0, 0)) (heap_alloc_last u _) j v ?_
  rw [made_noughts]
  exact hv

set_option maxRecDepth 100000 in
set_option maxHeartbeats 1600000 in
theorem macLong_walk (k t : ByteArray) (m : Int) (w : World) :
    Calls Try.prog 8 #[.string k, .string t, .int .i64 m] w fun e w' => e = .returned (.bool true) ∧ Below w.heap.size w w' := by
  by_cases hk : 64 < k.size
  · have hk2 : (64 : Int) < (k.size : Int) := by omega
    clear hk
    go_enter Try.func8, Try.ntmps8
    go_wp2_with (first
      | (go_at_call 9; have := H1; refine (mlives_any _).mono ?_; rintro e w2 ⟨rfl, hb2⟩; have H2 := hid (H1.out.trans (hb2.mono H1.out.size)); clear hb2)
      | (go_at_call 9; refine (mlives_any _).mono ?_; rintro e w1 ⟨rfl, hb1⟩; have H1 := hid hb1; clear hb1))
    go_ret
    exact ⟨rfl, H2.out⟩
  · by_cases ht : 4096 < t.size
    · have hk2 : ¬ ((64 : Int) < (k.size : Int)) := by omega
      have ht2 : (4096 : Int) < (t.size : Int) := by omega
      clear hk ht
      go_enter Try.func8, Try.ntmps8
      go_wp2_with (first
        | (go_at_call 9; have := H1; refine (mlives_any _).mono ?_; rintro e w2 ⟨rfl, hb2⟩; have H2 := hid (H1.out.trans (hb2.mono H1.out.size)); clear hb2)
        | (go_at_call 9; refine (mlives_any _).mono ?_; rintro e w1 ⟨rfl, hb1⟩; have H1 := hid hb1; clear hb1))
      go_ret
      exact ⟨rfl, H2.out⟩
    · have hk2 : (k.size : Int) ≤ 64 := by omega
      have ht2 : (t.size : Int) ≤ 4096 := by omega
      have hk0 : (0 : Int) ≤ (k.size : Int) := Int.natCast_nonneg _
      have wn : 0 ≤ IntKind.u64.wrap m := by
        simp [IntKind.wrap, IntKind.bits, IntKind.signed]
        omega
      obtain ⟨n, hn, hn1⟩ : ∃ n : Nat, (IntKind.u64.wrap m).tmod (65 - (k.size : Int)) = (n : Int) ∧ (k.size : Int) + (n : Int) ≤ 64 := by
        have h1 := Int.emod_nonneg (IntKind.u64.wrap m) (by omega : (65 - (k.size : Int)) ≠ 0)
        have h2 := Int.emod_lt_of_pos (IntKind.u64.wrap m) (by omega : 0 < (65 - (k.size : Int)))
        refine ⟨(IntKind.u64.wrap m % (65 - (k.size : Int))).toNat, ?_, by omega⟩
        rw [Int.tmod_eq_emod_of_nonneg wn]; omega
      clear wn
      have hn0 : (0 : Int) ≤ (n : Int) := Int.natCast_nonneg _
      obtain ⟨i0, hi0, hz0, hz1, hz2⟩ := info_parts Try.info5
      have HMk : Hid (∀ u : World, (Instr.makeSlice 41 (.int .i64 (n : Int)) (.int .i64 (n : Int))).run Try.prog u = .ok (.slice (some ⟨u.heap.size, 0, none⟩) n n) (u.alloc (.cells (madeCells #[.int .u8 0] n) 5))) := hid (fun u => by
        have h := run_make (P := Try.prog) u 41 5 i0 (.int .u8 0) Try.underlying41 hi0 hz0 .i64 .i64 n n (by omega) (by omega) (by rw [hz2]; omega) (by omega)
        rw [hz1, Int.toNat_natCast, Nat.mul_one] at h
        exact h)
      obtain ⟨Z, eZ⟩ : ∃ Z : ByteArray, Z = ⟨(List.replicate n 0).toArray⟩ := ⟨_, rfl⟩
      have hZ : Z.size = n := by rw [← data_len, eZ, mk_data, List.length_replicate]
      obtain ⟨T, eT⟩ : ∃ T : ByteArray, T = ⟨(macB k.data.toList t.data.toList).toArray⟩ := ⟨_, rfl⟩
      have HX : Hid (∀ (u x : World) (g : Nat), g = u.heap.size → Below (u.heap.size + 1) (u.alloc (.cells (madeCells #[.int .u8 0] n) 5)) x → (convert 41 9 (.slice (some ⟨g, 0, none⟩) n n)).run Try.prog x = .ok (.string Z) x) := hid (fun u x g hg hb => by
        rw [eZ]; exact made_text u x n g hg hb)
      have HM : Hid (∀ u : World, Calls Try.prog 11 #[.string k, .string t] u fun e w' => e = .returned (.string T) ∧ Below u.heap.size u w') := hid (fun u => by rw [eT]; exact mac_any k t (by omega) (by omega) u)
      have HN : Hid (∀ u : World, Calls Try.prog 11 #[.string (k ++ Z), .string t] u fun e w' => e = .returned (.string T) ∧ Below u.heap.size u w') := hid (fun u => by
        have := mac_any (k ++ Z) t (by rw [ByteArray.size_append]; omega) (by omega) u
        rw [ByteArray.data_append, Array.toList_append, eZ, mk_data, mac_more _ _ _ (by rw [data_len]; omega), ← eT] at this
        rw [eZ]
        exact this)
      have hZ2 : (Z.size : Int) = (n : Int) := by omega
      clear hk ht hi0 hz0 hz1 hz2 eZ eT hZ
      go_enter Try.func8, Try.ntmps8
      go_wp2_with (go_at_call 9; refine (mlives_any _).mono ?_; rintro e w1 ⟨rfl, hb1⟩; have H1 := hid hb1; clear hb1)
      refine wp_region_any (by kernel_rfl) ?_
      try (change wpAny _ _ _ _ _ _ _ (World.drew _))
      refine wpAny_take (i := 0) (v := .string k) rfl (by kernel_rfl) (by kernel_rfl) (by kernel_rfl) (fun _ _ _ h => h) (Or.inl ⟨by rfl, ?_⟩) ?_
      · intro w; go_simp
      go_simp
      refine wpAny_take (i := 1) (v := .string t) rfl (by kernel_rfl) (by kernel_rfl) (by kernel_rfl) (fun _ _ _ h => h) (Or.inl ⟨by rfl, ?_⟩) ?_
      · intro w; go_simp
      go_simp
      refine wpAny_take (i := 3) (v := .string k) rfl (by kernel_rfl) (by kernel_rfl) (by kernel_rfl) (fun _ _ _ h => h) (Or.inl ⟨by rfl, ?_⟩) ?_
      · intro w; go_simp
      go_simp
      refine wpAny_take (i := 4) (v := .int .i64 (n : Int)) rfl (by kernel_rfl) (by kernel_rfl) (by kernel_rfl) (fun _ _ _ h => h) (Or.inl ⟨by rfl, ?_⟩) ?_
      · intro w; go_simp
      go_simp
      refine wpAny_take (i := 8) (v := .string t) rfl (by kernel_rfl) (by kernel_rfl) (by kernel_rfl) (fun _ _ _ h => h) (Or.inl ⟨by rfl, ?_⟩) ?_
      · intro w; go_simp
      go_simp
      refine wpAny_ready (rs := [2, 5]) (by kernel_rfl) (by simp) ?_
      refine AllReady.cons rfl (fun K hK => ?_) ?_
      · go_simp
        refine Calls.mono (HM.out w1.drew) ?_
        rintro e w2 ⟨rfl, hb⟩
        have HBw2 := hid (hb)
        clear hb
        refine hK _ _ ?_
        clear hK K
        go_simp
        refine wpAny_ready (rs := [5]) (by kernel_rfl) (by simp) ?_
        refine AllReady.cons rfl (fun K hK => ?_) ?_
        · go_simp
          rw [HMk.out]
          go_simp
          refine hK _ _ ?_
          clear hK K
          try go_simp
          refine wpAny_ready (rs := [6]) (by kernel_rfl) (by simp) ?_
          refine AllReady.cons rfl (fun K hK => ?_) ?_
          · go_simp
            rw [HX.out (w2) (w2.alloc (.cells (madeCells #[.int .u8 0] n) 5)) w2.heap.size rfl (Below.refl _ _)]
            go_simp
            refine hK _ _ ?_
            clear hK K
            try go_simp
            refine wpAny_take (i := 7) (v := .string (k ++ Z)) rfl (by kernel_rfl) (by kernel_rfl) (by kernel_rfl) (fun _ _ _ h => h) (Or.inl ⟨by rfl, ?_⟩) ?_
            · intro w; go_simp; omega
            go_simp
            refine wpAny_ready (rs := [9]) (by kernel_rfl) (by simp) ?_
            refine AllReady.cons rfl (fun K hK => ?_) ?_
            · go_simp
              refine Calls.mono (HN.out (w2.alloc (.cells (madeCells #[.int .u8 0] n) 5))) ?_
              rintro e w3 ⟨rfl, hb⟩
              have HBw3 := hid (hb)
              clear hb
              refine hK _ _ ?_
              clear hK K
              go_simp
              refine wpAny_take (i := 10) (v := .bool true) rfl (by kernel_rfl) (by kernel_rfl) (by kernel_rfl) (fun _ _ _ h => h) (Or.inl ⟨by rfl, ?_⟩) ?_
              · intro w; go_simp
              go_simp
              refine wpAny_take (i := 11) (v := .bool true) rfl (by kernel_rfl) (by kernel_rfl) (by kernel_rfl) (fun _ _ _ h => h) (Or.inl ⟨by rfl, ?_⟩) ?_
              · intro w; go_simp
              go_simp
              refine wpAny_done (by kernel_rfl) ?_ _
              go_simp
              go_wp2
              go_ret
              exact ⟨rfl, (H1.out.drew.trans (HBw2.out.mono H1.out.size)).trans (((Below.refl _ _).alloc (Nat.le_trans H1.out.size HBw2.out.size) _).trans (HBw3.out.mono (Nat.le_trans (Nat.le_trans H1.out.size HBw2.out.size) (by simp))))⟩
            exact AllReady.nil
          exact AllReady.nil
        exact AllReady.nil
      refine AllReady.cons rfl (fun K hK => ?_) ?_
      · go_simp
        rw [HMk.out]
        go_simp
        refine hK _ _ ?_
        clear hK K
        try go_simp
        refine wpAny_ready (rs := [2, 6]) (by kernel_rfl) (by simp) ?_
        refine AllReady.cons rfl (fun K hK => ?_) ?_
        · go_simp
          refine Calls.mono (HM.out (w1.drew.alloc (.cells (madeCells #[.int .u8 0] n) 5))) ?_
          rintro e w2 ⟨rfl, hb⟩
          have HBw2 := hid (hb)
          clear hb
          refine hK _ _ ?_
          clear hK K
          go_simp
          refine wpAny_ready (rs := [6]) (by kernel_rfl) (by simp) ?_
          refine AllReady.cons rfl (fun K hK => ?_) ?_
          · go_simp
            rw [HX.out (w1.drew) (w2) w1.heap.size rfl (HBw2.out.mono (by simp))]
            go_simp
            refine hK _ _ ?_
            clear hK K
            try go_simp
            refine wpAny_take (i := 7) (v := .string (k ++ Z)) rfl (by kernel_rfl) (by kernel_rfl) (by kernel_rfl) (fun _ _ _ h => h) (Or.inl ⟨by rfl, ?_⟩) ?_
            · intro w; go_simp; omega
            go_simp
            refine wpAny_ready (rs := [9]) (by kernel_rfl) (by simp) ?_
            refine AllReady.cons rfl (fun K hK => ?_) ?_
            · go_simp
              refine Calls.mono (HN.out w2) ?_
              rintro e w3 ⟨rfl, hb⟩
              have HBw3 := hid (hb)
              clear hb
              refine hK _ _ ?_
              clear hK K
              go_simp
              refine wpAny_take (i := 10) (v := .bool true) rfl (by kernel_rfl) (by kernel_rfl) (by kernel_rfl) (fun _ _ _ h => h) (Or.inl ⟨by rfl, ?_⟩) ?_
              · intro w; go_simp
              go_simp
              refine wpAny_take (i := 11) (v := .bool true) rfl (by kernel_rfl) (by kernel_rfl) (by kernel_rfl) (fun _ _ _ h => h) (Or.inl ⟨by rfl, ?_⟩) ?_
              · intro w; go_simp
              go_simp
              refine wpAny_done (by kernel_rfl) ?_ _
              go_simp
              go_wp2
              go_ret
              exact ⟨rfl, ((H1.out.drew.alloc H1.out.size _).trans (HBw2.out.mono (Nat.le_trans H1.out.size (by simp)))).trans (HBw3.out.mono (Nat.le_trans (Nat.le_trans H1.out.size (by simp)) HBw2.out.size))⟩
            exact AllReady.nil
          exact AllReady.nil
        refine AllReady.cons rfl (fun K hK => ?_) ?_
        · go_simp
          rw [HX.out (w1) ((w1.alloc (.cells (madeCells #[.int .u8 0] n) 5)).drew) w1.heap.size rfl ((Below.refl _ _).drew)]
          go_simp
          refine hK _ _ ?_
          clear hK K
          try go_simp
          refine wpAny_take (i := 7) (v := .string (k ++ Z)) rfl (by kernel_rfl) (by kernel_rfl) (by kernel_rfl) (fun _ _ _ h => h) (Or.inl ⟨by rfl, ?_⟩) ?_
          · intro w; go_simp; omega
          go_simp
          refine wpAny_ready (rs := [2]) (by kernel_rfl) (by simp) ?_
          refine AllReady.cons rfl (fun K hK => ?_) ?_
          · go_simp
            refine Calls.mono (HM.out ((w1.alloc (.cells (madeCells #[.int .u8 0] n) 5)).drew)) ?_
            rintro e w2 ⟨rfl, hb⟩
            have HBw2 := hid (hb)
            clear hb
            refine hK _ _ ?_
            clear hK K
            go_simp
            refine wpAny_ready (rs := [9]) (by kernel_rfl) (by simp) ?_
            refine AllReady.cons rfl (fun K hK => ?_) ?_
            · go_simp
              refine Calls.mono (HN.out w2) ?_
              rintro e w3 ⟨rfl, hb⟩
              have HBw3 := hid (hb)
              clear hb
              refine hK _ _ ?_
              clear hK K
              go_simp
              refine wpAny_take (i := 10) (v := .bool true) rfl (by kernel_rfl) (by kernel_rfl) (by kernel_rfl) (fun _ _ _ h => h) (Or.inl ⟨by rfl, ?_⟩) ?_
              · intro w; go_simp
              go_simp
              refine wpAny_take (i := 11) (v := .bool true) rfl (by kernel_rfl) (by kernel_rfl) (by kernel_rfl) (fun _ _ _ h => h) (Or.inl ⟨by rfl, ?_⟩) ?_
              · intro w; go_simp
              go_simp
              refine wpAny_done (by kernel_rfl) ?_ _
              go_simp
              go_wp2
              go_ret
              exact ⟨rfl, ((H1.out.drew.alloc H1.out.size _).trans (HBw2.out.mono (Nat.le_trans H1.out.size (by simp)))).trans (HBw3.out.mono (Nat.le_trans (Nat.le_trans H1.out.size (by simp)) HBw2.out.size))⟩
            exact AllReady.nil
          exact AllReady.nil
        exact AllReady.nil
      exact AllReady.nil
end Go.Proofs.Ytnlmjclloaholaa
