/- The beginning of a digest: the walk. -/
import Derived.Test.YticenbdbeehhnaaShQ
import Derived.Test.YticenbdbeehhnaaShP
import Derived.Test.YticenbdbeehhnaaRows
import Derived.OpenShut
import Derived.Deep.RegionWith
namespace Go.Proofs.Yticenbdbeehhnaa
open Go.RowKit

set_option maxRecDepth 100000 in
set_option maxHeartbeats 1600000 in
theorem shaParts_walk (n : Int) (s : ByteArray) (_hn : (Lit.int .i64 n).wf = true) (w : World) :
    Calls Try.prog 5 #[.int .i64 n, .string s] w fun e w' => e = .returned (.bool true) ∧ Below w.heap.size w w' := by
  by_cases hl : 4096 < s.size
  · have hl2 : (4096 : Int) < (s.size : Int) := by omega
    clear hl
    go_enter Try.func5, Try.ntmps5
    go_wp2_with (first
      | (go_at_call 8; refine (slives_any _).mono ?_; rintro e w1 ⟨rfl, hb1⟩; first | (have HB2 := hid (HB1.out.trans (hb1.mono HB1.out.size)); clear hb1) | (have HB1 := hid hb1; clear hb1)))
    go_ret
    exact ⟨rfl, HB2.out⟩
  · have hl2 : (s.size : Int) ≤ 4096 := by omega
    by_cases h : n < 0 ∨ 32 < n
    · have HP : Hid (∀ v u, Calls Try.prog 14 #[.int .i64 n, v] u fun e w' => e = .returned (.tuple #[.string ⟨#[]⟩, .int .i64 1]) ∧ w' = u) := hid (spart_no n h)
      clear hl
      by_cases hn : n < 0
      · clear h
        go_enter Try.func5, Try.ntmps5
        go_wp2_with (first
          | (go_at_call 8; refine (slives_any _).mono ?_; rintro e w1 ⟨rfl, hb1⟩; have HB1 := hid hb1; clear hb1)
          | (go_at_call 14; refine (HP.out _ _).mono ?_; rintro e w2 ⟨rfl, rfl⟩))
        go_ret
        exact ⟨rfl, HB1.out.alloc HB1.out.size _⟩
      · have hg : 32 < n := by omega
        clear h
        go_enter Try.func5, Try.ntmps5
        go_wp2_with (first
          | (go_at_call 8; refine (slives_any _).mono ?_; rintro e w1 ⟨rfl, hb1⟩; have HB1 := hid hb1; clear hb1)
          | (go_at_call 14; refine (HP.out _ _).mono ?_; rintro e w2 ⟨rfl, rfl⟩))
        go_ret
        exact ⟨rfl, HB1.out.alloc HB1.out.size _⟩
    · obtain ⟨m, rfl⟩ : ∃ m : Nat, n = (m : Int) := ⟨n.toNat, by omega⟩
      have hm : m ≤ 32 := by omega
      have hn0 : ¬ ((m : Int) < 0) := by omega
      have hn1 : (m : Int) ≤ 32 := by omega
      have hn2 : (0 : Int) ≤ (m : Int) := by omega
      obtain ⟨T, eT⟩ : ∃ T, T = shaB s.data.toList := ⟨_, rfl⟩
      have hT : (⟨T.toArray⟩ : ByteArray).size = 32 := by
        show T.toArray.size = 32
        rw [List.size_toArray, eT, shaB_len]
      have HP : Hid (∀ u : World, Calls Try.prog 14 #[.int .i64 (m : Int), .slice (some ⟨u.heap.size, 0, none⟩) 1 1] (u.alloc (.cells #[.string s] 9)) fun e w' => e = .returned (.tuple #[.string ⟨(T.take m).toArray⟩, .int .i64 0]) ∧ Below u.heap.size u w') := hid (fun u => by
        have := spart_ok m hm u.heap.size 1 [s] (u.alloc (.cells #[.string s] 9)) (by simp) (one_cell u s) (by rw [joinB_one, data_len]; omega) (by show 1 ≤ _; decide)
        rw [joinB_one, ← eT] at this
        refine this.mono ?_
        rintro e w' ⟨rfl, hb⟩
        exact ⟨rfl, ((Below.refl _ _).alloc (Nat.le_refl _) _).trans (hb.mono (by simp))⟩)
      have HQ : Hid (∀ u : World, Calls Try.prog 10 #[.string s] u fun e w' => e = .returned (.string ⟨T.toArray⟩) ∧ Below u.heap.size u w') := hid (fun u => by
        have := qsum_any s (by omega) u
        rw [← eT] at this
        exact this)
      have he : (⟨T.toArray⟩ : ByteArray).extract 0 m = ⟨(T.take m).toArray⟩ := ext_take _ _
      clear eT hl h hm
      go_enter Try.func5, Try.ntmps5
      go_wp2_with (first
        | (go_at_call 8; refine (slives_any _).mono ?_; rintro e w1 ⟨rfl, hb1⟩; have HB1 := hid hb1; clear hb1)
        | (go_at_call 14; refine (HP.out _).mono ?_; rintro e w2 ⟨rfl, hb2⟩; have HB2 := hid (HB1.out.trans (hb2.mono HB1.out.size)); clear hb2)
        | (go_at_call 10; refine (HQ.out _).mono ?_; rintro e w3 ⟨rfl, hb3⟩; have HB3 := hid (HB2.out.trans (hb3.mono HB2.out.size)); clear hb3))
      go_ret
      exact ⟨rfl, HB3.out⟩
end Go.Proofs.Yticenbdbeehhnaa
