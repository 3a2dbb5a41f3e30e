/- A text with its own padding behind it: the walk. -/
import Derived.Test.YticenbdbeehhnaaShQ
import Derived.Test.YticenbdbeehhnaaShP
import Derived.Test.YticenbdbeehhnaaRows
import Derived.OpenShut
import Derived.Deep.RegionWith
namespace Go.Proofs.Yticenbdbeehhnaa
open Go.RowKit

theorem joinB_two (s t : ByteArray) : joinB [s, t] = s.data.toList ++ t.data.toList := by simp [joinB]
theorem app_data (s t : ByteArray) : (s ++ t).data.toList = s.data.toList ++ t.data.toList := by rw [ByteArray.data_append, Array.toList_append]

set_option maxRecDepth 100000 in
set_option maxHeartbeats 1600000 in
theorem shaPadded_walk (s : ByteArray) (w : World) :
    Calls Try.prog 7 #[.string s] w fun e w' => e = .returned (.bool true) ∧ Below w.heap.size w w' := by
  by_cases hl : 1000 < s.size
  · have hl2 : (1000 : Int) < (s.size : Int) := by omega
    clear hl
    go_enter Try.func7, Try.ntmps7
    go_wp2_with (first
      | (go_at_call 8; refine (slives_any _).mono ?_; rintro e w1 ⟨rfl, hb1⟩; first | (have HB2 := hid (HB1.out.trans (hb1.mono HB1.out.size)); clear hb1) | (have HB1 := hid hb1; clear hb1)))
    go_ret
    exact ⟨rfl, HB2.out⟩
  · have hl2 : (s.size : Int) ≤ 1000 := by omega
    obtain ⟨t, et⟩ : ∃ t : ByteArray, t = ⟨(padB s.size).toArray⟩ := ⟨_, rfl⟩
    have hts : t.size ≤ 72 := by rw [et, data_pad]; have := zerosN_lt s.size; omega
    obtain ⟨T, eT⟩ : ∃ T, T = shaB (s.data.toList ++ t.data.toList) := ⟨_, rfl⟩
    have HP : Hid (∀ u : World, Calls Try.prog 12 #[.int .i64 (s.size : Int)] u fun e w' => e = .returned (.tuple #[.string t, .bool true]) ∧ Below u.heap.size u w') := hid (by rw [et]; exact spad_ok s.size (by omega))
    have HS : Hid (∀ u : World, Calls Try.prog 9 #[.slice (some ⟨u.heap.size, 0, none⟩) 2 2] (u.alloc (.cells #[.string s, .string t] 9)) fun e w' => e = .returned (.string ⟨T.toArray⟩) ∧ Below u.heap.size u w') := hid (fun u => by
      have := ssum_new [s, t] #[.string s, .string t] 2 2 u rfl rfl (by rw [joinB_two, List.length_append, data_len, data_len]; omega) (by decide)
      rw [joinB_two, ← eT] at this
      exact this)
    have HQ : Hid (∀ u : World, Calls Try.prog 10 #[.string (s ++ t)] u fun e w' => e = .returned (.string ⟨T.toArray⟩) ∧ Below u.heap.size u w') := hid (fun u => by
      have := qsum_any (s ++ t) (by rw [ByteArray.size_append]; omega) u
      rw [app_data, ← eT] at this
      exact this)
    have hs3 : (t.size : Int) ≤ 72 := by omega
    clear eT hl et hts
    go_enter Try.func7, Try.ntmps7
    go_wp2_with (first
      | (go_at_call 8; refine (slives_any _).mono ?_; rintro e w1 ⟨rfl, hb1⟩; have HB1 := hid hb1; clear hb1)
      | (go_at_call 12; refine (HP.out _).mono ?_; rintro e w2 ⟨rfl, hb2⟩; have HB2 := hid (HB1.out.trans (hb2.mono HB1.out.size)); clear hb2)
      | (go_at_call 9; refine (HS.out _).mono ?_; rintro e w3 ⟨rfl, hb3⟩; have HB3 := hid (HB2.out.trans (hb3.mono HB2.out.size)); clear hb3)
      | (go_at_call 10; refine (HQ.out _).mono ?_; rintro e w4 ⟨rfl, hb4⟩; have HB4 := hid (HB3.out.trans (hb4.mono HB3.out.size)); clear hb4))
    go_ret
    exact ⟨rfl, HB4.out⟩
end Go.Proofs.Yticenbdbeehhnaa
