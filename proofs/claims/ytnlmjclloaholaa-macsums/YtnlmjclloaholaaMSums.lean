/- MACs are what the standard says: the walk. -/
import Derived.Test.YtnlmjclloaholaaMaH
namespace Go.Proofs.Ytnlmjclloaholaa
open Go.RowKit

set_option maxRecDepth 100000 in
set_option maxHeartbeats 1600000 in
theorem macSums_walk (s t : ByteArray) (w : World) :
    Calls Try.prog 3 #[.string s, .string t] w fun e w' => e = .returned (.bool true) ∧ Below w.heap.size w w' := by
  by_cases hl : s.size ≤ 4096 ∧ t.size ≤ 4096
  · obtain ⟨T, eT⟩ : ∃ T : ByteArray, T = ⟨(macB s.data.toList t.data.toList).toArray⟩ := ⟨_, rfl⟩
    have HS := hid (decide_eq_true hl)
    have HM : Hid (∀ u : World, Calls Try.prog 11 #[.string s, .string t] u fun e w' => e = .returned (.string T) ∧ Below u.heap.size u w') := hid (fun u => by rw [eT]; exact mac_any s t (by omega) (by omega) u)
    have HN : Hid (∀ u : World, Calls Try.prog 12 #[.string s, .string t] u fun e w' => e = .returned (.string T) ∧ Below u.heap.size u w') := hid (fun u => by rw [eT]; exact nmac_any s t (by omega) (by omega) u)
    clear hl eT
    go_enter Try.func3, Try.ntmps3
    go_wp2_with (first
      | (go_at_call 9; refine (mlives_any _).mono ?_; rintro e w1 ⟨rfl, hb1⟩; have H1 := hid hb1; clear hb1)
      | (go_at_call 10; refine (mshort_any _ _ _ (by exact HS.out) _).mono ?_; rintro e wx ⟨rfl, rfl⟩)
      | (go_at_call 11; refine (HM.out _).mono ?_; rintro e w2 ⟨rfl, hb2⟩; have H2 := hid (H1.out.trans (hb2.mono H1.out.size)); clear hb2)
      | (go_at_call 12; refine (HN.out _).mono ?_; rintro e w3 ⟨rfl, hb3⟩; have H3 := hid (H2.out.trans (hb3.mono H2.out.size)); clear hb3))
    go_ret
    exact ⟨rfl, H3.out⟩
  · have HS := hid (decide_eq_false hl)
    clear hl
    go_enter Try.func3, Try.ntmps3
    go_wp2_with (first
      | (go_at_call 9; have := H1; refine (mlives_any _).mono ?_; rintro e w2 ⟨rfl, hb2⟩; have H2 := hid (H1.out.trans (hb2.mono H1.out.size)); clear hb2)
      | (go_at_call 9; refine (mlives_any _).mono ?_; rintro e w1 ⟨rfl, hb1⟩; have H1 := hid hb1; clear hb1)
      | (go_at_call 10; refine (mshort_any _ _ _ (by exact HS.out) _).mono ?_; rintro e wx ⟨rfl, rfl⟩))
    go_ret
    exact ⟨rfl, H2.out⟩
end Go.Proofs.Ytnlmjclloaholaa
