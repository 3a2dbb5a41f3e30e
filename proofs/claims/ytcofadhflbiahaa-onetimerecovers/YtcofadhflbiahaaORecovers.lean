/- OnetimeRecovers: the walk. -/
import Derived.Test.YtcofadhflbiahaaOtH
import Derived.Test.YtcofadhflbiahaaOtT
namespace Go.Proofs.Ytcofadhflbiahaa
open Go.RowKit

set_option maxRecDepth 100000 in
set_option maxHeartbeats 3200000 in
theorem onetimeRecovers_walk (t sig : ByteArray) (w : World) :
    Calls Try.prog 7 #[.string t, .string sig] w fun e w' => e = .returned (.bool true) ∧ Below w.heap.size w w' := by
  by_cases hl : t.size ≤ 4096 ∧ (⟨#[]⟩ : ByteArray).size ≤ 4096
  · have HS := hid (decide_eq_true hl)
    obtain ⟨T, eT⟩ : ∃ T : ByteArray, T = recS t sig := ⟨_, rfl⟩
    obtain ⟨r, er⟩ : ∃ r, r = sigOk sig := ⟨_, rfl⟩
    have HM : Hid (∀ u : World, Calls Try.prog 20 #[.string t, .string sig] u fun e w' => e = .returned (.tuple #[.string T, .bool r]) ∧ Below u.heap.size u w') := hid (fun u => by rw [eT, er]; exact orecover_le t (by omega) sig u)
    have HN : Hid (∀ u : World, Calls Try.prog 21 #[.string t, .string sig] u fun e w' => e = .returned (.tuple #[.string T, .bool r]) ∧ Below u.heap.size u w') := hid (fun u => by rw [eT, er]; exact precover_le t (by omega) sig u)
    clear hl eT er
    go_enter Try.func7, Try.ntmps7
    go_wp2_with (first
      | (go_at_call 9; refine (olives_any _).mono ?_; rintro e w1 ⟨rfl, hb1⟩; have H1 := hid hb1; clear hb1)
      | (go_at_call 10; refine (oshort_any _ _ _ (by exact HS.out) _).mono ?_; rintro e wx ⟨rfl, rfl⟩)
      | (go_at_call 20; refine (HM.out _).mono ?_; rintro e w2 ⟨rfl, hb2⟩; have H2 := hid (H1.out.trans (hb2.mono H1.out.size)); clear hb2)
      | (go_at_call 21; refine (HN.out _).mono ?_; rintro e w3 ⟨rfl, hb3⟩; have H3 := hid (H2.out.trans (hb3.mono H2.out.size)); clear hb3))
    go_ret
    exact ⟨rfl, H3.out⟩
  · have HS := hid (decide_eq_false hl)
    clear hl
    go_enter Try.func7, Try.ntmps7
    go_wp2_with (first
      | (go_at_call 9; have := H1; refine (olives_any _).mono ?_; rintro e w2 ⟨rfl, hb2⟩; have H2 := hid (H1.out.trans (hb2.mono H1.out.size)); clear hb2)
      | (go_at_call 9; refine (olives_any _).mono ?_; rintro e w1 ⟨rfl, hb1⟩; have H1 := hid hb1; clear hb1)
      | (go_at_call 10; refine (oshort_any _ _ _ (by exact HS.out) _).mono ?_; rintro e wx ⟨rfl, rfl⟩))
    go_ret
    exact ⟨rfl, H2.out⟩
end Go.Proofs.Ytcofadhflbiahaa
