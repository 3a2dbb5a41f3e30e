/- OnetimeSigns: the walk. -/
import Derived.Test.YtcofadhflbiahaaOtH
import Derived.Test.YtcofadhflbiahaaOtT
namespace Go.Proofs.Ytcofadhflbiahaa
open Go.RowKit

set_option maxRecDepth 100000 in
set_option maxHeartbeats 3200000 in
theorem onetimeSigns_walk (s : ByteArray) (n : Int) (t : ByteArray) (w : World) :
    Calls Try.prog 6 #[.string s, .int .i64 n, .string t] w fun e w' => e = .returned (.bool true) ∧ Below w.heap.size w w' := by
  by_cases hl : s.size ≤ 4096 ∧ t.size ≤ 4096
  · have HS := hid (decide_eq_true hl)
    obtain ⟨T, eT⟩ : ∃ T : ByteArray, T = signS s n t := ⟨_, rfl⟩
    obtain ⟨r, er⟩ : ∃ r, r = leafE n := ⟨_, rfl⟩
    have HM : Hid (∀ u : World, Calls Try.prog 18 #[.string s, .int .i64 n, .string t] u fun e w' => e = .returned (.tuple #[.string T, .int .i64 r]) ∧ Below u.heap.size u w') := hid (fun u => by rw [eT, er]; exact osign_le s (by omega) n t (by omega) u)
    have HN : Hid (∀ u : World, Calls Try.prog 19 #[.string s, .int .i64 n, .string t] u fun e w' => e = .returned (.tuple #[.string T, .int .i64 r]) ∧ Below u.heap.size u w') := hid (fun u => by rw [eT, er]; exact psign_le s (by omega) n t (by omega) u)
    clear hl eT er
    go_enter Try.func6, Try.ntmps6
    go_wp2_with (first
      | (go_at_call 9; refine (olives_any _).mono ?_; rintro e w1 ⟨rfl, hb1⟩; have H1 := hid hb1; clear hb1)
      | (go_at_call 10; refine (oshort_any _ _ _ (by exact HS.out) _).mono ?_; rintro e wx ⟨rfl, rfl⟩)
      | (go_at_call 18; refine (HM.out _).mono ?_; rintro e w2 ⟨rfl, hb2⟩; have H2 := hid (H1.out.trans (hb2.mono H1.out.size)); clear hb2)
      | (go_at_call 19; refine (HN.out _).mono ?_; rintro e w3 ⟨rfl, hb3⟩; have H3 := hid (H2.out.trans (hb3.mono H2.out.size)); clear hb3))
    go_ret
    exact ⟨rfl, H3.out⟩
  · have HS := hid (decide_eq_false hl)
    clear hl
    go_enter Try.func6, Try.ntmps6
    go_wp2_with (first
      | (go_at_call 9; have := H1; refine (olives_any _).mono ?_; rintro e w2 ⟨rfl, hb2⟩; have H2 := hid (H1.out.trans (hb2.mono H1.out.size)); clear hb2)
      | (go_at_call 9; refine (olives_any _).mono ?_; rintro e w1 ⟨rfl, hb1⟩; have H1 := hid hb1; clear hb1)
      | (go_at_call 10; refine (oshort_any _ _ _ (by exact HS.out) _).mono ?_; rintro e wx ⟨rfl, rfl⟩))
    go_ret
    exact ⟨rfl, H2.out⟩
end Go.Proofs.Ytcofadhflbiahaa
