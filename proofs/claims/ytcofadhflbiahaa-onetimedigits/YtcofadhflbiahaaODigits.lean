/- OnetimeDigits: the walk. -/
import Derived.Test.YtcofadhflbiahaaOtH
import Derived.Test.YtcofadhflbiahaaOtR
namespace Go.Proofs.Ytcofadhflbiahaa
open Go.RowKit

set_option maxRecDepth 100000 in
set_option maxHeartbeats 3200000 in
theorem onetimeDigits_walk (t : ByteArray) (w : World) :
    Calls Try.prog 3 #[.string t] w fun e w' => e = .returned (.bool true) ∧ Below w.heap.size w w' := by
  by_cases hl : t.size ≤ 4096 ∧ (⟨#[]⟩ : ByteArray).size ≤ 4096
  · have HS := hid (decide_eq_true hl)
    have HD : Hid (∀ u : World, Calls Try.prog 12 #[.string t] u fun e w' => ∃ g cap, e = .returned (.slice (some ⟨g, 0, none⟩) 35 cap) ∧ u.heap.size ≤ g ∧ g < w'.heap.size ∧ IntsIn w' (some ⟨g, 0, none⟩) (nI (txtN t)) ∧ Below u.heap.size u w') := hid (odigits_le t (by omega))
    have HP : Hid (∀ u : World, Calls Try.prog 13 #[.string t] u fun e w' => ∃ g cap, e = .returned (.slice (some ⟨g, 0, none⟩) 35 cap) ∧ u.heap.size ≤ g ∧ g < w'.heap.size ∧ IntsIn w' (some ⟨g, 0, none⟩) (nI (txtN t)) ∧ Below u.heap.size u w') := hid (pdigits_le t (by omega))
    clear hl
    go_enter Try.func3, Try.ntmps3
    go_wp2_with (first
      | (go_at_call 9; refine (olives_any _).mono ?_; rintro e w1 ⟨rfl, hb1⟩; have H1 := hid hb1; clear hb1)
      | (go_at_call 10; refine (oshort_any _ _ _ (by exact HS.out) _).mono ?_; rintro e wx ⟨rfl, rfl⟩)
      | (go_at_call 12; refine (HD.out _).mono ?_; rintro e w2 ⟨g2, cap2, rfl, hl2, hg2, hi2, hb2⟩; have H2 := hid (And.intro hi2 (H1.out.trans (hb2.mono H1.out.size))); clear hl2 hg2 hi2 hb2)
      | (go_at_call 13; refine (HP.out _).mono ?_; rintro e w3 ⟨g3, cap3, rfl, hl3, hg3, hi3, hb3⟩; have H3 := hid (And.intro (H2.out.1.keep hb3 (Nat.le_refl _)) (And.intro hi3 (H2.out.2.trans (hb3.mono H2.out.2.size)))); clear hl3 hg3 hi3 hb3)
      | (go_at_call 11; refine (sameInts_any _ _ 35 _ _ (nI (txtN t)) (by rw [nI_len, txtN_len]) (by decide) _ (by exact H3.out.1) (by exact H3.out.2.1)).mono ?_; rintro e w4 ⟨rfl, hb4⟩; have H4 := hid (H3.out.2.2.trans (hb4.mono H3.out.2.2.size)); clear hb4))
    go_ret
    exact ⟨rfl, H4.out⟩
  · have HS := hid (decide_eq_false hl)
    clear hl
    go_enter Try.func3, Try.ntmps3
    go_wp2_with (first
      | (go_at_call 9; have := H1; refine (olives_any _).mono ?_; rintro e w2 ⟨rfl, hb2⟩; have H2 := hid (H1.out.trans (hb2.mono H1.out.size)); clear hb2)
      | (go_at_call 9; refine (olives_any _).mono ?_; rintro e w1 ⟨rfl, hb1⟩; have H1 := hid hb1; clear hb1)
      | (go_at_call 10; refine (oshort_any _ _ _ (by exact HS.out) _).mono ?_; rintro e wx ⟨rfl, rfl⟩))
    go_ret
    exact ⟨rfl, H2.out⟩
end Go.Proofs.Ytcofadhflbiahaa
