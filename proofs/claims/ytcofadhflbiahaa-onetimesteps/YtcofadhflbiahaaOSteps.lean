/- OnetimeSteps: the walk. -/
import Derived.Test.YtcofadhflbiahaaOtH
import Derived.Test.YtcofadhflbiahaaOtR
namespace Go.Proofs.Ytcofadhflbiahaa
open Go.RowKit

theorem mod8 (n : Int) : ∃ a : Nat, wrap64 ((IntKind.u64.wrap n).tmod 8) = (a : Int) ∧ a < 8 := by
  have h : 0 ≤ wrap64 ((IntKind.u64.wrap n).tmod 8) ∧ wrap64 ((IntKind.u64.wrap n).tmod 8) < 8 := by
    rw [IntKind.wrap_u64, Int.tmod_eq_emod_of_nonneg (by omega), wrap64]
    omega
  exact ⟨(wrap64 ((IntKind.u64.wrap n).tmod 8)).toNat, by omega, by omega⟩
set_option maxRecDepth 100000 in
set_option maxHeartbeats 3200000 in
theorem onetimeSteps_walk (x : ByteArray) (n m : Int) (w : World) :
    Calls Try.prog 4 #[.string x, .int .i64 n, .int .i64 m] w fun e w' => e = .returned (.bool true) ∧ Below w.heap.size w w' := by
  by_cases hl : x.size ≤ 4096 ∧ (⟨#[]⟩ : ByteArray).size ≤ 4096
  · have HS := hid (decide_eq_true hl)
    obtain ⟨a, ha, ha7⟩ := mod8 n
    obtain ⟨b, hb, hb7⟩ := mod8 m
    obtain ⟨y, ey⟩ : ∃ y, y = stepN a x := ⟨_, rfl⟩
    obtain ⟨T, eT⟩ : ∃ T, T = stepN (a + b) x := ⟨_, rfl⟩
    obtain ⟨R, eR⟩ : ∃ R, R = stepN (clampN n) x := ⟨_, rfl⟩
    have hx : x.size ≤ 1000000 := by omega
    have hy : y.size ≤ 1000000 := by rw [ey]; exact stepN_le a x 1000000 hx (by decide)
    have H0 : Hid (∀ u : World, Calls Try.prog 14 #[.string x, .int .i64 n] u fun e w' => e = .returned (.string R) ∧ Below u.heap.size u w') := hid (fun u => by rw [eR]; exact ostep_le x hx n u)
    have HA : Hid (∀ z : Int, z = (a : Int) → ∀ u : World, Calls Try.prog 14 #[.string x, .int .i64 z] u fun e w' => e = .returned (.string y) ∧ Below u.heap.size u w') := hid (fun z hz u => by
      have := ostep_le x hx (a : Int) u
      rw [clampN_of a (by omega)] at this
      rw [hz, ey]
      exact this)
    have HB : Hid (∀ z : Int, z = (b : Int) → ∀ u : World, Calls Try.prog 14 #[.string y, .int .i64 z] u fun e w' => e = .returned (.string T) ∧ Below u.heap.size u w') := hid (fun z hz u => by
      have := ostep_le y hy (b : Int) u
      rw [clampN_of b (by omega), ey, stepN_add] at this
      rw [hz, eT, ey]
      exact this)
    have HC : Hid (∀ z : Int, z = ((a + b : Nat) : Int) → ∀ u : World, Calls Try.prog 14 #[.string x, .int .i64 z] u fun e w' => e = .returned (.string T) ∧ Below u.heap.size u w') := hid (fun z hz u => by
      have := ostep_le x hx ((a + b : Nat) : Int) u
      rw [clampN_of (a + b) (by omega)] at this
      rw [hz, eT]
      exact this)
    have ha0 : (0 : Int) ≤ (a : Int) := Int.natCast_nonneg _
    have hb0 : (0 : Int) ≤ (b : Int) := Int.natCast_nonneg _
    have ha8 : (a : Int) < 8 := by omega
    have hb8 : (b : Int) < 8 := by omega
    clear ha7 hb7 ey eT hy hl
    have HP : Hid (∀ u : World, Calls Try.prog 15 #[.string x, .int .i64 (min (max n 0) 15)] u fun e w' => e = .returned (.string R) ∧ Below u.heap.size u w') := hid (fun u => by
      have hk : min (max n 0) 15 = ((clampN n : Nat) : Int) := by unfold clampN; omega
      rw [hk, eR]
      exact pstep_le x hx (clampN n) (clampN_le n) u)
    clear eR hx
    go_enter Try.func4, Try.ntmps4
    go_wp2_with (first
      | (go_at_call 9; refine (olives_any _).mono ?_; rintro e w1 ⟨rfl, hb1⟩; have H1 := hid hb1; clear hb1)
      | (go_at_call 10; refine (oshort_any _ _ _ (by exact HS.out) _).mono ?_; rintro e wx ⟨rfl, rfl⟩)
      | (go_at_call 14; have := H5; refine (HC.out _ (by first | rfl | omega) _).mono ?_; rintro e w6 ⟨rfl, hb6⟩; have H6 := hid (H5.out.trans (hb6.mono H5.out.size)); clear hb6)
      | (go_at_call 14; have := H4; refine (HB.out _ (by first | rfl | omega) _).mono ?_; rintro e w5 ⟨rfl, hb5⟩; have H5 := hid (H4.out.trans (hb5.mono H4.out.size)); clear hb5)
      | (go_at_call 14; have := H3; refine (HA.out _ (by first | rfl | omega) _).mono ?_; rintro e w4 ⟨rfl, hb4⟩; have H4 := hid (H3.out.trans (hb4.mono H3.out.size)); clear hb4)
      | (go_at_call 15; refine (HP.out _).mono ?_; rintro e w3 ⟨rfl, hb3⟩; have H3 := hid (H2.out.trans (hb3.mono H2.out.size)); clear hb3)
      | (go_at_call 14; refine (H0.out _).mono ?_; rintro e w2 ⟨rfl, hb2⟩; have H2 := hid (H1.out.trans (hb2.mono H1.out.size)); clear hb2))
    go_ret
    exact ⟨rfl, H6.out⟩
  · have HS := hid (decide_eq_false hl)
    clear hl
    go_enter Try.func4, Try.ntmps4
    go_wp2_with (first
      | (go_at_call 9; have := H1; refine (olives_any _).mono ?_; rintro e w2 ⟨rfl, hb2⟩; have H2 := hid (H1.out.trans (hb2.mono H1.out.size)); clear hb2)
      | (go_at_call 9; refine (olives_any _).mono ?_; rintro e w1 ⟨rfl, hb1⟩; have H1 := hid hb1; clear hb1)
      | (go_at_call 10; refine (oshort_any _ _ _ (by exact HS.out) _).mono ?_; rintro e wx ⟨rfl, rfl⟩))
    go_ret
    exact ⟨rfl, H2.out⟩
end Go.Proofs.Ytcofadhflbiahaa
