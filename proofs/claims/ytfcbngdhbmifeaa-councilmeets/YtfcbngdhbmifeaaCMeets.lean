/- CouncilMeets: the walk. -/
import Derived.Test.YtfcbngdhbmifeaaCoL
namespace Go.Proofs.Ytfcbngdhbmifeaa
open Go.RowKit

/-- What the counts of 1 to 60 members are to each other. -/
theorem counts_fit (n : Nat) (h1 : 1 ≤ n) : quoZ n ≤ (n : Int) - fltZ n ∧ wekZ n = fltZ n + 1 ∧ 3 * fltZ n + 1 ≤ (n : Int) ∧ (n : Int) < 3 * (fltZ n + 1) + 1 ∧ (n : Int) + wekZ n ≤ 2 * quoZ n := by
  have h : ¬ (n : Int) < 1 := by omega
  rw [quoZ_hi h, wekZ_hi h, fltZ_hi h]
  omega
theorem meets_n (n : Int) : ∃ m : Nat, 1 ≤ m ∧ m ≤ 60 ∧ wrap64 (1 + wrap64 ((IntKind.u64.wrap n).tmod 60)) = (m : Int) := by
  have h0 : 0 ≤ IntKind.u64.wrap n := wrap_u64_nonneg n
  generalize IntKind.u64.wrap n = x at h0
  rw [Int.tmod_eq_emod_of_nonneg h0]
  refine ⟨(1 + x % 60).toNat, by omega, by omega, ?_⟩
  unfold wrap64
  omega
set_option maxRecDepth 100000 in
set_option maxHeartbeats 1600000 in
theorem councilMeets_walk (n a b : Int) (w : World) :
    Calls Try.prog 4 #[.int .i64 n, .int .u64 a, .int .u64 b] w fun e w' => e = .returned (.bool true) ∧ Below w.heap.size w w' := by
  obtain ⟨m, hm1, hm2, hm⟩ := meets_n n
  have HM := hid hm
  clear hm
  obtain ⟨g1, g2, g3, g4, g5⟩ := counts_fit m hm1
  obtain ⟨f, ef⟩ : ∃ f, f = fltZ m := ⟨_, rfl⟩
  obtain ⟨q, eq⟩ : ∃ q, q = quoZ m := ⟨_, rfl⟩
  obtain ⟨x, ex⟩ : ∃ x, x = wekZ m := ⟨_, rfl⟩
  rw [← ef, ← eq] at g1
  rw [← ex, ← ef] at g2
  rw [← ef] at g3 g4
  rw [← ex, ← eq] at g5
  have HE := hid (And.intro ef (And.intro eq ex))
  have hf0 : 0 ≤ f := by rw [ef]; exact (fltZ_le (by omega)).1
  clear ef eq ex
  have p1 := pick_le a a m
  have p2 := pick_le b b m
  have p3 := pick_le a b m
  have p4 := pick_meet a b m
  have HA := hid (cpicked_any m hm2 a a)
  have HB := hid (cpicked_any m hm2 b b)
  have HC := hid (cpicked_any m hm2 a b)
  generalize pickN a a m = k1 at p1 p4 HA
  generalize pickN b b m = k2 at p2 p4 HB
  generalize pickN a b m = k3 at p3 p4 HC
  have p5 : (k1 : Int) < q ∨ (k2 : Int) < q ∨ x ≤ (k3 : Int) := by omega
  have HQ := hid (show (k1 : Int) < q ∨ (k2 : Int) < q ∨ f + 1 ≤ (k3 : Int) by rw [← g2]; exact p5)
  clear p4 p5 g5
  have gA : ¬ ((m : Int) - f < q) := by omega
  have gB : ¬ ((m : Int) < 3 * f + 1) := by omega
  have gC : ¬ (3 * (f + 1) + 1 ≤ (m : Int)) := by omega
  have gf : f ≤ 60 := by omega
  have gm : (m : Int) ≤ 60 := by omega
  have gm0 : 0 ≤ (m : Int) := by omega
  have gm1 : ((m : Int) ≤ 9223372036854775807) := by omega
  clear g1 g3 g4 p1 p2 p3 hm1 hm2
  go_enter Try.func4, Try.ntmps4
  go_wp2_with (first
    | (go_at_call 9; refine (clives_any _).mono ?_; rintro e w1 ⟨rfl, hb1⟩; have H1 := hid hb1; clear hb1)
    | (go_at_call 10; rw [HM.out]; refine (cfaults_any _ gm1 _).mono ?_; rintro e w2 ⟨rfl, hb2⟩; rw [← HE.out.1]; have H2 := hid (H1.out.trans (hb2.mono H1.out.size)); clear hb2)
    | (go_at_call 12; refine (cquorum_any _ gm1 _).mono ?_; rintro e w3 ⟨rfl, hb3⟩; rw [← HE.out.2.1]; have H3 := hid (H2.out.trans (hb3.mono H2.out.size)); clear hb3)
    | (go_at_call 14; refine (cweak_any _ gm1 _).mono ?_; rintro e w4 ⟨rfl, hb4⟩; rw [← HE.out.2.2]; have H4 := hid (H3.out.trans (hb4.mono H3.out.size)); clear hb4)
    | (go_at_call 16; have := H6; refine (HC.out _).mono ?_; rintro e w7 ⟨rfl, hb7⟩; have H7 := hid (H6.out.trans (hb7.mono H6.out.size)); clear hb7 H6; have c3 : f + 1 ≤ (k3 : Int) := (by rcases HQ.out with h | h | h <;> omega))
    | (go_at_call 16; have := H5; refine (HB.out _).mono ?_; rintro e w6 ⟨rfl, hb6⟩; have H6 := hid (H5.out.trans (hb6.mono H5.out.size)); clear hb6 H5)
    | (go_at_call 16; refine (HA.out _).mono ?_; rintro e w5 ⟨rfl, hb5⟩; have H5 := hid (H4.out.trans (hb5.mono H4.out.size)); clear hb5 H4))
  all_goals (go_ret; exact ⟨rfl, by first | exact H7.out | exact H6.out | exact H5.out⟩)
end Go.Proofs.Ytfcbngdhbmifeaa
