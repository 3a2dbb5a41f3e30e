/- The contracts of the reference of package reals (all but the texts). -/
import Derived.Test.YtpeagpeifmimlaaRlB
namespace Go.Proofs.Ytpeagpeifmimlaa
open Go.RowKit

theorem wild_any (n : Nat) (w : World) : Calls Try.prog 35 #[.int .u64 (n : Int)] w fun e w' => e = .returned (.bool (nanW n)) ∧ w' = w := by
  go_enter Try.func35, Try.ntmps35
  go_wp2
  · rename_i h
    go_ret
    refine ⟨?_, rfl⟩
    show Ending.returned (.bool _) = _
    congr 2
    rw [Bool.eq_iff_iff]
    simp [nanW]
    omega
  · rename_i h
    go_ret
    refine ⟨?_, rfl⟩
    have : nanW n = false := by simp [nanW]; omega
    rw [this]; rfl

theorem kbits_any (b : Nat) (w : World) : Calls Try.prog 16 #[.float .f64 b] w fun e w' => e = .returned (.int .u64 (canW b : Nat)) ∧ w' = w := by
  go_enter Try.func16, Try.ntmps16
  cases hn : nanW b
  · go_wp2_with (first | (go_at_call 35; refine (wild_any _ _).mono ?_; rintro e w1 ⟨rfl, rfl⟩; rw [hn]) | rw [fb_run])
    go_ret
    exact ⟨by simp [canW, hn], rfl⟩
  · go_wp2_with (first | (go_at_call 35; refine (wild_any _ _).mono ?_; rintro e w1 ⟨rfl, rfl⟩; rw [hn]) | rw [fb_run])
    go_ret
    exact ⟨by simp [canW, hn], rfl⟩

def placeW (n : Nat) : Nat := bif nanW n then 18446744073709551615 else bif decide (9223372036854775808 ≤ n) then 9223372036854775807 - n % 9223372036854775808 else 9223372036854775808 + n
theorem canW_ne (n : Nat) : (canW n == n) = !(nanW n && n != 9221120237041090560) := by
  cases h : nanW n
  · simp [canW, h]
  · simp [canW, h]
    rw [Bool.eq_iff_iff]; simp; omega
theorem rank_place (a b : Nat) (ha : a < 18446744073709551616) (hb : b < 18446744073709551616) : (rankW a < rankW b) ↔ (placeW a < placeW b) := by
  have h1 : ∀ n, nanW n = true → rankW n = 18444492273895866368 ∧ placeW n = 18446744073709551615 := fun n h => by simp [rankW, placeW, canW, h]
  have h2 : ∀ n, n < 18446744073709551616 → nanW n = false → rankW n = placeW n ∧ rankW n ≤ 18442240474082181120 := fun n hn h => by
    have hl : ¬ (9218868437227405312 < n % 9223372036854775808) := by simpa [nanW] using h
    by_cases hg : 9223372036854775808 ≤ n
    · simp [rankW, placeW, canW, h, hg]; omega
    · simp [rankW, placeW, canW, h, hg]; omega
  cases hx : nanW a <;> cases hy : nanW b
  · rw [(h2 a ha hx).1, (h2 b hb hy).1]
  · have := h2 a ha hx; have := h1 b hy; omega
  · have := h1 a hx; have := h2 b hb hy; omega
  · have := h1 a hx; have := h1 b hy; omega

theorem rank_can (a : Nat) : rankW (canW a) = rankW a := by simp only [rankW, canW_idem]

end Go.Proofs.Ytpeagpeifmimlaa
