/- The contracts of the reference of package reals (all but the texts). -/
import Derived.Test.YtecidbdbdnnglaaGreatRlB
namespace Go.Proofs.YtecidbdbdnnglaaGreat
open Go.RowKit

theorem wild_any (n : Nat) (w : World) : Calls Tryz.prog 80 #[.int .u64 (n : Int)] w fun e w' => e = .returned (.bool (nanW n)) ∧ w' = w := by
  go_enter Tryz.func80, Tryz.ntmps80
  go_wp2
  · rename_i h
    go_ret
    refine ⟨?_, rfl⟩
    show Ending.returned (.bool _) = _
    congr 2
    rw [Bool.eq_iff_iff]
    simp [nanW]
    omega
  · rename_i h
    go_ret
    refine ⟨?_, rfl⟩
    have : nanW n = false := by simp [nanW]; omega
    rw [this]; rfl

theorem kbits_any (b : Nat) (w : World) : Calls Tryz.prog 33 #[.float .f64 b] w fun e w' => e = .returned (.int .u64 (canW b : Nat)) ∧ w' = w := by
  go_enter Tryz.func33, Tryz.ntmps33
  cases hn : nanW b
  · go_wp2_with (first | (go_at_call 80; refine (wild_any _ _).mono ?_; rintro e w1 ⟨rfl, rfl⟩; rw [hn]) | rw [fb_run])
    go_ret
    exact ⟨by simp [canW, hn], rfl⟩
  · go_wp2_with (first | (go_at_call 80; refine (wild_any _ _).mono ?_; rintro e w1 ⟨rfl, rfl⟩; rw [hn]) | rw [fb_run])
    go_ret
    exact ⟨by simp [canW, hn], rfl⟩

def placeW (n : Nat) : Nat := bif nanW n then 18446744073709551615 else bif decide (9223372036854775808 ≤ n) then 9223372036854775807 - n % 9223372036854775808 else 9223372036854775808 + n
set_option maxRecDepth 100000 in
theorem place_any (n : Nat) (hb : n < 18446744073709551616) (w : World) : Calls Tryz.prog 125 #[.int .u64 (n : Int)] w fun e w' => e = .returned (.int .u64 (placeW n : Nat)) ∧ w' = w := by
  have HB := rhid hb
  clear hb
  go_enter Tryz.func125, Tryz.ntmps125
  cases hn : nanW n
  · by_cases hg : 9223372036854775808 ≤ n
    · have hi : decide ((9223372036854775808 : Int) ≤ (n : Int)) = true := by simp; omega
      clear hg
      go_wp2_with (first | (go_at_call 80; refine (wild_any _ _).mono ?_; rintro e w1 ⟨rfl, rfl⟩; rw [hn]) | rw [hi])
      go_ret
      have hb := HB.out
      have hg : 9223372036854775808 ≤ n := by simp at hi; omega
      refine ⟨?_, rfl⟩
      simp [placeW, hn, hg]
      omega
    · have hi : decide ((9223372036854775808 : Int) ≤ (n : Int)) = false := by simp; omega
      clear hg
      go_wp2_with (first | (go_at_call 80; refine (wild_any _ _).mono ?_; rintro e w1 ⟨rfl, rfl⟩; rw [hn]) | rw [hi])
      go_ret
      have hb := HB.out
      have hg : ¬ 9223372036854775808 ≤ n := by simp at hi; omega
      refine ⟨?_, rfl⟩
      have e : IntKind.u64.wrap (9223372036854775808 + (n : Int)) = 9223372036854775808 + n := by simp [IntKind.wrap, IntKind.bits, IntKind.signed]; omega
      simp [placeW, hn, hg, e]
  · go_wp2_with (go_at_call 80; refine (wild_any _ _).mono ?_; rintro e w1 ⟨rfl, rfl⟩; rw [hn])
    go_ret
    exact ⟨by simp [placeW, hn], rfl⟩

theorem canW_ne (n : Nat) : (canW n == n) = !(nanW n && n != 9221120237041090560) := by
  cases h : nanW n
  · simp [canW, h]
  · simp [canW, h]
    rw [Bool.eq_iff_iff]; simp; omega
theorem kfrom_any (n : Nat) (w : World) : Calls Tryz.prog 90 #[.int .u64 (n : Int)] w fun e w' => e = .returned (.tuple #[.float .f64 (fromW n), .bool (canW n == n)]) ∧ w' = w := by
  go_enter Tryz.func90, Tryz.ntmps90
  cases hn : nanW n
  · go_wp2_with (first | (go_at_call 80; refine (wild_any _ _).mono ?_; rintro e w1 ⟨rfl, rfl⟩; rw [hn]) | rw [ff_run, Int.toNat_natCast])
    go_ret2
    exact ⟨by simp [fromW, canW, hn], rfl⟩
  · by_cases h : n = 9221120237041090560
    · subst h
      go_wp2_with (first | (go_at_call 80; refine (wild_any _ _).mono ?_; rintro e w1 ⟨rfl, rfl⟩; rw [hn]) | rw [ff_run])
      go_ret2
      exact ⟨rfl, rfl⟩
    · have hb : ((n : Int) != 9221120237041090560) = true := by simp; omega
      go_wp2_with (first | (go_at_call 80; refine (wild_any _ _).mono ?_; rintro e w1 ⟨rfl, rfl⟩; rw [hn]) | rw [ff_run, Int.toNat_natCast])
      go_ret2
      have hc : canW n ≠ n := by simp [canW, hn]; omega
      exact ⟨by simp [fromW, beq_false_of_ne hc], rfl⟩

theorem kadd_any (a b : Nat) (w : World) : Calls Tryz.prog 110 #[.float .f64 a, .float .f64 b] w fun e w' => e = .returned (.int .u64 (addW a b : Nat)) ∧ Drawn w w' := by
  obtain ⟨r, w1, hr, hc, hl, hd⟩ := run_add 48 a b w
  go_enter Tryz.func110, Tryz.ntmps110
  go_wp2_with (first | rw [hr] | (go_at_call 33; refine (kbits_any _ _).mono ?_; rintro e w2 ⟨rfl, rfl⟩; rw [hc]))
  go_ret
  exact ⟨rfl, hd⟩

theorem rank_place (a b : Nat) (ha : a < 18446744073709551616) (hb : b < 18446744073709551616) : (rankW a < rankW b) ↔ (placeW a < placeW b) := by
  have h1 : ∀ n, nanW n = true → rankW n = 18444492273895866368 ∧ placeW n = 18446744073709551615 := fun n h => by simp [rankW, placeW, canW, h]
  have h2 : ∀ n, n < 18446744073709551616 → nanW n = false → rankW n = placeW n ∧ rankW n ≤ 18442240474082181120 := fun n hn h => by
    have hl : ¬ (9218868437227405312 < n % 9223372036854775808) := by simpa [nanW] using h
    by_cases hg : 9223372036854775808 ≤ n
    · simp [rankW, placeW, canW, h, hg]; omega
    · simp [rankW, placeW, canW, h, hg]; omega
  cases hx : nanW a <;> cases hy : nanW b
  · rw [(h2 a ha hx).1, (h2 b hb hy).1]
  · have := h2 a ha hx; have := h1 b hy; omega
  · have := h1 a hx; have := h2 b hb hy; omega
  · have := h1 a hx; have := h1 b hy; omega

theorem rank_can (a : Nat) : rankW (canW a) = rankW a := by simp only [rankW, canW_idem]

theorem kmost_any (a b : Nat) (ha : a < 18446744073709551616) (hb : b < 18446744073709551616) (w : World) : Calls Tryz.prog 111 #[.float .f64 a, .float .f64 b] w fun e w' => e = .returned (.int .u64 (mostW a b : Nat)) ∧ w' = w := by
  have ha' := canW_lt ha
  have hb' := canW_lt hb
  have key := rank_place (canW a) (canW b) ha' hb'
  rw [rank_can, rank_can] at key
  go_enter Tryz.func111, Tryz.ntmps111
  go_wp2_with (first | (go_at_call 33; refine (kbits_any _ _).mono ?_; rintro e w1 ⟨rfl, rfl⟩) | (go_at_call 125; refine (place_any _ (by assumption) _).mono ?_; rintro e w1 ⟨rfl, rfl⟩))
  · go_ret
    have h : rankW a < rankW b := key.2 (by assumption)
    exact ⟨by simp [mostW, h], rfl⟩
  · rename_i h
    go_ret
    have h : ¬ rankW a < rankW b := fun g => by have := key.1 g; simp at h; omega
    exact ⟨by simp [mostW, h], rfl⟩

end Go.Proofs.YtecidbdbdnnglaaGreat
