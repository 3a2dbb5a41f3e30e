/- What the laws of package reals want besides: numbers of 64 bits, ranks, what is the most. -/
import Derived.Test.YtpojjcmhiccmfaaRlC
namespace Go.Proofs.Ytpojjcmhiccmfaa
open Go.RowKit

theorem u64_nat {a : Int} (h : (Lit.int .u64 a).wf = true) : ∃ n : Nat, a = (n : Int) ∧ n < 18446744073709551616 := by
  have : 0 ≤ a ∧ a ≤ 18446744073709551615 := by simpa [Lit.wf, IntKind.min, IntKind.max, IntKind.bits, IntKind.signed] using h
  exact ⟨a.toNat, by omega, by omega⟩

theorem same_rank {a b : Nat} (ha : a < 18446744073709551616) (hb : b < 18446744073709551616) : (canW a == canW b) = (rankW a == rankW b) := by
  have h1 := canW_lt ha
  have h2 := canW_lt hb
  rw [Bool.eq_iff_iff]
  simp only [beq_iff_eq, rankW]
  generalize canW a = x at *
  generalize canW b = y at *
  by_cases g1 : 9223372036854775808 ≤ x <;> by_cases g2 : 9223372036854775808 ≤ y <;> simp [g1, g2] <;> omega

theorem canW_mostW (a b : Nat) : canW (mostW a b) = mostW a b := by
  unfold mostW
  cases decide (rankW a < rankW b) <;> simp [canW_idem]
theorem mostW_lt {a b : Nat} (ha : a < 18446744073709551616) (hb : b < 18446744073709551616) : mostW a b < 18446744073709551616 := by
  have := canW_lt ha
  have := canW_lt hb
  unfold mostW
  cases decide (rankW a < rankW b) <;> simp <;> omega
theorem rank_most (a b : Nat) : rankW (mostW a b) = max (rankW a) (rankW b) := by
  unfold mostW
  by_cases h : rankW a < rankW b
  · simp [h, rank_can]; omega
  · simp [h, rank_can]; omega

theorem sum_nan (a b : Nat) : (canW (addW a b) == canW 9221120237041090560) = noSum a b := by
  rw [canW_addW, show canW 9221120237041090560 = 9221120237041090560 from rfl, ← add_none]
  unfold addW
  cases h : Ieee.double.add a b with
  | none => rfl
  | some r =>
    have := (add_some h).1
    simp only [Option.getD_some, Option.isNone_some, beq_eq_false_iff_ne]
    rintro rfl
    revert this; decide

theorem wild_eq {a b : Nat} (ha : a < 18446744073709551616) (hb : b < 18446744073709551616) :
    noSum a b = (nanW a || nanW b || (canW a == canW 9218868437227405312 && canW b == canW 18442240474082181120) || (canW a == canW 18442240474082181120 && canW b == canW 9218868437227405312)) := by
  unfold noSum
  cases hx : nanW a
  case true => simp
  cases hy : nanW b
  case true => simp
  have e1 : canW a = a := by simp [canW, hx]
  have e2 : canW b = b := by simp [canW, hy]
  rw [e1, e2, show canW 9218868437227405312 = 9218868437227405312 from rfl, show canW 18442240474082181120 = 18442240474082181120 from rfl]
  simp only [Bool.false_or, Bool.or_false]
  have key : ∀ n, n < 18446744073709551616 → (n == 9218868437227405312) = (n % 9223372036854775808 == 9218868437227405312 && !sgW n) ∧ (n == 18442240474082181120) = (n % 9223372036854775808 == 9218868437227405312 && sgW n) := by
    intro n hn
    unfold sgW
    have : n / 9223372036854775808 = 0 ∨ n / 9223372036854775808 = 1 := by omega
    rcases this with h | h <;> rw [h] <;> constructor <;> rw [Bool.eq_iff_iff] <;> simp <;> omega
  rw [(key a ha).1, (key a ha).2, (key b hb).1, (key b hb).2]
  cases a % 9223372036854775808 == 9218868437227405312 <;> cases b % 9223372036854775808 == 9218868437227405312 <;> cases sgW a <;> cases sgW b <;> rfl

theorem add_zero_same {a : Nat} (ha : a < 18446744073709551616) : (canW (addW a 9223372036854775808) == canW a) = true := by
  rw [canW_addW]
  cases hn : nanW a
  · have := add_negzero ha hn
    simp [addW, this, canW, hn]
  · have : (Ieee.double.add a 9223372036854775808).isNone = true := by rw [add_none]; simp [noSum, hn]
    have : Ieee.double.add a 9223372036854775808 = none := by simpa using this
    simp [addW, this, canW, hn]
theorem addW_comm (a b : Nat) : addW a b = addW b a := by unfold addW; rw [add_comm]

end Go.Proofs.Ytpojjcmhiccmfaa
