/- The contracts of package reals (all but the texts): bits, the order, sums. -/
import Derived.Test.YtecidbdbdnnglaaGreatFlA
import Derived.WalkKit
import Derived.WalkSpells
import Derived.WalkLawsBesides
import Derived.Laws.Externs
import Derived.Laws.BitsAllLaws
namespace Go.Proofs.YtecidbdbdnnglaaGreat
open Go.RowKit

theorem fb_run (b : Nat) (w : World) : (callFunc 79 #[.float .f64 b]).run Tryz.prog w = .ok (.value (.int .u64 b)) w := by
  rw [run_callFunc_extern Tryz.func79 (by kernel_rfl) (by kernel_rfl) (by kernel_rfl) (e := Extern.MathFloatBits.float64bits) (by kernel_rfl)]; rfl
theorem ff_run (n : Int) (w : World) : (callFunc 64 #[.int .u64 n]).run Tryz.prog w = .ok (.value (.float .f64 n.toNat)) w := by
  rw [run_callFunc_extern Tryz.func64 (by kernel_rfl) (by kernel_rfl) (by kernel_rfl) (e := Extern.MathFloatBits.float64frombits) (by kernel_rfl)]; rfl

theorem isnan_any (b : Nat) (w : World) : Calls Tryz.prog 117 #[.float .f64 b] w fun e w' => e = .returned (.bool (nanW b)) ∧ w' = w := by
  go_enter Tryz.func117, Tryz.ntmps117
  go_wp2
  go_ret
  exact ⟨by rw [← order_ne_self]; rfl, rfl⟩

theorem bits_any (b : Nat) (w : World) : Calls Tryz.prog 97 #[.float .f64 b] w fun e w' => e = .returned (.int .u64 (canW b : Nat)) ∧ w' = w := by
  go_enter Tryz.func97, Tryz.ntmps97
  cases hn : nanW b
  · go_wp2_with (first | (go_at_call 117; refine (isnan_any _ _).mono ?_; rintro e w1 ⟨rfl, rfl⟩; rw [hn]) | rw [fb_run])
    go_ret
    exact ⟨by simp [canW, hn], rfl⟩
  · go_wp2_with (go_at_call 117; refine (isnan_any _ _).mono ?_; rintro e w1 ⟨rfl, rfl⟩; rw [hn])
    go_ret
    exact ⟨by simp [canW, hn], rfl⟩

theorem canon_any (b : Nat) (w : World) : Calls Tryz.prog 129 #[.float .f64 b] w fun e w' => e = .returned (.float .f64 (canW b)) ∧ w' = w := by
  go_enter Tryz.func129, Tryz.ntmps129
  go_wp2_with (first | (go_at_call 97; refine (bits_any _ _).mono ?_; rintro e w1 ⟨rfl, rfl⟩) | rw [ff_run])
  go_ret
  exact ⟨by simp, rfl⟩

/-- The real that has the bits n, and whether there is one. -/
def fromW (n : Nat) : Nat := bif canW n == n then n else 0
theorem from_any (n : Nat) (w : World) : Calls Tryz.prog 86 #[.int .u64 (n : Int)] w fun e w' => e = .returned (.tuple #[.float .f64 (fromW n), .bool (canW n == n)]) ∧ w' = w := by
  go_enter Tryz.func86, Tryz.ntmps86
  go_wp2_with (first | (go_at_call 97; refine (bits_any _ _).mono ?_; rintro e w1 ⟨rfl, rfl⟩) | (rw [ff_run, Int.toNat_natCast]))
  · rename_i h
    go_ret2
    have h : canW n ≠ n := by intro e; simp [e] at h
    exact ⟨by simp [fromW, beq_false_of_ne h], rfl⟩
  · rename_i h
    go_ret2
    have h : canW n = n := by
      simp only [bne_eq_false_iff_eq] at h
      omega
    exact ⟨by simp [fromW, h], rfl⟩

theorem beq_cast (a b : Nat) : ((a : Int) == (b : Int)) = (a == b) := by
  rw [Bool.eq_iff_iff]; simp; omega

theorem canW_lt {b : Nat} (hb : b < 18446744073709551616) : canW b < 18446744073709551616 := by
  unfold canW; cases nanW b <;> simp <;> omega

theorem and_sign (a : Nat) (ha : a < 18446744073709551616) : bits .and .u64 (a : Int) 9223372036854775808 = ((a / 9223372036854775808 * 9223372036854775808 : Nat) : Int) := by
  have := u64_and_nat a 9223372036854775808 ha (by decide)
  rw [show ((9223372036854775808 : Nat) : Int) = 9223372036854775808 from rfl] at this
  have e1 := Nat.and_div_two_pow (a := a) (b := 9223372036854775808) (n := 63)
  have e2 := Nat.and_mod_two_pow (a := a) (b := 9223372036854775808) (n := 63)
  rw [this]
  rw [show 9223372036854775808 / 2 ^ 63 = 1 from rfl, Nat.and_one_is_mod] at e1
  rw [show 9223372036854775808 % 2 ^ 63 = 0 from rfl, Nat.and_zero] at e2
  omega
theorem or_sign (a : Nat) (ha : a < 9223372036854775808) : bits .or .u64 (a : Int) 9223372036854775808 = ((a + 9223372036854775808 : Nat) : Int) := by
  have := u64_or_nat a 9223372036854775808 (by omega) (by decide)
  rw [show ((9223372036854775808 : Nat) : Int) = 9223372036854775808 from rfl] at this
  rw [this, Nat.or_comm]
  have := Nat.two_pow_add_eq_or_of_lt (i := 63) (b := a) ha 1
  rw [show 2 ^ 63 * 1 = 9223372036854775808 from rfl] at this
  rw [← this, Nat.add_comm]
theorem not_u64 (a : Nat) (ha : a < 18446744073709551616) : bits .xor .u64 IntKind.u64.max (a : Int) = ((18446744073709551615 - a : Nat) : Int) := by
  show IntKind.u64.wrap ((BitVec.ofInt 64 IntKind.u64.max ^^^ BitVec.ofInt 64 (a : Int)).toNat : Int) = _
  have h1 : BitVec.ofInt 64 IntKind.u64.max = BitVec.allOnes 64 := by decide
  rw [h1, BitVec.allOnes_xor, BitVec.toNat_not, ofInt_u64 a (by omega)]
  simp [IntKind.wrap, IntKind.bits, IntKind.signed]
  omega

/-- Where a real stands: a number that rises. -/
def rankW (b : Nat) : Nat := bif decide (9223372036854775808 ≤ canW b) then 18446744073709551615 - canW b else canW b + 9223372036854775808
theorem rank_any (b : Nat) (hb : b < 18446744073709551616) (w : World) : Calls Tryz.prog 163 #[.float .f64 b] w fun e w' => e = .returned (.int .u64 (rankW b : Nat)) ∧ w' = w := by
  have hc := canW_lt hb
  go_enter Tryz.func163, Tryz.ntmps163
  go_wp2_with (go_at_call 97; refine (bits_any _ _).mono ?_; rintro e w1 ⟨rfl, rfl⟩)
  · rename_i h0
    have hg : 9223372036854775808 ≤ canW b := by
      rw [and_sign _ hc] at h0
      simp at h0; omega
    go_ret
    exact ⟨by rw [not_u64 _ hc]; simp [rankW, hg], rfl⟩
  · rename_i h
    have hg : ¬ 9223372036854775808 ≤ canW b := by
      rw [and_sign _ hc] at h
      simp at h; omega
    go_ret
    exact ⟨by rw [or_sign _ (by omega)]; simp [rankW, hg], rfl⟩

theorem less_any (a b : Nat) (ha : a < 18446744073709551616) (hb : b < 18446744073709551616) (w : World) : Calls Tryz.prog 153 #[.float .f64 a, .float .f64 b] w fun e w' => e = .returned (.bool (decide (rankW a < rankW b))) ∧ w' = w := by
  go_enter Tryz.func153, Tryz.ntmps153
  go_wp2_with (go_at_call 163; refine (rank_any _ (by assumption) _).mono ?_; rintro e w1 ⟨rfl, rfl⟩)
  go_ret
  exact ⟨by simp, rfl⟩

def mostW (a b : Nat) : Nat := bif decide (rankW a < rankW b) then canW b else canW a
theorem most_any (a b : Nat) (ha : a < 18446744073709551616) (hb : b < 18446744073709551616) (w : World) : Calls Tryz.prog 136 #[.float .f64 a, .float .f64 b] w fun e w' => e = .returned (.float .f64 (mostW a b)) ∧ w' = w := by
  go_enter Tryz.func136, Tryz.ntmps136
  by_cases h : rankW a < rankW b
  · go_wp2_with (first | (go_at_call 153; refine (less_any _ _ ha hb _).mono ?_; rintro e w1 ⟨rfl, rfl⟩; rw [decide_eq_true h]) | (go_at_call 129; refine (canon_any _ _).mono ?_; rintro e w1 ⟨rfl, rfl⟩))
    go_ret
    exact ⟨by simp [mostW, h], rfl⟩
  · go_wp2_with (first | (go_at_call 153; refine (less_any _ _ ha hb _).mono ?_; rintro e w1 ⟨rfl, rfl⟩; rw [decide_eq_false h]) | (go_at_call 129; refine (canon_any _ _).mono ?_; rintro e w1 ⟨rfl, rfl⟩))
    go_ret
    exact ⟨by simp [mostW, h], rfl⟩

/-- Draws alone. -/
def Drawn (w w' : World) : Prop := ∃ k, w' = w.drewN k
theorem Drawn.refl (w : World) : Drawn w w := ⟨0, rfl⟩
theorem Drawn.trans {x y z : World} (h : Drawn x y) (k : Drawn y z) : Drawn x z := by
  obtain ⟨a, rfl⟩ := h
  obtain ⟨b, rfl⟩ := k
  exact ⟨a + b, by simp⟩
theorem Drawn.below {w w' : World} (h : Drawn w w') : Below w.heap.size w w' := by
  obtain ⟨k, rfl⟩ := h
  exact ⟨rfl, rfl, rfl, Nat.le_refl _, fun _ _ => rfl⟩

/-- The sum's bits. -/
def addW (a b : Nat) : Nat := (Ieee.double.add a b).getD 9221120237041090560

/-- A sum in the model: the rounded one, or some NaN. -/
theorem run_add (t : TypeId) (a b : Nat) (w : World) : ∃ r w', (binOp .add t (.float .f64 a) (.float .f64 b)).run Tryz.prog w = .ok (.float .f64 r) w' ∧ canW r = addW a b ∧ r < 18446744073709551616 ∧ Drawn w w' := by
  cases h : Ieee.double.add a b with
  | some r =>
    refine ⟨r, w, run_float_arith w .add t .f64 a b r h, ?_, (add_some h).2, .refl _⟩
    simp [addW, h, canW, (add_some h).1]
  | none =>
    refine ⟨w.tape w.drawn (Question.nanBits FloatKind.f64 a b) % 2 * 9223372036854775808 + 9218868437227405312 + 1 + w.tape w.drawn (Question.nanBits FloatKind.f64 a b) / 2 % 4503599627370495, w.drew, by simp [binOp, Op.floatArith, FloatKind.format, h, Question.forced, Question.cut], ?_, ?_, ⟨1, rfl⟩⟩
    · simp only [addW, h, Option.getD_none, canW, nanW]
      have := Nat.mod_two_eq_zero_or_one (w.tape w.drawn (Question.nanBits FloatKind.f64 a b))
      rw [decide_eq_true (by rcases this with e | e <;> rw [e] <;> omega)]
      rfl
    · omega
theorem add_any (a b : Nat) (w : World) : Calls Tryz.prog 135 #[.float .f64 a, .float .f64 b] w fun e w' => e = .returned (.float .f64 (addW a b)) ∧ Drawn w w' := by
  obtain ⟨r, w1, hr, hc, hl, hd⟩ := run_add 48 a b w
  go_enter Tryz.func135, Tryz.ntmps135
  go_wp2_with (first | rw [hr] | (go_at_call 129; refine (canon_any _ _).mono ?_; rintro e w2 ⟨rfl, rfl⟩; rw [hc]))
  go_ret
  exact ⟨rfl, hd⟩

theorem addW_lt (a b : Nat) : addW a b < 18446744073709551616 := by
  unfold addW
  cases h : Ieee.double.add a b with
  | none => decide
  | some r => exact (add_some h).2
theorem canW_idem (n : Nat) : canW (canW n) = canW n := by
  cases h : nanW n
  · simp [canW, h]
  · simp only [canW, h]; rfl
theorem canW_addW (a b : Nat) : canW (addW a b) = addW a b := by
  unfold addW
  cases h : Ieee.double.add a b with
  | none => rfl
  | some r => simp [canW, (add_some h).1]

def infW (s : Int) : Nat := bif decide (s ≥ 0) then 9218868437227405312 else 18442240474082181120
end Go.Proofs.YtecidbdbdnnglaaGreat
