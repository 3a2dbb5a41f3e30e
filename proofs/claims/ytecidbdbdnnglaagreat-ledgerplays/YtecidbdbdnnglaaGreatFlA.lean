/- Facts on the words of binary64: which are NaNs, how a word stands to itself, what is a sum of two. No walk here. -/
import Derived.Test.YtecidbdbdnnglaaGreatProg
import Derived.WalkKit
import Derived.WalkLawsBesides
namespace Go.Proofs.YtecidbdbdnnglaaGreat

theorem rhid {p : Prop} (h : p) : Go.RowKit.Hid p := h

/-- Is the word a NaN's? -/
def nanW (n : Nat) : Bool := decide (9218868437227405312 < n % 9223372036854775808)
/-- The word's bits by the document: of every NaN the one NaN's. -/
def canW (n : Nat) : Nat := bif nanW n then 9221120237041090560 else n

theorem dbl_sign : Ieee.double.signWeight = 9223372036854775808 := by decide
theorem dbl_binade : Ieee.double.binade = 4503599627370496 := by decide
theorem dbl_inf : Ieee.double.infRung = 9218868437227405312 := by decide
theorem dbl_least : Ieee.double.leastPlace = -1074 := by decide

/-- The sign of a word. -/
def sgW (n : Nat) : Bool := n / 9223372036854775808 % 2 == 1

theorem read_sub {n : Nat} (h : n % 9223372036854775808 < 4503599627370496) : Ieee.double.read n = .number (sgW n) (n % 9223372036854775808) (-1074) := by
  simp only [Ieee.Format.read, dbl_sign, dbl_binade, dbl_least, if_pos h, sgW]
theorem read_norm {n : Nat} (h : 4503599627370496 ≤ n % 9223372036854775808) (k : n % 9223372036854775808 < 9218868437227405312) :
    Ieee.double.read n = .number (sgW n) (4503599627370496 + n % 9223372036854775808 % 4503599627370496) (-1074 + ((n % 9223372036854775808 / 4503599627370496 - 1 : Nat) : Int)) := by
  simp only [Ieee.Format.read, dbl_sign, dbl_binade, dbl_least, dbl_inf, if_neg (Nat.not_lt.2 h), if_pos k, sgW]
theorem read_inf {n : Nat} (h : n % 9223372036854775808 = 9218868437227405312) : Ieee.double.read n = .infinity (sgW n) := by
  simp only [Ieee.Format.read, dbl_sign, dbl_binade, dbl_least, dbl_inf, h, sgW]
  rfl
theorem read_nan {n : Nat} (h : 9218868437227405312 < n % 9223372036854775808) : Ieee.double.read n = .nan (sgW n) (n % 9223372036854775808 - 9218868437227405312) := by
  simp only [Ieee.Format.read, dbl_sign, dbl_binade, dbl_least, dbl_inf, sgW, if_neg (show ¬ n % 9223372036854775808 < 4503599627370496 by omega), if_neg (show ¬ n % 9223372036854775808 < 9218868437227405312 by omega), if_neg (show ¬ n % 9223372036854775808 = 9218868437227405312 by omega)]

/-- What a word that is no NaN's stands for. -/
theorem read_fin {n : Nat} (h : nanW n = false) : (∃ m e, Ieee.double.read n = .number (sgW n) m e ∧ n % 9223372036854775808 < 9218868437227405312) ∨ (Ieee.double.read n = .infinity (sgW n) ∧ n % 9223372036854775808 = 9218868437227405312) := by
  simp only [nanW, decide_eq_false_iff_not] at h
  by_cases h1 : n % 9223372036854775808 < 4503599627370496
  · exact .inl ⟨_, _, read_sub h1, by omega⟩
  · by_cases h2 : n % 9223372036854775808 < 9218868437227405312
    · exact .inl ⟨_, _, read_norm (by omega) h2, h2⟩
    · exact .inr ⟨read_inf (by omega), by omega⟩

theorem cmp_self (x : Int) : compare x x = .eq := by simp
theorem order_self (n : Nat) : (Ieee.double.order n n == some .eq) = !nanW n := by
  cases hn : nanW n
  · rcases read_fin hn with ⟨m, e, h, -⟩ | ⟨h, -⟩
    · simp [Ieee.Format.order, h, Ieee.Datum.order]
    · simp [Ieee.Format.order, h, Ieee.Datum.order]
  · simp only [nanW, decide_eq_true_eq] at hn
    rw [Ieee.Format.order, read_nan hn]; rfl
theorem order_ne_self (n : Nat) : (Ieee.double.order n n != some .eq) = nanW n := by
  have := order_self n
  rw [bne, this, Bool.not_not]

theorem sum_comm (a b : Ieee.Datum) : a.sum b = b.sum a := by
  cases a <;> cases b <;> simp only [Ieee.Datum.sum]
  · rename_i s m i t n j
    simp only [Int.min_comm i j, Int.add_comm (Ieee.signed s m _), Bool.and_comm s t]
  · rename_i s t
    by_cases h : s = t
    · subst h; simp
    · simp [h, Ne.symm h]

theorem add_comm (a b : Nat) : Ieee.double.add a b = Ieee.double.add b a := by
  simp only [Ieee.Format.add]; rw [sum_comm]

/-- The words that have no sum. -/
def noSum (a b : Nat) : Bool := nanW a || nanW b || (a % 9223372036854775808 == 9218868437227405312 && b % 9223372036854775808 == 9218868437227405312 && sgW a != sgW b)

theorem add_none (a b : Nat) : (Ieee.double.add a b).isNone = noSum a b := by
  cases ha : nanW a
  case true =>
    have h := ha
    simp only [nanW, decide_eq_true_eq] at h
    simp [Ieee.Format.add, read_nan h, Ieee.Datum.sum, noSum, ha]
  cases hb : nanW b
  case true =>
    have h := hb
    simp only [nanW, decide_eq_true_eq] at h
    simp only [Ieee.Format.add, read_nan h, noSum, ha, hb]
    cases Ieee.double.read a <;> simp [Ieee.Datum.sum]
  simp only [noSum, ha, hb, Bool.false_or]
  rcases read_fin ha with ⟨m, e, h, k⟩ | ⟨h, k⟩ <;> rcases read_fin hb with ⟨m', e', h', k'⟩ | ⟨h', k'⟩ <;> simp only [Ieee.Format.add, h, h', Ieee.Datum.sum]
  · have : (a % 9223372036854775808 == 9218868437227405312) = false := by simp; omega
    simp [this]
  · have : (a % 9223372036854775808 == 9218868437227405312) = false := by simp; omega
    simp [this]
  · have : (b % 9223372036854775808 == 9218868437227405312) = false := by simp; omega
    simp [this]
  · by_cases hs : sgW a = sgW b
    · simp [hs]
    · simp [hs, k, k']

theorem word_rung (neg : Bool) (r : Nat) (h : r ≤ 9218868437227405312) : nanW (Ieee.double.word neg r) = false ∧ Ieee.double.word neg r < 18446744073709551616 := by
  cases neg <;> simp only [Ieee.Format.word, dbl_sign, nanW, decide_eq_false_iff_not, if_true, Bool.false_eq_true, if_false] <;> omega

theorem nearest_ok (neg : Bool) (m : Nat) (e : Int) : nanW (Ieee.double.nearest neg m e) = false ∧ Ieee.double.nearest neg m e < 18446744073709551616 := by
  unfold Ieee.Format.nearest
  dsimp only
  split
  · exact word_rung _ _ (by omega)
  · refine word_rung _ _ ?_
    rw [dbl_inf]; exact Nat.min_le_right ..

theorem add_some {a b r : Nat} (h : Ieee.double.add a b = some r) : nanW r = false ∧ r < 18446744073709551616 := by
  have key : ∀ d, (Ieee.double.read a).sum (Ieee.double.read b) = some d → nanW (Ieee.double.write d) = false ∧ Ieee.double.write d < 18446744073709551616 := by
    intro d hd
    cases d with
    | number neg m e => exact nearest_ok neg m e
    | infinity neg => exact word_rung _ _ (by rw [dbl_inf]; omega)
    | nan neg f =>
      revert hd
      cases Ieee.double.read a <;> cases Ieee.double.read b <;> simp only [Ieee.Datum.sum] <;> intro hd <;> first | (cases hd; done) | skip
      split at hd <;> cases hd
  simp only [Ieee.Format.add] at h
  cases hd : (Ieee.double.read a).sum (Ieee.double.read b) with
  | none => rw [hd] at h; cases h
  | some d => rw [hd] at h; cases h; exact key d hd

/-- A whole number of least steps, written: the rung is told by its greatest digit. -/
theorem nearest_sub (neg : Bool) (m : Nat) (h : m < 4503599627370496) : Ieee.double.nearest neg m (-1074) = Ieee.double.word neg m := by
  unfold Ieee.Format.nearest
  split
  · subst_vars; rfl
  · rename_i h0
    have hl : m.log2 < 52 := (Nat.log2_lt h0).2 h
    have hlast : max ((-1074 : Int) + m.log2 - Ieee.double.fractionBits) (-1074) = -1074 := by
      show max ((-1074 : Int) + m.log2 - (52 : Nat)) (-1074) = -1074; omega
    simp only [dbl_least, dbl_inf]
    simp only [hlast]
    have : Ieee.Toward.even.cut neg (m <<< ((-1074 : Int) - (-1074)).toNat) ((-1074 : Int) - (-1074)).toNat = m := by
      simp [Ieee.Toward.cut, Nat.mod_one]
    rw [this]
    have : min (((-1074 : Int) - (-1074)).toNat * Ieee.double.binade + m) 9218868437227405312 = m := by simp; omega
    rw [this]

theorem nearest_norm (neg : Bool) (m k : Nat) (h1 : 4503599627370496 ≤ m) (h2 : m < 9007199254740992) (hk : k < 2046) :
    Ieee.double.nearest neg (m <<< k) (-1074) = Ieee.double.word neg (k * 4503599627370496 + m) := by
  have hne : m <<< k ≠ 0 := by
    rw [Nat.shiftLeft_eq]
    exact Nat.ne_of_gt (Nat.mul_pos (by omega) (Nat.two_pow_pos _))
  have hl : (m <<< k).log2 = 52 + k := by
    have hp : 0 < 2 ^ k := Nat.two_pow_pos _
    have e1 : 2 ^ (52 + k) = 4503599627370496 * 2 ^ k := by rw [Nat.pow_add]
    have e2 : 2 ^ (52 + k + 1) = 9007199254740992 * 2 ^ k := by rw [Nat.pow_succ, e1, Nat.mul_right_comm]
    rw [Nat.log2_eq_iff hne, Nat.shiftLeft_eq, e1, e2]
    exact ⟨Nat.mul_le_mul_right _ h1, Nat.mul_lt_mul_of_pos_right h2 hp⟩
  unfold Ieee.Format.nearest
  rw [if_neg hne]
  have hlast : max ((-1074 : Int) + (m <<< k).log2 - Ieee.double.fractionBits) (-1074) = -1074 + k := by
    rw [hl]; show max ((-1074 : Int) + (52 + k : Nat) - (52 : Nat)) (-1074) = -1074 + k; omega
  simp only [dbl_least, dbl_inf, dbl_binade]
  simp only [hlast]
  have e1 : ((-1074 : Int) - (-1074 + k)).toNat = 0 := by omega
  have e2 : ((-1074 : Int) + k - (-1074)).toNat = k := by omega
  rw [e1, e2]
  have hc : Ieee.Toward.even.cut neg (m <<< k <<< 0) k = m := by
    have hg : min k ((m <<< k).log2 + 2) = k := Nat.min_eq_left (by omega)
    have hp : 0 < 2 ^ k := Nat.two_pow_pos _
    have hd : m <<< k / 1 <<< k = m := by rw [Nat.one_shiftLeft, Nat.shiftLeft_eq, Nat.mul_div_cancel _ hp]
    have hr : m <<< k % 1 <<< k = 0 := by rw [Nat.one_shiftLeft, Nat.shiftLeft_eq, Nat.mul_mod_left]
    have h1k : (1 <<< k == 0) = false := by rw [Nat.one_shiftLeft]; exact beq_false_of_ne (by omega)
    simp only [Nat.shiftLeft_zero, Ieee.Toward.cut, hg, hd, hr, Nat.mul_zero, Nat.not_lt_zero, decide_false, Bool.false_or, h1k, Bool.false_and, Bool.toNat_false, Nat.add_zero]
  rw [hc]
  have : min (k * 4503599627370496 + m) 9218868437227405312 = k * 4503599627370496 + m := by omega
  rw [this]

theorem word_sg (n : Nat) (h : n < 18446744073709551616) : Ieee.double.word (sgW n) (n % 9223372036854775808) = n := by
  unfold sgW Ieee.Format.word
  rw [dbl_sign]
  by_cases g : n < 9223372036854775808
  · have : n / 9223372036854775808 = 0 := by omega
    simp [this]; omega
  · have : n / 9223372036854775808 = 1 := by omega
    simp [this]; omega

theorem signed_zero (b : Bool) (k : Nat) : Ieee.signed b 0 k = 0 := by cases b <;> simp [Ieee.signed]
theorem signed_false (m k : Nat) : Ieee.signed false m k = ((m <<< k : Nat) : Int) := rfl
theorem signed_true (m k : Nat) : Ieee.signed true m k = -((m <<< k : Nat) : Int) := rfl
theorem signed_abs (b : Bool) (m k : Nat) : (Ieee.signed b m k).natAbs = m <<< k := by
  cases b
  · rw [signed_false]; generalize m <<< k = x; omega
  · rw [signed_true]; generalize m <<< k = x; omega
theorem signed_sign (b : Bool) (m k : Nat) (h : m ≠ 0) : (Ieee.signed b m k = 0) = False ∧ (decide (Ieee.signed b m k < 0)) = b := by
  have hp : 0 < m <<< k := by rw [Nat.shiftLeft_eq]; exact Nat.mul_pos (by omega) (Nat.two_pow_pos _)
  revert hp
  cases b
  · rw [signed_false]; generalize m <<< k = x; intro hp; simp; omega
  · rw [signed_true]; generalize m <<< k = x; intro hp; simp; omega

/-- -0 added changes no real. -/
theorem add_negzero {n : Nat} (h : n < 18446744073709551616) (hn : nanW n = false) : Ieee.double.add n 9223372036854775808 = some n := by
  have r0 : Ieee.double.read 9223372036854775808 = .number true 0 (-1074) := by rw [read_sub (by decide)]; rfl
  have hn' := hn
  simp only [nanW, decide_eq_false_iff_not] at hn'
  simp only [Ieee.Format.add, r0]
  by_cases h1 : n % 9223372036854775808 < 4503599627370496
  · rw [read_sub h1]
    simp only [Ieee.Datum.sum, Int.min_self, Int.sub_self, Int.toNat_zero, signed_zero, Int.add_zero, signed_abs, Nat.shiftLeft_zero, Option.map_some, Ieee.Format.write]
    rw [nearest_sub _ _ h1]
    by_cases h0 : n % 9223372036854775808 = 0
    · rw [h0]
      simp only [signed_zero, if_true, Bool.and_true]
      have := word_sg n h
      rw [h0] at this; rw [this]
    · obtain ⟨s1, s2⟩ := signed_sign (sgW n) _ 0 h0
      simp only [s1, if_false, s2]
      rw [word_sg n h]
  · by_cases h2 : n % 9223372036854775808 < 9218868437227405312
    · rw [read_norm (by omega) h2]
      have hk : (n % 9223372036854775808 / 4503599627370496 - 1) < 2046 := by omega
      generalize hkd : n % 9223372036854775808 / 4503599627370496 - 1 = k at hk
      have hm0 : 4503599627370496 + n % 9223372036854775808 % 4503599627370496 ≠ 0 := by omega
      have hmin : min ((-1074 : Int) + (k : Nat)) (-1074) = -1074 := by omega
      have ek : ((-1074 : Int) + (k : Nat) - (-1074)).toNat = k := by omega
      simp only [Ieee.Datum.sum, hmin, ek, Int.sub_self, Int.toNat_zero, signed_zero, Int.add_zero, signed_abs, Option.map_some, Ieee.Format.write]
      obtain ⟨s1, s2⟩ := signed_sign (sgW n) _ k hm0
      simp only [s1, if_false, s2]
      rw [nearest_norm _ _ _ (by omega) (by omega) hk]
      have : k * 4503599627370496 + (4503599627370496 + n % 9223372036854775808 % 4503599627370496) = n % 9223372036854775808 := by omega
      rw [this, word_sg n h]
    · have h3 : n % 9223372036854775808 = 9218868437227405312 := by omega
      rw [read_inf h3]
      simp only [Ieee.Datum.sum, Option.map_some, Ieee.Format.write, dbl_inf]
      have := word_sg n h
      rw [h3] at this; rw [this]

end Go.Proofs.YtecidbdbdnnglaaGreat
