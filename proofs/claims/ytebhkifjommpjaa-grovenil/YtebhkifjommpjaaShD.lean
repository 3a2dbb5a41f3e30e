/- The words of a block, as the program makes them. -/
import Derived.Test.YtebhkifjommpjaaShC
import Derived.Deep.RegionHeld3
import Derived.Deep.DrawnRows
namespace Go.Proofs.Ytebhkifjommpjaa
open Go.RowKit

def bW (c : UInt8) : BitVec 32 := BitVec.ofNat 32 c.toNat
theorem u_bW (c : UInt8) : (c.toNat : Int) = u (bW c) := u_lit _ (by have := c.toNat_lt; omega)
/-- The words while the first k bytes are gone through. -/
def pw (L : List UInt8) : Nat → List (BitVec 32)
  | 0 => List.replicate 64 0
  | k + 1 => (pw L k).set (k / 4) (((pw L k).getD (k / 4) 0 <<< 8) ||| bW (L.getD k 0))
theorem pw_len (L : List UInt8) : ∀ k, (pw L k).length = 64
  | 0 => by simp [pw]
  | k + 1 => by rw [pw, List.length_set, pw_len L k]

theorem or_byte (x : BitVec 32) (c : UInt8) (h : x.toNat < 16777216) : ((x <<< 8) ||| bW c).toNat = x.toNat * 256 + c.toNat := by
  have hc := c.toNat_lt
  rw [BitVec.toNat_or, BitVec.toNat_shiftLeft, Nat.shiftLeft_eq, bW, BitVec.toNat_ofNat, Nat.mod_eq_of_lt (by omega : x.toNat * 2 ^ 8 < 2 ^ 32), Nat.mod_eq_of_lt (by omega : c.toNat < 2 ^ 32)]
  have := Nat.two_pow_add_eq_or_of_lt (i := 8) (b := c.toNat) (by omega) x.toNat
  rw [Nat.mul_comm, ← this]
theorem four_bytes (a b c d : UInt8) : ((((((((0 : BitVec 32) <<< 8) ||| bW a) <<< 8) ||| bW b) <<< 8) ||| bW c) <<< 8) ||| bW d = be4 a b c d := by
  have ha := a.toNat_lt; have hb := b.toNat_lt; have hc := c.toNat_lt; have hd := d.toNat_lt
  have e1 := or_byte 0 a (by decide)
  have e1' : (((0 : BitVec 32) <<< 8) ||| bW a).toNat = a.toNat := by rw [e1]; simp
  have e2 := or_byte _ b (by rw [e1']; omega : (((0 : BitVec 32) <<< 8) ||| bW a).toNat < 16777216)
  rw [e1'] at e2
  have e3 := or_byte _ c (by rw [e2]; omega)
  rw [e2] at e3
  have e4 := or_byte _ d (by rw [e3]; omega)
  rw [e3] at e4
  apply BitVec.eq_of_toNat_eq
  rw [e4]
  have := u_be4 a b c d
  unfold u at this
  omega

theorem words16_snoc : ∀ (m : Nat) (l : List UInt8), l.length = 4 * m → ∀ a b c d, words16 (m + 1) (l ++ [a, b, c, d]) = words16 m l ++ [be4 a b c d]
  | 0, l, h, a, b, c, d => by
    obtain rfl := List.eq_nil_of_length_eq_zero (by omega : l.length = 0)
    rfl
  | m + 1, p :: q :: r :: s :: l, h, a, b, c, d => by
    simp only [List.length_cons] at h
    have := words16_snoc m l (by omega) a b c d
    simp only [List.cons_append, words16] at this ⊢
    rw [this]
  | m + 1, [], h, _, _, _, _ => by simp at h
  | m + 1, [_], h, _, _, _, _ => by simp at h; omega
  | m + 1, [_, _], h, _, _, _, _ => by simp at h; omega
  | m + 1, [_, _, _], h, _, _, _, _ => by simp at h; omega

theorem pw_step (L : List UInt8) (k q : Nat) (X Y : List (BitVec 32)) (z : BitVec 32) (hq : k / 4 = q) (hX : X.length = q) (h : pw L k = X ++ z :: Y) : pw L (k + 1) = X ++ ((z <<< 8) ||| bW (L.getD k 0)) :: Y := by
  have e : (X ++ z :: Y).getD q 0 = z := by rw [getD_app_right _ _ _ _ (by omega), hX]; simp [List.getD]
  rw [pw, h, hq, e, ← hX, List.set_append_right _ _ (Nat.le_refl _)]
  simp

theorem take4 (L : List UInt8) (k : Nat) (h : k + 4 ≤ L.length) : L.take (k + 4) = L.take k ++ [L.getD k 0, L.getD (k + 1) 0, L.getD (k + 2) 0, L.getD (k + 3) 0] := by
  apply List.ext_getElem?
  intro i
  by_cases h1 : i < k
  · rw [List.getElem?_append_left (by simp; omega), List.getElem?_take, List.getElem?_take, if_pos (by omega), if_pos h1]
  · rw [List.getElem?_append_right (by simp; omega), List.getElem?_take]
    have e : (L.take k).length = k := by simp; omega
    rw [e]
    by_cases h2 : i < k + 4
    · rw [if_pos h2]
      obtain ⟨j, rfl⟩ : ∃ j, i = k + j := ⟨i - k, by omega⟩
      have hj : j < 4 := by omega
      rw [show k + j - k = j by omega]
      have : j = 0 ∨ j = 1 ∨ j = 2 ∨ j = 3 := by omega
      rcases this with rfl | rfl | rfl | rfl <;> simp [List.getD, List.getElem?_eq_getElem (show k < L.length by omega), List.getElem?_eq_getElem (show k + 1 < L.length by omega), List.getElem?_eq_getElem (show k + 2 < L.length by omega), List.getElem?_eq_getElem (show k + 3 < L.length by omega)]
    · rw [if_neg h2, eq_comm, List.getElem?_eq_none_iff]
      simp; omega

theorem pw_words (L : List UInt8) (hL : L.length = 64) : ∀ m, m ≤ 16 → pw L (4 * m) = words16 m (L.take (4 * m)) ++ List.replicate (64 - m) 0
  | 0, _ => by simp [pw, words16]
  | m + 1, hm => by
    have ih := pw_words L hL m (by omega)
    have hl : (words16 m (L.take (4 * m))).length = m := words16_len m _ (by simp; omega)
    have er : List.replicate (64 - m) (0 : BitVec 32) = 0 :: List.replicate (64 - (m + 1)) 0 := by
      rw [show 64 - m = (64 - (m + 1)) + 1 by omega, List.replicate_succ]
    rw [er] at ih
    have s1 := pw_step L (4 * m) m _ _ _ (by omega) hl ih
    have s2 := pw_step L (4 * m + 1) m _ _ _ (by omega) hl s1
    have s3 := pw_step L (4 * m + 2) m _ _ _ (by omega) hl s2
    have s4 := pw_step L (4 * m + 3) m _ _ _ (by omega) hl s3
    rw [show 4 * (m + 1) = 4 * m + 3 + 1 by omega, s4, four_bytes, take4 L (4 * m) (by omega), words16_snoc m _ (by simp; omega)]
    simp
theorem pw_all (L : List UInt8) (hL : L.length = 64) : pw L 64 = words16 16 L ++ List.replicate 48 0 := by
  have := pw_words L hL 16 (Nat.le_refl _)
  rw [List.take_of_length_le (by omega)] at this
  exact this

theorem uC_set (l : List (BitVec 32)) (j : Nat) (v : Value) (x : BitVec 32) (hv : v = .int .u32 (u x)) : (uC l).toArray.setIfInBounds j v = (uC (l.set j x)).toArray := by
  subst hv
  simp [uC, List.map_set]
theorem set_mid (l : List (BitVec 32)) (n j : Nat) (x : BitVec 32) (hj : l.length = j) : (l ++ List.replicate (n + 1) 0).set j x = l ++ [x] ++ List.replicate n 0 := by
  rw [← hj, List.set_append_right _ _ (Nat.le_refl _)]
  simp [List.replicate_succ]

theorem sg0_val (y : BitVec 32) : bits .xor .u32 (bits .xor .u32 (u (rotr y 7)) (u (rotr y 18))) (u y / 8) = u (sg0 y) := by
  rw [u_xor, show (8 : Int) = ((2 ^ 3 : Nat) : Int) from rfl, u_shr, u_xor]; rfl
theorem sg1_val (y : BitVec 32) : bits .xor .u32 (bits .xor .u32 (u (rotr y 17)) (u (rotr y 19))) (u y / 1024) = u (sg1 y) := by
  rw [u_xor, show (1024 : Int) = ((2 ^ 10 : Nat) : Int) from rfl, u_shr, u_xor]; rfl
theorem sum3 (a b c : BitVec 32) : (u a + u b + u c) % 4294967296 = u (a + b + c) := by
  rw [← u_add, ← u_add]; omega
theorem sum4 (a b c d : BitVec 32) : (u a + u b + u c + u d) % 4294967296 = u (a + b + c + d) := by
  rw [← u_add, ← sum3]; omega
theorem sum5 (a b c d e : BitVec 32) : (u a + u b + u c + u d + u e) % 4294967296 = u (a + b + c + d + e) := by
  rw [← u_add, ← sum4]; omega
end Go.Proofs.Ytebhkifjommpjaa
