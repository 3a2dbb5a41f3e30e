/- Plain facts on numbers and bytes. -/
import Derived.Test.YtpeagpeifmimlaaPkA
import Derived.Laws.BitsAllLaws
namespace Go.Proofs.Ytpeagpeifmimlaa
open Go.RowKit

/-- The number that bytes make, the greatest first. -/
def val (l : List UInt8) : Nat := l.foldl (fun n c => n * 256 + c.toNat) 0
theorem val_snoc (l : List UInt8) (c : UInt8) : val (l ++ [c]) = val l * 256 + c.toNat := by simp [val, List.foldl_append]
theorem val_lt (l : List UInt8) : val l < 256 ^ l.length := by
  rw [← List.reverse_reverse l]
  generalize l.reverse = r
  induction r with
  | nil => simp [val]
  | cons c r ih =>
    rw [List.reverse_cons, val_snoc, List.length_append, List.length_singleton, Nat.pow_succ]
    have := c.toNat_lt
    omega
theorem take_snoc (s : ByteArray) (k : Nat) (h : k < s.size) : s.data.toList.take (k + 1) = s.data.toList.take k ++ [s[k]] := by
  rw [List.take_succ_eq_append_getElem (by simpa using h)]; rfl
theorem or_add (a c : Nat) (hc : c < 256) : a * 256 ||| c = a * 256 + c := by
  have := Nat.two_pow_add_eq_or_of_lt (i := 8) hc a
  rw [Nat.mul_comm] at this
  simpa using this.symm
theorem or_val (a : Nat) (c : UInt8) (ha : a < 72057594037927936) :
    bits BinOp.or IntKind.u64 (IntKind.u64.wrap ((a : Int) * 256)) (IntKind.u64.wrap (c.toNat : Int)) = ((a * 256 + c.toNat : Nat) : Int) := by
  have hc := c.toNat_lt
  have e1 : IntKind.u64.wrap ((a : Int) * 256) = ((a * 256 : Nat) : Int) := by simp only [IntKind.wrap_u64]; omega
  have e2 : IntKind.u64.wrap (c.toNat : Int) = ((c.toNat : Nat) : Int) := by simp only [IntKind.wrap_u64]; omega
  rw [e1, e2, u64_or_nat _ _ (by omega) (by omega), or_add _ _ (by omega)]

theorem extract_list (s : ByteArray) (a b : Nat) : (s.extract a b).data.toList = (s.data.toList.take b).drop a := by
  simp [ByteArray.data_extract, List.drop_take]

theorem be_snoc (s n : Nat) : be (s + 1) n = be s (n / 256) ++ [UInt8.ofNat n] := by
  induction s with
  | zero => simp [be]
  | succ s ih =>
    rw [be, ih, be, List.cons_append, Nat.div_div_eq_div_mul, Nat.pow_succ, Nat.mul_comm (256 ^ s) 256]
/-- Bytes of a number read again make the number. -/
theorem val_be (s n : Nat) : val (be s n) = n % 256 ^ s := by
  induction s generalizing n with
  | zero => simp [be, val, Nat.mod_one]
  | succ s ih =>
    have e : (UInt8.ofNat n).toNat = n % 256 := by simp
    rw [be_snoc, val_snoc, ih, e, Nat.pow_succ, Nat.mul_comm (256 ^ s) 256, Nat.mod_mul]
    omega
/-- A number's bytes are those that made it. -/
theorem be_val (l : List UInt8) : be l.length (val l) = l := by
  rw [← List.reverse_reverse l]
  generalize l.reverse = r
  induction r with
  | nil => rfl
  | cons c r ih =>
    have hc := c.toNat_lt
    rw [List.reverse_cons, val_snoc, List.length_append, List.length_singleton, be_snoc]
    have e1 : (val r.reverse * 256 + c.toNat) / 256 = val r.reverse := by omega
    have e2 : UInt8.ofNat (val r.reverse * 256 + c.toNat) = c := by
      apply UInt8.toNat_inj.1
      have e : ∀ n, (UInt8.ofNat n).toNat = n % 256 := fun n => by simp
      rw [e]
      omega
    rw [e1, e2, ih]

end Go.Proofs.Ytpeagpeifmimlaa
