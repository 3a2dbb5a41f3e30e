/- The contracts of the document's reader (layer 1's reference). -/
import Derived.Test.YtpeagpeifmimlaaPkT
import Derived.BigQuiet
import Derived.Deep.QuietTactic
namespace Go.Proofs.Ytpeagpeifmimlaa
open Go.RowKit

theorem add_val (a : Nat) (c : UInt8) (ha : a < 72057594037927936) :
    IntKind.u64.wrap (IntKind.u64.wrap ((a : Int) * 256) + IntKind.u64.wrap (c.toNat : Int)) = ((a * 256 + c.toNat : Nat) : Int) := by
  have hc := c.toNat_lt
  simp only [IntKind.wrap_u64]; omega

theorem run_at (s : ByteArray) (k : Nat) (hk : k < s.size) (w : World) : (Instr.index 9 (.string s) (.int .i64 (k : Int))).run Try.prog w = .ok (.int .u8 (s[k].toNat : Int)) w := by
  have h0 : (0 : Int) ≤ (k : Int) := Int.natCast_nonneg _
  go_simp

theorem val_two (s : ByteArray) (h : 2 ≤ s.size) : val (s.data.toList.take 2) = s[0].toNat * 256 + s[1].toNat := by
  rw [take_snoc s 1 (by omega), val_snoc, take_snoc s 0 (by omega), val_snoc]
  simp [val]

theorem World.drewN_heap (w : World) (n : Nat) : (w.drewN n).heap = w.heap := by
  induction n with
  | zero => rfl
  | succ n ih => exact ih
theorem Kept.drewN {b : Nat} {r : Option Nat} {x y : World} (h : Kept b r x y) (n : Nat) : Kept b r x (y.drewN n) := by
  induction n with
  | zero => exact h
  | succ n ih => exact ih.drew
end Go.Proofs.Ytpeagpeifmimlaa
