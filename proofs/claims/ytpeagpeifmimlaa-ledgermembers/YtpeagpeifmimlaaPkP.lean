/- The contract of package pack's writer of bytes ('put'). -/
import Derived.Test.YtpeagpeifmimlaaPkW
import Derived.Deep.RegionLaw
namespace Go.Proofs.Ytpeagpeifmimlaa
open Go.RowKit
attribute [local go_sem ↓] Go.wp_at_zero Go.wp_at_succ

/-- A slice of the writer's own lies where it lay, or in a block that is new. -/
def Moved (w : World) (v v' : Value) : Prop := v'.ownBlock = v.ownBlock ∨ ∃ g, v'.ownBlock = some g ∧ w.heap.size ≤ g
theorem Moved.refl (w : World) (v : Value) : Moved w v v := .inl rfl
theorem Moved.trans {w w' : World} {a b c : Value} (h : Moved w a b) (k : Moved w' b c) (hs : w.heap.size ≤ w'.heap.size) : Moved w a c := by
  rcases k with k | ⟨g, k, hg⟩
  · rcases h with h | ⟨g, h, hg⟩
    · exact .inl (k.trans h)
    · exact .inr ⟨g, k.trans h, hg⟩
  · exact .inr ⟨g, k, by omega⟩

/-- The byte of place j, with all that lies ahead of it. -/
def upto (n j : Nat) : Nat := n / 256 ^ j
theorem upto_byte (n j : Nat) : IntKind.u8.wrap (upto n j : Int) = ((UInt8.ofNat (n / 256 ^ j)).toNat : Int) := by
  have e : (UInt8.ofNat (n / 256 ^ j)).toNat = n / 256 ^ j % 256 := by simp
  rw [e, IntKind.wrap_u8', upto]
  omega
theorem shr_run (n j : Nat) (hj : j ≤ 7) (w : World) : Sem.run Try.prog (Op.shift BinOp.shr IntKind.u64 (n : Int) IntKind.i64 (IntKind.i64.wrap (8 * (j : Int)))) w = .ok (.int .u64 (upto n j : Int)) w := by
  have e : IntKind.i64.wrap (8 * (j : Int)) = ((8 * j : Nat) : Int) := by rw [IntKind.wrap_i64]; omega
  rw [e, shift_shr_any _ _ _ _ (Int.natCast_nonneg _)]
  have e2 : min ((8 * j : Nat) : Int).toNat IntKind.u64.bits = 8 * j := by simp [IntKind.bits]; omega
  have e3 : ((2 : Int) ^ (8 * j)) = ((256 ^ j : Nat) : Int) := by rw [show (256 : Nat) = 2 ^ 8 from rfl, ← Nat.pow_mul]; simp
  rw [e2, upto, e3]
  simp

end Go.Proofs.Ytpeagpeifmimlaa
