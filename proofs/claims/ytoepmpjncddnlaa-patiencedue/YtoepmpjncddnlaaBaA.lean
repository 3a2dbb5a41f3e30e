/- What all families of texts share. -/
import Derived.Test.YtoepmpjncddnlaaProg
import Derived.WalkKit
import Derived.WalkSpells
import Derived.WalkLawsBesides
namespace Go.Proofs.Ytoepmpjncddnlaa
open Go.RowKit

theorem hid {p : Prop} (h : p) : Hid p := h
/-- Bytes as cells. -/
def bC (l : List UInt8) : List Value := l.map fun c => .int .u8 (c.toNat : Int)
theorem bC_len (l : List UInt8) : (bC l).length = l.length := by simp [bC]
theorem bC_app (a b : List UInt8) : bC (a ++ b) = bC a ++ bC b := by simp [bC]
/-- The bytes of a number, the greatest first. -/
def be : Nat → Nat → List UInt8
  | 0, _ => []
  | s + 1, n => UInt8.ofNat (n / 256 ^ s) :: be s n
theorem be_len (s n : Nat) : (be s n).length = s := by induction s with | zero => rfl | succ s ih => simp [be, ih]
theorem lt_of_blk {w : World} {b : Nat} {o : Obj} (h : w.heap[b]? = some o) : b < w.heap.size := (Array.getElem?_eq_some_iff.1 h).1
theorem data_len (s : ByteArray) : s.data.toList.length = s.size := rfl
theorem Try.info5 : (Try.prog.info? 5).map (fun i => (i.zero, i.size, i.bytes)) = some (some (.int .u8 0), 1, 1) := by kernel_rfl
end Go.Proofs.Ytoepmpjncddnlaa
