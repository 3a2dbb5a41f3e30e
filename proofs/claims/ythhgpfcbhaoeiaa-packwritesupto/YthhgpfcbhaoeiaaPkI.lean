/- Items of the statements: their kind; what a reader and the document's reader make of one. -/
import Derived.Test.YthhgpfcbhaoeiaaMrR
namespace Go.Proofs.Ythhgpfcbhaoeiaa
open Go.RowKit

/-- An item: kind, number, bits, text. -/
structure It where
  k : Int
  n : Int
  q : Nat
  s : ByteArray

def It.v (i : It) : Value := .agg #[.int .i64 i.k, .int .i64 i.n, .int .u64 (i.q : Int), .string i.s]
/-- Its kind. -/
def It.kd (i : It) : Int := wrap64 ((IntKind.u64.wrap i.k).tmod 5)
theorem It.kd_bd (i : It) : i.kd = 0 ∨ i.kd = 1 ∨ i.kd = 2 ∨ i.kd = 3 ∨ i.kd = 4 := by
  unfold It.kd
  rw [IntKind.wrap_u64, Int.tmod_eq_emod_of_nonneg (by omega), wrap64]
  omega

theorem kind_any (i : It) (w : World) :
    Calls Try.prog 24 #[i.v] w fun e w' => e = .returned (.int .i64 i.kd) ∧ w' = w.alloc (.cells #[.int .i64 i.k, .int .i64 i.n, .int .u64 (i.q : Int), .string i.s] 31) := by
  unfold It.v It.kd
  go_enter Try.func24, Try.ntmps24
  go_wp2
  go_ret
  exact ⟨rfl, rfl⟩

theorem Kept.also {b c : Nat} {w w' : World} (h : Kept b none w w') : Kept b (some c) w w' := kept_none' h
  where kept_none' {b c : Nat} {w w' : World} (h : Kept b none w w') : Kept b (some c) w w' := ⟨h.os, h.tape, h.output, h.size, fun k hk hb _ => h.block k hk hb (by simp)⟩

end Go.Proofs.Ythhgpfcbhaoeiaa
