/-
  No cell of these rows narrows 'for every input' (looked for: loops, veiled, ifaces, maps, wideKeys, modest, calm, conditions, laid).
  DERIVED. THE GIVEN ROWS OF THIS SEAT. 3 by the template 'for every input the law returns true; each argument reads behind the call as it read before'; 0 by the template 'total and deterministic' (their statements: YtecidbdbdnnglaaGreatTotals.lean).
  GIVEN WITH THE SEED: the statements are not yours to turn. If you find one false, say at which input.
  Laid BY PROGRAM, IN A SANDBOX (cutbox-rows.mjs): the forced cells as the released guide's own fill.sh prints them over the translation 2094b7b2b72fb048… (all of the seat's roots in one cut). By AI agents, Wed Nov 11 2026. No macro, syntax, notation, axiom, sorry.
-/
import Derived.Test.YtecidbdbdnnglaaGreatChecked
import GoSem.Claim
import GoSem.ClaimJoined
import GoSem.ClaimMapViews
import Derived.JoinedTies
import Derived.KernelRfl
namespace Go.Proofs.YtecidbdbdnnglaaGreat
/- THE CELL 'sum', in the pinned program and in every row, IS THE sha256 OF THE DUMP (.gsa) THAT YtecidbdbdnnglaaGreatProg.lean LOADS. Nothing in Lean hashes anything: it is a label: what it is worth is what the hold of that sum in a sandbox is worth. -/
noncomputable def Tryz.pinned : Pinned := { name := "ytecidbdbdnnglaagreat", sum := "2094b7b2b72fb0483e63c64e4fed9a496a1b1e7d391f38b3891530cb7feb3c57", checked := Tryz.checked }
namespace Rows
def none {H : Type} : Left H := { results := [], args := [] }

/-- 'witanlaw12.LedgerPlays': WHATEVER THE INPUT: true; the input reads as it did. -/
def ledgerPlaysSpec : ChangeSpec := { name := "ledgerPlays", fn := fun _ => fun
  | [d1, d2] => { results := [.lit (.bool true)], args := [d1, d2] }
  | _ => none }
def ledgerPlaysRow : OpenClaim := { program := "ytecidbdbdnnglaagreat", sum := "2094b7b2b72fb0483e63c64e4fed9a496a1b1e7d391f38b3891530cb7feb3c57", func := "witan/witanlaw12.LedgerPlays", spec := "ledgerPlays", inPlace := ["math.Float64bits", "math.Float64frombits", "slices.overlaps[int]"], recurses := true, apart := false }
def LedgerPlaysSaid : Prop := ledgerPlaysRow.holds Tryz.pinned (OpenSpec.ofChange ledgerPlaysSpec)

/-- ITS FALSE NEIGHBOUR: 'it returns false'. Refute it at one input. -/
def ledgerPlaysWrong : ChangeSpec := { name := "ledgerPlays", fn := fun _ => fun
  | [d1, d2] => { results := [.lit (.bool false)], args := [d1, d2] }
  | _ => none }
def LedgerPlaysWrongFalsely : Prop := ledgerPlaysRow.holds Tryz.pinned (OpenSpec.ofChange ledgerPlaysWrong)

/-- 'witanlaw12.LedgerOpens': WHATEVER THE INPUT: true; the input reads as it did. -/
def ledgerOpensSpec : ChangeSpec := { name := "ledgerOpens", fn := fun _ => fun
  | [d1, d2] => { results := [.lit (.bool true)], args := [d1, d2] }
  | _ => none }
def ledgerOpensRow : OpenClaim := { program := "ytecidbdbdnnglaagreat", sum := "2094b7b2b72fb0483e63c64e4fed9a496a1b1e7d391f38b3891530cb7feb3c57", func := "witan/witanlaw12.LedgerOpens", spec := "ledgerOpens", inPlace := ["math.Float64bits", "math.Float64frombits", "slices.overlaps[int]"], recurses := true, apart := false }
def LedgerOpensSaid : Prop := ledgerOpensRow.holds Tryz.pinned (OpenSpec.ofChange ledgerOpensSpec)

/-- ITS FALSE NEIGHBOUR: 'it returns false'. Refute it at one input. -/
def ledgerOpensWrong : ChangeSpec := { name := "ledgerOpens", fn := fun _ => fun
  | [d1, d2] => { results := [.lit (.bool false)], args := [d1, d2] }
  | _ => none }
def LedgerOpensWrongFalsely : Prop := ledgerOpensRow.holds Tryz.pinned (OpenSpec.ofChange ledgerOpensWrong)

/-- 'witanlaw12.LedgerRoom': WHATEVER THE INPUT: true; the input reads as it did. -/
def ledgerRoomSpec : ChangeSpec := { name := "ledgerRoom", fn := fun _ => fun
  | [d1, d2] => { results := [.lit (.bool true)], args := [d1, d2] }
  | _ => none }
def ledgerRoomRow : OpenClaim := { program := "ytecidbdbdnnglaagreat", sum := "2094b7b2b72fb0483e63c64e4fed9a496a1b1e7d391f38b3891530cb7feb3c57", func := "witan/witanlaw12.LedgerRoom", spec := "ledgerRoom", inPlace := ["math.Float64bits", "math.Float64frombits", "slices.overlaps[int]"], recurses := true, apart := false }
def LedgerRoomSaid : Prop := ledgerRoomRow.holds Tryz.pinned (OpenSpec.ofChange ledgerRoomSpec)

/-- ITS FALSE NEIGHBOUR: 'it returns false'. Refute it at one input. -/
def ledgerRoomWrong : ChangeSpec := { name := "ledgerRoom", fn := fun _ => fun
  | [d1, d2] => { results := [.lit (.bool false)], args := [d1, d2] }
  | _ => none }
def LedgerRoomWrongFalsely : Prop := ledgerRoomRow.holds Tryz.pinned (OpenSpec.ofChange ledgerRoomWrong)

/- THE SECOND FORM. 'bulk': how many values and letters a reading holds, each counted each time it is reached (what is shared counts as often as it is met; a slice's spare places count too). A statement '..UptoSaid' is the law's where the arguments, and the package variables that the reading takes, are together of bulk at most 1048576: NARROWER than '..Said'. Prove '..Said' where nothing that the law and all that it calls make is longer than what came in: it says more and counts as full. Else prove '..UptoSaid'. A law counts once. -/
mutual
def uptoBulk {H : Type} : DataW H → Nat
  | .lit (.string bytes) => bytes.length + 1
  | .lit _ => 1
  | .nil => 1
  | .ptr d => uptoBulk d + 1
  | .slice elems spare => uptoBulkAll elems + uptoBulkAll spare + 1
  | .agg parts => uptoBulkAll parts + 1
  | .iface _ d => uptoBulk d + 1
  | .map entries => uptoBulkEntries entries + 1
  | .held _ => 1
def uptoBulkAll {H : Type} : List (DataW H) → Nat
  | [] => 0
  | d :: r => uptoBulk d + uptoBulkAll r
def uptoBulkEntries {H : Type} : List (Lit × DataW H) → Nat
  | [] => 0
  | x :: r => uptoBulkEntry x + uptoBulkEntries r
def uptoBulkEntry {H : Type} : Lit × DataW H → Nat
  | (.string bytes, d) => bytes.length + uptoBulk d + 1
  | (_, d) => uptoBulk d + 1
 end
def uptoSmall : (H : Type) → List (DataW H) → Bool := fun _ ds => decide (uptoBulkAll ds ≤ 1048576)
def OpenSpec.upto (s : _root_.Go.ChangeSpec) : _root_.Go.OpenSpec := { _root_.Go.OpenSpec.ofChange s with cond := some uptoSmall }

/-- 'witanlaw12.LedgerPlays', WHERE WHAT IT READS IS OF BULK AT MOST 1048576: true; the input reads as it did. -/
def ledgerPlaysUptoRow : OpenClaim := { program := "ytecidbdbdnnglaagreat", sum := "2094b7b2b72fb0483e63c64e4fed9a496a1b1e7d391f38b3891530cb7feb3c57", func := "witan/witanlaw12.LedgerPlays", spec := "ledgerPlays", inPlace := ["math.Float64bits", "math.Float64frombits", "slices.overlaps[int]"], recurses := true, apart := false, narrowed := true }
def LedgerPlaysUptoSaid : Prop := ledgerPlaysUptoRow.holds Tryz.pinned (OpenSpec.upto ledgerPlaysSpec)

/-- 'witanlaw12.LedgerOpens', WHERE WHAT IT READS IS OF BULK AT MOST 1048576: true; the input reads as it did. -/
def ledgerOpensUptoRow : OpenClaim := { program := "ytecidbdbdnnglaagreat", sum := "2094b7b2b72fb0483e63c64e4fed9a496a1b1e7d391f38b3891530cb7feb3c57", func := "witan/witanlaw12.LedgerOpens", spec := "ledgerOpens", inPlace := ["math.Float64bits", "math.Float64frombits", "slices.overlaps[int]"], recurses := true, apart := false, narrowed := true }
def LedgerOpensUptoSaid : Prop := ledgerOpensUptoRow.holds Tryz.pinned (OpenSpec.upto ledgerOpensSpec)

/-- 'witanlaw12.LedgerRoom', WHERE WHAT IT READS IS OF BULK AT MOST 1048576: true; the input reads as it did. -/
def ledgerRoomUptoRow : OpenClaim := { program := "ytecidbdbdnnglaagreat", sum := "2094b7b2b72fb0483e63c64e4fed9a496a1b1e7d391f38b3891530cb7feb3c57", func := "witan/witanlaw12.LedgerRoom", spec := "ledgerRoom", inPlace := ["math.Float64bits", "math.Float64frombits", "slices.overlaps[int]"], recurses := true, apart := false, narrowed := true }
def LedgerRoomUptoSaid : Prop := ledgerRoomUptoRow.holds Tryz.pinned (OpenSpec.upto ledgerRoomSpec)

end Rows
end Go.Proofs.YtecidbdbdnnglaaGreat
