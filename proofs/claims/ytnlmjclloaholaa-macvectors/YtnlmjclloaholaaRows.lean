/-
  No cell of these rows narrows 'for every input' (looked for: loops, veiled, ifaces, maps, wideKeys, modest, calm, conditions, laid).
  DERIVED. THE GIVEN ROWS OF THIS SEAT. 6 by the template 'for every input the law returns true; each argument reads behind the call as it read before'; 0 by the template 'total and deterministic' (their statements: YtnlmjclloaholaaTotals.lean).
  GIVEN WITH THE SEED: the statements are not yours to turn. If you find one false, say at which input.
  Laid BY PROGRAM, IN A SANDBOX (cutbox-rows.mjs): the forced cells as the released guide's own fill.sh prints them over the translation 0e23bd041e27b1fc… (all of the seat's roots in one cut). By AI agents, Wed Nov 11 2026. No macro, syntax, notation, axiom, sorry.
-/
import Derived.Test.YtnlmjclloaholaaChecked
import GoSem.Claim
import GoSem.ClaimJoined
import GoSem.ClaimMapViews
import Derived.JoinedTies
import Derived.KernelRfl
namespace Go.Proofs.Ytnlmjclloaholaa
/- THE CELL 'sum', in the pinned program and in every row, IS THE sha256 OF THE DUMP (.gsa) THAT YtnlmjclloaholaaProg.lean LOADS. Nothing in Lean hashes anything: it is a label: what it is worth is what the hold of that sum in a sandbox is worth. -/
noncomputable def Try.pinned : Pinned := { name := "ytnlmjclloaholaa", sum := "0e23bd041e27b1fcc850e3f8c146916241605e0199cb11642cc4fe7fb131dd17", checked := Try.checked }
namespace Rows
def none {H : Type} : Left H := { results := [], args := [] }

/-- 'witanlaw04.MacSums': WHATEVER THE INPUT: true; the input reads as it did. -/
def macSumsSpec : ChangeSpec := { name := "macSums", fn := fun _ => fun
  | [d1, d2] => { results := [.lit (.bool true)], args := [d1, d2] }
  | _ => none }
def macSumsRow : OpenClaim := { program := "ytnlmjclloaholaa", sum := "0e23bd041e27b1fcc850e3f8c146916241605e0199cb11642cc4fe7fb131dd17", func := "witan/witanlaw04.MacSums", spec := "macSums", apart := false }
def MacSumsSaid : Prop := macSumsRow.holds Try.pinned (OpenSpec.ofChange macSumsSpec)

/-- ITS FALSE NEIGHBOUR: 'it returns false'. Refute it at one input. -/
def macSumsWrong : ChangeSpec := { name := "macSums", fn := fun _ => fun
  | [d1, d2] => { results := [.lit (.bool false)], args := [d1, d2] }
  | _ => none }
def MacSumsWrongFalsely : Prop := macSumsRow.holds Try.pinned (OpenSpec.ofChange macSumsWrong)

/-- 'witanlaw04.MacPairs': WHATEVER THE INPUT: true; the input reads as it did. -/
def macPairsSpec : ChangeSpec := { name := "macPairs", fn := fun _ => fun
  | [d1, d2, d3] => { results := [.lit (.bool true)], args := [d1, d2, d3] }
  | _ => none }
def macPairsRow : OpenClaim := { program := "ytnlmjclloaholaa", sum := "0e23bd041e27b1fcc850e3f8c146916241605e0199cb11642cc4fe7fb131dd17", func := "witan/witanlaw04.MacPairs", spec := "macPairs", apart := false }
def MacPairsSaid : Prop := macPairsRow.holds Try.pinned (OpenSpec.ofChange macPairsSpec)

/-- ITS FALSE NEIGHBOUR: 'it returns false'. Refute it at one input. -/
def macPairsWrong : ChangeSpec := { name := "macPairs", fn := fun _ => fun
  | [d1, d2, d3] => { results := [.lit (.bool false)], args := [d1, d2, d3] }
  | _ => none }
def MacPairsWrongFalsely : Prop := macPairsRow.holds Try.pinned (OpenSpec.ofChange macPairsWrong)

/-- 'witanlaw04.MacVectors': WHATEVER THE INPUT: true; the input reads as it did. -/
def macVectorsSpec : ChangeSpec := { name := "macVectors", fn := fun _ => fun
  | [d1, d2] => { results := [.lit (.bool true)], args := [d1, d2] }
  | _ => none }
def macVectorsRow : OpenClaim := { program := "ytnlmjclloaholaa", sum := "0e23bd041e27b1fcc850e3f8c146916241605e0199cb11642cc4fe7fb131dd17", func := "witan/witanlaw04.MacVectors", spec := "macVectors", apart := false }
def MacVectorsSaid : Prop := macVectorsRow.holds Try.pinned (OpenSpec.ofChange macVectorsSpec)

/-- ITS FALSE NEIGHBOUR: 'it returns false'. Refute it at one input. -/
def macVectorsWrong : ChangeSpec := { name := "macVectors", fn := fun _ => fun
  | [d1, d2] => { results := [.lit (.bool false)], args := [d1, d2] }
  | _ => none }
def MacVectorsWrongFalsely : Prop := macVectorsRow.holds Try.pinned (OpenSpec.ofChange macVectorsWrong)

/-- 'witanlaw04.MacChecks': WHATEVER THE INPUT: true; the input reads as it did. -/
def macChecksSpec : ChangeSpec := { name := "macChecks", fn := fun _ => fun
  | [d] => { results := [.lit (.bool true)], args := [d] }
  | _ => none }
def macChecksRow : OpenClaim := { program := "ytnlmjclloaholaa", sum := "0e23bd041e27b1fcc850e3f8c146916241605e0199cb11642cc4fe7fb131dd17", func := "witan/witanlaw04.MacChecks", spec := "macChecks", apart := false }
def MacChecksSaid : Prop := macChecksRow.holds Try.pinned (OpenSpec.ofChange macChecksSpec)

/-- ITS FALSE NEIGHBOUR: 'it returns false'. Refute it at one input. -/
def macChecksWrong : ChangeSpec := { name := "macChecks", fn := fun _ => fun
  | [d] => { results := [.lit (.bool false)], args := [d] }
  | _ => none }
def MacChecksWrongFalsely : Prop := macChecksRow.holds Try.pinned (OpenSpec.ofChange macChecksWrong)

/-- 'witanlaw04.MacTaken': WHATEVER THE INPUT: true; the input reads as it did. -/
def macTakenSpec : ChangeSpec := { name := "macTaken", fn := fun _ => fun
  | [d1, d2] => { results := [.lit (.bool true)], args := [d1, d2] }
  | _ => none }
def macTakenRow : OpenClaim := { program := "ytnlmjclloaholaa", sum := "0e23bd041e27b1fcc850e3f8c146916241605e0199cb11642cc4fe7fb131dd17", func := "witan/witanlaw04.MacTaken", spec := "macTaken", apart := false }
def MacTakenSaid : Prop := macTakenRow.holds Try.pinned (OpenSpec.ofChange macTakenSpec)

/-- ITS FALSE NEIGHBOUR: 'it returns false'. Refute it at one input. -/
def macTakenWrong : ChangeSpec := { name := "macTaken", fn := fun _ => fun
  | [d1, d2] => { results := [.lit (.bool false)], args := [d1, d2] }
  | _ => none }
def MacTakenWrongFalsely : Prop := macTakenRow.holds Try.pinned (OpenSpec.ofChange macTakenWrong)

/-- 'witanlaw04.MacLong': WHATEVER THE INPUT: true; the input reads as it did. -/
def macLongSpec : ChangeSpec := { name := "macLong", fn := fun _ => fun
  | [d1, d2, d3] => { results := [.lit (.bool true)], args := [d1, d2, d3] }
  | _ => none }
def macLongRow : OpenClaim := { program := "ytnlmjclloaholaa", sum := "0e23bd041e27b1fcc850e3f8c146916241605e0199cb11642cc4fe7fb131dd17", func := "witan/witanlaw04.MacLong", spec := "macLong", apart := false }
def MacLongSaid : Prop := macLongRow.holds Try.pinned (OpenSpec.ofChange macLongSpec)

/-- ITS FALSE NEIGHBOUR: 'it returns false'. Refute it at one input. -/
def macLongWrong : ChangeSpec := { name := "macLong", fn := fun _ => fun
  | [d1, d2, d3] => { results := [.lit (.bool false)], args := [d1, d2, d3] }
  | _ => none }
def MacLongWrongFalsely : Prop := macLongRow.holds Try.pinned (OpenSpec.ofChange macLongWrong)

/- THE SECOND FORM. 'bulk': how many values and letters a reading holds, each counted each time it is reached (what is shared counts as often as it is met; a slice's spare places count too). A statement '..UptoSaid' is the law's where the arguments, and the package variables that the reading takes, are together of bulk at most 1048576: NARROWER than '..Said'. Prove '..Said' where nothing that the law and all that it calls make is longer than what came in: it says more and counts as full. Else prove '..UptoSaid'. A law counts once. -/
mutual
def uptoBulk {H : Type} : DataW H → Nat
  | .lit (.string bytes) => bytes.length + 1
  | .lit _ => 1
  | .nil => 1
  | .ptr d => uptoBulk d + 1
  | .slice elems spare => uptoBulkAll elems + uptoBulkAll spare + 1
  | .agg parts => uptoBulkAll parts + 1
  | .iface _ d => uptoBulk d + 1
  | .map entries => uptoBulkEntries entries + 1
  | .held _ => 1
def uptoBulkAll {H : Type} : List (DataW H) → Nat
  | [] => 0
  | d :: r => uptoBulk d + uptoBulkAll r
def uptoBulkEntries {H : Type} : List (Lit × DataW H) → Nat
  | [] => 0
  | x :: r => uptoBulkEntry x + uptoBulkEntries r
def uptoBulkEntry {H : Type} : Lit × DataW H → Nat
  | (.string bytes, d) => bytes.length + uptoBulk d + 1
  | (_, d) => uptoBulk d + 1
 end
def uptoSmall : (H : Type) → List (DataW H) → Bool := fun _ ds => decide (uptoBulkAll ds ≤ 1048576)
def OpenSpec.upto (s : _root_.Go.ChangeSpec) : _root_.Go.OpenSpec := { _root_.Go.OpenSpec.ofChange s with cond := some uptoSmall }

/-- 'witanlaw04.MacSums', WHERE WHAT IT READS IS OF BULK AT MOST 1048576: true; the input reads as it did. -/
def macSumsUptoRow : OpenClaim := { program := "ytnlmjclloaholaa", sum := "0e23bd041e27b1fcc850e3f8c146916241605e0199cb11642cc4fe7fb131dd17", func := "witan/witanlaw04.MacSums", spec := "macSums", apart := false, narrowed := true }
def MacSumsUptoSaid : Prop := macSumsUptoRow.holds Try.pinned (OpenSpec.upto macSumsSpec)

/-- 'witanlaw04.MacPairs', WHERE WHAT IT READS IS OF BULK AT MOST 1048576: true; the input reads as it did. -/
def macPairsUptoRow : OpenClaim := { program := "ytnlmjclloaholaa", sum := "0e23bd041e27b1fcc850e3f8c146916241605e0199cb11642cc4fe7fb131dd17", func := "witan/witanlaw04.MacPairs", spec := "macPairs", apart := false, narrowed := true }
def MacPairsUptoSaid : Prop := macPairsUptoRow.holds Try.pinned (OpenSpec.upto macPairsSpec)

/-- 'witanlaw04.MacVectors', WHERE WHAT IT READS IS OF BULK AT MOST 1048576: true; the input reads as it did. -/
def macVectorsUptoRow : OpenClaim := { program := "ytnlmjclloaholaa", sum := "0e23bd041e27b1fcc850e3f8c146916241605e0199cb11642cc4fe7fb131dd17", func := "witan/witanlaw04.MacVectors", spec := "macVectors", apart := false, narrowed := true }
def MacVectorsUptoSaid : Prop := macVectorsUptoRow.holds Try.pinned (OpenSpec.upto macVectorsSpec)

/-- 'witanlaw04.MacChecks', WHERE WHAT IT READS IS OF BULK AT MOST 1048576: true; the input reads as it did. -/
def macChecksUptoRow : OpenClaim := { program := "ytnlmjclloaholaa", sum := "0e23bd041e27b1fcc850e3f8c146916241605e0199cb11642cc4fe7fb131dd17", func := "witan/witanlaw04.MacChecks", spec := "macChecks", apart := false, narrowed := true }
def MacChecksUptoSaid : Prop := macChecksUptoRow.holds Try.pinned (OpenSpec.upto macChecksSpec)

/-- 'witanlaw04.MacTaken', WHERE WHAT IT READS IS OF BULK AT MOST 1048576: true; the input reads as it did. -/
def macTakenUptoRow : OpenClaim := { program := "ytnlmjclloaholaa", sum := "0e23bd041e27b1fcc850e3f8c146916241605e0199cb11642cc4fe7fb131dd17", func := "witan/witanlaw04.MacTaken", spec := "macTaken", apart := false, narrowed := true }
def MacTakenUptoSaid : Prop := macTakenUptoRow.holds Try.pinned (OpenSpec.upto macTakenSpec)

/-- 'witanlaw04.MacLong', WHERE WHAT IT READS IS OF BULK AT MOST 1048576: true; the input reads as it did. -/
def macLongUptoRow : OpenClaim := { program := "ytnlmjclloaholaa", sum := "0e23bd041e27b1fcc850e3f8c146916241605e0199cb11642cc4fe7fb131dd17", func := "witan/witanlaw04.MacLong", spec := "macLong", apart := false, narrowed := true }
def MacLongUptoSaid : Prop := macLongUptoRow.holds Try.pinned (OpenSpec.upto macLongSpec)

end Rows
end Go.Proofs.Ytnlmjclloaholaa
