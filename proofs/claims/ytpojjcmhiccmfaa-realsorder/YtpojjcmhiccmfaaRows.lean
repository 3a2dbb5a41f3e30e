/-
  No cell of these rows narrows 'for every input' (looked for: loops, veiled, ifaces, maps, wideKeys, modest, calm, conditions, laid).
  DERIVED. THE GIVEN ROWS OF THIS SEAT. 6 by the template 'for every input the law returns true; each argument reads behind the call as it read before'; 0 by the template 'total and deterministic' (their statements: YtpojjcmhiccmfaaTotals.lean).
  GIVEN WITH THE SEED: the statements are not yours to turn. If you find one false, say at which input.
  Laid BY PROGRAM, IN A SANDBOX (cutbox-rows.mjs): the forced cells as the released guide's own fill.sh prints them over the translation 874efeb2654ae946… (all of the seat's roots in one cut). By AI agents, Wed Nov 11 2026. No macro, syntax, notation, axiom, sorry.
-/
import Derived.Test.YtpojjcmhiccmfaaChecked
import GoSem.Claim
import GoSem.ClaimJoined
import GoSem.ClaimMapViews
import Derived.JoinedTies
import Derived.KernelRfl
namespace Go.Proofs.Ytpojjcmhiccmfaa
/- THE CELL 'sum', in the pinned program and in every row, IS THE sha256 OF THE DUMP (.gsa) THAT YtpojjcmhiccmfaaProg.lean LOADS. Nothing in Lean hashes anything: it is a label: what it is worth is what the hold of that sum in a sandbox is worth. -/
noncomputable def Try.pinned : Pinned := { name := "ytpojjcmhiccmfaa", sum := "874efeb2654ae9461c1245da27ee65182a1e354a09ec57ed7300f581962efc9f", checked := Try.checked }
namespace Rows
def none {H : Type} : Left H := { results := [], args := [] }

/-- 'witanlaw02.RealsBits': WHATEVER THE INPUT: true; the input reads as it did. -/
def realsBitsSpec : ChangeSpec := { name := "realsBits", fn := fun _ => fun
  | [d] => { results := [.lit (.bool true)], args := [d] }
  | _ => none }
def realsBitsRow : OpenClaim := { program := "ytpojjcmhiccmfaa", sum := "874efeb2654ae9461c1245da27ee65182a1e354a09ec57ed7300f581962efc9f", func := "witan/witanlaw02.RealsBits", spec := "realsBits", inPlace := ["math.Float64frombits", "math.Float64bits"], apart := false }
def RealsBitsSaid : Prop := realsBitsRow.holds Try.pinned (OpenSpec.ofChange realsBitsSpec)

/-- ITS FALSE NEIGHBOUR: 'it returns false'. Refute it at one input. -/
def realsBitsWrong : ChangeSpec := { name := "realsBits", fn := fun _ => fun
  | [d] => { results := [.lit (.bool false)], args := [d] }
  | _ => none }
def RealsBitsWrongFalsely : Prop := realsBitsRow.holds Try.pinned (OpenSpec.ofChange realsBitsWrong)

/-- 'witanlaw02.RealsLess': WHATEVER THE INPUT: true; the input reads as it did. -/
def realsLessSpec : ChangeSpec := { name := "realsLess", fn := fun _ => fun
  | [d1, d2] => { results := [.lit (.bool true)], args := [d1, d2] }
  | _ => none }
def realsLessRow : OpenClaim := { program := "ytpojjcmhiccmfaa", sum := "874efeb2654ae9461c1245da27ee65182a1e354a09ec57ed7300f581962efc9f", func := "witan/witanlaw02.RealsLess", spec := "realsLess", inPlace := ["math.Float64frombits", "math.Float64bits"], apart := false }
def RealsLessSaid : Prop := realsLessRow.holds Try.pinned (OpenSpec.ofChange realsLessSpec)

/-- ITS FALSE NEIGHBOUR: 'it returns false'. Refute it at one input. -/
def realsLessWrong : ChangeSpec := { name := "realsLess", fn := fun _ => fun
  | [d1, d2] => { results := [.lit (.bool false)], args := [d1, d2] }
  | _ => none }
def RealsLessWrongFalsely : Prop := realsLessRow.holds Try.pinned (OpenSpec.ofChange realsLessWrong)

/-- 'witanlaw02.RealsOrder': WHATEVER THE INPUT: true; the input reads as it did. -/
def realsOrderSpec : ChangeSpec := { name := "realsOrder", fn := fun _ => fun
  | [d1, d2, d3] => { results := [.lit (.bool true)], args := [d1, d2, d3] }
  | _ => none }
def realsOrderRow : OpenClaim := { program := "ytpojjcmhiccmfaa", sum := "874efeb2654ae9461c1245da27ee65182a1e354a09ec57ed7300f581962efc9f", func := "witan/witanlaw02.RealsOrder", spec := "realsOrder", inPlace := ["math.Float64frombits", "math.Float64bits"], apart := false }
def RealsOrderSaid : Prop := realsOrderRow.holds Try.pinned (OpenSpec.ofChange realsOrderSpec)

/-- ITS FALSE NEIGHBOUR: 'it returns false'. Refute it at one input. -/
def realsOrderWrong : ChangeSpec := { name := "realsOrder", fn := fun _ => fun
  | [d1, d2, d3] => { results := [.lit (.bool false)], args := [d1, d2, d3] }
  | _ => none }
def RealsOrderWrongFalsely : Prop := realsOrderRow.holds Try.pinned (OpenSpec.ofChange realsOrderWrong)

/-- 'witanlaw02.RealsAdds': WHATEVER THE INPUT: true; the input reads as it did. -/
def realsAddsSpec : ChangeSpec := { name := "realsAdds", fn := fun _ => fun
  | [d1, d2] => { results := [.lit (.bool true)], args := [d1, d2] }
  | _ => none }
def realsAddsRow : OpenClaim := { program := "ytpojjcmhiccmfaa", sum := "874efeb2654ae9461c1245da27ee65182a1e354a09ec57ed7300f581962efc9f", func := "witan/witanlaw02.RealsAdds", spec := "realsAdds", inPlace := ["math.Float64frombits", "math.Float64bits"], apart := false }
def RealsAddsSaid : Prop := realsAddsRow.holds Try.pinned (OpenSpec.ofChange realsAddsSpec)

/-- ITS FALSE NEIGHBOUR: 'it returns false'. Refute it at one input. -/
def realsAddsWrong : ChangeSpec := { name := "realsAdds", fn := fun _ => fun
  | [d1, d2] => { results := [.lit (.bool false)], args := [d1, d2] }
  | _ => none }
def RealsAddsWrongFalsely : Prop := realsAddsRow.holds Try.pinned (OpenSpec.ofChange realsAddsWrong)

/-- 'witanlaw02.RealsEdges': WHATEVER THE INPUT: true; the input reads as it did. -/
def realsEdgesSpec : ChangeSpec := { name := "realsEdges", fn := fun _ => fun
  | [d1, d2] => { results := [.lit (.bool true)], args := [d1, d2] }
  | _ => none }
def realsEdgesRow : OpenClaim := { program := "ytpojjcmhiccmfaa", sum := "874efeb2654ae9461c1245da27ee65182a1e354a09ec57ed7300f581962efc9f", func := "witan/witanlaw02.RealsEdges", spec := "realsEdges", inPlace := ["math.Float64frombits", "math.Float64bits"], apart := false }
def RealsEdgesSaid : Prop := realsEdgesRow.holds Try.pinned (OpenSpec.ofChange realsEdgesSpec)

/-- ITS FALSE NEIGHBOUR: 'it returns false'. Refute it at one input. -/
def realsEdgesWrong : ChangeSpec := { name := "realsEdges", fn := fun _ => fun
  | [d1, d2] => { results := [.lit (.bool false)], args := [d1, d2] }
  | _ => none }
def RealsEdgesWrongFalsely : Prop := realsEdgesRow.holds Try.pinned (OpenSpec.ofChange realsEdgesWrong)

/-- 'witanlaw02.RealsMost': WHATEVER THE INPUT: true; the input reads as it did. -/
def realsMostSpec : ChangeSpec := { name := "realsMost", fn := fun _ => fun
  | [d1, d2, d3] => { results := [.lit (.bool true)], args := [d1, d2, d3] }
  | _ => none }
def realsMostRow : OpenClaim := { program := "ytpojjcmhiccmfaa", sum := "874efeb2654ae9461c1245da27ee65182a1e354a09ec57ed7300f581962efc9f", func := "witan/witanlaw02.RealsMost", spec := "realsMost", inPlace := ["math.Float64frombits", "math.Float64bits"], apart := false }
def RealsMostSaid : Prop := realsMostRow.holds Try.pinned (OpenSpec.ofChange realsMostSpec)

/-- ITS FALSE NEIGHBOUR: 'it returns false'. Refute it at one input. -/
def realsMostWrong : ChangeSpec := { name := "realsMost", fn := fun _ => fun
  | [d1, d2, d3] => { results := [.lit (.bool false)], args := [d1, d2, d3] }
  | _ => none }
def RealsMostWrongFalsely : Prop := realsMostRow.holds Try.pinned (OpenSpec.ofChange realsMostWrong)

/- THE SECOND FORM. 'bulk': how many values and letters a reading holds, each counted each time it is reached (what is shared counts as often as it is met; a slice's spare places count too). A statement '..UptoSaid' is the law's where the arguments, and the package variables that the reading takes, are together of bulk at most 1048576: NARROWER than '..Said'. Prove '..Said' where nothing that the law and all that it calls make is longer than what came in: it says more and counts as full. Else prove '..UptoSaid'. A law counts once. -/
mutual
def uptoBulk {H : Type} : DataW H → Nat
  | .lit (.string bytes) => bytes.length + 1
  | .lit _ => 1
  | .nil => 1
  | .ptr d => uptoBulk d + 1
  | .slice elems spare => uptoBulkAll elems + uptoBulkAll spare + 1
  | .agg parts => uptoBulkAll parts + 1
  | .iface _ d => uptoBulk d + 1
  | .map entries => uptoBulkEntries entries + 1
  | .held _ => 1
def uptoBulkAll {H : Type} : List (DataW H) → Nat
  | [] => 0
  | d :: r => uptoBulk d + uptoBulkAll r
def uptoBulkEntries {H : Type} : List (Lit × DataW H) → Nat
  | [] => 0
  | x :: r => uptoBulkEntry x + uptoBulkEntries r
def uptoBulkEntry {H : Type} : Lit × DataW H → Nat
  | (.string bytes, d) => bytes.length + uptoBulk d + 1
  | (_, d) => uptoBulk d + 1
 end
def uptoSmall : (H : Type) → List (DataW H) → Bool := fun _ ds => decide (uptoBulkAll ds ≤ 1048576)
def OpenSpec.upto (s : _root_.Go.ChangeSpec) : _root_.Go.OpenSpec := { _root_.Go.OpenSpec.ofChange s with cond := some uptoSmall }

/-- 'witanlaw02.RealsBits', WHERE WHAT IT READS IS OF BULK AT MOST 1048576: true; the input reads as it did. -/
def realsBitsUptoRow : OpenClaim := { program := "ytpojjcmhiccmfaa", sum := "874efeb2654ae9461c1245da27ee65182a1e354a09ec57ed7300f581962efc9f", func := "witan/witanlaw02.RealsBits", spec := "realsBits", inPlace := ["math.Float64frombits", "math.Float64bits"], apart := false, narrowed := true }
def RealsBitsUptoSaid : Prop := realsBitsUptoRow.holds Try.pinned (OpenSpec.upto realsBitsSpec)

/-- 'witanlaw02.RealsLess', WHERE WHAT IT READS IS OF BULK AT MOST 1048576: true; the input reads as it did. -/
def realsLessUptoRow : OpenClaim := { program := "ytpojjcmhiccmfaa", sum := "874efeb2654ae9461c1245da27ee65182a1e354a09ec57ed7300f581962efc9f", func := "witan/witanlaw02.RealsLess", spec := "realsLess", inPlace := ["math.Float64frombits", "math.Float64bits"], apart := false, narrowed := true }
def RealsLessUptoSaid : Prop := realsLessUptoRow.holds Try.pinned (OpenSpec.upto realsLessSpec)

/-- 'witanlaw02.RealsOrder', WHERE WHAT IT READS IS OF BULK AT MOST 1048576: true; the input reads as it did. -/
def realsOrderUptoRow : OpenClaim := { program := "ytpojjcmhiccmfaa", sum := "874efeb2654ae9461c1245da27ee65182a1e354a09ec57ed7300f581962efc9f", func := "witan/witanlaw02.RealsOrder", spec := "realsOrder", inPlace := ["math.Float64frombits", "math.Float64bits"], apart := false, narrowed := true }
def RealsOrderUptoSaid : Prop := realsOrderUptoRow.holds Try.pinned (OpenSpec.upto realsOrderSpec)

/-- 'witanlaw02.RealsAdds', WHERE WHAT IT READS IS OF BULK AT MOST 1048576: true; the input reads as it did. -/
def realsAddsUptoRow : OpenClaim := { program := "ytpojjcmhiccmfaa", sum := "874efeb2654ae9461c1245da27ee65182a1e354a09ec57ed7300f581962efc9f", func := "witan/witanlaw02.RealsAdds", spec := "realsAdds", inPlace := ["math.Float64frombits", "math.Float64bits"], apart := false, narrowed := true }
def RealsAddsUptoSaid : Prop := realsAddsUptoRow.holds Try.pinned (OpenSpec.upto realsAddsSpec)

/-- 'witanlaw02.RealsEdges', WHERE WHAT IT READS IS OF BULK AT MOST 1048576: true; the input reads as it did. -/
def realsEdgesUptoRow : OpenClaim := { program := "ytpojjcmhiccmfaa", sum := "874efeb2654ae9461c1245da27ee65182a1e354a09ec57ed7300f581962efc9f", func := "witan/witanlaw02.RealsEdges", spec := "realsEdges", inPlace := ["math.Float64frombits", "math.Float64bits"], apart := false, narrowed := true }
def RealsEdgesUptoSaid : Prop := realsEdgesUptoRow.holds Try.pinned (OpenSpec.upto realsEdgesSpec)

/-- 'witanlaw02.RealsMost', WHERE WHAT IT READS IS OF BULK AT MOST 1048576: true; the input reads as it did. -/
def realsMostUptoRow : OpenClaim := { program := "ytpojjcmhiccmfaa", sum := "874efeb2654ae9461c1245da27ee65182a1e354a09ec57ed7300f581962efc9f", func := "witan/witanlaw02.RealsMost", spec := "realsMost", inPlace := ["math.Float64frombits", "math.Float64bits"], apart := false, narrowed := true }
def RealsMostUptoSaid : Prop := realsMostUptoRow.holds Try.pinned (OpenSpec.upto realsMostSpec)

end Rows
end Go.Proofs.Ytpojjcmhiccmfaa
