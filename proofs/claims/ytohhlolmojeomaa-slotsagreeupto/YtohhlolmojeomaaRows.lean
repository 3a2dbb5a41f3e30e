/-
  No cell of these rows narrows 'for every input' (looked for: loops, veiled, ifaces, maps, wideKeys, modest, calm, conditions, laid).
  DERIVED. THE GIVEN ROWS OF THIS SEAT. 4 by the template 'for every input the law returns true; each argument reads behind the call as it read before'; 0 by the template 'total and deterministic' (their statements: YtohhlolmojeomaaTotals.lean).
  GIVEN WITH THE SEED: the statements are not yours to turn. If you find one false, say at which input.
  Laid BY PROGRAM, IN A SANDBOX (cutbox-rows.mjs): the forced cells as the released guide's own fill.sh prints them over the translation f58b07be4c735a46… (all of the seat's roots in one cut). By AI agents, Wed Nov 11 2026. No macro, syntax, notation, axiom, sorry.
-/
import Derived.Test.YtohhlolmojeomaaChecked
import GoSem.Claim
import GoSem.ClaimJoined
import GoSem.ClaimMapViews
import Derived.JoinedTies
import Derived.KernelRfl
namespace Go.Proofs.Ytohhlolmojeomaa
/- THE CELL 'sum', in the pinned program and in every row, IS THE sha256 OF THE DUMP (.gsa) THAT YtohhlolmojeomaaProg.lean LOADS. Nothing in Lean hashes anything: it is a label: what it is worth is what the hold of that sum in a sandbox is worth. -/
noncomputable def Try.pinned : Pinned := { name := "ytohhlolmojeomaa", sum := "f58b07be4c735a466fb1abdd3fe8d7649c4503a379ea4b8700aa85d90d101685", checked := Try.checked }
namespace Rows
def none {H : Type} : Left H := { results := [], args := [] }

/-- 'witanlaw14.SlotsProofs': WHATEVER THE INPUT: true; the input reads as it did. -/
def slotsProofsSpec : ChangeSpec := { name := "slotsProofs", fn := fun _ => fun
  | [d1, d2] => { results := [.lit (.bool true)], args := [d1, d2] }
  | _ => none }
def slotsProofsRow : OpenClaim := { program := "ytohhlolmojeomaa", sum := "f58b07be4c735a466fb1abdd3fe8d7649c4503a379ea4b8700aa85d90d101685", func := "witan/witanlaw14.SlotsProofs", spec := "slotsProofs", inPlace := ["math.Float64bits", "math.Float64frombits"], apart := false }
def SlotsProofsSaid : Prop := slotsProofsRow.holds Try.pinned (OpenSpec.ofChange slotsProofsSpec)

/-- ITS FALSE NEIGHBOUR: 'it returns false'. Refute it at one input. -/
def slotsProofsWrong : ChangeSpec := { name := "slotsProofs", fn := fun _ => fun
  | [d1, d2] => { results := [.lit (.bool false)], args := [d1, d2] }
  | _ => none }
def SlotsProofsWrongFalsely : Prop := slotsProofsRow.holds Try.pinned (OpenSpec.ofChange slotsProofsWrong)

/-- 'witanlaw14.SlotsAgree': WHATEVER THE INPUT: true; the input reads as it did. -/
def slotsAgreeSpec : ChangeSpec := { name := "slotsAgree", fn := fun _ => fun
  | [d1, d2, d3] => { results := [.lit (.bool true)], args := [d1, d2, d3] }
  | _ => none }
def slotsAgreeRow : OpenClaim := { program := "ytohhlolmojeomaa", sum := "f58b07be4c735a466fb1abdd3fe8d7649c4503a379ea4b8700aa85d90d101685", func := "witan/witanlaw14.SlotsAgree", spec := "slotsAgree", inPlace := ["math.Float64bits", "math.Float64frombits"], apart := false }
def SlotsAgreeSaid : Prop := slotsAgreeRow.holds Try.pinned (OpenSpec.ofChange slotsAgreeSpec)

/-- ITS FALSE NEIGHBOUR: 'it returns false'. Refute it at one input. -/
def slotsAgreeWrong : ChangeSpec := { name := "slotsAgree", fn := fun _ => fun
  | [d1, d2, d3] => { results := [.lit (.bool false)], args := [d1, d2, d3] }
  | _ => none }
def SlotsAgreeWrongFalsely : Prop := slotsAgreeRow.holds Try.pinned (OpenSpec.ofChange slotsAgreeWrong)

/-- 'witanlaw14.SlotsStays': WHATEVER THE INPUT: true; the input reads as it did. -/
def slotsStaysSpec : ChangeSpec := { name := "slotsStays", fn := fun _ => fun
  | [d1, d2] => { results := [.lit (.bool true)], args := [d1, d2] }
  | _ => none }
def slotsStaysRow : OpenClaim := { program := "ytohhlolmojeomaa", sum := "f58b07be4c735a466fb1abdd3fe8d7649c4503a379ea4b8700aa85d90d101685", func := "witan/witanlaw14.SlotsStays", spec := "slotsStays", inPlace := ["math.Float64bits", "math.Float64frombits"], apart := false }
def SlotsStaysSaid : Prop := slotsStaysRow.holds Try.pinned (OpenSpec.ofChange slotsStaysSpec)

/-- ITS FALSE NEIGHBOUR: 'it returns false'. Refute it at one input. -/
def slotsStaysWrong : ChangeSpec := { name := "slotsStays", fn := fun _ => fun
  | [d1, d2] => { results := [.lit (.bool false)], args := [d1, d2] }
  | _ => none }
def SlotsStaysWrongFalsely : Prop := slotsStaysRow.holds Try.pinned (OpenSpec.ofChange slotsStaysWrong)

/-- 'witanlaw14.SlotsNil': WHATEVER THE INPUT: true; the input reads as it did. -/
def slotsNilSpec : ChangeSpec := { name := "slotsNil", fn := fun _ => fun
  | [d] => { results := [.lit (.bool true)], args := [d] }
  | _ => none }
def slotsNilRow : OpenClaim := { program := "ytohhlolmojeomaa", sum := "f58b07be4c735a466fb1abdd3fe8d7649c4503a379ea4b8700aa85d90d101685", func := "witan/witanlaw14.SlotsNil", spec := "slotsNil", inPlace := ["math.Float64bits", "math.Float64frombits"], apart := false }
def SlotsNilSaid : Prop := slotsNilRow.holds Try.pinned (OpenSpec.ofChange slotsNilSpec)

/-- ITS FALSE NEIGHBOUR: 'it returns false'. Refute it at one input. -/
def slotsNilWrong : ChangeSpec := { name := "slotsNil", fn := fun _ => fun
  | [d] => { results := [.lit (.bool false)], args := [d] }
  | _ => none }
def SlotsNilWrongFalsely : Prop := slotsNilRow.holds Try.pinned (OpenSpec.ofChange slotsNilWrong)

/- THE SECOND FORM. 'bulk': how many values and letters a reading holds, each counted each time it is reached (what is shared counts as often as it is met; a slice's spare places count too). A statement '..UptoSaid' is the law's where the arguments, and the package variables that the reading takes, are together of bulk at most 1048576: NARROWER than '..Said'. Prove '..Said' where nothing that the law and all that it calls make is longer than what came in: it says more and counts as full. Else prove '..UptoSaid'. A law counts once. -/
mutual
def uptoBulk {H : Type} : DataW H → Nat
  | .lit (.string bytes) => bytes.length + 1
  | .lit _ => 1
  | .nil => 1
  | .ptr d => uptoBulk d + 1
  | .slice elems spare => uptoBulkAll elems + uptoBulkAll spare + 1
  | .agg parts => uptoBulkAll parts + 1
  | .iface _ d => uptoBulk d + 1
  | .map entries => uptoBulkEntries entries + 1
  | .held _ => 1
def uptoBulkAll {H : Type} : List (DataW H) → Nat
  | [] => 0
  | d :: r => uptoBulk d + uptoBulkAll r
def uptoBulkEntries {H : Type} : List (Lit × DataW H) → Nat
  | [] => 0
  | x :: r => uptoBulkEntry x + uptoBulkEntries r
def uptoBulkEntry {H : Type} : Lit × DataW H → Nat
  | (.string bytes, d) => bytes.length + uptoBulk d + 1
  | (_, d) => uptoBulk d + 1
 end
def uptoSmall : (H : Type) → List (DataW H) → Bool := fun _ ds => decide (uptoBulkAll ds ≤ 1048576)
def OpenSpec.upto (s : _root_.Go.ChangeSpec) : _root_.Go.OpenSpec := { _root_.Go.OpenSpec.ofChange s with cond := some uptoSmall }

/-- 'witanlaw14.SlotsProofs', WHERE WHAT IT READS IS OF BULK AT MOST 1048576: true; the input reads as it did. -/
def slotsProofsUptoRow : OpenClaim := { program := "ytohhlolmojeomaa", sum := "f58b07be4c735a466fb1abdd3fe8d7649c4503a379ea4b8700aa85d90d101685", func := "witan/witanlaw14.SlotsProofs", spec := "slotsProofs", inPlace := ["math.Float64bits", "math.Float64frombits"], apart := false, narrowed := true }
def SlotsProofsUptoSaid : Prop := slotsProofsUptoRow.holds Try.pinned (OpenSpec.upto slotsProofsSpec)

/-- 'witanlaw14.SlotsAgree', WHERE WHAT IT READS IS OF BULK AT MOST 1048576: true; the input reads as it did. -/
def slotsAgreeUptoRow : OpenClaim := { program := "ytohhlolmojeomaa", sum := "f58b07be4c735a466fb1abdd3fe8d7649c4503a379ea4b8700aa85d90d101685", func := "witan/witanlaw14.SlotsAgree", spec := "slotsAgree", inPlace := ["math.Float64bits", "math.Float64frombits"], apart := false, narrowed := true }
def SlotsAgreeUptoSaid : Prop := slotsAgreeUptoRow.holds Try.pinned (OpenSpec.upto slotsAgreeSpec)

/-- 'witanlaw14.SlotsStays', WHERE WHAT IT READS IS OF BULK AT MOST 1048576: true; the input reads as it did. -/
def slotsStaysUptoRow : OpenClaim := { program := "ytohhlolmojeomaa", sum := "f58b07be4c735a466fb1abdd3fe8d7649c4503a379ea4b8700aa85d90d101685", func := "witan/witanlaw14.SlotsStays", spec := "slotsStays", inPlace := ["math.Float64bits", "math.Float64frombits"], apart := false, narrowed := true }
def SlotsStaysUptoSaid : Prop := slotsStaysUptoRow.holds Try.pinned (OpenSpec.upto slotsStaysSpec)

/-- 'witanlaw14.SlotsNil', WHERE WHAT IT READS IS OF BULK AT MOST 1048576: true; the input reads as it did. -/
def slotsNilUptoRow : OpenClaim := { program := "ytohhlolmojeomaa", sum := "f58b07be4c735a466fb1abdd3fe8d7649c4503a379ea4b8700aa85d90d101685", func := "witan/witanlaw14.SlotsNil", spec := "slotsNil", inPlace := ["math.Float64bits", "math.Float64frombits"], apart := false, narrowed := true }
def SlotsNilUptoSaid : Prop := slotsNilUptoRow.holds Try.pinned (OpenSpec.upto slotsNilSpec)

end Rows
end Go.Proofs.Ytohhlolmojeomaa
