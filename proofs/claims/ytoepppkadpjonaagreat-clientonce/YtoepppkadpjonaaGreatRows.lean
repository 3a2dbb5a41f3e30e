/-
  No cell of these rows narrows 'for every input' (looked for: loops, veiled, ifaces, maps, wideKeys, modest, calm, conditions, laid).
  DERIVED. THE GIVEN ROWS OF THIS SEAT. 6 by the template 'for every input the law returns true; each argument reads behind the call as it read before'; 0 by the template 'total and deterministic' (their statements: YtoepppkadpjonaaGreatTotals.lean).
  GIVEN WITH THE SEED: the statements are not yours to turn. If you find one false, say at which input.
  Laid BY PROGRAM, IN A SANDBOX (cutbox-rows.mjs): the forced cells as the released guide's own fill.sh prints them over the translation 315643e4f977f460… (all of the seat's roots in one cut). By AI agents, Wed Nov 11 2026. No macro, syntax, notation, axiom, sorry.
-/
import Derived.Test.YtoepppkadpjonaaGreatChecked
import GoSem.Claim
import GoSem.ClaimJoined
import GoSem.ClaimMapViews
import Derived.JoinedTies
import Derived.KernelRfl
namespace Go.Proofs.YtoepppkadpjonaaGreat
/- THE CELL 'sum', in the pinned program and in every row, IS THE sha256 OF THE DUMP (.gsa) THAT YtoepppkadpjonaaGreatProg.lean LOADS. Nothing in Lean hashes anything: it is a label: what it is worth is what the hold of that sum in a sandbox is worth. -/
noncomputable def Tryz.pinned : Pinned := { name := "ytoepppkadpjonaagreat", sum := "315643e4f977f4601c6805f06e7e6b261b91424f7d151f9368e29cb3463f2b70", checked := Tryz.checked }
namespace Rows
def none {H : Type} : Left H := { results := [], args := [] }

/-- 'witanlaw19.ClientPlays': WHATEVER THE INPUT: true; the input reads as it did. -/
def clientPlaysSpec : ChangeSpec := { name := "clientPlays", fn := fun _ => fun
  | [d1, d2, d3] => { results := [.lit (.bool true)], args := [d1, d2, d3] }
  | _ => none }
def clientPlaysRow : OpenClaim := { program := "ytoepppkadpjonaagreat", sum := "315643e4f977f4601c6805f06e7e6b261b91424f7d151f9368e29cb3463f2b70", func := "witan/witanlaw19.ClientPlays", spec := "clientPlays", inPlace := ["math.Float64bits", "math.Float64frombits"], unfollowed := true, recurses := true, apart := false }
def ClientPlaysSaid : Prop := clientPlaysRow.holds Tryz.pinned (OpenSpec.ofChange clientPlaysSpec)

/-- ITS FALSE NEIGHBOUR: 'it returns false'. Refute it at one input. -/
def clientPlaysWrong : ChangeSpec := { name := "clientPlays", fn := fun _ => fun
  | [d1, d2, d3] => { results := [.lit (.bool false)], args := [d1, d2, d3] }
  | _ => none }
def ClientPlaysWrongFalsely : Prop := clientPlaysRow.holds Tryz.pinned (OpenSpec.ofChange clientPlaysWrong)

/-- 'witanlaw19.ClientBelieves': WHATEVER THE INPUT: true; the input reads as it did. -/
def clientBelievesSpec : ChangeSpec := { name := "clientBelieves", fn := fun _ => fun
  | [d1, d2, d3] => { results := [.lit (.bool true)], args := [d1, d2, d3] }
  | _ => none }
def clientBelievesRow : OpenClaim := { program := "ytoepppkadpjonaagreat", sum := "315643e4f977f4601c6805f06e7e6b261b91424f7d151f9368e29cb3463f2b70", func := "witan/witanlaw19.ClientBelieves", spec := "clientBelieves", inPlace := ["math.Float64bits", "math.Float64frombits"], unfollowed := true, recurses := true, apart := false }
def ClientBelievesSaid : Prop := clientBelievesRow.holds Tryz.pinned (OpenSpec.ofChange clientBelievesSpec)

/-- ITS FALSE NEIGHBOUR: 'it returns false'. Refute it at one input. -/
def clientBelievesWrong : ChangeSpec := { name := "clientBelieves", fn := fun _ => fun
  | [d1, d2, d3] => { results := [.lit (.bool false)], args := [d1, d2, d3] }
  | _ => none }
def ClientBelievesWrongFalsely : Prop := clientBelievesRow.holds Tryz.pinned (OpenSpec.ofChange clientBelievesWrong)

/-- 'witanlaw19.ClientOnce': WHATEVER THE INPUT: true; the input reads as it did. -/
def clientOnceSpec : ChangeSpec := { name := "clientOnce", fn := fun _ => fun
  | [d1, d2, d3] => { results := [.lit (.bool true)], args := [d1, d2, d3] }
  | _ => none }
def clientOnceRow : OpenClaim := { program := "ytoepppkadpjonaagreat", sum := "315643e4f977f4601c6805f06e7e6b261b91424f7d151f9368e29cb3463f2b70", func := "witan/witanlaw19.ClientOnce", spec := "clientOnce", inPlace := ["math.Float64bits", "math.Float64frombits"], unfollowed := true, recurses := true, apart := false }
def ClientOnceSaid : Prop := clientOnceRow.holds Tryz.pinned (OpenSpec.ofChange clientOnceSpec)

/-- ITS FALSE NEIGHBOUR: 'it returns false'. Refute it at one input. -/
def clientOnceWrong : ChangeSpec := { name := "clientOnce", fn := fun _ => fun
  | [d1, d2, d3] => { results := [.lit (.bool false)], args := [d1, d2, d3] }
  | _ => none }
def ClientOnceWrongFalsely : Prop := clientOnceRow.holds Tryz.pinned (OpenSpec.ofChange clientOnceWrong)

/-- 'witanlaw19.ClientKnows': WHATEVER THE INPUT: true; the input reads as it did. -/
def clientKnowsSpec : ChangeSpec := { name := "clientKnows", fn := fun _ => fun
  | [d1, d2, d3] => { results := [.lit (.bool true)], args := [d1, d2, d3] }
  | _ => none }
def clientKnowsRow : OpenClaim := { program := "ytoepppkadpjonaagreat", sum := "315643e4f977f4601c6805f06e7e6b261b91424f7d151f9368e29cb3463f2b70", func := "witan/witanlaw19.ClientKnows", spec := "clientKnows", inPlace := ["math.Float64bits", "math.Float64frombits"], unfollowed := true, recurses := true, apart := false }
def ClientKnowsSaid : Prop := clientKnowsRow.holds Tryz.pinned (OpenSpec.ofChange clientKnowsSpec)

/-- ITS FALSE NEIGHBOUR: 'it returns false'. Refute it at one input. -/
def clientKnowsWrong : ChangeSpec := { name := "clientKnows", fn := fun _ => fun
  | [d1, d2, d3] => { results := [.lit (.bool false)], args := [d1, d2, d3] }
  | _ => none }
def ClientKnowsWrongFalsely : Prop := clientKnowsRow.holds Tryz.pinned (OpenSpec.ofChange clientKnowsWrong)

/-- 'witanlaw19.ClientDeaf': WHATEVER THE INPUT: true; the input reads as it did. -/
def clientDeafSpec : ChangeSpec := { name := "clientDeaf", fn := fun _ => fun
  | [d1, d2, d3] => { results := [.lit (.bool true)], args := [d1, d2, d3] }
  | _ => none }
def clientDeafRow : OpenClaim := { program := "ytoepppkadpjonaagreat", sum := "315643e4f977f4601c6805f06e7e6b261b91424f7d151f9368e29cb3463f2b70", func := "witan/witanlaw19.ClientDeaf", spec := "clientDeaf", inPlace := ["math.Float64bits", "math.Float64frombits"], unfollowed := true, recurses := true, apart := false }
def ClientDeafSaid : Prop := clientDeafRow.holds Tryz.pinned (OpenSpec.ofChange clientDeafSpec)

/-- ITS FALSE NEIGHBOUR: 'it returns false'. Refute it at one input. -/
def clientDeafWrong : ChangeSpec := { name := "clientDeaf", fn := fun _ => fun
  | [d1, d2, d3] => { results := [.lit (.bool false)], args := [d1, d2, d3] }
  | _ => none }
def ClientDeafWrongFalsely : Prop := clientDeafRow.holds Tryz.pinned (OpenSpec.ofChange clientDeafWrong)

/-- 'witanlaw19.ClientNil': WHATEVER THE INPUT: true; the input reads as it did. -/
def clientNilSpec : ChangeSpec := { name := "clientNil", fn := fun _ => fun
  | [d] => { results := [.lit (.bool true)], args := [d] }
  | _ => none }
def clientNilRow : OpenClaim := { program := "ytoepppkadpjonaagreat", sum := "315643e4f977f4601c6805f06e7e6b261b91424f7d151f9368e29cb3463f2b70", func := "witan/witanlaw19.ClientNil", spec := "clientNil", inPlace := ["math.Float64bits", "math.Float64frombits"], unfollowed := true, recurses := true, apart := false }
def ClientNilSaid : Prop := clientNilRow.holds Tryz.pinned (OpenSpec.ofChange clientNilSpec)

/-- ITS FALSE NEIGHBOUR: 'it returns false'. Refute it at one input. -/
def clientNilWrong : ChangeSpec := { name := "clientNil", fn := fun _ => fun
  | [d] => { results := [.lit (.bool false)], args := [d] }
  | _ => none }
def ClientNilWrongFalsely : Prop := clientNilRow.holds Tryz.pinned (OpenSpec.ofChange clientNilWrong)

/- THE SECOND FORM. 'bulk': how many values and letters a reading holds, each counted each time it is reached (what is shared counts as often as it is met; a slice's spare places count too). A statement '..UptoSaid' is the law's where the arguments, and the package variables that the reading takes, are together of bulk at most 1048576: NARROWER than '..Said'. Prove '..Said' where nothing that the law and all that it calls make is longer than what came in: it says more and counts as full. Else prove '..UptoSaid'. A law counts once. -/
mutual
def uptoBulk {H : Type} : DataW H → Nat
  | .lit (.string bytes) => bytes.length + 1
  | .lit _ => 1
  | .nil => 1
  | .ptr d => uptoBulk d + 1
  | .slice elems spare => uptoBulkAll elems + uptoBulkAll spare + 1
  | .agg parts => uptoBulkAll parts + 1
  | .iface _ d => uptoBulk d + 1
  | .map entries => uptoBulkEntries entries + 1
  | .held _ => 1
def uptoBulkAll {H : Type} : List (DataW H) → Nat
  | [] => 0
  | d :: r => uptoBulk d + uptoBulkAll r
def uptoBulkEntries {H : Type} : List (Lit × DataW H) → Nat
  | [] => 0
  | x :: r => uptoBulkEntry x + uptoBulkEntries r
def uptoBulkEntry {H : Type} : Lit × DataW H → Nat
  | (.string bytes, d) => bytes.length + uptoBulk d + 1
  | (_, d) => uptoBulk d + 1
 end
def uptoSmall : (H : Type) → List (DataW H) → Bool := fun _ ds => decide (uptoBulkAll ds ≤ 1048576)
def OpenSpec.upto (s : _root_.Go.ChangeSpec) : _root_.Go.OpenSpec := { _root_.Go.OpenSpec.ofChange s with cond := some uptoSmall }

/-- 'witanlaw19.ClientPlays', WHERE WHAT IT READS IS OF BULK AT MOST 1048576: true; the input reads as it did. -/
def clientPlaysUptoRow : OpenClaim := { program := "ytoepppkadpjonaagreat", sum := "315643e4f977f4601c6805f06e7e6b261b91424f7d151f9368e29cb3463f2b70", func := "witan/witanlaw19.ClientPlays", spec := "clientPlays", inPlace := ["math.Float64bits", "math.Float64frombits"], unfollowed := true, recurses := true, apart := false, narrowed := true }
def ClientPlaysUptoSaid : Prop := clientPlaysUptoRow.holds Tryz.pinned (OpenSpec.upto clientPlaysSpec)

/-- 'witanlaw19.ClientBelieves', WHERE WHAT IT READS IS OF BULK AT MOST 1048576: true; the input reads as it did. -/
def clientBelievesUptoRow : OpenClaim := { program := "ytoepppkadpjonaagreat", sum := "315643e4f977f4601c6805f06e7e6b261b91424f7d151f9368e29cb3463f2b70", func := "witan/witanlaw19.ClientBelieves", spec := "clientBelieves", inPlace := ["math.Float64bits", "math.Float64frombits"], unfollowed := true, recurses := true, apart := false, narrowed := true }
def ClientBelievesUptoSaid : Prop := clientBelievesUptoRow.holds Tryz.pinned (OpenSpec.upto clientBelievesSpec)

/-- 'witanlaw19.ClientOnce', WHERE WHAT IT READS IS OF BULK AT MOST 1048576: true; the input reads as it did. -/
def clientOnceUptoRow : OpenClaim := { program := "ytoepppkadpjonaagreat", sum := "315643e4f977f4601c6805f06e7e6b261b91424f7d151f9368e29cb3463f2b70", func := "witan/witanlaw19.ClientOnce", spec := "clientOnce", inPlace := ["math.Float64bits", "math.Float64frombits"], unfollowed := true, recurses := true, apart := false, narrowed := true }
def ClientOnceUptoSaid : Prop := clientOnceUptoRow.holds Tryz.pinned (OpenSpec.upto clientOnceSpec)

/-- 'witanlaw19.ClientKnows', WHERE WHAT IT READS IS OF BULK AT MOST 1048576: true; the input reads as it did. -/
def clientKnowsUptoRow : OpenClaim := { program := "ytoepppkadpjonaagreat", sum := "315643e4f977f4601c6805f06e7e6b261b91424f7d151f9368e29cb3463f2b70", func := "witan/witanlaw19.ClientKnows", spec := "clientKnows", inPlace := ["math.Float64bits", "math.Float64frombits"], unfollowed := true, recurses := true, apart := false, narrowed := true }
def ClientKnowsUptoSaid : Prop := clientKnowsUptoRow.holds Tryz.pinned (OpenSpec.upto clientKnowsSpec)

/-- 'witanlaw19.ClientDeaf', WHERE WHAT IT READS IS OF BULK AT MOST 1048576: true; the input reads as it did. -/
def clientDeafUptoRow : OpenClaim := { program := "ytoepppkadpjonaagreat", sum := "315643e4f977f4601c6805f06e7e6b261b91424f7d151f9368e29cb3463f2b70", func := "witan/witanlaw19.ClientDeaf", spec := "clientDeaf", inPlace := ["math.Float64bits", "math.Float64frombits"], unfollowed := true, recurses := true, apart := false, narrowed := true }
def ClientDeafUptoSaid : Prop := clientDeafUptoRow.holds Tryz.pinned (OpenSpec.upto clientDeafSpec)

/-- 'witanlaw19.ClientNil', WHERE WHAT IT READS IS OF BULK AT MOST 1048576: true; the input reads as it did. -/
def clientNilUptoRow : OpenClaim := { program := "ytoepppkadpjonaagreat", sum := "315643e4f977f4601c6805f06e7e6b261b91424f7d151f9368e29cb3463f2b70", func := "witan/witanlaw19.ClientNil", spec := "clientNil", inPlace := ["math.Float64bits", "math.Float64frombits"], unfollowed := true, recurses := true, apart := false, narrowed := true }
def ClientNilUptoSaid : Prop := clientNilUptoRow.holds Tryz.pinned (OpenSpec.upto clientNilSpec)

end Rows
end Go.Proofs.YtoepppkadpjonaaGreat
