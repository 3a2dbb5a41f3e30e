/-
  No cell of these rows narrows 'for every input' (looked for: loops, veiled, ifaces, maps, wideKeys, modest, calm, conditions, laid).
  DERIVED. THE GIVEN ROWS OF THIS SEAT. 5 by the template 'for every input the law returns true; each argument reads behind the call as it read before'; 0 by the template 'total and deterministic' (their statements: YthjgnfeadagmeaaGreatTotals.lean).
  GIVEN WITH THE SEED: the statements are not yours to turn. If you find one false, say at which input.
  Laid BY PROGRAM, IN A SANDBOX (cutbox-rows.mjs): the forced cells as the released guide's own fill.sh prints them over the translation 85e314f7c312a6a6… (all of the seat's roots in one cut). By AI agents, Wed Nov 11 2026. No macro, syntax, notation, axiom, sorry.
-/
import Derived.Test.YthjgnfeadagmeaaGreatChecked
import GoSem.Claim
import GoSem.ClaimJoined
import GoSem.ClaimMapViews
import Derived.JoinedTies
import Derived.KernelRfl
namespace Go.Proofs.YthjgnfeadagmeaaGreat
/- THE CELL 'sum', in the pinned program and in every row, IS THE sha256 OF THE DUMP (.gsa) THAT YthjgnfeadagmeaaGreatProg.lean LOADS. Nothing in Lean hashes anything: it is a label: what it is worth is what the hold of that sum in a sandbox is worth. -/
noncomputable def Tryz.pinned : Pinned := { name := "ythjgnfeadagmeaagreat", sum := "85e314f7c312a6a6946bfdbd25f5e2389a298424c3e03217b361837daaa90cb4", checked := Tryz.checked }
namespace Rows
def none {H : Type} : Left H := { results := [], args := [] }

/-- 'witanlaw20.LanesPlay': WHATEVER THE INPUT: true; the input reads as it did. -/
def lanesPlaySpec : ChangeSpec := { name := "lanesPlay", fn := fun _ => fun
  | [d1, d2] => { results := [.lit (.bool true)], args := [d1, d2] }
  | _ => none }
def lanesPlayRow : OpenClaim := { program := "ythjgnfeadagmeaagreat", sum := "85e314f7c312a6a6946bfdbd25f5e2389a298424c3e03217b361837daaa90cb4", func := "witan/witanlaw20.LanesPlay", spec := "lanesPlay", inPlace := ["math.Float64frombits", "math.Float64bits"], unfollowed := true, recurses := true, plainKeys := false, apart := false }
def LanesPlaySaid : Prop := lanesPlayRow.holds Tryz.pinned (OpenSpec.ofChange lanesPlaySpec)

/-- ITS FALSE NEIGHBOUR: 'it returns false'. Refute it at one input. -/
def lanesPlayWrong : ChangeSpec := { name := "lanesPlay", fn := fun _ => fun
  | [d1, d2] => { results := [.lit (.bool false)], args := [d1, d2] }
  | _ => none }
def LanesPlayWrongFalsely : Prop := lanesPlayRow.holds Tryz.pinned (OpenSpec.ofChange lanesPlayWrong)

/-- 'witanlaw20.LanesCount': WHATEVER THE INPUT: true; the input reads as it did. -/
def lanesCountSpec : ChangeSpec := { name := "lanesCount", fn := fun _ => fun
  | [d1, d2] => { results := [.lit (.bool true)], args := [d1, d2] }
  | _ => none }
def lanesCountRow : OpenClaim := { program := "ythjgnfeadagmeaagreat", sum := "85e314f7c312a6a6946bfdbd25f5e2389a298424c3e03217b361837daaa90cb4", func := "witan/witanlaw20.LanesCount", spec := "lanesCount", inPlace := ["math.Float64frombits", "math.Float64bits"], unfollowed := true, recurses := true, plainKeys := false, apart := false }
def LanesCountSaid : Prop := lanesCountRow.holds Tryz.pinned (OpenSpec.ofChange lanesCountSpec)

/-- ITS FALSE NEIGHBOUR: 'it returns false'. Refute it at one input. -/
def lanesCountWrong : ChangeSpec := { name := "lanesCount", fn := fun _ => fun
  | [d1, d2] => { results := [.lit (.bool false)], args := [d1, d2] }
  | _ => none }
def LanesCountWrongFalsely : Prop := lanesCountRow.holds Tryz.pinned (OpenSpec.ofChange lanesCountWrong)

/-- 'witanlaw20.LanesForge': WHATEVER THE INPUT: true; the input reads as it did. -/
def lanesForgeSpec : ChangeSpec := { name := "lanesForge", fn := fun _ => fun
  | [d1, d2] => { results := [.lit (.bool true)], args := [d1, d2] }
  | _ => none }
def lanesForgeRow : OpenClaim := { program := "ythjgnfeadagmeaagreat", sum := "85e314f7c312a6a6946bfdbd25f5e2389a298424c3e03217b361837daaa90cb4", func := "witan/witanlaw20.LanesForge", spec := "lanesForge", inPlace := ["math.Float64frombits", "math.Float64bits"], unfollowed := true, recurses := true, plainKeys := false, apart := false }
def LanesForgeSaid : Prop := lanesForgeRow.holds Tryz.pinned (OpenSpec.ofChange lanesForgeSpec)

/-- ITS FALSE NEIGHBOUR: 'it returns false'. Refute it at one input. -/
def lanesForgeWrong : ChangeSpec := { name := "lanesForge", fn := fun _ => fun
  | [d1, d2] => { results := [.lit (.bool false)], args := [d1, d2] }
  | _ => none }
def LanesForgeWrongFalsely : Prop := lanesForgeRow.holds Tryz.pinned (OpenSpec.ofChange lanesForgeWrong)

/-- 'witanlaw20.LanesOrder': WHATEVER THE INPUT: true; the input reads as it did. -/
def lanesOrderSpec : ChangeSpec := { name := "lanesOrder", fn := fun _ => fun
  | [d1, d2] => { results := [.lit (.bool true)], args := [d1, d2] }
  | _ => none }
def lanesOrderRow : OpenClaim := { program := "ythjgnfeadagmeaagreat", sum := "85e314f7c312a6a6946bfdbd25f5e2389a298424c3e03217b361837daaa90cb4", func := "witan/witanlaw20.LanesOrder", spec := "lanesOrder", inPlace := ["math.Float64frombits", "math.Float64bits"], unfollowed := true, recurses := true, plainKeys := false, apart := false }
def LanesOrderSaid : Prop := lanesOrderRow.holds Tryz.pinned (OpenSpec.ofChange lanesOrderSpec)

/-- ITS FALSE NEIGHBOUR: 'it returns false'. Refute it at one input. -/
def lanesOrderWrong : ChangeSpec := { name := "lanesOrder", fn := fun _ => fun
  | [d1, d2] => { results := [.lit (.bool false)], args := [d1, d2] }
  | _ => none }
def LanesOrderWrongFalsely : Prop := lanesOrderRow.holds Tryz.pinned (OpenSpec.ofChange lanesOrderWrong)

/-- 'witanlaw20.LanesNil': WHATEVER THE INPUT: true; the input reads as it did. -/
def lanesNilSpec : ChangeSpec := { name := "lanesNil", fn := fun _ => fun
  | [d1, d2] => { results := [.lit (.bool true)], args := [d1, d2] }
  | _ => none }
def lanesNilRow : OpenClaim := { program := "ythjgnfeadagmeaagreat", sum := "85e314f7c312a6a6946bfdbd25f5e2389a298424c3e03217b361837daaa90cb4", func := "witan/witanlaw20.LanesNil", spec := "lanesNil", inPlace := ["math.Float64frombits", "math.Float64bits"], unfollowed := true, recurses := true, plainKeys := false, apart := false }
def LanesNilSaid : Prop := lanesNilRow.holds Tryz.pinned (OpenSpec.ofChange lanesNilSpec)

/-- ITS FALSE NEIGHBOUR: 'it returns false'. Refute it at one input. -/
def lanesNilWrong : ChangeSpec := { name := "lanesNil", fn := fun _ => fun
  | [d1, d2] => { results := [.lit (.bool false)], args := [d1, d2] }
  | _ => none }
def LanesNilWrongFalsely : Prop := lanesNilRow.holds Tryz.pinned (OpenSpec.ofChange lanesNilWrong)

/- THE SECOND FORM. 'bulk': how many values and letters a reading holds, each counted each time it is reached (what is shared counts as often as it is met; a slice's spare places count too). A statement '..UptoSaid' is the law's where the arguments, and the package variables that the reading takes, are together of bulk at most 1048576: NARROWER than '..Said'. Prove '..Said' where nothing that the law and all that it calls make is longer than what came in: it says more and counts as full. Else prove '..UptoSaid'. A law counts once. -/
mutual
def uptoBulk {H : Type} : DataW H → Nat
  | .lit (.string bytes) => bytes.length + 1
  | .lit _ => 1
  | .nil => 1
  | .ptr d => uptoBulk d + 1
  | .slice elems spare => uptoBulkAll elems + uptoBulkAll spare + 1
  | .agg parts => uptoBulkAll parts + 1
  | .iface _ d => uptoBulk d + 1
  | .map entries => uptoBulkEntries entries + 1
  | .held _ => 1
def uptoBulkAll {H : Type} : List (DataW H) → Nat
  | [] => 0
  | d :: r => uptoBulk d + uptoBulkAll r
def uptoBulkEntries {H : Type} : List (Lit × DataW H) → Nat
  | [] => 0
  | x :: r => uptoBulkEntry x + uptoBulkEntries r
def uptoBulkEntry {H : Type} : Lit × DataW H → Nat
  | (.string bytes, d) => bytes.length + uptoBulk d + 1
  | (_, d) => uptoBulk d + 1
 end
def uptoSmall : (H : Type) → List (DataW H) → Bool := fun _ ds => decide (uptoBulkAll ds ≤ 1048576)
def OpenSpec.upto (s : _root_.Go.ChangeSpec) : _root_.Go.OpenSpec := { _root_.Go.OpenSpec.ofChange s with cond := some uptoSmall }

/-- 'witanlaw20.LanesPlay', WHERE WHAT IT READS IS OF BULK AT MOST 1048576: true; the input reads as it did. -/
def lanesPlayUptoRow : OpenClaim := { program := "ythjgnfeadagmeaagreat", sum := "85e314f7c312a6a6946bfdbd25f5e2389a298424c3e03217b361837daaa90cb4", func := "witan/witanlaw20.LanesPlay", spec := "lanesPlay", inPlace := ["math.Float64frombits", "math.Float64bits"], unfollowed := true, recurses := true, plainKeys := false, apart := false, narrowed := true }
def LanesPlayUptoSaid : Prop := lanesPlayUptoRow.holds Tryz.pinned (OpenSpec.upto lanesPlaySpec)

/-- 'witanlaw20.LanesCount', WHERE WHAT IT READS IS OF BULK AT MOST 1048576: true; the input reads as it did. -/
def lanesCountUptoRow : OpenClaim := { program := "ythjgnfeadagmeaagreat", sum := "85e314f7c312a6a6946bfdbd25f5e2389a298424c3e03217b361837daaa90cb4", func := "witan/witanlaw20.LanesCount", spec := "lanesCount", inPlace := ["math.Float64frombits", "math.Float64bits"], unfollowed := true, recurses := true, plainKeys := false, apart := false, narrowed := true }
def LanesCountUptoSaid : Prop := lanesCountUptoRow.holds Tryz.pinned (OpenSpec.upto lanesCountSpec)

/-- 'witanlaw20.LanesForge', WHERE WHAT IT READS IS OF BULK AT MOST 1048576: true; the input reads as it did. -/
def lanesForgeUptoRow : OpenClaim := { program := "ythjgnfeadagmeaagreat", sum := "85e314f7c312a6a6946bfdbd25f5e2389a298424c3e03217b361837daaa90cb4", func := "witan/witanlaw20.LanesForge", spec := "lanesForge", inPlace := ["math.Float64frombits", "math.Float64bits"], unfollowed := true, recurses := true, plainKeys := false, apart := false, narrowed := true }
def LanesForgeUptoSaid : Prop := lanesForgeUptoRow.holds Tryz.pinned (OpenSpec.upto lanesForgeSpec)

/-- 'witanlaw20.LanesOrder', WHERE WHAT IT READS IS OF BULK AT MOST 1048576: true; the input reads as it did. -/
def lanesOrderUptoRow : OpenClaim := { program := "ythjgnfeadagmeaagreat", sum := "85e314f7c312a6a6946bfdbd25f5e2389a298424c3e03217b361837daaa90cb4", func := "witan/witanlaw20.LanesOrder", spec := "lanesOrder", inPlace := ["math.Float64frombits", "math.Float64bits"], unfollowed := true, recurses := true, plainKeys := false, apart := false, narrowed := true }
def LanesOrderUptoSaid : Prop := lanesOrderUptoRow.holds Tryz.pinned (OpenSpec.upto lanesOrderSpec)

/-- 'witanlaw20.LanesNil', WHERE WHAT IT READS IS OF BULK AT MOST 1048576: true; the input reads as it did. -/
def lanesNilUptoRow : OpenClaim := { program := "ythjgnfeadagmeaagreat", sum := "85e314f7c312a6a6946bfdbd25f5e2389a298424c3e03217b361837daaa90cb4", func := "witan/witanlaw20.LanesNil", spec := "lanesNil", inPlace := ["math.Float64frombits", "math.Float64bits"], unfollowed := true, recurses := true, plainKeys := false, apart := false, narrowed := true }
def LanesNilUptoSaid : Prop := lanesNilUptoRow.holds Tryz.pinned (OpenSpec.upto lanesNilSpec)

end Rows
end Go.Proofs.YthjgnfeadagmeaaGreat
