/-
  No cell of these rows narrows 'for every input' (looked for: loops, veiled, ifaces, maps, wideKeys, modest, calm, conditions, laid).
  DERIVED. THE GIVEN ROWS OF THIS SEAT. 6 by the template 'for every input the law returns true; each argument reads behind the call as it read before'; 0 by the template 'total and deterministic' (their statements: YtchlmcpnjpllnaaTotals.lean).
  GIVEN WITH THE SEED: the statements are not yours to turn. If you find one false, say at which input.
  Laid BY PROGRAM, IN A SANDBOX (cutbox-rows.mjs): the forced cells as the released guide's own fill.sh prints them over the translation 90c2512da319ce47… (all of the seat's roots in one cut). By AI agents, Wed Nov 11 2026. No macro, syntax, notation, axiom, sorry.
-/
import Derived.Test.YtchlmcpnjpllnaaChecked
import GoSem.Claim
import GoSem.ClaimJoined
import GoSem.ClaimMapViews
import Derived.JoinedTies
import Derived.KernelRfl
namespace Go.Proofs.Ytchlmcpnjpllnaa
/- THE CELL 'sum', in the pinned program and in every row, IS THE sha256 OF THE DUMP (.gsa) THAT YtchlmcpnjpllnaaProg.lean LOADS. Nothing in Lean hashes anything: it is a label: what it is worth is what the hold of that sum in a sandbox is worth. -/
noncomputable def Try.pinned : Pinned := { name := "ytchlmcpnjpllnaa", sum := "90c2512da319ce47eb4e1ac87993203099573f955df89d26c106050fefb4bb3d", checked := Try.checked }
namespace Rows
def none {H : Type} : Left H := { results := [], args := [] }

/-- 'witanlaw08.PapersBytes': WHATEVER THE INPUT: true; the input reads as it did. -/
def papersBytesSpec : ChangeSpec := { name := "papersBytes", fn := fun _ => fun
  | [d1, d2] => { results := [.lit (.bool true)], args := [d1, d2] }
  | _ => none }
def papersBytesRow : OpenClaim := { program := "ytchlmcpnjpllnaa", sum := "90c2512da319ce47eb4e1ac87993203099573f955df89d26c106050fefb4bb3d", func := "witan/witanlaw08.PapersBytes", spec := "papersBytes", inPlace := ["internal/abi.NoEscape"], unfollowed := true, recurses := true, apart := false }
def PapersBytesSaid : Prop := papersBytesRow.holds Try.pinned (OpenSpec.ofChange papersBytesSpec)

/-- ITS FALSE NEIGHBOUR: 'it returns false'. Refute it at one input. -/
def papersBytesWrong : ChangeSpec := { name := "papersBytes", fn := fun _ => fun
  | [d1, d2] => { results := [.lit (.bool false)], args := [d1, d2] }
  | _ => none }
def PapersBytesWrongFalsely : Prop := papersBytesRow.holds Try.pinned (OpenSpec.ofChange papersBytesWrong)

/-- 'witanlaw08.PapersCertify': WHATEVER THE INPUT: true; the input reads as it did. -/
def papersCertifySpec : ChangeSpec := { name := "papersCertify", fn := fun _ => fun
  | [d1, d2] => { results := [.lit (.bool true)], args := [d1, d2] }
  | _ => none }
def papersCertifyRow : OpenClaim := { program := "ytchlmcpnjpllnaa", sum := "90c2512da319ce47eb4e1ac87993203099573f955df89d26c106050fefb4bb3d", func := "witan/witanlaw08.PapersCertify", spec := "papersCertify", inPlace := ["internal/abi.NoEscape"], unfollowed := true, recurses := true, apart := false }
def PapersCertifySaid : Prop := papersCertifyRow.holds Try.pinned (OpenSpec.ofChange papersCertifySpec)

/-- ITS FALSE NEIGHBOUR: 'it returns false'. Refute it at one input. -/
def papersCertifyWrong : ChangeSpec := { name := "papersCertify", fn := fun _ => fun
  | [d1, d2] => { results := [.lit (.bool false)], args := [d1, d2] }
  | _ => none }
def PapersCertifyWrongFalsely : Prop := papersCertifyRow.holds Try.pinned (OpenSpec.ofChange papersCertifyWrong)

/-- 'witanlaw08.PapersChecks': WHATEVER THE INPUT: true; the input reads as it did. -/
def papersChecksSpec : ChangeSpec := { name := "papersChecks", fn := fun _ => fun
  | [d1, d2] => { results := [.lit (.bool true)], args := [d1, d2] }
  | _ => none }
def papersChecksRow : OpenClaim := { program := "ytchlmcpnjpllnaa", sum := "90c2512da319ce47eb4e1ac87993203099573f955df89d26c106050fefb4bb3d", func := "witan/witanlaw08.PapersChecks", spec := "papersChecks", inPlace := ["internal/abi.NoEscape"], unfollowed := true, recurses := true, apart := false }
def PapersChecksSaid : Prop := papersChecksRow.holds Try.pinned (OpenSpec.ofChange papersChecksSpec)

/-- ITS FALSE NEIGHBOUR: 'it returns false'. Refute it at one input. -/
def papersChecksWrong : ChangeSpec := { name := "papersChecks", fn := fun _ => fun
  | [d1, d2] => { results := [.lit (.bool false)], args := [d1, d2] }
  | _ => none }
def PapersChecksWrongFalsely : Prop := papersChecksRow.holds Try.pinned (OpenSpec.ofChange papersChecksWrong)

/-- 'witanlaw08.PapersWalks': WHATEVER THE INPUT: true; the input reads as it did. -/
def papersWalksSpec : ChangeSpec := { name := "papersWalks", fn := fun _ => fun
  | [d1, d2] => { results := [.lit (.bool true)], args := [d1, d2] }
  | _ => none }
def papersWalksRow : OpenClaim := { program := "ytchlmcpnjpllnaa", sum := "90c2512da319ce47eb4e1ac87993203099573f955df89d26c106050fefb4bb3d", func := "witan/witanlaw08.PapersWalks", spec := "papersWalks", inPlace := ["internal/abi.NoEscape"], unfollowed := true, recurses := true, apart := false }
def PapersWalksSaid : Prop := papersWalksRow.holds Try.pinned (OpenSpec.ofChange papersWalksSpec)

/-- ITS FALSE NEIGHBOUR: 'it returns false'. Refute it at one input. -/
def papersWalksWrong : ChangeSpec := { name := "papersWalks", fn := fun _ => fun
  | [d1, d2] => { results := [.lit (.bool false)], args := [d1, d2] }
  | _ => none }
def PapersWalksWrongFalsely : Prop := papersWalksRow.holds Try.pinned (OpenSpec.ofChange papersWalksWrong)

/-- 'witanlaw08.PapersTaken': WHATEVER THE INPUT: true; the input reads as it did. -/
def papersTakenSpec : ChangeSpec := { name := "papersTaken", fn := fun _ => fun
  | [d1, d2, d3] => { results := [.lit (.bool true)], args := [d1, d2, d3] }
  | _ => none }
def papersTakenRow : OpenClaim := { program := "ytchlmcpnjpllnaa", sum := "90c2512da319ce47eb4e1ac87993203099573f955df89d26c106050fefb4bb3d", func := "witan/witanlaw08.PapersTaken", spec := "papersTaken", inPlace := ["internal/abi.NoEscape"], unfollowed := true, recurses := true, apart := false }
def PapersTakenSaid : Prop := papersTakenRow.holds Try.pinned (OpenSpec.ofChange papersTakenSpec)

/-- ITS FALSE NEIGHBOUR: 'it returns false'. Refute it at one input. -/
def papersTakenWrong : ChangeSpec := { name := "papersTaken", fn := fun _ => fun
  | [d1, d2, d3] => { results := [.lit (.bool false)], args := [d1, d2, d3] }
  | _ => none }
def PapersTakenWrongFalsely : Prop := papersTakenRow.holds Try.pinned (OpenSpec.ofChange papersTakenWrong)

/-- 'witanlaw08.PapersParts': WHATEVER THE INPUT: true; the input reads as it did. -/
def papersPartsSpec : ChangeSpec := { name := "papersParts", fn := fun _ => fun
  | [d1, d2, d3] => { results := [.lit (.bool true)], args := [d1, d2, d3] }
  | _ => none }
def papersPartsRow : OpenClaim := { program := "ytchlmcpnjpllnaa", sum := "90c2512da319ce47eb4e1ac87993203099573f955df89d26c106050fefb4bb3d", func := "witan/witanlaw08.PapersParts", spec := "papersParts", inPlace := ["internal/abi.NoEscape"], unfollowed := true, recurses := true, apart := false }
def PapersPartsSaid : Prop := papersPartsRow.holds Try.pinned (OpenSpec.ofChange papersPartsSpec)

/-- ITS FALSE NEIGHBOUR: 'it returns false'. Refute it at one input. -/
def papersPartsWrong : ChangeSpec := { name := "papersParts", fn := fun _ => fun
  | [d1, d2, d3] => { results := [.lit (.bool false)], args := [d1, d2, d3] }
  | _ => none }
def PapersPartsWrongFalsely : Prop := papersPartsRow.holds Try.pinned (OpenSpec.ofChange papersPartsWrong)

/- THE SECOND FORM. 'bulk': how many values and letters a reading holds, each counted each time it is reached (what is shared counts as often as it is met; a slice's spare places count too). A statement '..UptoSaid' is the law's where the arguments, and the package variables that the reading takes, are together of bulk at most 1048576: NARROWER than '..Said'. Prove '..Said' where nothing that the law and all that it calls make is longer than what came in: it says more and counts as full. Else prove '..UptoSaid'. A law counts once. -/
mutual
def uptoBulk {H : Type} : DataW H → Nat
  | .lit (.string bytes) => bytes.length + 1
  | .lit _ => 1
  | .nil => 1
  | .ptr d => uptoBulk d + 1
  | .slice elems spare => uptoBulkAll elems + uptoBulkAll spare + 1
  | .agg parts => uptoBulkAll parts + 1
  | .iface _ d => uptoBulk d + 1
  | .map entries => uptoBulkEntries entries + 1
  | .held _ => 1
def uptoBulkAll {H : Type} : List (DataW H) → Nat
  | [] => 0
  | d :: r => uptoBulk d + uptoBulkAll r
def uptoBulkEntries {H : Type} : List (Lit × DataW H) → Nat
  | [] => 0
  | x :: r => uptoBulkEntry x + uptoBulkEntries r
def uptoBulkEntry {H : Type} : Lit × DataW H → Nat
  | (.string bytes, d) => bytes.length + uptoBulk d + 1
  | (_, d) => uptoBulk d + 1
 end
def uptoSmall : (H : Type) → List (DataW H) → Bool := fun _ ds => decide (uptoBulkAll ds ≤ 1048576)
def OpenSpec.upto (s : _root_.Go.ChangeSpec) : _root_.Go.OpenSpec := { _root_.Go.OpenSpec.ofChange s with cond := some uptoSmall }

/-- 'witanlaw08.PapersBytes', WHERE WHAT IT READS IS OF BULK AT MOST 1048576: true; the input reads as it did. -/
def papersBytesUptoRow : OpenClaim := { program := "ytchlmcpnjpllnaa", sum := "90c2512da319ce47eb4e1ac87993203099573f955df89d26c106050fefb4bb3d", func := "witan/witanlaw08.PapersBytes", spec := "papersBytes", inPlace := ["internal/abi.NoEscape"], unfollowed := true, recurses := true, apart := false, narrowed := true }
def PapersBytesUptoSaid : Prop := papersBytesUptoRow.holds Try.pinned (OpenSpec.upto papersBytesSpec)

/-- 'witanlaw08.PapersCertify', WHERE WHAT IT READS IS OF BULK AT MOST 1048576: true; the input reads as it did. -/
def papersCertifyUptoRow : OpenClaim := { program := "ytchlmcpnjpllnaa", sum := "90c2512da319ce47eb4e1ac87993203099573f955df89d26c106050fefb4bb3d", func := "witan/witanlaw08.PapersCertify", spec := "papersCertify", inPlace := ["internal/abi.NoEscape"], unfollowed := true, recurses := true, apart := false, narrowed := true }
def PapersCertifyUptoSaid : Prop := papersCertifyUptoRow.holds Try.pinned (OpenSpec.upto papersCertifySpec)

/-- 'witanlaw08.PapersChecks', WHERE WHAT IT READS IS OF BULK AT MOST 1048576: true; the input reads as it did. -/
def papersChecksUptoRow : OpenClaim := { program := "ytchlmcpnjpllnaa", sum := "90c2512da319ce47eb4e1ac87993203099573f955df89d26c106050fefb4bb3d", func := "witan/witanlaw08.PapersChecks", spec := "papersChecks", inPlace := ["internal/abi.NoEscape"], unfollowed := true, recurses := true, apart := false, narrowed := true }
def PapersChecksUptoSaid : Prop := papersChecksUptoRow.holds Try.pinned (OpenSpec.upto papersChecksSpec)

/-- 'witanlaw08.PapersWalks', WHERE WHAT IT READS IS OF BULK AT MOST 1048576: true; the input reads as it did. -/
def papersWalksUptoRow : OpenClaim := { program := "ytchlmcpnjpllnaa", sum := "90c2512da319ce47eb4e1ac87993203099573f955df89d26c106050fefb4bb3d", func := "witan/witanlaw08.PapersWalks", spec := "papersWalks", inPlace := ["internal/abi.NoEscape"], unfollowed := true, recurses := true, apart := false, narrowed := true }
def PapersWalksUptoSaid : Prop := papersWalksUptoRow.holds Try.pinned (OpenSpec.upto papersWalksSpec)

/-- 'witanlaw08.PapersTaken', WHERE WHAT IT READS IS OF BULK AT MOST 1048576: true; the input reads as it did. -/
def papersTakenUptoRow : OpenClaim := { program := "ytchlmcpnjpllnaa", sum := "90c2512da319ce47eb4e1ac87993203099573f955df89d26c106050fefb4bb3d", func := "witan/witanlaw08.PapersTaken", spec := "papersTaken", inPlace := ["internal/abi.NoEscape"], unfollowed := true, recurses := true, apart := false, narrowed := true }
def PapersTakenUptoSaid : Prop := papersTakenUptoRow.holds Try.pinned (OpenSpec.upto papersTakenSpec)

/-- 'witanlaw08.PapersParts', WHERE WHAT IT READS IS OF BULK AT MOST 1048576: true; the input reads as it did. -/
def papersPartsUptoRow : OpenClaim := { program := "ytchlmcpnjpllnaa", sum := "90c2512da319ce47eb4e1ac87993203099573f955df89d26c106050fefb4bb3d", func := "witan/witanlaw08.PapersParts", spec := "papersParts", inPlace := ["internal/abi.NoEscape"], unfollowed := true, recurses := true, apart := false, narrowed := true }
def PapersPartsUptoSaid : Prop := papersPartsUptoRow.holds Try.pinned (OpenSpec.upto papersPartsSpec)

end Rows
end Go.Proofs.Ytchlmcpnjpllnaa
