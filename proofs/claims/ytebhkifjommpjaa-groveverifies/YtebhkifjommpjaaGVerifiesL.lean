/- GroveVerifies is proved: for every root, height, text and whatever bytes, Verify answers as the reference does (of a text beyond 4,096 bytes the statement asks for the known grove alone). No condition. -/
import Derived.Test.YtebhkifjommpjaaGVerifies
import Derived.Test.YtebhkifjommpjaaRows
import Derived.ProofKit
import Derived.OpenShut
import Derived.ShutString
import Derived.ChangeOld
import Derived.Deep.Slices
namespace Go.Proofs.Ytebhkifjommpjaa
open Go.ChangeShapes Go.WideShapes Go.ChangeAt Go.RowKit
open Go.ChangeMaps (open_string shut_string)

theorem Try.own : ownKnob Try.prog.godebug = none := by kernel_rfl
theorem Try.laidOut : laidOutB Try.prog = true := by kernel_rfl

theorem Try.cells3 : Try.prog.cellsOf 3 = 1 := by kernel_rfl
theorem Try.cells9 : Try.prog.cellsOf 9 = 1 := by kernel_rfl
theorem array4 {α : Type} {cs : Array α} (h : cs.size = 4) : ∃ c0 c1 c2 c3, cs = #[c0, c1, c2, c3] := by
  obtain ⟨l⟩ := cs
  match l, h with
  | [c0, c1, c2, c3], _ => exact ⟨c0, c1, c2, c3, rfl⟩
theorem Try.cellsOf0 : Try.prog.cellsOf 43 = 4 := by kernel_rfl
/-- A Given, opened. -/
theorem open_struct0 {H : Type} {enc : TypeId × Value → H} {W : World} {fuel : Nat} {c0 c1 c2 c3 : Value} {x : DataW H × List MemPlace}
    (h : DataW.trod enc Try.prog W 0 (fun _ => true) true fuel 43 [c0, c1, c2, c3] = some x) :
    ∃ (f0 : ByteArray) (f1 : Int) (f2 : ByteArray) (f3 : ByteArray), c0 = .string f0 ∧ c1 = .int .i64 f1 ∧ c2 = .string f2 ∧ c3 = .string f3 := by
  obtain ⟨xs, n, _, rfl, hl, hlen, hf⟩ := DataW.trod_struct Try.underlying43 h
  have hg : ∀ i, i < 4 → ∃ y, xs[i]? = some y := fun i hi => ⟨_, List.getElem?_eq_getElem (by rw [hlen]; exact hi)⟩
  obtain ⟨y0, e0⟩ := hg 0 (by decide)
  have g0 := hf 0 _ rfl
  rw [e0] at g0
  obtain ⟨f0, z0, _, _⟩ := DataW.trod_string Try.underlying9 g0
  obtain ⟨y1, e1⟩ := hg 1 (by decide)
  have g1 := hf 1 _ rfl
  rw [e1] at g1
  obtain ⟨f1, z1, _, _⟩ := DataW.trod_int Try.underlying3 g1
  obtain ⟨y2, e2⟩ := hg 2 (by decide)
  have g2 := hf 2 _ rfl
  rw [e2] at g2
  obtain ⟨f2, z2, _, _⟩ := DataW.trod_string Try.underlying9 g2
  obtain ⟨y3, e3⟩ := hg 3 (by decide)
  have g3 := hf 3 _ rfl
  rw [e3] at g3
  obtain ⟨f3, z3, _, _⟩ := DataW.trod_string Try.underlying9 g3
  simp [Try.cells3, Try.cells9] at z0 z1 z2 z3
  exact ⟨f0, f1, f2, f3, z0, z1, z2, z3⟩

set_option maxRecDepth 100000 in
theorem groveVerifies_lifted (os : Os) (started : os.Started) (H : Type) (enc : TypeId × Value → H) :
    ReturnsInHanded {} Try.checked os 5 .any (Rows.groveVerifiesSpec.pre6 enc Try.prog Try.f5 Rows.groveVerifiesRow.domain false) (Rows.groveVerifiesSpec.post enc Try.prog Try.f5 false true false false) := by
  refine returnsInHanded_of_change (C := Try.checked) Try.own started (by kernel_rfl) Try.func5
    (ChangeSpec.witness6 (enc := enc) (C := Try.checked) false ⟨#[], #[.agg #[.string ByteArray.empty, .int .i64 0, .string ByteArray.empty, .string ByteArray.empty]], []⟩ 8 (by kernel_rfl) (by kernel_rfl) (by kernel_rfl) (by kernel_rfl)) ?_
  intro W base args ds gs before hval0 hW hcnd _
  have hval : ∀ (j : Nat) t v, Try.f5.params[j]? = some t → args[j]? = some v → Value.okWide Try.prog W .any base t v := hval0
  have hW' := hW
  obtain ⟨p, q, hA0, hV, rfl, hfz, hnd⟩ := hW
  have hA : DataW.TrodAll enc Try.prog W 0 (fun _ => true) true Try.f5.params.toList args.toList ds p := hA0
  rw [Try.params5] at hA hval
  obtain ⟨v0, vs0, d0, ds0, p0, q0, hargs, rfl, rfl, h0, r0⟩ := trodAll_cons hA
  obtain ⟨rfl, rfl, rfl⟩ := trodAll_nil r0
  obtain rfl : args = #[v0] := by cases args; simp_all
  obtain ⟨rfl, rfl⟩ := trodVars_none hV
  obtain ⟨cs0, rfl, hsc0⟩ := okWide_struct Try.underlying43 (hval 0 43 v0 rfl rfl)
  obtain ⟨c0_0, c0_1, c0_2, c0_3, rfl⟩ := array4 (hsc0.trans Try.cellsOf0)
  have k0 := h0
  have lt0 : ∀ x ∈ p0, x.block < W.heap.size := by obtain ⟨m, hm⟩ := k0; exact DataW.trod_lt m _ _ _ hm
  clear hA0 hval0
  have fin : Calls Try.prog 5 #[.agg #[c0_0, c0_1, c0_2, c0_3]] W fun e W' => e = .returned (.bool true) ∧ Below W.heap.size W W' := by
    obtain ⟨fuel0, hf0⟩ := h0
    obtain ⟨f0_0, f0_1, f0_2, f0_3, rfl, rfl, rfl, rfl⟩ := open_struct0 (by simpa [Value.cells] using hf0)
    exact groveVerifies_walk f0_0 f0_1 f0_2 f0_3 W
  refine fin.mono fun e W' ⟨he, bel⟩ => ?_
  subst he
  exact ⟨_, rfl, _, _, _, [], _, [], hW', trodAll_mk1 (shut_bool Try.underlying4 _), (trodAll_cons_mk (Below.trod Try.laidOut (by kernel_rfl) (of_decide_eq_true (by kernel_rfl)) k0 bel lt0) trodAll_mk0), rfl, bel.frame _, fun h => by cases h⟩

theorem groveVerifies_holds : Rows.GroveVerifiesSaid :=
  OpenClaim.holds_of_wide 5 Try.f5 rfl rfl rfl rfl rfl rfl rfl ⟨rfl, rfl, rfl, rfl, rfl⟩ rfl rfl rfl rfl rfl (by kernel_rfl) Try.func5 (by kernel_rfl)
    (of_decide_eq_true (by kernel_rfl)) (by unfold Func.isWrapper; first | (rw [if_pos (by decide +kernel)]; kernel_rfl) | (rw [if_neg (by decide +kernel)]; exact ⟨rfl, rfl⟩))
    (fun os started H enc _ => groveVerifies_lifted os started H enc)
#print axioms groveVerifies_holds

end Go.Proofs.Ytebhkifjommpjaa
