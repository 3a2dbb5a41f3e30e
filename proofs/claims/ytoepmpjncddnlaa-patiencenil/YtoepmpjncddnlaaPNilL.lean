/- PatienceNil is proved: for every step, a timer that is not there never runs and is never due. No condition. -/
import Derived.Test.YtoepmpjncddnlaaPNil
import Derived.Test.YtoepmpjncddnlaaRows
import Derived.ProofKit
import Derived.OpenShut
import Derived.ShutString
import Derived.ChangeOld
import Derived.Deep.Slices

namespace Go.Proofs.Ytoepmpjncddnlaa
open Go.ChangeShapes Go.WideShapes Go.ChangeAt Go.RowKit
open Go.ChangeMaps (open_string shut_string)

theorem Try.own : ownKnob Try.prog.godebug = none := by kernel_rfl
theorem Try.laidOut : laidOutB Try.prog = true := by kernel_rfl

theorem Try.cells3 : Try.prog.cellsOf 3 = 1 := by kernel_rfl
theorem Try.cells30 : Try.prog.cellsOf 30 = 2 := by kernel_rfl
theorem bulk_pos {H : Type} (d : DataW H) : 1 ≤ Rows.uptoBulk d := by
  cases d with
  | lit l => cases l <;> simp [Rows.uptoBulk]
  | _ => simp [Rows.uptoBulk]
theorem bulk_all {H : Type} : ∀ l : List (DataW H), l.length ≤ Rows.uptoBulkAll l
  | [] => Nat.zero_le _
  | d :: r => by
    have h1 := bulk_pos d
    have h2 := bulk_all r
    simp only [Rows.uptoBulkAll, List.length_cons]
    omega
theorem bulk_in {H : Type} : ∀ (l : List (DataW H)) (j : Nat) (d : DataW H), l[j]? = some d → Rows.uptoBulk d ≤ Rows.uptoBulkAll l
  | [], _, _, h => by simp at h
  | d :: r, 0, d', h => by simp at h; subst h; simp only [Rows.uptoBulkAll]; omega
  | d :: r, j + 1, d', h => by
    have := bulk_in r j d' (by simpa using h)
    simp only [Rows.uptoBulkAll]
    omega
theorem bulk_flat {H : Type} {α : Type} : ∀ (ls : List (List α)) (ds : List (DataW H)), ls.length = ds.length → (∀ (i : Nat) (l : List α) (d : DataW H), ls[i]? = some l → ds[i]? = some d → l.length ≤ Rows.uptoBulk d) → ls.flatten.length ≤ Rows.uptoBulkAll ds
  | [], _, _, _ => Nat.zero_le _
  | l :: ls, [], h, _ => by simp at h
  | l :: ls, d :: ds, h, hb => by
    have h1 := hb 0 l d rfl rfl
    have h2 := bulk_flat ls ds (by simpa using h) (fun i l' d' e1 e2 => hb (i + 1) l' d' (by simpa using e1) (by simpa using e2))
    simp only [Rows.uptoBulkAll, List.flatten_cons, List.length_append]
    omega
theorem open_witanwitanlaw17Op {H : Type} {enc : TypeId × Value → H} {W : World} {fuel : Nat} {c0 c1 : Value} {x : DataW H × List MemPlace}
    (h : DataW.trod enc Try.prog W 0 (fun _ => true) true fuel 30 [c0, c1] = some x) :
    ((∃ d0 : DataW H, Rows.uptoBulk d0 ≤ Rows.uptoBulk x.1 ∧ ((∀ m ∈ DataW.weights Try.prog 30 x.1, m ≤ reachBytes) → ∀ m ∈ DataW.weights Try.prog 3 d0, m ≤ reachBytes) ∧ (∃ f : Int, c0 = .int .i64 f)) ∧ (∃ d0 : DataW H, Rows.uptoBulk d0 ≤ Rows.uptoBulk x.1 ∧ ((∀ m ∈ DataW.weights Try.prog 30 x.1, m ≤ reachBytes) → ∀ m ∈ DataW.weights Try.prog 3 d0, m ≤ reachBytes) ∧ (∃ f : Int, c1 = .int .i64 f))) := by
  obtain ⟨xs, n, _, rfl, hl, hlen, hf⟩ := DataW.trod_struct Try.underlying30 h
  have hg : ∀ i, i < 2 → ∃ y, xs[i]? = some y := fun i hi => ⟨_, List.getElem?_eq_getElem (by rw [hlen]; exact hi)⟩
  obtain ⟨y0, e0⟩ := hg 0 (by decide)
  have g0 := hf 0 _ rfl
  rw [e0] at g0
  have b0 : Rows.uptoBulk y0.1 ≤ Rows.uptoBulk (.agg (xs.map (·.1)) : DataW H) := by
    have := bulk_in (xs.map (·.1)) 0 y0.1 (by rw [List.getElem?_map, e0]; rfl)
    simp only [Rows.uptoBulk]
    omega
  have w0 : (∀ m ∈ DataW.weights Try.prog 30 (.agg (xs.map (·.1)) : DataW H), m ≤ reachBytes) → ∀ m ∈ DataW.weights Try.prog 3 y0.1, m ≤ reachBytes := fun hs m hm => hs m (by
    simp only [DataW.weights, Try.underlying30]
    exact DataW.weights_mem_each (j := 0) (t := 3) (d := y0.1) rfl (by rw [List.getElem?_map, e0]; rfl) _ hm)
  obtain ⟨f0, z0, _, q0⟩ := DataW.trod_int Try.underlying3 g0
  simp [Try.cells3] at z0
  obtain ⟨y1, e1⟩ := hg 1 (by decide)
  have g1 := hf 1 _ rfl
  rw [e1] at g1
  have b1 : Rows.uptoBulk y1.1 ≤ Rows.uptoBulk (.agg (xs.map (·.1)) : DataW H) := by
    have := bulk_in (xs.map (·.1)) 1 y1.1 (by rw [List.getElem?_map, e1]; rfl)
    simp only [Rows.uptoBulk]
    omega
  have w1 : (∀ m ∈ DataW.weights Try.prog 30 (.agg (xs.map (·.1)) : DataW H), m ≤ reachBytes) → ∀ m ∈ DataW.weights Try.prog 3 y1.1, m ≤ reachBytes := fun hs m hm => hs m (by
    simp only [DataW.weights, Try.underlying30]
    exact DataW.weights_mem_each (j := 1) (t := 3) (d := y1.1) rfl (by rw [List.getElem?_map, e1]; rfl) _ hm)
  obtain ⟨f1, z1, _, q1⟩ := DataW.trod_int Try.underlying3 g1
  simp [Try.cells3] at z1
  exact ⟨⟨y0.1, b0, w0, f0, z0⟩, ⟨y1.1, b1, w1, f1, z1⟩⟩
theorem array2 {α : Type} {cs : Array α} (h : cs.size = 2) : ∃ c0 c1, cs = #[c0, c1] := by
  obtain ⟨l⟩ := cs
  match l, h with
  | [c0, c1], _ => exact ⟨c0, c1, rfl⟩

set_option maxRecDepth 100000 in
theorem patienceNil_contract (H : Type) (enc : TypeId × Value → H) (W : World) (base : Nat) (args : Array Value) (ds gs : List (DataW H)) (before : List MemPlace)
    (hval : ∀ (j : Nat) t v, Try.f6.params[j]? = some t → args[j]? = some v → Value.okWide Try.prog W .any base t v)
    (hW : DataW.Whole enc Try.prog Try.f6.params.toList Rows.patienceNilSpec.vars false W args.toList ds gs before) :
    Calls Try.prog 6 args W fun e W' => ∃ v, e = .returned v ∧ Rows.patienceNilSpec.post enc Try.prog Try.f6 false true false false W args v W' := by
  have hW' := hW
  obtain ⟨p, q, hA0, hV, rfl, hfz, hnd⟩ := hW
  have hA : DataW.TrodAll enc Try.prog W 0 (fun _ => true) true Try.f6.params.toList args.toList ds p := hA0
  rw [Try.params6] at hA hval
  obtain ⟨v0, vs0, d0, ds0, p0, q0, hargs, rfl, rfl, h0, r0⟩ := trodAll_cons hA
  obtain ⟨rfl, rfl, rfl⟩ := trodAll_nil r0
  obtain rfl : args = #[v0] := by cases args; simp_all
  obtain ⟨rfl, rfl⟩ := trodVars_none hV
  obtain ⟨cs0, rfl, hsc0⟩ := okWide_struct Try.underlying30 (hval 0 30 v0 rfl rfl)
  obtain ⟨c0_0, c0_1, rfl⟩ := array2 (hsc0.trans Try.cells30)
  have k0 := h0
  have lt0 : ∀ x ∈ p0, x.block < W.heap.size := by obtain ⟨m, hm⟩ := k0; exact DataW.trod_lt m _ _ _ hm
  clear hA0
  have fin : Calls Try.prog 6 #[.agg #[c0_0, c0_1]] W fun e W' => e = .returned (.bool true) ∧ Below W.heap.size W W' := by
    obtain ⟨fuel0, hf0⟩ := h0
    obtain ⟨⟨d0_0, hbb0_0, hww0_0, f0_0, rfl⟩, ⟨d0_1, hbb0_1, hww0_1, f0_1, rfl⟩⟩ := open_witanwitanlaw17Op (by simpa [Value.cells] using hf0)
    exact patienceNil_walk f0_0 f0_1 W
  refine fin.mono fun e W' ⟨he, bel⟩ => ?_
  subst he
  exact ⟨_, rfl, _, _, _, [], _, [], hW', trodAll_mk1 (shut_bool Try.underlying4 _), (trodAll_cons_mk (Below.trod Try.laidOut (by kernel_rfl) (of_decide_eq_true (by kernel_rfl)) k0 bel lt0) trodAll_mk0), rfl, bel.frame _, fun h => by cases h⟩

set_option maxRecDepth 100000 in
theorem patienceNil_lifted (os : Os) (started : os.Started) (H : Type) (enc : TypeId × Value → H) :
    ReturnsInHanded {} Try.checked os 6 .any (Rows.patienceNilSpec.pre6 enc Try.prog Try.f6 Rows.patienceNilRow.domain false) (Rows.patienceNilSpec.post enc Try.prog Try.f6 false true false false) := by
  refine returnsInHanded_of_change (C := Try.checked) Try.own started (by kernel_rfl) Try.func6
    (ChangeSpec.witness6 (enc := enc) (C := Try.checked) false ⟨#[], #[.agg #[.int .i64 0, .int .i64 0]], []⟩ 8 (by kernel_rfl) (by kernel_rfl) (by kernel_rfl) (by kernel_rfl)) ?_
  intro W base args ds gs before hval hW _ _
  exact patienceNil_contract H enc W base args ds gs before hval hW

theorem patienceNil_holds : Rows.PatienceNilSaid :=
  OpenClaim.holds_of_wide 6 Try.f6 rfl rfl rfl rfl rfl rfl rfl ⟨rfl, rfl, rfl, rfl, rfl⟩ rfl rfl rfl rfl rfl (by kernel_rfl) Try.func6 (by kernel_rfl)
    (of_decide_eq_true (by kernel_rfl)) (by unfold Func.isWrapper; first | (rw [if_pos (by decide +kernel)]; kernel_rfl) | (rw [if_neg (by decide +kernel)]; exact ⟨rfl, rfl⟩))
    (fun os started H enc _ => patienceNil_lifted os started H enc)
#print axioms patienceNil_holds

end Go.Proofs.Ytoepmpjncddnlaa
