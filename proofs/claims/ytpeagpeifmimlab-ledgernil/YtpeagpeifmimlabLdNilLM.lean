/- LedgerNil is proved: whatever is asked, a ledger that is not there does nothing and has nothing. No condition. -/
import Derived.Test.YtpeagpeifmimlabLdNilM
import Derived.Test.YtpeagpeifmimlabRows
import Derived.ProofKit
import Derived.OpenShut
import Derived.ShutString
import Derived.ChangeOld
import Derived.Deep.Slices

namespace Go.Proofs.Ytpeagpeifmimlab
open Go.ChangeShapes Go.WideShapes Go.ChangeAt Go.RowKit
open Go.ChangeMaps (open_string shut_string)

theorem Try.own : ownKnob Try.prog.godebug = none := by kernel_rfl
theorem Try.laidOut : laidOutB Try.prog = true := by kernel_rfl

theorem Try.cells3 : Try.prog.cellsOf 3 = 1 := by kernel_rfl
theorem Try.cells9 : Try.prog.cellsOf 9 = 1 := by kernel_rfl
theorem Try.cells22 : Try.prog.cellsOf 22 = 1 := by kernel_rfl
theorem Try.cells24 : Try.prog.cellsOf 24 = 6 := by kernel_rfl
theorem bulk_pos {H : Type} (d : DataW H) : 1 ≤ Rows.uptoBulk d := by
  cases d with
  | lit l => cases l <;> simp [Rows.uptoBulk]
  | _ => simp [Rows.uptoBulk]
theorem bulk_all {H : Type} : ∀ l : List (DataW H), l.length ≤ Rows.uptoBulkAll l
  | [] => Nat.zero_le _
  | d :: r => by
    have h1 := bulk_pos d
    have h2 := bulk_all r
    simp only [Rows.uptoBulkAll, List.length_cons]
    omega
theorem bulk_in {H : Type} : ∀ (l : List (DataW H)) (j : Nat) (d : DataW H), l[j]? = some d → Rows.uptoBulk d ≤ Rows.uptoBulkAll l
  | [], _, _, h => by simp at h
  | d :: r, 0, d', h => by simp at h; subst h; simp only [Rows.uptoBulkAll]; omega
  | d :: r, j + 1, d', h => by
    have := bulk_in r j d' (by simpa using h)
    simp only [Rows.uptoBulkAll]
    omega
theorem bulk_flat {H : Type} {α : Type} : ∀ (ls : List (List α)) (ds : List (DataW H)), ls.length = ds.length → (∀ (i : Nat) (l : List α) (d : DataW H), ls[i]? = some l → ds[i]? = some d → l.length ≤ Rows.uptoBulk d) → ls.flatten.length ≤ Rows.uptoBulkAll ds
  | [], _, _, _ => Nat.zero_le _
  | l :: ls, [], h, _ => by simp at h
  | l :: ls, d :: ds, h, hb => by
    have h1 := hb 0 l d rfl rfl
    have h2 := bulk_flat ls ds (by simpa using h) (fun i l' d' e1 e2 => hb (i + 1) l' d' (by simpa using e1) (by simpa using e2))
    simp only [Rows.uptoBulkAll, List.flatten_cons, List.length_append]
    omega
theorem u64_natD {a : Int} (h : (Lit.int .u64 a).wf = true) : ∃ n : Nat, a = (n : Int) ∧ n < 18446744073709551616 := by
  have : 0 ≤ a ∧ a ≤ 18446744073709551615 := by simpa [Lit.wf, IntKind.min, IntKind.max, IntKind.bits, IntKind.signed] using h
  exact ⟨a.toNat, by omega, by omega⟩
theorem open_witanwitanlaw11Ask {H : Type} {enc : TypeId × Value → H} {W : World} {fuel : Nat} {c0 c1 c2 c3 c4 c5 : Value} {x : DataW H × List MemPlace}
    (h : DataW.trod enc Try.prog W 0 (fun _ => true) true fuel 24 [c0, c1, c2, c3, c4, c5] = some x) :
    ((∃ d0 : DataW H, Rows.uptoBulk d0 ≤ Rows.uptoBulk x.1 ∧ ((∀ m ∈ DataW.weights Try.prog 24 x.1, m ≤ reachBytes) → ∀ m ∈ DataW.weights Try.prog 3 d0, m ≤ reachBytes) ∧ (∃ f : Int, c0 = .int .i64 f)) ∧ (∃ d0 : DataW H, Rows.uptoBulk d0 ≤ Rows.uptoBulk x.1 ∧ ((∀ m ∈ DataW.weights Try.prog 24 x.1, m ≤ reachBytes) → ∀ m ∈ DataW.weights Try.prog 3 d0, m ≤ reachBytes) ∧ (∃ f : Int, c1 = .int .i64 f)) ∧ (∃ d0 : DataW H, Rows.uptoBulk d0 ≤ Rows.uptoBulk x.1 ∧ ((∀ m ∈ DataW.weights Try.prog 24 x.1, m ≤ reachBytes) → ∀ m ∈ DataW.weights Try.prog 3 d0, m ≤ reachBytes) ∧ (∃ f : Int, c2 = .int .i64 f)) ∧ (∃ d0 : DataW H, Rows.uptoBulk d0 ≤ Rows.uptoBulk x.1 ∧ ((∀ m ∈ DataW.weights Try.prog 24 x.1, m ≤ reachBytes) → ∀ m ∈ DataW.weights Try.prog 9 d0, m ≤ reachBytes) ∧ (∃ f : ByteArray, c3 = .string f ∧ f.size ≤ maxLen)) ∧ (∃ d0 : DataW H, Rows.uptoBulk d0 ≤ Rows.uptoBulk x.1 ∧ ((∀ m ∈ DataW.weights Try.prog 24 x.1, m ≤ reachBytes) → ∀ m ∈ DataW.weights Try.prog 22 d0, m ≤ reachBytes) ∧ (∃ f : Nat, c4 = .int .u64 (f : Int) ∧ f < 18446744073709551616)) ∧ (∃ d0 : DataW H, Rows.uptoBulk d0 ≤ Rows.uptoBulk x.1 ∧ ((∀ m ∈ DataW.weights Try.prog 24 x.1, m ≤ reachBytes) → ∀ m ∈ DataW.weights Try.prog 3 d0, m ≤ reachBytes) ∧ (∃ f : Int, c5 = .int .i64 f))) := by
  obtain ⟨xs, n, _, rfl, hl, hlen, hf⟩ := DataW.trod_struct Try.underlying24 h
  have hg : ∀ i, i < 6 → ∃ y, xs[i]? = some y := fun i hi => ⟨_, List.getElem?_eq_getElem (by rw [hlen]; exact hi)⟩
  obtain ⟨y0, e0⟩ := hg 0 (by decide)
  have g0 := hf 0 _ rfl
  rw [e0] at g0
  have b0 : Rows.uptoBulk y0.1 ≤ Rows.uptoBulk (.agg (xs.map (·.1)) : DataW H) := by
    have := bulk_in (xs.map (·.1)) 0 y0.1 (by rw [List.getElem?_map, e0]; rfl)
    simp only [Rows.uptoBulk]
    omega
  have w0 : (∀ m ∈ DataW.weights Try.prog 24 (.agg (xs.map (·.1)) : DataW H), m ≤ reachBytes) → ∀ m ∈ DataW.weights Try.prog 3 y0.1, m ≤ reachBytes := fun hs m hm => hs m (by
    simp only [DataW.weights, Try.underlying24]
    exact DataW.weights_mem_each (j := 0) (t := 3) (d := y0.1) rfl (by rw [List.getElem?_map, e0]; rfl) _ hm)
  obtain ⟨f0, z0, _, q0⟩ := DataW.trod_int Try.underlying3 g0
  simp [Try.cells3] at z0
  obtain ⟨y1, e1⟩ := hg 1 (by decide)
  have g1 := hf 1 _ rfl
  rw [e1] at g1
  have b1 : Rows.uptoBulk y1.1 ≤ Rows.uptoBulk (.agg (xs.map (·.1)) : DataW H) := by
    have := bulk_in (xs.map (·.1)) 1 y1.1 (by rw [List.getElem?_map, e1]; rfl)
    simp only [Rows.uptoBulk]
    omega
  have w1 : (∀ m ∈ DataW.weights Try.prog 24 (.agg (xs.map (·.1)) : DataW H), m ≤ reachBytes) → ∀ m ∈ DataW.weights Try.prog 3 y1.1, m ≤ reachBytes := fun hs m hm => hs m (by
    simp only [DataW.weights, Try.underlying24]
    exact DataW.weights_mem_each (j := 1) (t := 3) (d := y1.1) rfl (by rw [List.getElem?_map, e1]; rfl) _ hm)
  obtain ⟨f1, z1, _, q1⟩ := DataW.trod_int Try.underlying3 g1
  simp [Try.cells3] at z1
  obtain ⟨y2, e2⟩ := hg 2 (by decide)
  have g2 := hf 2 _ rfl
  rw [e2] at g2
  have b2 : Rows.uptoBulk y2.1 ≤ Rows.uptoBulk (.agg (xs.map (·.1)) : DataW H) := by
    have := bulk_in (xs.map (·.1)) 2 y2.1 (by rw [List.getElem?_map, e2]; rfl)
    simp only [Rows.uptoBulk]
    omega
  have w2 : (∀ m ∈ DataW.weights Try.prog 24 (.agg (xs.map (·.1)) : DataW H), m ≤ reachBytes) → ∀ m ∈ DataW.weights Try.prog 3 y2.1, m ≤ reachBytes := fun hs m hm => hs m (by
    simp only [DataW.weights, Try.underlying24]
    exact DataW.weights_mem_each (j := 2) (t := 3) (d := y2.1) rfl (by rw [List.getElem?_map, e2]; rfl) _ hm)
  obtain ⟨f2, z2, _, q2⟩ := DataW.trod_int Try.underlying3 g2
  simp [Try.cells3] at z2
  obtain ⟨y3, e3⟩ := hg 3 (by decide)
  have g3 := hf 3 _ rfl
  rw [e3] at g3
  have b3 : Rows.uptoBulk y3.1 ≤ Rows.uptoBulk (.agg (xs.map (·.1)) : DataW H) := by
    have := bulk_in (xs.map (·.1)) 3 y3.1 (by rw [List.getElem?_map, e3]; rfl)
    simp only [Rows.uptoBulk]
    omega
  have w3 : (∀ m ∈ DataW.weights Try.prog 24 (.agg (xs.map (·.1)) : DataW H), m ≤ reachBytes) → ∀ m ∈ DataW.weights Try.prog 9 y3.1, m ≤ reachBytes := fun hs m hm => hs m (by
    simp only [DataW.weights, Try.underlying24]
    exact DataW.weights_mem_each (j := 3) (t := 9) (d := y3.1) rfl (by rw [List.getElem?_map, e3]; rfl) _ hm)
  obtain ⟨f3, z3, _, q3⟩ := DataW.trod_string Try.underlying9 g3
  simp [Try.cells9] at z3
  obtain ⟨y4, e4⟩ := hg 4 (by decide)
  have g4 := hf 4 _ rfl
  rw [e4] at g4
  have b4 : Rows.uptoBulk y4.1 ≤ Rows.uptoBulk (.agg (xs.map (·.1)) : DataW H) := by
    have := bulk_in (xs.map (·.1)) 4 y4.1 (by rw [List.getElem?_map, e4]; rfl)
    simp only [Rows.uptoBulk]
    omega
  have w4 : (∀ m ∈ DataW.weights Try.prog 24 (.agg (xs.map (·.1)) : DataW H), m ≤ reachBytes) → ∀ m ∈ DataW.weights Try.prog 22 y4.1, m ≤ reachBytes := fun hs m hm => hs m (by
    simp only [DataW.weights, Try.underlying24]
    exact DataW.weights_mem_each (j := 4) (t := 22) (d := y4.1) rfl (by rw [List.getElem?_map, e4]; rfl) _ hm)
  obtain ⟨m4, z4, _, v4⟩ := DataW.trod_int Try.underlying22 g4
  simp [Try.cells22] at z4
  obtain ⟨f4, rfl, q4⟩ := u64_natD v4
  obtain ⟨y5, e5⟩ := hg 5 (by decide)
  have g5 := hf 5 _ rfl
  rw [e5] at g5
  have b5 : Rows.uptoBulk y5.1 ≤ Rows.uptoBulk (.agg (xs.map (·.1)) : DataW H) := by
    have := bulk_in (xs.map (·.1)) 5 y5.1 (by rw [List.getElem?_map, e5]; rfl)
    simp only [Rows.uptoBulk]
    omega
  have w5 : (∀ m ∈ DataW.weights Try.prog 24 (.agg (xs.map (·.1)) : DataW H), m ≤ reachBytes) → ∀ m ∈ DataW.weights Try.prog 3 y5.1, m ≤ reachBytes := fun hs m hm => hs m (by
    simp only [DataW.weights, Try.underlying24]
    exact DataW.weights_mem_each (j := 5) (t := 3) (d := y5.1) rfl (by rw [List.getElem?_map, e5]; rfl) _ hm)
  obtain ⟨f5, z5, _, q5⟩ := DataW.trod_int Try.underlying3 g5
  simp [Try.cells3] at z5
  exact ⟨⟨y0.1, b0, w0, f0, z0⟩, ⟨y1.1, b1, w1, f1, z1⟩, ⟨y2.1, b2, w2, f2, z2⟩, ⟨y3.1, b3, w3, f3, z3, q3⟩, ⟨y4.1, b4, w4, f4, z4, q4⟩, ⟨y5.1, b5, w5, f5, z5⟩⟩
theorem array6 {α : Type} {cs : Array α} (h : cs.size = 6) : ∃ c0 c1 c2 c3 c4 c5, cs = #[c0, c1, c2, c3, c4, c5] := by
  obtain ⟨l⟩ := cs
  match l, h with
  | [c0, c1, c2, c3, c4, c5], _ => exact ⟨c0, c1, c2, c3, c4, c5, rfl⟩

set_option maxRecDepth 100000 in
theorem ledgerNil_contract (H : Type) (enc : TypeId × Value → H) (W : World) (base : Nat) (args : Array Value) (ds gs : List (DataW H)) (before : List MemPlace)
    (hval : ∀ (j : Nat) t v, Try.f3.params[j]? = some t → args[j]? = some v → Value.okWide Try.prog W .any base t v)
    (hW : DataW.Whole enc Try.prog Try.f3.params.toList Rows.ledgerNilSpec.vars false W args.toList ds gs before) :
    Calls Try.prog 3 args W fun e W' => ∃ v, e = .returned v ∧ Rows.ledgerNilSpec.post enc Try.prog Try.f3 false true false false W args v W' := by
  have hW' := hW
  obtain ⟨p, q, hA0, hV, rfl, hfz, hnd⟩ := hW
  have hA : DataW.TrodAll enc Try.prog W 0 (fun _ => true) true Try.f3.params.toList args.toList ds p := hA0
  rw [Try.params3] at hA hval
  obtain ⟨v0, vs0, d0, ds0, p0, q0, hargs, rfl, rfl, h0, r0⟩ := trodAll_cons hA
  obtain ⟨v1, vs1, d1, ds1, p1, q1, rfl, rfl, rfl, h1, r1⟩ := trodAll_cons r0
  obtain ⟨v2, vs2, d2, ds2, p2, q2, rfl, rfl, rfl, h2, r2⟩ := trodAll_cons r1
  obtain ⟨rfl, rfl, rfl⟩ := trodAll_nil r2
  obtain rfl : args = #[v0, v1, v2] := by cases args; simp_all
  obtain ⟨rfl, rfl⟩ := trodVars_none hV
  obtain ⟨cs0, rfl, hsc0⟩ := okWide_struct Try.underlying24 (hval 0 24 v0 rfl rfl)
  obtain ⟨c0_0, c0_1, c0_2, c0_3, c0_4, c0_5, rfl⟩ := array6 (hsc0.trans Try.cells24)
  have k0 := h0
  have lt0 : ∀ x ∈ p0, x.block < W.heap.size := by obtain ⟨m, hm⟩ := k0; exact DataW.trod_lt m _ _ _ hm
  obtain ⟨f1, rfl, rfl, rfl, wf1⟩ := open_string Try.underlying9 (hval 1 9 v1 rfl rfl) h1
  obtain ⟨f2, rfl, rfl, rfl, wf2⟩ := open_int Try.underlying3 (hval 2 3 v2 rfl rfl) h2
  clear hA0
  have fin : Calls Try.prog 3 #[.agg #[c0_0, c0_1, c0_2, c0_3, c0_4, c0_5], .string f1, .int .i64 f2] W fun e W' => e = .returned (.bool true) ∧ Below W.heap.size W W' := by
    obtain ⟨fuel0, hf0⟩ := h0
    obtain ⟨⟨d0_0, hbb0_0, hww0_0, f0_0, rfl⟩, ⟨d0_1, hbb0_1, hww0_1, f0_1, rfl⟩, ⟨d0_2, hbb0_2, hww0_2, f0_2, rfl⟩, ⟨d0_3, hbb0_3, hww0_3, f0_3, rfl, hz0_3⟩, ⟨d0_4, hbb0_4, hww0_4, f0_4, rfl, hz0_4⟩, ⟨d0_5, hbb0_5, hww0_5, f0_5, rfl⟩⟩ := open_witanwitanlaw11Ask (by simpa [Value.cells] using hf0)
    exact ldnil_any ⟨f0_0, f0_1, f0_2, f0_3, f0_4, f0_5⟩ f1 f2 W
  refine fin.mono fun e W' ⟨he, bel⟩ => ?_
  subst he
  exact ⟨_, rfl, _, _, _, [], _, [], hW', trodAll_mk1 (shut_bool Try.underlying4 _), (trodAll_cons_mk (Below.trod Try.laidOut (by kernel_rfl) (of_decide_eq_true (by kernel_rfl)) k0 bel lt0) (trodAll_cons_mk (shut_string Try.underlying9 wf1) (trodAll_cons_mk (shut_int Try.underlying3 wf2) trodAll_mk0))), rfl, bel.frame _, fun h => by cases h⟩

set_option maxRecDepth 100000 in
theorem ledgerNil_lifted (os : Os) (started : os.Started) (H : Type) (enc : TypeId × Value → H) :
    ReturnsInHanded {} Try.checked os 3 .any (Rows.ledgerNilSpec.pre6 enc Try.prog Try.f3 Rows.ledgerNilRow.domain false) (Rows.ledgerNilSpec.post enc Try.prog Try.f3 false true false false) := by
  refine returnsInHanded_of_change (C := Try.checked) Try.own started (by kernel_rfl) Try.func3
    (ChangeSpec.witness6 (enc := enc) (C := Try.checked) false ⟨#[], #[.agg #[.int .i64 0, .int .i64 0, .int .i64 0, .string ByteArray.empty, .int .u64 0, .int .i64 0], .string ByteArray.empty, .int .i64 0], []⟩ 8 (by kernel_rfl) (by kernel_rfl) (by kernel_rfl) (by kernel_rfl)) ?_
  intro W base args ds gs before hval hW _ _
  exact ledgerNil_contract H enc W base args ds gs before hval hW

theorem ledgerNil_holds : Rows.LedgerNilSaid :=
  OpenClaim.holds_of_wide 3 Try.f3 rfl rfl rfl rfl rfl rfl rfl ⟨rfl, rfl, rfl, rfl, rfl⟩ rfl rfl rfl rfl rfl (by kernel_rfl) Try.func3 (by kernel_rfl)
    (of_decide_eq_true (by kernel_rfl)) (by unfold Func.isWrapper; first | (rw [if_pos (by decide +kernel)]; kernel_rfl) | (rw [if_neg (by decide +kernel)]; exact ⟨rfl, rfl⟩))
    (fun os started H enc _ => ledgerNil_lifted os started H enc)
#print axioms ledgerNil_holds

end Go.Proofs.Ytpeagpeifmimlab
