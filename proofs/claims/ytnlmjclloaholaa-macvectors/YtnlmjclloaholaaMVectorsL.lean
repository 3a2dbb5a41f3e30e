/- MacVectors is proved: for every sending and every list, Vector answers as the reference does, and the list stays (likewise). No condition. -/
import Derived.Test.YtnlmjclloaholaaMVectors
import Derived.Test.YtnlmjclloaholaaRows
import Derived.ProofKit
import Derived.OpenShut
import Derived.ShutString
import Derived.ChangeOld
import Derived.Deep.Slices
namespace Go.Proofs.Ytnlmjclloaholaa
open Go.ChangeShapes Go.WideShapes Go.ChangeAt Go.RowKit
open Go.ChangeMaps (open_string shut_string)

theorem Try.own : ownKnob Try.prog.godebug = none := by kernel_rfl
theorem Try.laidOut : laidOutB Try.prog = true := by kernel_rfl

theorem array5 {α : Type} {cs : Array α} (h : cs.size = 5) : ∃ c0 c1 c2 c3 c4, cs = #[c0, c1, c2, c3, c4] := by
  obtain ⟨l⟩ := cs
  match l, h with
  | [c0, c1, c2, c3, c4], _ => exact ⟨c0, c1, c2, c3, c4, rfl⟩
theorem Try.cellsSent : Try.prog.cellsOf 30 = 5 := by kernel_rfl
theorem Try.cells9 : Try.prog.cellsOf 9 = 1 := by kernel_rfl
theorem Try.cells3 : Try.prog.cellsOf 3 = 1 := by kernel_rfl
/-- What is sent, opened. -/
theorem open_sent {H : Type} {enc : TypeId × Value → H} {W : World} {fuel : Nat} {c0 c1 c2 c3 c4 : Value} {x : DataW H × List MemPlace}
    (h : DataW.trod enc Try.prog W 0 (fun _ => true) true fuel 30 [c0, c1, c2, c3, c4] = some x) :
    ∃ (s : ByteArray) (a b : Int) (t g : ByteArray), c0 = .string s ∧ c1 = .int .i64 a ∧ c2 = .int .i64 b ∧ c3 = .string t ∧ c4 = .string g := by
  obtain ⟨xs, n, _, rfl, hl, hlen, hf⟩ := DataW.trod_struct Try.underlying30 h
  have hg : ∀ i, i < 5 → ∃ y, xs[i]? = some y := fun i hi => ⟨_, List.getElem?_eq_getElem (by rw [hlen]; exact hi)⟩
  obtain ⟨y0, e0⟩ := hg 0 (by decide)
  obtain ⟨y1, e1⟩ := hg 1 (by decide)
  obtain ⟨y2, e2⟩ := hg 2 (by decide)
  obtain ⟨y3, e3⟩ := hg 3 (by decide)
  obtain ⟨y4, e4⟩ := hg 4 (by decide)
  have f0 := hf 0 _ rfl
  have f1 := hf 1 _ rfl
  have f2 := hf 2 _ rfl
  have f3 := hf 3 _ rfl
  have f4 := hf 4 _ rfl
  rw [e0] at f0
  rw [e1] at f1
  rw [e2] at f2
  rw [e3] at f3
  rw [e4] at f4
  obtain ⟨s, z0, _, _⟩ := DataW.trod_string Try.underlying9 f0
  obtain ⟨a, z1, _, _⟩ := DataW.trod_int Try.underlying3 f1
  obtain ⟨b, z2, _, _⟩ := DataW.trod_int Try.underlying3 f2
  obtain ⟨t, z3, _, _⟩ := DataW.trod_string Try.underlying9 f3
  obtain ⟨g, z4, _, _⟩ := DataW.trod_string Try.underlying9 f4
  simp [Try.cells9, Try.cells3] at z0 z1 z2 z3 z4
  exact ⟨s, a, b, t, g, z0, z1, z2, z3, z4⟩
theorem Try.bytes3 : Try.prog.bytesOf 3 = 8 := by kernel_rfl
theorem list_of {α : Type} {p : Nat → α → Prop} : ∀ n, (∀ i, i < n → ∃ x, p i x) → ∃ l : List α, l.length = n ∧ ∀ i x, l[i]? = some x → p i x
  | 0, _ => ⟨[], rfl, fun i x h => by simp at h⟩
  | n + 1, h => by
    obtain ⟨l, hl, hp⟩ := list_of n (fun i hi => h i (Nat.lt_succ_of_lt hi))
    obtain ⟨x, hx⟩ := h n (Nat.lt_succ_self n)
    refine ⟨l ++ [x], by simp [hl], fun i y hy => ?_⟩
    by_cases hi : i < l.length
    · rw [List.getElem?_append_left hi] at hy
      exact hp i y hy
    · rw [List.getElem?_append_right (by omega)] at hy
      have h0 : i - l.length = 0 := by
        have := (List.getElem?_eq_some_iff.1 hy).1
        simp at this
        omega
      rw [h0] at hy
      simp at hy
      subst hy
      have : i = n := by omega
      rw [this]
      exact hx
/-- A list of numbers, opened. -/
theorem open_ints {H : Type} {enc : TypeId × Value → H} {W : World} {fuel : Nat} {a : Option Addr} {len cap : Nat} {x : DataW H × List MemPlace}
    (h : DataW.trod enc Try.prog W 0 (fun _ => true) true fuel 31 [.slice a len cap] = some x) :
    ∃ zs : List Int, zs.length = len ∧ len ≤ maxLen ∧ IntsIn W a zs := by
  rcases Go.Deep.open_slice1 Try.underlying31 Try.cells3 h with ⟨hcs, _⟩ | ⟨ad, len', cap', m, n, V, D, Pl, hcs, _, hl, hm, hmm, hx, hel⟩
  · simp at hcs
    exact ⟨[], hcs.2.1.symm, by rw [hcs.2.1]; exact Nat.zero_le _, .inl rfl⟩
  · simp at hcs
    obtain ⟨rfl, rfl, rfl⟩ := hcs
    simp at hmm
    subst hmm
    have each : ∀ i, i < len → ∃ z : Int, W.cell? (ad.add i) = some (.int .i64 z) := by
      intro i hi
      obtain ⟨h1, h2⟩ := hel i (by omega)
      obtain ⟨z, e3, _, _⟩ := DataW.trod_int Try.underlying3 h2
      simp at e3
      exact ⟨z, by rw [h1, e3]⟩
    obtain ⟨zs, hil, hip⟩ := list_of len each
    refine ⟨zs, hil, by omega, ?_⟩
    by_cases h0 : len = 0
    · left
      exact List.eq_nil_of_length_eq_zero (by omega)
    · right
      obtain ⟨b, off, spot⟩ := ad
      obtain ⟨s0, hs0⟩ : ∃ s, zs[0]? = some s := ⟨zs[0]'(by omega), List.getElem?_eq_getElem _⟩
      have hspot : spot = none := by
        have hc := hip 0 s0 hs0
        simpa [Addr.add] using World.cell?_spot hc
      subst hspot
      have hcell : ∀ j s, zs[j]? = some s → W.cell? ⟨b, off + j, none⟩ = some (.int .i64 s) := fun j s hj => by
        have := hip j s hj
        rwa [Addr.add_lit] at this
      exact ⟨b, off, rfl, World.block_lt_of_cell? W _ (hcell 0 s0 hs0), hcell⟩

set_option maxRecDepth 100000 in
theorem macVectors_lifted (os : Os) (started : os.Started) (H : Type) (enc : TypeId × Value → H) :
    ReturnsInHanded {} Try.checked os 5 .any (Rows.macVectorsSpec.pre6 enc Try.prog Try.f5 Rows.macVectorsRow.domain false) (Rows.macVectorsSpec.post enc Try.prog Try.f5 false true false false) := by
  refine returnsInHanded_of_change_sized (C := Try.checked) Try.own started (by kernel_rfl) Try.func5
    (ChangeSpec.witness6 (enc := enc) (C := Try.checked) false ⟨#[], #[.agg #[.string ByteArray.empty, .int .i64 0, .int .i64 0, .string ByteArray.empty, .string ByteArray.empty], .slice none 0 0], []⟩ 8 (by kernel_rfl) (by kernel_rfl) (by kernel_rfl) (by kernel_rfl)) ?_
  intro W base args ds gs before hval0 hW hcnd hsz _
  have hval : ∀ (j : Nat) t v, Try.f5.params[j]? = some t → args[j]? = some v → Value.okWide Try.prog W .any base t v := hval0
  have hW' := hW
  obtain ⟨p, q, hA0, hV, rfl, hfz, hnd⟩ := hW
  have hA : DataW.TrodAll enc Try.prog W 0 (fun _ => true) true Try.f5.params.toList args.toList ds p := hA0
  rw [Try.params5] at hA hval hsz
  obtain ⟨v0, vs0, d0, ds0, p0, q0, hargs, rfl, rfl, h0, r0⟩ := trodAll_cons hA
  obtain ⟨v1, vs1, d1, ds1, p1, q1, rfl, rfl, rfl, h1, r1⟩ := trodAll_cons r0
  obtain ⟨rfl, rfl, rfl⟩ := trodAll_nil r1
  obtain rfl : args = #[v0, v1] := by cases args; simp_all
  obtain ⟨rfl, rfl⟩ := trodVars_none hV
  obtain ⟨cs, rfl, hsc⟩ := okWide_struct Try.underlying30 (hval 0 30 v0 rfl rfl)
  obtain ⟨c0, c1, c2, c3, c4, rfl⟩ := array5 (hsc.trans Try.cellsSent)
  have k0 := h0
  have lt0 : ∀ x ∈ p0, x.block < W.heap.size := by obtain ⟨m, hm⟩ := k0; exact DataW.trod_lt m _ _ _ hm
  obtain ⟨a1, len1, cap1, rfl⟩ := okWide_slice Try.underlying31 (hval 1 31 v1 rfl rfl)
  have k1 := h1
  have lt1 : ∀ x ∈ p1, x.block < W.heap.size := by obtain ⟨m, hm⟩ := k1; exact DataW.trod_lt m _ _ _ hm
  have hr : len1 ≤ 17592186043904 := by
    obtain ⟨fuel1, hf1⟩ := h1
    rcases DataW.trod_slice Try.underlying31 hf1 with ⟨hcs, _⟩ | ⟨ad, l, cp, elems, rest, n, _, hcs, hx, _, _, _, hel, _⟩
    · simp [Value.cells] at hcs
      omega
    · simp [Value.cells] at hcs
      obtain ⟨_, rfl, _⟩ := hcs
      have hd : d1 = .slice (elems.map (·.1)) (rest.map (·.1)) := congrArg Prod.fst hx
      have := sized_slice (P := Try.prog) hsz (j := 1) (t := 31) rfl (by rw [hd]; rfl) Try.underlying31
      rw [Try.bytes3] at this
      simp only [List.length_map, hel, reachBytes] at this
      omega
  clear hA0 hval0
  have fin : Calls Try.prog 5 #[.agg #[c0, c1, c2, c3, c4], .slice a1 len1 cap1] W fun e W' => e = .returned (.bool true) ∧ Below W.heap.size W W' := by
    obtain ⟨fuel, hf⟩ := h0
    obtain ⟨s, a, b, t, g, rfl, rfl, rfl, rfl, rfl⟩ := open_sent (by simpa [Value.cells] using hf)
    obtain ⟨fuel1, hf1⟩ := h1
    obtain ⟨zs, hn, hm, hZ⟩ := open_ints (by simpa [Value.cells] using hf1)
    exact macVectors_walk s t g a b a1 len1 cap1 zs hn hr W hZ
  refine fin.mono fun e W' ⟨he, bel⟩ => ?_
  subst he
  exact ⟨_, rfl, _, _, _, [], _, [], hW', trodAll_mk1 (shut_bool Try.underlying4 _), (trodAll_cons_mk (Below.trod Try.laidOut (by kernel_rfl) (of_decide_eq_true (by kernel_rfl)) k0 bel lt0) (trodAll_cons_mk (Below.trod Try.laidOut (by kernel_rfl) (of_decide_eq_true (by kernel_rfl)) k1 bel lt1) trodAll_mk0)), rfl, bel.frame _, fun h => by cases h⟩

theorem macVectors_holds : Rows.MacVectorsSaid :=
  OpenClaim.holds_of_wide 5 Try.f5 rfl rfl rfl rfl rfl rfl rfl ⟨rfl, rfl, rfl, rfl, rfl⟩ rfl rfl rfl rfl rfl (by kernel_rfl) Try.func5 (by kernel_rfl)
    (of_decide_eq_true (by kernel_rfl)) (by unfold Func.isWrapper; first | (rw [if_pos (by decide +kernel)]; kernel_rfl) | (rw [if_neg (by decide +kernel)]; exact ⟨rfl, rfl⟩))
    (fun os started H enc _ => macVectors_lifted os started H enc)
#print axioms macVectors_holds

end Go.Proofs.Ytnlmjclloaholaa
