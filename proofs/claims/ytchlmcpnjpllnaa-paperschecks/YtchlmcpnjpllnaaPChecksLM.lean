/- PapersChecks is proved: for every paper and every bytes, Check answers as the reference does. No condition. -/
import Derived.Test.YtchlmcpnjpllnaaPChecksM
import Derived.Test.YtchlmcpnjpllnaaRows
import Derived.ProofKit
import Derived.OpenShut
import Derived.ShutString
import Derived.ChangeOld
import Derived.Deep.Slices
namespace Go.Proofs.Ytchlmcpnjpllnaa
open Go.ChangeShapes Go.WideShapes Go.ChangeAt Go.RowKit
open Go.ChangeMaps (open_string shut_string)

theorem Try.own : ownKnob Try.prog.godebug = none := by kernel_rfl
theorem Try.laidOut : laidOutB Try.prog = true := by kernel_rfl

theorem Try.cells22 : Try.prog.cellsOf 22 = 1 := by kernel_rfl
theorem Try.cells3 : Try.prog.cellsOf 3 = 1 := by kernel_rfl
theorem Try.cells9 : Try.prog.cellsOf 9 = 1 := by kernel_rfl
theorem list_of {α : Type} {p : Nat → α → Prop} : ∀ n, (∀ i, i < n → ∃ x, p i x) → ∃ l : List α, l.length = n ∧ ∀ i x, l[i]? = some x → p i x
  | 0, _ => ⟨[], rfl, fun i x h => by simp at h⟩
  | n + 1, h => by
    obtain ⟨l, hl, hp⟩ := list_of n (fun i hi => h i (Nat.lt_succ_of_lt hi))
    obtain ⟨x, hx⟩ := h n (Nat.lt_succ_self n)
    refine ⟨l ++ [x], by simp [hl], fun i y hy => ?_⟩
    by_cases hi : i < l.length
    · rw [List.getElem?_append_left hi] at hy
      exact hp i y hy
    · rw [List.getElem?_append_right (by omega)] at hy
      have h0 : i - l.length = 0 := by
        have := (List.getElem?_eq_some_iff.1 hy).1
        simp at this
        omega
      rw [h0] at hy
      simp at hy
      subst hy
      have : i = n := by omega
      rw [this]
      exact hx
theorem Try.cells44 : Try.prog.cellsOf 44 = 2 := by kernel_rfl
set_option maxRecDepth 100000 in
/-- A list of pairs, opened. -/
theorem open_seats {H : Type} {enc : TypeId × Value → H} {W : World} {fuel : Nat} {c : Value} {x : DataW H × List MemPlace}
    (h : DataW.trod enc Try.prog W 0 (fun _ => true) true fuel 22 [c] = some x) :
    ∃ (a : Option Addr) (len cap : Nat) (ss : List (Int × ByteArray)), c = .slice a len cap ∧ ss.length = len ∧ len ≤ maxLen ∧ PairsIn W a ss ∧ ∀ p, p ∈ ss → p.2.size ≤ maxLen := by
  rcases Go.Deep.open_slice Try.underlying22 h with ⟨hcs, _⟩ | ⟨ad, len, cap, m, n, D, Pl, hcs, _, hl, hm, hmm, hx, hel⟩
  · simp at hcs
    exact ⟨none, 0, 0, [], hcs, rfl, Nat.zero_le _, .inl rfl, fun p hp => by simp at hp⟩
  · simp at hcs
    simp at hmm
    subst hmm
    rw [Try.cells44] at hel
    have each : ∀ i, i < len → ∃ p : Int × ByteArray, (W.cell? (ad.add (i * 2)) = some (.int .i64 p.1) ∧ W.cell? (ad.add (i * 2 + 1)) = some (.string p.2)) ∧ p.2.size ≤ maxLen := by
      intro i hi
      obtain ⟨cs', h1, h2⟩ := hel i (by omega)
      obtain ⟨_, hlen, hcell⟩ := World.cells?_some h1
      obtain ⟨xs, n2, _, hx2, hl2, hxl, hf⟩ := DataW.trod_struct Try.underlying44 h2
      match cs', hlen, xs, hxl with
      | [v0, v1], _, [y0, y1], _ =>
        have g0 := hf 0 _ rfl
        have g1 := hf 1 _ rfl
        simp [Try.cells3, Try.cells9] at g0 g1
        obtain ⟨k, e0, _, _⟩ := DataW.trod_int Try.underlying3 g0
        obtain ⟨s, e1, _, hz⟩ := DataW.trod_string Try.underlying9 g1
        simp at e0 e1
        subst e0 e1
        have c0 := hcell 0 (by simp)
        have c1 := hcell 1 (by simp)
        rw [Go.Deep.add_add] at c0 c1
        exact ⟨(k, s), ⟨by simpa using c0, by simpa using c1⟩, hz⟩
    obtain ⟨ss, hil, hip⟩ := list_of len each
    refine ⟨some ad, len, _, ss, hcs, hil, by omega, ?_, fun p hp => by obtain ⟨i, hi, rfl⟩ := List.getElem_of_mem hp; exact (hip i _ (List.getElem?_eq_getElem hi)).2⟩
    by_cases h0 : len = 0
    · left
      exact List.eq_nil_of_length_eq_zero (by omega)
    · right
      obtain ⟨b, off, spot⟩ := ad
      obtain ⟨s0, hs0⟩ : ∃ s, ss[0]? = some s := ⟨ss[0]'(by omega), List.getElem?_eq_getElem _⟩
      have hspot : spot = none := by
        have hc := (hip 0 s0 hs0).1.1
        simpa [Addr.add] using World.cell?_spot hc
      subst hspot
      have hcellp : ∀ j s, ss[j]? = some s → W.cell? ⟨b, off + j * 2, none⟩ = some (.int .i64 s.1) ∧ W.cell? ⟨b, off + j * 2 + 1, none⟩ = some (.string s.2) := fun j s hj => by
        have := (hip j s hj).1
        rw [Addr.add_lit, Addr.add_lit] at this
        exact ⟨this.1, by rw [Nat.add_assoc]; exact this.2⟩
      exact ⟨b, off, rfl, World.block_lt_of_cell? W _ (hcellp 0 s0 hs0).1, hcellp⟩
theorem array2 {α : Type} {cs : Array α} (h : cs.size = 2) : ∃ c0 c1, cs = #[c0, c1] := by
  obtain ⟨l⟩ := cs
  match l, h with
  | [c0, c1], _ => exact ⟨c0, c1, rfl⟩
theorem Try.cellsOf0 : Try.prog.cellsOf 24 = 2 := by kernel_rfl
/-- A Paper, opened. -/
theorem open_struct0 {H : Type} {enc : TypeId × Value → H} {W : World} {fuel : Nat} {c0 c1 : Value} {x : DataW H × List MemPlace}
    (h : DataW.trod enc Try.prog W 0 (fun _ => true) true fuel 24 [c0, c1] = some x) :
    (∃ f : Int, c0 = .int .i64 f) ∧ (∃ (ad : Option Addr) (len cap : Nat) (xs : List (Int × ByteArray)), c1 = .slice ad len cap ∧ xs.length = len ∧ len ≤ maxLen ∧ PairsIn W ad xs ∧ ∀ s, s ∈ xs → s.2.size ≤ maxLen) := by
  obtain ⟨xs, n, _, rfl, hl, hlen, hf⟩ := DataW.trod_struct Try.underlying24 h
  have hg : ∀ i, i < 2 → ∃ y, xs[i]? = some y := fun i hi => ⟨_, List.getElem?_eq_getElem (by rw [hlen]; exact hi)⟩
  obtain ⟨y0, e0⟩ := hg 0 (by decide)
  have g0 := hf 0 _ rfl
  rw [e0] at g0
  obtain ⟨f0, z0, _, q0⟩ := DataW.trod_int Try.underlying3 g0
  simp [Try.cells3] at z0
  obtain ⟨y1, e1⟩ := hg 1 (by decide)
  have g1 := hf 1 _ rfl
  rw [e1] at g1
  exact ⟨⟨f0, z0⟩, open_seats (by simpa [Try.cells3, Try.cells22] using g1)⟩

set_option maxRecDepth 100000 in
theorem papersChecks_lifted (os : Os) (started : os.Started) (H : Type) (enc : TypeId × Value → H) :
    ReturnsInHanded {} Try.checked os 5 .any (Rows.papersChecksSpec.pre6 enc Try.prog Try.f5 Rows.papersChecksRow.domain false) (Rows.papersChecksSpec.post enc Try.prog Try.f5 false true false false) := by
  refine returnsInHanded_of_change (C := Try.checked) Try.own started (by kernel_rfl) Try.func5
    (ChangeSpec.witness6 (enc := enc) (C := Try.checked) false ⟨#[], #[.agg #[.int .i64 0, .slice none 0 0], .string ByteArray.empty], []⟩ 8 (by kernel_rfl) (by kernel_rfl) (by kernel_rfl) (by kernel_rfl)) ?_
  intro W base args ds gs before hval0 hW hcnd _
  have hval : ∀ (j : Nat) t v, Try.f5.params[j]? = some t → args[j]? = some v → Value.okWide Try.prog W .any base t v := hval0
  have hW' := hW
  obtain ⟨p, q, hA0, hV, rfl, hfz, hnd⟩ := hW
  have hA : DataW.TrodAll enc Try.prog W 0 (fun _ => true) true Try.f5.params.toList args.toList ds p := hA0
  rw [Try.params5] at hA hval
  obtain ⟨v0, vs0, d0, ds0, p0, q0, hargs, rfl, rfl, h0, r0⟩ := trodAll_cons hA
  obtain ⟨v1, vs1, d1, ds1, p1, q1, rfl, rfl, rfl, h1, r1⟩ := trodAll_cons r0
  obtain ⟨rfl, rfl, rfl⟩ := trodAll_nil r1
  obtain rfl : args = #[v0, v1] := by cases args; simp_all
  obtain ⟨rfl, rfl⟩ := trodVars_none hV
  obtain ⟨cs0, rfl, hsc0⟩ := okWide_struct Try.underlying24 (hval 0 24 v0 rfl rfl)
  obtain ⟨c0_0, c0_1, rfl⟩ := array2 (hsc0.trans Try.cellsOf0)
  have k0 := h0
  have lt0 : ∀ x ∈ p0, x.block < W.heap.size := by obtain ⟨m, hm⟩ := k0; exact DataW.trod_lt m _ _ _ hm
  obtain ⟨a1, rfl, rfl, rfl, wf1⟩ := open_string Try.underlying9 (hval 1 9 v1 rfl rfl) h1
  clear hA0 hval0
  have fin : Calls Try.prog 5 #[.agg #[c0_0, c0_1], .string a1] W fun e W' => e = .returned (.bool true) ∧ Below W.heap.size W W' := by
    obtain ⟨fuel0, hf0⟩ := h0
    obtain ⟨⟨f0_0, rfl⟩, ⟨ad0_1, len0_1, cap0_1, xs0_1, rfl, hn0_1, hm0_1, hS0_1, hz0_1⟩⟩ := open_struct0 (by simpa [Value.cells] using hf0)
    exact papersChecks_walk f0_0 ad0_1 len0_1 cap0_1 xs0_1 hn0_1 hm0_1 a1 wf1 W hS0_1
  refine fin.mono fun e W' ⟨he, bel⟩ => ?_
  subst he
  exact ⟨_, rfl, _, _, _, [], _, [], hW', trodAll_mk1 (shut_bool Try.underlying4 _), (trodAll_cons_mk (Below.trod Try.laidOut (by kernel_rfl) (of_decide_eq_true (by kernel_rfl)) k0 bel lt0) (trodAll_cons_mk (shut_string Try.underlying9 wf1) trodAll_mk0)), rfl, bel.frame _, fun h => by cases h⟩

theorem papersChecks_holds : Rows.PapersChecksSaid :=
  OpenClaim.holds_of_wide 5 Try.f5 rfl rfl rfl rfl rfl rfl rfl ⟨rfl, rfl, rfl, rfl, rfl⟩ rfl rfl rfl rfl rfl (by kernel_rfl) Try.func5 (by kernel_rfl)
    (of_decide_eq_true (by kernel_rfl)) (by unfold Func.isWrapper; first | (rw [if_pos (by decide +kernel)]; kernel_rfl) | (rw [if_neg (by decide +kernel)]; exact ⟨rfl, rfl⟩))
    (fun os started H enc _ => papersChecks_lifted os started H enc)
#print axioms papersChecks_holds

end Go.Proofs.Ytchlmcpnjpllnaa
