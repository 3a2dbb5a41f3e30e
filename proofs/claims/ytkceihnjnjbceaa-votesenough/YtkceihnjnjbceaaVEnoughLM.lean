/- VotesEnough is proved: for every configuration, bytes and order, so many votes alike as a quorum settle, and one fewer does not. No condition. -/
import Derived.Test.YtkceihnjnjbceaaVEnoughM
import Derived.Test.YtkceihnjnjbceaaRows
import Derived.ProofKit
import Derived.OpenShut
import Derived.ShutString
import Derived.ChangeOld
import Derived.Deep.Slices

namespace Go.Proofs.Ytkceihnjnjbceaa
open Go.ChangeShapes Go.WideShapes Go.ChangeAt Go.RowKit
open Go.ChangeMaps (open_string shut_string)

theorem Try.own : ownKnob Try.prog.godebug = none := by kernel_rfl
theorem Try.laidOut : laidOutB Try.prog = true := by kernel_rfl

theorem Try.cells22 : Try.prog.cellsOf 22 = 1 := by kernel_rfl
theorem Try.cells3 : Try.prog.cellsOf 3 = 1 := by kernel_rfl
theorem Try.cells24 : Try.prog.cellsOf 24 = 2 := by kernel_rfl
theorem list_of {α : Type} {p : Nat → α → Prop} : ∀ n, (∀ i, i < n → ∃ x, p i x) → ∃ l : List α, l.length = n ∧ ∀ i x, l[i]? = some x → p i x
  | 0, _ => ⟨[], rfl, fun i x h => by simp at h⟩
  | n + 1, h => by
    obtain ⟨l, hl, hp⟩ := list_of n (fun i hi => h i (Nat.lt_succ_of_lt hi))
    obtain ⟨x, hx⟩ := h n (Nat.lt_succ_self n)
    refine ⟨l ++ [x], by simp [hl], fun i y hy => ?_⟩
    by_cases hi : i < l.length
    · rw [List.getElem?_append_left hi] at hy
      exact hp i y hy
    · rw [List.getElem?_append_right (by omega)] at hy
      have h0 : i - l.length = 0 := by
        have := (List.getElem?_eq_some_iff.1 hy).1
        simp at this
        omega
      rw [h0] at hy
      simp at hy
      subst hy
      have : i = n := by omega
      rw [this]
      exact hx
theorem bulk_pos {H : Type} (d : DataW H) : 1 ≤ Rows.uptoBulk d := by
  cases d with
  | lit l => cases l <;> simp [Rows.uptoBulk]
  | _ => simp [Rows.uptoBulk]
theorem bulk_all {H : Type} : ∀ l : List (DataW H), l.length ≤ Rows.uptoBulkAll l
  | [] => Nat.zero_le _
  | d :: r => by
    have h1 := bulk_pos d
    have h2 := bulk_all r
    simp only [Rows.uptoBulkAll, List.length_cons]
    omega
theorem bulk_in {H : Type} : ∀ (l : List (DataW H)) (j : Nat) (d : DataW H), l[j]? = some d → Rows.uptoBulk d ≤ Rows.uptoBulkAll l
  | [], _, _, h => by simp at h
  | d :: r, 0, d', h => by simp at h; subst h; simp only [Rows.uptoBulkAll]; omega
  | d :: r, j + 1, d', h => by
    have := bulk_in r j d' (by simpa using h)
    simp only [Rows.uptoBulkAll]
    omega
theorem bulk_flat {H : Type} {α : Type} : ∀ (ls : List (List α)) (ds : List (DataW H)), ls.length = ds.length → (∀ (i : Nat) (l : List α) (d : DataW H), ls[i]? = some l → ds[i]? = some d → l.length ≤ Rows.uptoBulk d) → ls.flatten.length ≤ Rows.uptoBulkAll ds
  | [], _, _, _ => Nat.zero_le _
  | l :: ls, [], h, _ => by simp at h
  | l :: ls, d :: ds, h, hb => by
    have h1 := hb 0 l d rfl rfl
    have h2 := bulk_flat ls ds (by simpa using h) (fun i l' d' e1 e2 => hb (i + 1) l' d' (by simpa using e1) (by simpa using e2))
    simp only [Rows.uptoBulkAll, List.flatten_cons, List.length_append]
    omega
theorem sized_text {H : Type} {d : DataW H} {f : ByteArray} (hd : d = .lit (.string f.data.toList)) (h : ∀ m ∈ DataW.weights Try.prog 9 d, m ≤ reachBytes) : f.size ≤ 140737488351232 := by
  have h1 := h f.data.toList.length (by rw [hd, DataW.weights]; exact List.mem_singleton.2 rfl)
  have h2 : f.data.toList.length = f.size := by rw [Array.length_toList]; rfl
  rw [h2, reachBytes] at h1
  omega
theorem Try.bytes22 : Try.prog.bytesOf 3 = 8 := by kernel_rfl
set_option maxRecDepth 100000 in
theorem open_ints {H : Type} {enc : TypeId × Value → H} {W : World} {fuel : Nat} {c : Value} {x : DataW H × List MemPlace}
    (h : DataW.trod enc Try.prog W 0 (fun _ => true) true fuel 22 [c] = some x) :
    (∃ (ad : Option Addr) (len cap : Nat) (xs : List Int), c = .slice ad len cap ∧ xs.length = len ∧ len ≤ maxLen ∧ len ≤ cap ∧ cap ≤ maxLen ∧ IntsIn W ad xs ∧ ((∀ m ∈ DataW.weights Try.prog 22 x.1, m ≤ reachBytes) → len * 8 ≤ 140737488351232) ∧ len ≤ Rows.uptoBulk x.1) := by
  rcases Go.Deep.open_slice Try.underlying22 h with ⟨hcs, hx⟩ | ⟨ad, len, cap, m, n, D, Pl, hcs, _, hl, hm, hmm, hx, hel⟩
  · simp at hcs
    subst hx
    exact ⟨none, 0, 0, [], hcs, rfl, Nat.zero_le _, Nat.le_refl _, Nat.zero_le _, .inl rfl, fun _ => Nat.zero_le _, Nat.zero_le _⟩
  · simp at hcs
    simp at hmm
    subst hmm
    have hx1 : x.1 = .slice ((List.range len).map D) ((List.range (m - len)).map fun j => D (len + j)) := by rw [hx]
    have hwt : (∀ q ∈ DataW.weights Try.prog 22 x.1, q ≤ reachBytes) → len * 8 ≤ 140737488351232 := fun hs => by
      have := hs ((len + (m - len)) * Try.prog.bytesOf 3) (by rw [hx1]; simp [DataW.weights, Try.underlying22])
      rw [Try.bytes22, reachBytes] at this
      omega
    have each : ∀ i, i < len → ∃ s : Int, W.cell? (ad.add i) = some (.int .i64 s) := by
      intro i hi
      obtain ⟨cs', h1, h2⟩ := hel i (by omega)
      rw [Try.cells3, Nat.mul_one] at h1
      obtain ⟨_, hlen, hcell⟩ := World.cells?_some h1
      obtain ⟨s, e3, _, _⟩ := DataW.trod_int Try.underlying3 h2
      subst e3
      have c0 := hcell 0 (by simp)
      rw [Go.Deep.add_add] at c0
      exact ⟨s, by simpa using c0⟩
    obtain ⟨ss, hil, hip⟩ := list_of len each
    refine ⟨some ad, len, _, ss, hcs, hil, by omega, hl, hm, ?_, hwt, by
      rw [hx1]
      have := bulk_all ((List.range len).map D)
      rw [List.length_map, List.length_range] at this
      simp only [Rows.uptoBulk]
      omega⟩
    by_cases h0 : len = 0
    · left
      exact List.eq_nil_of_length_eq_zero (by omega)
    · right
      obtain ⟨b, off, spot⟩ := ad
      obtain ⟨s0, hs0⟩ : ∃ s, ss[0]? = some s := ⟨ss[0]'(by omega), List.getElem?_eq_getElem _⟩
      have hspot : spot = none := by
        have hc := hip 0 s0 hs0
        simpa [Addr.add] using World.cell?_spot hc
      subst hspot
      have hcellp : ∀ j s, ss[j]? = some s → W.cell? ⟨b, off + j, none⟩ = some (.int .i64 s) := fun j s hj => by
        have := hip j s hj
        rwa [Addr.add_lit] at this
      exact ⟨b, off, rfl, World.block_lt_of_cell? W _ (hcellp 0 s0 hs0), hcellp⟩
theorem open_witanapiConf {H : Type} {enc : TypeId × Value → H} {W : World} {fuel : Nat} {c0 c1 : Value} {x : DataW H × List MemPlace}
    (h : DataW.trod enc Try.prog W 0 (fun _ => true) true fuel 24 [c0, c1] = some x) :
    ((∃ d0 : DataW H, Rows.uptoBulk d0 ≤ Rows.uptoBulk x.1 ∧ ((∀ m ∈ DataW.weights Try.prog 24 x.1, m ≤ reachBytes) → ∀ m ∈ DataW.weights Try.prog 3 d0, m ≤ reachBytes) ∧ (∃ f : Int, c0 = .int .i64 f)) ∧ (∃ d0 : DataW H, Rows.uptoBulk d0 ≤ Rows.uptoBulk x.1 ∧ ((∀ m ∈ DataW.weights Try.prog 24 x.1, m ≤ reachBytes) → ∀ m ∈ DataW.weights Try.prog 22 d0, m ≤ reachBytes) ∧ (∃ (ad : Option Addr) (len cap : Nat) (xs : List Int), c1 = .slice ad len cap ∧ xs.length = len ∧ len ≤ maxLen ∧ len ≤ cap ∧ cap ≤ maxLen ∧ IntsIn W ad xs ∧ ((∀ m ∈ DataW.weights Try.prog 22 d0, m ≤ reachBytes) → len * 8 ≤ 140737488351232) ∧ len ≤ Rows.uptoBulk d0))) := by
  obtain ⟨xs, n, _, rfl, hl, hlen, hf⟩ := DataW.trod_struct Try.underlying24 h
  have hg : ∀ i, i < 2 → ∃ y, xs[i]? = some y := fun i hi => ⟨_, List.getElem?_eq_getElem (by rw [hlen]; exact hi)⟩
  obtain ⟨y0, e0⟩ := hg 0 (by decide)
  have g0 := hf 0 _ rfl
  rw [e0] at g0
  have b0 : Rows.uptoBulk y0.1 ≤ Rows.uptoBulk (.agg (xs.map (·.1)) : DataW H) := by
    have := bulk_in (xs.map (·.1)) 0 y0.1 (by rw [List.getElem?_map, e0]; rfl)
    simp only [Rows.uptoBulk]
    omega
  have w0 : (∀ m ∈ DataW.weights Try.prog 24 (.agg (xs.map (·.1)) : DataW H), m ≤ reachBytes) → ∀ m ∈ DataW.weights Try.prog 3 y0.1, m ≤ reachBytes := fun hs m hm => hs m (by
    simp only [DataW.weights, Try.underlying24]
    exact DataW.weights_mem_each (j := 0) (t := 3) (d := y0.1) rfl (by rw [List.getElem?_map, e0]; rfl) _ hm)
  obtain ⟨f0, z0, _, q0⟩ := DataW.trod_int Try.underlying3 g0
  simp [Try.cells3] at z0
  obtain ⟨y1, e1⟩ := hg 1 (by decide)
  have g1 := hf 1 _ rfl
  rw [e1] at g1
  have b1 : Rows.uptoBulk y1.1 ≤ Rows.uptoBulk (.agg (xs.map (·.1)) : DataW H) := by
    have := bulk_in (xs.map (·.1)) 1 y1.1 (by rw [List.getElem?_map, e1]; rfl)
    simp only [Rows.uptoBulk]
    omega
  have w1 : (∀ m ∈ DataW.weights Try.prog 24 (.agg (xs.map (·.1)) : DataW H), m ≤ reachBytes) → ∀ m ∈ DataW.weights Try.prog 22 y1.1, m ≤ reachBytes := fun hs m hm => hs m (by
    simp only [DataW.weights, Try.underlying24]
    exact DataW.weights_mem_each (j := 1) (t := 22) (d := y1.1) rfl (by rw [List.getElem?_map, e1]; rfl) _ hm)
  exact ⟨⟨y0.1, b0, w0, f0, z0⟩, ⟨y1.1, b1, w1, open_ints (by simpa [Try.cells3, Try.cells22] using g1)⟩⟩
theorem array2 {α : Type} {cs : Array α} (h : cs.size = 2) : ∃ c0 c1, cs = #[c0, c1] := by
  obtain ⟨l⟩ := cs
  match l, h with
  | [c0, c1], _ => exact ⟨c0, c1, rfl⟩

set_option maxRecDepth 100000 in
theorem votesEnough_contract (H : Type) (enc : TypeId × Value → H) (W : World) (base : Nat) (args : Array Value) (ds gs : List (DataW H)) (before : List MemPlace)
    (hval : ∀ (j : Nat) t v, Try.f7.params[j]? = some t → args[j]? = some v → Value.okWide Try.prog W .any base t v)
    (hW : DataW.Whole enc Try.prog Try.f7.params.toList Rows.votesEnoughSpec.vars false W args.toList ds gs before) (hsz : (DataW.weightsEach Try.prog (Try.f7.params.toList ++ Rows.votesEnoughSpec.plain.varTypes Try.prog) (ds ++ gs)).all (· ≤ reachBytes) = true) :
    Calls Try.prog 7 args W fun e W' => ∃ v, e = .returned v ∧ Rows.votesEnoughSpec.post enc Try.prog Try.f7 false true false false W args v W' := by
  have hW' := hW
  obtain ⟨p, q, hA0, hV, rfl, hfz, hnd⟩ := hW
  have hA : DataW.TrodAll enc Try.prog W 0 (fun _ => true) true Try.f7.params.toList args.toList ds p := hA0
  rw [Try.params7] at hA hval hsz
  obtain ⟨v0, vs0, d0, ds0, p0, q0, hargs, rfl, rfl, h0, r0⟩ := trodAll_cons hA
  obtain ⟨v1, vs1, d1, ds1, p1, q1, rfl, rfl, rfl, h1, r1⟩ := trodAll_cons r0
  obtain ⟨v2, vs2, d2, ds2, p2, q2, rfl, rfl, rfl, h2, r2⟩ := trodAll_cons r1
  obtain ⟨rfl, rfl, rfl⟩ := trodAll_nil r2
  obtain rfl : args = #[v0, v1, v2] := by cases args; simp_all
  obtain ⟨rfl, rfl⟩ := trodVars_none hV
  have hw0 : ∀ m ∈ d0.weights Try.prog 24, m ≤ reachBytes := fun m hm => by
    have := List.all_eq_true.1 hsz m (DataW.weights_mem_each (j := 0) (t := 24) (d := d0) rfl rfl m hm)
    simpa using this
  have hw1 : ∀ m ∈ d1.weights Try.prog 9, m ≤ reachBytes := fun m hm => by
    have := List.all_eq_true.1 hsz m (DataW.weights_mem_each (j := 1) (t := 9) (d := d1) rfl rfl m hm)
    simpa using this
  have hw2 : ∀ m ∈ d2.weights Try.prog 22, m ≤ reachBytes := fun m hm => by
    have := List.all_eq_true.1 hsz m (DataW.weights_mem_each (j := 2) (t := 22) (d := d2) rfl rfl m hm)
    simpa using this
  obtain ⟨cs0, rfl, hsc0⟩ := okWide_struct Try.underlying24 (hval 0 24 v0 rfl rfl)
  obtain ⟨c0_0, c0_1, rfl⟩ := array2 (hsc0.trans Try.cells24)
  have k0 := h0
  have lt0 : ∀ x ∈ p0, x.block < W.heap.size := by obtain ⟨m, hm⟩ := k0; exact DataW.trod_lt m _ _ _ hm
  obtain ⟨f1, rfl, rfl, rfl, wf1⟩ := open_string Try.underlying9 (hval 1 9 v1 rfl rfl) h1
  have hr1 := sized_text rfl hw1
  obtain ⟨ad2, len2, cap2, rfl⟩ := okWide_slice Try.underlying22 (hval 2 22 v2 rfl rfl)
  have k2 := h2
  have lt2 : ∀ x ∈ p2, x.block < W.heap.size := by obtain ⟨m, hm⟩ := k2; exact DataW.trod_lt m _ _ _ hm
  clear hA0
  have fin : Calls Try.prog 7 #[.agg #[c0_0, c0_1], .string f1, .slice ad2 len2 cap2] W fun e W' => e = .returned (.bool true) ∧ Below W.heap.size W W' := by
    obtain ⟨fuel0, hf0⟩ := h0
    obtain ⟨⟨d0_0, hbb0_0, hww0_0, f0_0, rfl⟩, ⟨d0_1, hbb0_1, hww0_1, ad0_1, len0_1, cap0_1, xs0_1, rfl, hn0_1, hm0_1, hk0_1, hc0_1, hS0_1, hsw0_1, hbu0_1⟩⟩ := open_witanapiConf (by simpa [Value.cells] using hf0)
    have hr0_1 := hsw0_1 (hww0_1 hw0)
    obtain ⟨fuel2, hf2⟩ := h2
    obtain ⟨ad2, len2, cap2, xs2, he2, hn2, hm2, hk2, hc2, hS2, hsw2, hbu2⟩ := open_ints (by simpa [Value.cells] using hf2)
    rw [he2]
    have hr2 := hsw2 hw2
    exact votesEnough_walk f0_0 ad0_1 len0_1 cap0_1 xs0_1 hn0_1 hm0_1 f1 (by omega) ad2 len2 cap2 xs2 hn2 hm2 W hS0_1 hS2
  refine fin.mono fun e W' ⟨he, bel⟩ => ?_
  subst he
  exact ⟨_, rfl, _, _, _, [], _, [], hW', trodAll_mk1 (shut_bool Try.underlying4 _), (trodAll_cons_mk (Below.trod Try.laidOut (by kernel_rfl) (of_decide_eq_true (by kernel_rfl)) k0 bel lt0) (trodAll_cons_mk (shut_string Try.underlying9 wf1) (trodAll_cons_mk (Below.trod Try.laidOut (by kernel_rfl) (of_decide_eq_true (by kernel_rfl)) k2 bel lt2) trodAll_mk0))), rfl, bel.frame _, fun h => by cases h⟩

set_option maxRecDepth 100000 in
theorem votesEnough_lifted (os : Os) (started : os.Started) (H : Type) (enc : TypeId × Value → H) :
    ReturnsInHanded {} Try.checked os 7 .any (Rows.votesEnoughSpec.pre6 enc Try.prog Try.f7 Rows.votesEnoughRow.domain false) (Rows.votesEnoughSpec.post enc Try.prog Try.f7 false true false false) := by
  refine returnsInHanded_of_change_sized (C := Try.checked) Try.own started (by kernel_rfl) Try.func7
    (ChangeSpec.witness6 (enc := enc) (C := Try.checked) false ⟨#[], #[.agg #[.int .i64 0, .slice none 0 0], .string ByteArray.empty, .slice none 0 0], []⟩ 8 (by kernel_rfl) (by kernel_rfl) (by kernel_rfl) (by kernel_rfl)) ?_
  intro W base args ds gs before hval hW _ hsz _
  exact votesEnough_contract H enc W base args ds gs before hval hW hsz

theorem votesEnough_holds : Rows.VotesEnoughSaid :=
  OpenClaim.holds_of_wide 7 Try.f7 rfl rfl rfl rfl rfl rfl rfl ⟨rfl, rfl, rfl, rfl, rfl⟩ rfl rfl rfl rfl rfl (by kernel_rfl) Try.func7 (by kernel_rfl)
    (of_decide_eq_true (by kernel_rfl)) (by unfold Func.isWrapper; first | (rw [if_pos (by decide +kernel)]; kernel_rfl) | (rw [if_neg (by decide +kernel)]; exact ⟨rfl, rfl⟩))
    (fun os started H enc _ => votesEnough_lifted os started H enc)
#print axioms votesEnough_holds

end Go.Proofs.Ytkceihnjnjbceaa
