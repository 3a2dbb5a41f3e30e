/- DeedsApart is proved: what is prepared elsewhere, or is another request, has another text, and is no state's, configuration's or request's. No condition. -/
import Derived.Test.YtpgfdnmlkaoigabDApartM
import Derived.Test.YtpgfdnmlkaoigabRows
import Derived.ProofKit
import Derived.OpenShut
import Derived.ShutString
import Derived.ChangeOld
import Derived.Deep.Slices

namespace Go.Proofs.Ytpgfdnmlkaoigab
open Go.ChangeShapes Go.WideShapes Go.ChangeAt Go.RowKit
open Go.ChangeMaps (open_string shut_string)

theorem Try.own : ownKnob Try.prog.godebug = none := by kernel_rfl
theorem Try.laidOut : laidOutB Try.prog = true := by kernel_rfl

theorem Try.cells29 : Try.prog.cellsOf 29 = 1 := by kernel_rfl
theorem Try.cells3 : Try.prog.cellsOf 3 = 1 := by kernel_rfl
theorem Try.cells9 : Try.prog.cellsOf 9 = 1 := by kernel_rfl
theorem Try.cells24 : Try.prog.cellsOf 24 = 1 := by kernel_rfl
theorem Try.cells31 : Try.prog.cellsOf 31 = 2 := by kernel_rfl
theorem Try.cells26 : Try.prog.cellsOf 26 = 6 := by kernel_rfl
theorem Try.cells28 : Try.prog.cellsOf 28 = 9 := by kernel_rfl
theorem Try.cells23 : Try.prog.cellsOf 23 = 3 := by kernel_rfl
theorem list_of {α : Type} {p : Nat → α → Prop} : ∀ n, (∀ i, i < n → ∃ x, p i x) → ∃ l : List α, l.length = n ∧ ∀ i x, l[i]? = some x → p i x
  | 0, _ => ⟨[], rfl, fun i x h => by simp at h⟩
  | n + 1, h => by
    obtain ⟨l, hl, hp⟩ := list_of n (fun i hi => h i (Nat.lt_succ_of_lt hi))
    obtain ⟨x, hx⟩ := h n (Nat.lt_succ_self n)
    refine ⟨l ++ [x], by simp [hl], fun i y hy => ?_⟩
    by_cases hi : i < l.length
    · rw [List.getElem?_append_left hi] at hy
      exact hp i y hy
    · rw [List.getElem?_append_right (by omega)] at hy
      have h0 : i - l.length = 0 := by
        have := (List.getElem?_eq_some_iff.1 hy).1
        simp at this
        omega
      rw [h0] at hy
      simp at hy
      subst hy
      have : i = n := by omega
      rw [this]
      exact hx
theorem bulk_pos {H : Type} (d : DataW H) : 1 ≤ Rows.uptoBulk d := by
  cases d with
  | lit l => cases l <;> simp [Rows.uptoBulk]
  | _ => simp [Rows.uptoBulk]
theorem bulk_all {H : Type} : ∀ l : List (DataW H), l.length ≤ Rows.uptoBulkAll l
  | [] => Nat.zero_le _
  | d :: r => by
    have h1 := bulk_pos d
    have h2 := bulk_all r
    simp only [Rows.uptoBulkAll, List.length_cons]
    omega
theorem bulk_in {H : Type} : ∀ (l : List (DataW H)) (j : Nat) (d : DataW H), l[j]? = some d → Rows.uptoBulk d ≤ Rows.uptoBulkAll l
  | [], _, _, h => by simp at h
  | d :: r, 0, d', h => by simp at h; subst h; simp only [Rows.uptoBulkAll]; omega
  | d :: r, j + 1, d', h => by
    have := bulk_in r j d' (by simpa using h)
    simp only [Rows.uptoBulkAll]
    omega
theorem bulk_flat {H : Type} {α : Type} : ∀ (ls : List (List α)) (ds : List (DataW H)), ls.length = ds.length → (∀ (i : Nat) (l : List α) (d : DataW H), ls[i]? = some l → ds[i]? = some d → l.length ≤ Rows.uptoBulk d) → ls.flatten.length ≤ Rows.uptoBulkAll ds
  | [], _, _, _ => Nat.zero_le _
  | l :: ls, [], h, _ => by simp at h
  | l :: ls, d :: ds, h, hb => by
    have h1 := hb 0 l d rfl rfl
    have h2 := bulk_flat ls ds (by simpa using h) (fun i l' d' e1 e2 => hb (i + 1) l' d' (by simpa using e1) (by simpa using e2))
    simp only [Rows.uptoBulkAll, List.flatten_cons, List.length_append]
    omega
theorem sized_text {H : Type} {d : DataW H} {f : ByteArray} (hd : d = .lit (.string f.data.toList)) (h : ∀ m ∈ DataW.weights Try.prog 9 d, m ≤ reachBytes) : f.size ≤ 140737488351232 := by
  have h1 := h f.data.toList.length (by rw [hd, DataW.weights]; exact List.mem_singleton.2 rfl)
  have h2 : f.data.toList.length = f.size := by rw [Array.length_toList]; rfl
  rw [h2, reachBytes] at h1
  omega
theorem u64_natD {a : Int} (h : (Lit.int .u64 a).wf = true) : ∃ n : Nat, a = (n : Int) ∧ n < 18446744073709551616 := by
  have : 0 ≤ a ∧ a ≤ 18446744073709551615 := by simpa [Lit.wf, IntKind.min, IntKind.max, IntKind.bits, IntKind.signed] using h
  exact ⟨a.toNat, by omega, by omega⟩
theorem Try.bytes29 : Try.prog.bytesOf 3 = 8 := by kernel_rfl
set_option maxRecDepth 100000 in
theorem open_ints {H : Type} {enc : TypeId × Value → H} {W : World} {fuel : Nat} {c : Value} {x : DataW H × List MemPlace}
    (h : DataW.trod enc Try.prog W 0 (fun _ => true) true fuel 29 [c] = some x) :
    (∃ (ad : Option Addr) (len cap : Nat) (xs : List Int), c = .slice ad len cap ∧ xs.length = len ∧ len ≤ maxLen ∧ len ≤ cap ∧ cap ≤ maxLen ∧ IntsIn W ad xs ∧ ((∀ m ∈ DataW.weights Try.prog 29 x.1, m ≤ reachBytes) → len * 8 ≤ 140737488351232) ∧ len ≤ Rows.uptoBulk x.1) := by
  rcases Go.Deep.open_slice Try.underlying29 h with ⟨hcs, hx⟩ | ⟨ad, len, cap, m, n, D, Pl, hcs, _, hl, hm, hmm, hx, hel⟩
  · simp at hcs
    subst hx
    exact ⟨none, 0, 0, [], hcs, rfl, Nat.zero_le _, Nat.le_refl _, Nat.zero_le _, .inl rfl, fun _ => Nat.zero_le _, Nat.zero_le _⟩
  · simp at hcs
    simp at hmm
    subst hmm
    have hx1 : x.1 = .slice ((List.range len).map D) ((List.range (m - len)).map fun j => D (len + j)) := by rw [hx]
    have hwt : (∀ q ∈ DataW.weights Try.prog 29 x.1, q ≤ reachBytes) → len * 8 ≤ 140737488351232 := fun hs => by
      have := hs ((len + (m - len)) * Try.prog.bytesOf 3) (by rw [hx1]; simp [DataW.weights, Try.underlying29])
      rw [Try.bytes29, reachBytes] at this
      omega
    have each : ∀ i, i < len → ∃ s : Int, W.cell? (ad.add i) = some (.int .i64 s) := by
      intro i hi
      obtain ⟨cs', h1, h2⟩ := hel i (by omega)
      rw [Try.cells3, Nat.mul_one] at h1
      obtain ⟨_, hlen, hcell⟩ := World.cells?_some h1
      obtain ⟨s, e3, _, _⟩ := DataW.trod_int Try.underlying3 h2
      subst e3
      have c0 := hcell 0 (by simp)
      rw [Go.Deep.add_add] at c0
      exact ⟨s, by simpa using c0⟩
    obtain ⟨ss, hil, hip⟩ := list_of len each
    refine ⟨some ad, len, _, ss, hcs, hil, by omega, hl, hm, ?_, hwt, by
      rw [hx1]
      have := bulk_all ((List.range len).map D)
      rw [List.length_map, List.length_range] at this
      simp only [Rows.uptoBulk]
      omega⟩
    by_cases h0 : len = 0
    · left
      exact List.eq_nil_of_length_eq_zero (by omega)
    · right
      obtain ⟨b, off, spot⟩ := ad
      obtain ⟨s0, hs0⟩ : ∃ s, ss[0]? = some s := ⟨ss[0]'(by omega), List.getElem?_eq_getElem _⟩
      have hspot : spot = none := by
        have hc := hip 0 s0 hs0
        simpa [Addr.add] using World.cell?_spot hc
      subst hspot
      have hcellp : ∀ j s, ss[j]? = some s → W.cell? ⟨b, off + j, none⟩ = some (.int .i64 s) := fun j s hj => by
        have := hip j s hj
        rwa [Addr.add_lit] at this
      exact ⟨b, off, rfl, World.block_lt_of_cell? W _ (hcellp 0 s0 hs0), hcellp⟩
theorem open_witanwitanlaw11Spot {H : Type} {enc : TypeId × Value → H} {W : World} {fuel : Nat} {c0 c1 c2 : Value} {x : DataW H × List MemPlace}
    (h : DataW.trod enc Try.prog W 0 (fun _ => true) true fuel 23 [c0, c1, c2] = some x) :
    ((∃ d0 : DataW H, Rows.uptoBulk d0 ≤ Rows.uptoBulk x.1 ∧ ((∀ m ∈ DataW.weights Try.prog 23 x.1, m ≤ reachBytes) → ∀ m ∈ DataW.weights Try.prog 3 d0, m ≤ reachBytes) ∧ (∃ f : Int, c0 = .int .i64 f ∧ (-9223372036854775808 ≤ f ∧ f ≤ 9223372036854775807))) ∧ (∃ d0 : DataW H, Rows.uptoBulk d0 ≤ Rows.uptoBulk x.1 ∧ ((∀ m ∈ DataW.weights Try.prog 23 x.1, m ≤ reachBytes) → ∀ m ∈ DataW.weights Try.prog 3 d0, m ≤ reachBytes) ∧ (∃ f : Int, c1 = .int .i64 f ∧ (-9223372036854775808 ≤ f ∧ f ≤ 9223372036854775807))) ∧ (∃ d0 : DataW H, Rows.uptoBulk d0 ≤ Rows.uptoBulk x.1 ∧ ((∀ m ∈ DataW.weights Try.prog 23 x.1, m ≤ reachBytes) → ∀ m ∈ DataW.weights Try.prog 3 d0, m ≤ reachBytes) ∧ (∃ f : Int, c2 = .int .i64 f ∧ (-9223372036854775808 ≤ f ∧ f ≤ 9223372036854775807)))) := by
  obtain ⟨xs, n, _, rfl, hl, hlen, hf⟩ := DataW.trod_struct Try.underlying23 h
  have hg : ∀ i, i < 3 → ∃ y, xs[i]? = some y := fun i hi => ⟨_, List.getElem?_eq_getElem (by rw [hlen]; exact hi)⟩
  obtain ⟨y0, e0⟩ := hg 0 (by decide)
  have g0 := hf 0 _ rfl
  rw [e0] at g0
  have b0 : Rows.uptoBulk y0.1 ≤ Rows.uptoBulk (.agg (xs.map (·.1)) : DataW H) := by
    have := bulk_in (xs.map (·.1)) 0 y0.1 (by rw [List.getElem?_map, e0]; rfl)
    simp only [Rows.uptoBulk]
    omega
  have w0 : (∀ m ∈ DataW.weights Try.prog 23 (.agg (xs.map (·.1)) : DataW H), m ≤ reachBytes) → ∀ m ∈ DataW.weights Try.prog 3 y0.1, m ≤ reachBytes := fun hs m hm => hs m (by
    simp only [DataW.weights, Try.underlying23]
    exact DataW.weights_mem_each (j := 0) (t := 3) (d := y0.1) rfl (by rw [List.getElem?_map, e0]; rfl) _ hm)
  obtain ⟨f0, z0, _, v0⟩ := DataW.trod_int Try.underlying3 g0
  simp [Try.cells3] at z0
  have q0 : -9223372036854775808 ≤ f0 ∧ f0 ≤ 9223372036854775807 := by simpa [Lit.wf, IntKind.min, IntKind.max, IntKind.bits, IntKind.signed] using v0
  obtain ⟨y1, e1⟩ := hg 1 (by decide)
  have g1 := hf 1 _ rfl
  rw [e1] at g1
  have b1 : Rows.uptoBulk y1.1 ≤ Rows.uptoBulk (.agg (xs.map (·.1)) : DataW H) := by
    have := bulk_in (xs.map (·.1)) 1 y1.1 (by rw [List.getElem?_map, e1]; rfl)
    simp only [Rows.uptoBulk]
    omega
  have w1 : (∀ m ∈ DataW.weights Try.prog 23 (.agg (xs.map (·.1)) : DataW H), m ≤ reachBytes) → ∀ m ∈ DataW.weights Try.prog 3 y1.1, m ≤ reachBytes := fun hs m hm => hs m (by
    simp only [DataW.weights, Try.underlying23]
    exact DataW.weights_mem_each (j := 1) (t := 3) (d := y1.1) rfl (by rw [List.getElem?_map, e1]; rfl) _ hm)
  obtain ⟨f1, z1, _, v1⟩ := DataW.trod_int Try.underlying3 g1
  simp [Try.cells3] at z1
  have q1 : -9223372036854775808 ≤ f1 ∧ f1 ≤ 9223372036854775807 := by simpa [Lit.wf, IntKind.min, IntKind.max, IntKind.bits, IntKind.signed] using v1
  obtain ⟨y2, e2⟩ := hg 2 (by decide)
  have g2 := hf 2 _ rfl
  rw [e2] at g2
  have b2 : Rows.uptoBulk y2.1 ≤ Rows.uptoBulk (.agg (xs.map (·.1)) : DataW H) := by
    have := bulk_in (xs.map (·.1)) 2 y2.1 (by rw [List.getElem?_map, e2]; rfl)
    simp only [Rows.uptoBulk]
    omega
  have w2 : (∀ m ∈ DataW.weights Try.prog 23 (.agg (xs.map (·.1)) : DataW H), m ≤ reachBytes) → ∀ m ∈ DataW.weights Try.prog 3 y2.1, m ≤ reachBytes := fun hs m hm => hs m (by
    simp only [DataW.weights, Try.underlying23]
    exact DataW.weights_mem_each (j := 2) (t := 3) (d := y2.1) rfl (by rw [List.getElem?_map, e2]; rfl) _ hm)
  obtain ⟨f2, z2, _, v2⟩ := DataW.trod_int Try.underlying3 g2
  simp [Try.cells3] at z2
  have q2 : -9223372036854775808 ≤ f2 ∧ f2 ≤ 9223372036854775807 := by simpa [Lit.wf, IntKind.min, IntKind.max, IntKind.bits, IntKind.signed] using v2
  exact ⟨⟨y0.1, b0, w0, f0, z0, q0⟩, ⟨y1.1, b1, w1, f1, z1, q1⟩, ⟨y2.1, b2, w2, f2, z2, q2⟩⟩
theorem open_witanwitanlaw11Ask {H : Type} {enc : TypeId × Value → H} {W : World} {fuel : Nat} {c0 c1 c2 c3 c4 c5 : Value} {x : DataW H × List MemPlace}
    (h : DataW.trod enc Try.prog W 0 (fun _ => true) true fuel 26 [c0, c1, c2, c3, c4, c5] = some x) :
    ((∃ d0 : DataW H, Rows.uptoBulk d0 ≤ Rows.uptoBulk x.1 ∧ ((∀ m ∈ DataW.weights Try.prog 26 x.1, m ≤ reachBytes) → ∀ m ∈ DataW.weights Try.prog 3 d0, m ≤ reachBytes) ∧ (∃ f : Int, c0 = .int .i64 f)) ∧ (∃ d0 : DataW H, Rows.uptoBulk d0 ≤ Rows.uptoBulk x.1 ∧ ((∀ m ∈ DataW.weights Try.prog 26 x.1, m ≤ reachBytes) → ∀ m ∈ DataW.weights Try.prog 3 d0, m ≤ reachBytes) ∧ (∃ f : Int, c1 = .int .i64 f)) ∧ (∃ d0 : DataW H, Rows.uptoBulk d0 ≤ Rows.uptoBulk x.1 ∧ ((∀ m ∈ DataW.weights Try.prog 26 x.1, m ≤ reachBytes) → ∀ m ∈ DataW.weights Try.prog 3 d0, m ≤ reachBytes) ∧ (∃ f : Int, c2 = .int .i64 f)) ∧ (∃ d0 : DataW H, Rows.uptoBulk d0 ≤ Rows.uptoBulk x.1 ∧ ((∀ m ∈ DataW.weights Try.prog 26 x.1, m ≤ reachBytes) → ∀ m ∈ DataW.weights Try.prog 9 d0, m ≤ reachBytes) ∧ (∃ f : ByteArray, c3 = .string f ∧ f.size ≤ maxLen ∧ ((∀ m ∈ DataW.weights Try.prog 9 d0, m ≤ reachBytes) → f.size ≤ 140737488351232))) ∧ (∃ d0 : DataW H, Rows.uptoBulk d0 ≤ Rows.uptoBulk x.1 ∧ ((∀ m ∈ DataW.weights Try.prog 26 x.1, m ≤ reachBytes) → ∀ m ∈ DataW.weights Try.prog 24 d0, m ≤ reachBytes) ∧ (∃ f : Nat, c4 = .int .u64 (f : Int) ∧ f < 18446744073709551616)) ∧ (∃ d0 : DataW H, Rows.uptoBulk d0 ≤ Rows.uptoBulk x.1 ∧ ((∀ m ∈ DataW.weights Try.prog 26 x.1, m ≤ reachBytes) → ∀ m ∈ DataW.weights Try.prog 3 d0, m ≤ reachBytes) ∧ (∃ f : Int, c5 = .int .i64 f))) := by
  obtain ⟨xs, n, _, rfl, hl, hlen, hf⟩ := DataW.trod_struct Try.underlying26 h
  have hg : ∀ i, i < 6 → ∃ y, xs[i]? = some y := fun i hi => ⟨_, List.getElem?_eq_getElem (by rw [hlen]; exact hi)⟩
  obtain ⟨y0, e0⟩ := hg 0 (by decide)
  have g0 := hf 0 _ rfl
  rw [e0] at g0
  have b0 : Rows.uptoBulk y0.1 ≤ Rows.uptoBulk (.agg (xs.map (·.1)) : DataW H) := by
    have := bulk_in (xs.map (·.1)) 0 y0.1 (by rw [List.getElem?_map, e0]; rfl)
    simp only [Rows.uptoBulk]
    omega
  have w0 : (∀ m ∈ DataW.weights Try.prog 26 (.agg (xs.map (·.1)) : DataW H), m ≤ reachBytes) → ∀ m ∈ DataW.weights Try.prog 3 y0.1, m ≤ reachBytes := fun hs m hm => hs m (by
    simp only [DataW.weights, Try.underlying26]
    exact DataW.weights_mem_each (j := 0) (t := 3) (d := y0.1) rfl (by rw [List.getElem?_map, e0]; rfl) _ hm)
  obtain ⟨f0, z0, _, q0⟩ := DataW.trod_int Try.underlying3 g0
  simp [Try.cells3] at z0
  obtain ⟨y1, e1⟩ := hg 1 (by decide)
  have g1 := hf 1 _ rfl
  rw [e1] at g1
  have b1 : Rows.uptoBulk y1.1 ≤ Rows.uptoBulk (.agg (xs.map (·.1)) : DataW H) := by
    have := bulk_in (xs.map (·.1)) 1 y1.1 (by rw [List.getElem?_map, e1]; rfl)
    simp only [Rows.uptoBulk]
    omega
  have w1 : (∀ m ∈ DataW.weights Try.prog 26 (.agg (xs.map (·.1)) : DataW H), m ≤ reachBytes) → ∀ m ∈ DataW.weights Try.prog 3 y1.1, m ≤ reachBytes := fun hs m hm => hs m (by
    simp only [DataW.weights, Try.underlying26]
    exact DataW.weights_mem_each (j := 1) (t := 3) (d := y1.1) rfl (by rw [List.getElem?_map, e1]; rfl) _ hm)
  obtain ⟨f1, z1, _, q1⟩ := DataW.trod_int Try.underlying3 g1
  simp [Try.cells3] at z1
  obtain ⟨y2, e2⟩ := hg 2 (by decide)
  have g2 := hf 2 _ rfl
  rw [e2] at g2
  have b2 : Rows.uptoBulk y2.1 ≤ Rows.uptoBulk (.agg (xs.map (·.1)) : DataW H) := by
    have := bulk_in (xs.map (·.1)) 2 y2.1 (by rw [List.getElem?_map, e2]; rfl)
    simp only [Rows.uptoBulk]
    omega
  have w2 : (∀ m ∈ DataW.weights Try.prog 26 (.agg (xs.map (·.1)) : DataW H), m ≤ reachBytes) → ∀ m ∈ DataW.weights Try.prog 3 y2.1, m ≤ reachBytes := fun hs m hm => hs m (by
    simp only [DataW.weights, Try.underlying26]
    exact DataW.weights_mem_each (j := 2) (t := 3) (d := y2.1) rfl (by rw [List.getElem?_map, e2]; rfl) _ hm)
  obtain ⟨f2, z2, _, q2⟩ := DataW.trod_int Try.underlying3 g2
  simp [Try.cells3] at z2
  obtain ⟨y3, e3⟩ := hg 3 (by decide)
  have g3 := hf 3 _ rfl
  rw [e3] at g3
  have b3 : Rows.uptoBulk y3.1 ≤ Rows.uptoBulk (.agg (xs.map (·.1)) : DataW H) := by
    have := bulk_in (xs.map (·.1)) 3 y3.1 (by rw [List.getElem?_map, e3]; rfl)
    simp only [Rows.uptoBulk]
    omega
  have w3 : (∀ m ∈ DataW.weights Try.prog 26 (.agg (xs.map (·.1)) : DataW H), m ≤ reachBytes) → ∀ m ∈ DataW.weights Try.prog 9 y3.1, m ≤ reachBytes := fun hs m hm => hs m (by
    simp only [DataW.weights, Try.underlying26]
    exact DataW.weights_mem_each (j := 3) (t := 9) (d := y3.1) rfl (by rw [List.getElem?_map, e3]; rfl) _ hm)
  obtain ⟨f3, z3, x3, q3⟩ := DataW.trod_string Try.underlying9 g3
  simp [Try.cells9] at z3
  have r3 := sized_text (d := y3.1) (by rw [x3])
  obtain ⟨y4, e4⟩ := hg 4 (by decide)
  have g4 := hf 4 _ rfl
  rw [e4] at g4
  have b4 : Rows.uptoBulk y4.1 ≤ Rows.uptoBulk (.agg (xs.map (·.1)) : DataW H) := by
    have := bulk_in (xs.map (·.1)) 4 y4.1 (by rw [List.getElem?_map, e4]; rfl)
    simp only [Rows.uptoBulk]
    omega
  have w4 : (∀ m ∈ DataW.weights Try.prog 26 (.agg (xs.map (·.1)) : DataW H), m ≤ reachBytes) → ∀ m ∈ DataW.weights Try.prog 24 y4.1, m ≤ reachBytes := fun hs m hm => hs m (by
    simp only [DataW.weights, Try.underlying26]
    exact DataW.weights_mem_each (j := 4) (t := 24) (d := y4.1) rfl (by rw [List.getElem?_map, e4]; rfl) _ hm)
  obtain ⟨m4, z4, _, v4⟩ := DataW.trod_int Try.underlying24 g4
  simp [Try.cells24] at z4
  obtain ⟨f4, rfl, q4⟩ := u64_natD v4
  obtain ⟨y5, e5⟩ := hg 5 (by decide)
  have g5 := hf 5 _ rfl
  rw [e5] at g5
  have b5 : Rows.uptoBulk y5.1 ≤ Rows.uptoBulk (.agg (xs.map (·.1)) : DataW H) := by
    have := bulk_in (xs.map (·.1)) 5 y5.1 (by rw [List.getElem?_map, e5]; rfl)
    simp only [Rows.uptoBulk]
    omega
  have w5 : (∀ m ∈ DataW.weights Try.prog 26 (.agg (xs.map (·.1)) : DataW H), m ≤ reachBytes) → ∀ m ∈ DataW.weights Try.prog 3 y5.1, m ≤ reachBytes := fun hs m hm => hs m (by
    simp only [DataW.weights, Try.underlying26]
    exact DataW.weights_mem_each (j := 5) (t := 3) (d := y5.1) rfl (by rw [List.getElem?_map, e5]; rfl) _ hm)
  obtain ⟨f5, z5, _, q5⟩ := DataW.trod_int Try.underlying3 g5
  simp [Try.cells3] at z5
  exact ⟨⟨y0.1, b0, w0, f0, z0⟩, ⟨y1.1, b1, w1, f1, z1⟩, ⟨y2.1, b2, w2, f2, z2⟩, ⟨y3.1, b3, w3, f3, z3, q3, r3⟩, ⟨y4.1, b4, w4, f4, z4, q4⟩, ⟨y5.1, b5, w5, f5, z5⟩⟩
theorem open_witanapiConf {H : Type} {enc : TypeId × Value → H} {W : World} {fuel : Nat} {c0 c1 : Value} {x : DataW H × List MemPlace}
    (h : DataW.trod enc Try.prog W 0 (fun _ => true) true fuel 31 [c0, c1] = some x) :
    ((∃ d0 : DataW H, Rows.uptoBulk d0 ≤ Rows.uptoBulk x.1 ∧ ((∀ m ∈ DataW.weights Try.prog 31 x.1, m ≤ reachBytes) → ∀ m ∈ DataW.weights Try.prog 3 d0, m ≤ reachBytes) ∧ (∃ f : Int, c0 = .int .i64 f)) ∧ (∃ d0 : DataW H, Rows.uptoBulk d0 ≤ Rows.uptoBulk x.1 ∧ ((∀ m ∈ DataW.weights Try.prog 31 x.1, m ≤ reachBytes) → ∀ m ∈ DataW.weights Try.prog 29 d0, m ≤ reachBytes) ∧ (∃ (ad : Option Addr) (len cap : Nat) (xs : List Int), c1 = .slice ad len cap ∧ xs.length = len ∧ len ≤ maxLen ∧ len ≤ cap ∧ cap ≤ maxLen ∧ IntsIn W ad xs ∧ ((∀ m ∈ DataW.weights Try.prog 29 d0, m ≤ reachBytes) → len * 8 ≤ 140737488351232) ∧ len ≤ Rows.uptoBulk d0))) := by
  obtain ⟨xs, n, _, rfl, hl, hlen, hf⟩ := DataW.trod_struct Try.underlying31 h
  have hg : ∀ i, i < 2 → ∃ y, xs[i]? = some y := fun i hi => ⟨_, List.getElem?_eq_getElem (by rw [hlen]; exact hi)⟩
  obtain ⟨y0, e0⟩ := hg 0 (by decide)
  have g0 := hf 0 _ rfl
  rw [e0] at g0
  have b0 : Rows.uptoBulk y0.1 ≤ Rows.uptoBulk (.agg (xs.map (·.1)) : DataW H) := by
    have := bulk_in (xs.map (·.1)) 0 y0.1 (by rw [List.getElem?_map, e0]; rfl)
    simp only [Rows.uptoBulk]
    omega
  have w0 : (∀ m ∈ DataW.weights Try.prog 31 (.agg (xs.map (·.1)) : DataW H), m ≤ reachBytes) → ∀ m ∈ DataW.weights Try.prog 3 y0.1, m ≤ reachBytes := fun hs m hm => hs m (by
    simp only [DataW.weights, Try.underlying31]
    exact DataW.weights_mem_each (j := 0) (t := 3) (d := y0.1) rfl (by rw [List.getElem?_map, e0]; rfl) _ hm)
  obtain ⟨f0, z0, _, q0⟩ := DataW.trod_int Try.underlying3 g0
  simp [Try.cells3] at z0
  obtain ⟨y1, e1⟩ := hg 1 (by decide)
  have g1 := hf 1 _ rfl
  rw [e1] at g1
  have b1 : Rows.uptoBulk y1.1 ≤ Rows.uptoBulk (.agg (xs.map (·.1)) : DataW H) := by
    have := bulk_in (xs.map (·.1)) 1 y1.1 (by rw [List.getElem?_map, e1]; rfl)
    simp only [Rows.uptoBulk]
    omega
  have w1 : (∀ m ∈ DataW.weights Try.prog 31 (.agg (xs.map (·.1)) : DataW H), m ≤ reachBytes) → ∀ m ∈ DataW.weights Try.prog 29 y1.1, m ≤ reachBytes := fun hs m hm => hs m (by
    simp only [DataW.weights, Try.underlying31]
    exact DataW.weights_mem_each (j := 1) (t := 29) (d := y1.1) rfl (by rw [List.getElem?_map, e1]; rfl) _ hm)
  exact ⟨⟨y0.1, b0, w0, f0, z0⟩, ⟨y1.1, b1, w1, open_ints (by simpa [Try.cells3, Try.cells29] using g1)⟩⟩
theorem open_witanwitanlaw11Case {H : Type} {enc : TypeId × Value → H} {W : World} {fuel : Nat} {c0 c1 c2 c3 c4 c5 c6 c7 c8 : Value} {x : DataW H × List MemPlace}
    (h : DataW.trod enc Try.prog W 0 (fun _ => true) true fuel 28 [c0, c1, c2, c3, c4, c5, c6, c7, c8] = some x) :
    ((∃ d0 : DataW H, Rows.uptoBulk d0 ≤ Rows.uptoBulk x.1 ∧ ((∀ m ∈ DataW.weights Try.prog 28 x.1, m ≤ reachBytes) → ∀ m ∈ DataW.weights Try.prog 23 d0, m ≤ reachBytes) ∧ ((∃ d1 : DataW H, Rows.uptoBulk d1 ≤ Rows.uptoBulk d0 ∧ ((∀ m ∈ DataW.weights Try.prog 23 d0, m ≤ reachBytes) → ∀ m ∈ DataW.weights Try.prog 3 d1, m ≤ reachBytes) ∧ (∃ f : Int, c0 = .int .i64 f ∧ (-9223372036854775808 ≤ f ∧ f ≤ 9223372036854775807))) ∧ (∃ d1 : DataW H, Rows.uptoBulk d1 ≤ Rows.uptoBulk d0 ∧ ((∀ m ∈ DataW.weights Try.prog 23 d0, m ≤ reachBytes) → ∀ m ∈ DataW.weights Try.prog 3 d1, m ≤ reachBytes) ∧ (∃ f : Int, c1 = .int .i64 f ∧ (-9223372036854775808 ≤ f ∧ f ≤ 9223372036854775807))) ∧ (∃ d1 : DataW H, Rows.uptoBulk d1 ≤ Rows.uptoBulk d0 ∧ ((∀ m ∈ DataW.weights Try.prog 23 d0, m ≤ reachBytes) → ∀ m ∈ DataW.weights Try.prog 3 d1, m ≤ reachBytes) ∧ (∃ f : Int, c2 = .int .i64 f ∧ (-9223372036854775808 ≤ f ∧ f ≤ 9223372036854775807))))) ∧ (∃ d0 : DataW H, Rows.uptoBulk d0 ≤ Rows.uptoBulk x.1 ∧ ((∀ m ∈ DataW.weights Try.prog 28 x.1, m ≤ reachBytes) → ∀ m ∈ DataW.weights Try.prog 26 d0, m ≤ reachBytes) ∧ ((∃ d1 : DataW H, Rows.uptoBulk d1 ≤ Rows.uptoBulk d0 ∧ ((∀ m ∈ DataW.weights Try.prog 26 d0, m ≤ reachBytes) → ∀ m ∈ DataW.weights Try.prog 3 d1, m ≤ reachBytes) ∧ (∃ f : Int, c3 = .int .i64 f)) ∧ (∃ d1 : DataW H, Rows.uptoBulk d1 ≤ Rows.uptoBulk d0 ∧ ((∀ m ∈ DataW.weights Try.prog 26 d0, m ≤ reachBytes) → ∀ m ∈ DataW.weights Try.prog 3 d1, m ≤ reachBytes) ∧ (∃ f : Int, c4 = .int .i64 f)) ∧ (∃ d1 : DataW H, Rows.uptoBulk d1 ≤ Rows.uptoBulk d0 ∧ ((∀ m ∈ DataW.weights Try.prog 26 d0, m ≤ reachBytes) → ∀ m ∈ DataW.weights Try.prog 3 d1, m ≤ reachBytes) ∧ (∃ f : Int, c5 = .int .i64 f)) ∧ (∃ d1 : DataW H, Rows.uptoBulk d1 ≤ Rows.uptoBulk d0 ∧ ((∀ m ∈ DataW.weights Try.prog 26 d0, m ≤ reachBytes) → ∀ m ∈ DataW.weights Try.prog 9 d1, m ≤ reachBytes) ∧ (∃ f : ByteArray, c6 = .string f ∧ f.size ≤ maxLen ∧ ((∀ m ∈ DataW.weights Try.prog 9 d1, m ≤ reachBytes) → f.size ≤ 140737488351232))) ∧ (∃ d1 : DataW H, Rows.uptoBulk d1 ≤ Rows.uptoBulk d0 ∧ ((∀ m ∈ DataW.weights Try.prog 26 d0, m ≤ reachBytes) → ∀ m ∈ DataW.weights Try.prog 24 d1, m ≤ reachBytes) ∧ (∃ f : Nat, c7 = .int .u64 (f : Int) ∧ f < 18446744073709551616)) ∧ (∃ d1 : DataW H, Rows.uptoBulk d1 ≤ Rows.uptoBulk d0 ∧ ((∀ m ∈ DataW.weights Try.prog 26 d0, m ≤ reachBytes) → ∀ m ∈ DataW.weights Try.prog 3 d1, m ≤ reachBytes) ∧ (∃ f : Int, c8 = .int .i64 f))))) := by
  obtain ⟨xs, n, _, rfl, hl, hlen, hf⟩ := DataW.trod_struct Try.underlying28 h
  have hg : ∀ i, i < 2 → ∃ y, xs[i]? = some y := fun i hi => ⟨_, List.getElem?_eq_getElem (by rw [hlen]; exact hi)⟩
  obtain ⟨y0, e0⟩ := hg 0 (by decide)
  have g0 := hf 0 _ rfl
  rw [e0] at g0
  have b0 : Rows.uptoBulk y0.1 ≤ Rows.uptoBulk (.agg (xs.map (·.1)) : DataW H) := by
    have := bulk_in (xs.map (·.1)) 0 y0.1 (by rw [List.getElem?_map, e0]; rfl)
    simp only [Rows.uptoBulk]
    omega
  have w0 : (∀ m ∈ DataW.weights Try.prog 28 (.agg (xs.map (·.1)) : DataW H), m ≤ reachBytes) → ∀ m ∈ DataW.weights Try.prog 23 y0.1, m ≤ reachBytes := fun hs m hm => hs m (by
    simp only [DataW.weights, Try.underlying28]
    exact DataW.weights_mem_each (j := 0) (t := 23) (d := y0.1) rfl (by rw [List.getElem?_map, e0]; rfl) _ hm)
  obtain ⟨y1, e1⟩ := hg 1 (by decide)
  have g1 := hf 1 _ rfl
  rw [e1] at g1
  have b1 : Rows.uptoBulk y1.1 ≤ Rows.uptoBulk (.agg (xs.map (·.1)) : DataW H) := by
    have := bulk_in (xs.map (·.1)) 1 y1.1 (by rw [List.getElem?_map, e1]; rfl)
    simp only [Rows.uptoBulk]
    omega
  have w1 : (∀ m ∈ DataW.weights Try.prog 28 (.agg (xs.map (·.1)) : DataW H), m ≤ reachBytes) → ∀ m ∈ DataW.weights Try.prog 26 y1.1, m ≤ reachBytes := fun hs m hm => hs m (by
    simp only [DataW.weights, Try.underlying28]
    exact DataW.weights_mem_each (j := 1) (t := 26) (d := y1.1) rfl (by rw [List.getElem?_map, e1]; rfl) _ hm)
  exact ⟨⟨y0.1, b0, w0, open_witanwitanlaw11Spot (by simpa [Try.cells23, Try.cells26] using g0)⟩, ⟨y1.1, b1, w1, open_witanwitanlaw11Ask (by simpa [Try.cells23, Try.cells26] using g1)⟩⟩
theorem array2 {α : Type} {cs : Array α} (h : cs.size = 2) : ∃ c0 c1, cs = #[c0, c1] := by
  obtain ⟨l⟩ := cs
  match l, h with
  | [c0, c1], _ => exact ⟨c0, c1, rfl⟩
theorem array9 {α : Type} {cs : Array α} (h : cs.size = 9) : ∃ c0 c1 c2 c3 c4 c5 c6 c7 c8, cs = #[c0, c1, c2, c3, c4, c5, c6, c7, c8] := by
  obtain ⟨l⟩ := cs
  match l, h with
  | [c0, c1, c2, c3, c4, c5, c6, c7, c8], _ => exact ⟨c0, c1, c2, c3, c4, c5, c6, c7, c8, rfl⟩

set_option maxRecDepth 100000 in
theorem deedsApart_contract (H : Type) (enc : TypeId × Value → H) (W : World) (base : Nat) (args : Array Value) (ds gs : List (DataW H)) (before : List MemPlace)
    (hval : ∀ (j : Nat) t v, Try.f3.params[j]? = some t → args[j]? = some v → Value.okWide Try.prog W .any base t v)
    (hW : DataW.Whole enc Try.prog Try.f3.params.toList Rows.deedsApartSpec.vars false W args.toList ds gs before) (hsz : (DataW.weightsEach Try.prog (Try.f3.params.toList ++ Rows.deedsApartSpec.plain.varTypes Try.prog) (ds ++ gs)).all (· ≤ reachBytes) = true) :
    Calls Try.prog 3 args W fun e W' => ∃ v, e = .returned v ∧ Rows.deedsApartSpec.post enc Try.prog Try.f3 false true false false W args v W' := by
  have hW' := hW
  obtain ⟨p, q, hA0, hV, rfl, hfz, hnd⟩ := hW
  have hA : DataW.TrodAll enc Try.prog W 0 (fun _ => true) true Try.f3.params.toList args.toList ds p := hA0
  rw [Try.params3] at hA hval hsz
  obtain ⟨v0, vs0, d0, ds0, p0, q0, hargs, rfl, rfl, h0, r0⟩ := trodAll_cons hA
  obtain ⟨v1, vs1, d1, ds1, p1, q1, rfl, rfl, rfl, h1, r1⟩ := trodAll_cons r0
  obtain ⟨v2, vs2, d2, ds2, p2, q2, rfl, rfl, rfl, h2, r2⟩ := trodAll_cons r1
  obtain ⟨rfl, rfl, rfl⟩ := trodAll_nil r2
  obtain rfl : args = #[v0, v1, v2] := by cases args; simp_all
  obtain ⟨rfl, rfl⟩ := trodVars_none hV
  have hw0 : ∀ m ∈ d0.weights Try.prog 28, m ≤ reachBytes := fun m hm => by
    have := List.all_eq_true.1 hsz m (DataW.weights_mem_each (j := 0) (t := 28) (d := d0) rfl rfl m hm)
    simpa using this
  have hw1 : ∀ m ∈ d1.weights Try.prog 28, m ≤ reachBytes := fun m hm => by
    have := List.all_eq_true.1 hsz m (DataW.weights_mem_each (j := 1) (t := 28) (d := d1) rfl rfl m hm)
    simpa using this
  have hw2 : ∀ m ∈ d2.weights Try.prog 31, m ≤ reachBytes := fun m hm => by
    have := List.all_eq_true.1 hsz m (DataW.weights_mem_each (j := 2) (t := 31) (d := d2) rfl rfl m hm)
    simpa using this
  obtain ⟨cs0, rfl, hsc0⟩ := okWide_struct Try.underlying28 (hval 0 28 v0 rfl rfl)
  obtain ⟨c0_0, c0_1, c0_2, c0_3, c0_4, c0_5, c0_6, c0_7, c0_8, rfl⟩ := array9 (hsc0.trans Try.cells28)
  have k0 := h0
  have lt0 : ∀ x ∈ p0, x.block < W.heap.size := by obtain ⟨m, hm⟩ := k0; exact DataW.trod_lt m _ _ _ hm
  obtain ⟨cs1, rfl, hsc1⟩ := okWide_struct Try.underlying28 (hval 1 28 v1 rfl rfl)
  obtain ⟨c1_0, c1_1, c1_2, c1_3, c1_4, c1_5, c1_6, c1_7, c1_8, rfl⟩ := array9 (hsc1.trans Try.cells28)
  have k1 := h1
  have lt1 : ∀ x ∈ p1, x.block < W.heap.size := by obtain ⟨m, hm⟩ := k1; exact DataW.trod_lt m _ _ _ hm
  obtain ⟨cs2, rfl, hsc2⟩ := okWide_struct Try.underlying31 (hval 2 31 v2 rfl rfl)
  obtain ⟨c2_0, c2_1, rfl⟩ := array2 (hsc2.trans Try.cells31)
  have k2 := h2
  have lt2 : ∀ x ∈ p2, x.block < W.heap.size := by obtain ⟨m, hm⟩ := k2; exact DataW.trod_lt m _ _ _ hm
  clear hA0
  have fin : Calls Try.prog 3 #[.agg #[c0_0, c0_1, c0_2, c0_3, c0_4, c0_5, c0_6, c0_7, c0_8], .agg #[c1_0, c1_1, c1_2, c1_3, c1_4, c1_5, c1_6, c1_7, c1_8], .agg #[c2_0, c2_1]] W fun e W' => e = .returned (.bool true) ∧ Below W.heap.size W W' := by
    obtain ⟨fuel0, hf0⟩ := h0
    obtain ⟨⟨d0_0, hbb0_0, hww0_0, ⟨d0_0_0, hbb0_0_0, hww0_0_0, f0_0_0, rfl, hz0_0_0⟩, ⟨d0_0_1, hbb0_0_1, hww0_0_1, f0_0_1, rfl, hz0_0_1⟩, ⟨d0_0_2, hbb0_0_2, hww0_0_2, f0_0_2, rfl, hz0_0_2⟩⟩, ⟨d0_1, hbb0_1, hww0_1, ⟨d0_1_0, hbb0_1_0, hww0_1_0, f0_1_0, rfl⟩, ⟨d0_1_1, hbb0_1_1, hww0_1_1, f0_1_1, rfl⟩, ⟨d0_1_2, hbb0_1_2, hww0_1_2, f0_1_2, rfl⟩, ⟨d0_1_3, hbb0_1_3, hww0_1_3, f0_1_3, rfl, hz0_1_3, hsw0_1_3⟩, ⟨d0_1_4, hbb0_1_4, hww0_1_4, f0_1_4, rfl, hz0_1_4⟩, ⟨d0_1_5, hbb0_1_5, hww0_1_5, f0_1_5, rfl⟩⟩⟩ := open_witanwitanlaw11Case (by simpa [Value.cells] using hf0)
    have hr0_1_3 := hsw0_1_3 (hww0_1_3 (hww0_1 hw0))
    obtain ⟨fuel1, hf1⟩ := h1
    obtain ⟨⟨d1_0, hbb1_0, hww1_0, ⟨d1_0_0, hbb1_0_0, hww1_0_0, f1_0_0, rfl, hz1_0_0⟩, ⟨d1_0_1, hbb1_0_1, hww1_0_1, f1_0_1, rfl, hz1_0_1⟩, ⟨d1_0_2, hbb1_0_2, hww1_0_2, f1_0_2, rfl, hz1_0_2⟩⟩, ⟨d1_1, hbb1_1, hww1_1, ⟨d1_1_0, hbb1_1_0, hww1_1_0, f1_1_0, rfl⟩, ⟨d1_1_1, hbb1_1_1, hww1_1_1, f1_1_1, rfl⟩, ⟨d1_1_2, hbb1_1_2, hww1_1_2, f1_1_2, rfl⟩, ⟨d1_1_3, hbb1_1_3, hww1_1_3, f1_1_3, rfl, hz1_1_3, hsw1_1_3⟩, ⟨d1_1_4, hbb1_1_4, hww1_1_4, f1_1_4, rfl, hz1_1_4⟩, ⟨d1_1_5, hbb1_1_5, hww1_1_5, f1_1_5, rfl⟩⟩⟩ := open_witanwitanlaw11Case (by simpa [Value.cells] using hf1)
    have hr1_1_3 := hsw1_1_3 (hww1_1_3 (hww1_1 hw1))
    obtain ⟨fuel2, hf2⟩ := h2
    obtain ⟨⟨d2_0, hbb2_0, hww2_0, f2_0, rfl⟩, ⟨d2_1, hbb2_1, hww2_1, ad2_1, len2_1, cap2_1, xs2_1, rfl, hn2_1, hm2_1, hk2_1, hc2_1, hS2_1, hsw2_1, hbu2_1⟩⟩ := open_witanapiConf (by simpa [Value.cells] using hf2)
    have hr2_1 := hsw2_1 (hww2_1 hw2)
    exact dapart_any f0_0_0 f0_0_1 f0_0_2 ⟨hz0_0_0.2, hz0_0_1.2, hz0_0_2.2⟩ ⟨f0_1_0, f0_1_1, f0_1_2, f0_1_3, f0_1_4, f0_1_5⟩ hz0_1_4 f1_0_0 f1_0_1 f1_0_2 ⟨hz1_0_0.2, hz1_0_1.2, hz1_0_2.2⟩ ⟨f1_1_0, f1_1_1, f1_1_2, f1_1_3, f1_1_4, f1_1_5⟩ hz1_1_4 (Nat.le_trans hr1_1_3 (by decide)) f2_0 ad2_1 len2_1 cap2_1 xs2_1 hn2_1 hm2_1 W hS2_1
  refine fin.mono fun e W' ⟨he, bel⟩ => ?_
  subst he
  exact ⟨_, rfl, _, _, _, [], _, [], hW', trodAll_mk1 (shut_bool Try.underlying4 _), (trodAll_cons_mk (Below.trod Try.laidOut (by kernel_rfl) (of_decide_eq_true (by kernel_rfl)) k0 bel lt0) (trodAll_cons_mk (Below.trod Try.laidOut (by kernel_rfl) (of_decide_eq_true (by kernel_rfl)) k1 bel lt1) (trodAll_cons_mk (Below.trod Try.laidOut (by kernel_rfl) (of_decide_eq_true (by kernel_rfl)) k2 bel lt2) trodAll_mk0))), rfl, bel.frame _, fun h => by cases h⟩

set_option maxRecDepth 100000 in
theorem deedsApart_lifted (os : Os) (started : os.Started) (H : Type) (enc : TypeId × Value → H) :
    ReturnsInHanded {} Try.checked os 3 .any (Rows.deedsApartSpec.pre6 enc Try.prog Try.f3 Rows.deedsApartRow.domain false) (Rows.deedsApartSpec.post enc Try.prog Try.f3 false true false false) := by
  refine returnsInHanded_of_change_sized (C := Try.checked) Try.own started (by kernel_rfl) Try.func3
    (ChangeSpec.witness6 (enc := enc) (C := Try.checked) false ⟨#[], #[.agg #[.int .i64 0, .int .i64 0, .int .i64 0, .int .i64 0, .int .i64 0, .int .i64 0, .string ByteArray.empty, .int .u64 0, .int .i64 0], .agg #[.int .i64 0, .int .i64 0, .int .i64 0, .int .i64 0, .int .i64 0, .int .i64 0, .string ByteArray.empty, .int .u64 0, .int .i64 0], .agg #[.int .i64 0, .slice none 0 0]], []⟩ 8 (by kernel_rfl) (by kernel_rfl) (by kernel_rfl) (by kernel_rfl)) ?_
  intro W base args ds gs before hval hW _ hsz _
  exact deedsApart_contract H enc W base args ds gs before hval hW hsz

theorem deedsApart_holds : Rows.DeedsApartSaid :=
  OpenClaim.holds_of_wide 3 Try.f3 rfl rfl rfl rfl rfl rfl rfl ⟨rfl, rfl, rfl, rfl, rfl⟩ rfl rfl rfl rfl rfl (by kernel_rfl) Try.func3 (by kernel_rfl)
    (of_decide_eq_true (by kernel_rfl)) (by unfold Func.isWrapper; first | (rw [if_pos (by decide +kernel)]; kernel_rfl) | (rw [if_neg (by decide +kernel)]; exact ⟨rfl, rfl⟩))
    (fun os started H enc _ => deedsApart_lifted os started H enc)
#print axioms deedsApart_holds

end Go.Proofs.Ytpgfdnmlkaoigab
