/- Arguments of any depth, opened, with the bulk of all their lists together. No walk here. -/
import Derived.Test.YtfjcpghepkmbfaaGa3
namespace Go.Proofs.Ytfjcpghepkmbfaa
open Go.ChangeShapes Go.WideShapes Go.ChangeAt Go.RowKit

mutual
/-- How many elements stand in it, at every depth. -/
def Dat.bk : Dat → Nat
  | .l _ es => bkLL es
  | _ => 0
def bkL : List Dat → Nat
  | [] => 0
  | d :: r => d.bk + bkL r
def bkLL : List (List Dat) → Nat
  | [] => 0
  | e :: r => 1 + bkL e + bkLL r
end
theorem bkL_app : ∀ a b : List Dat, bkL (a ++ b) = bkL a + bkL b
  | [], b => by simp [bkL]
  | d :: r, b => by rw [List.cons_append, bkL, bkL, bkL_app r b]; omega
theorem bkLL_le {H : Type} {D : Nat → DataW H} : ∀ (es : List (List Dat)) (k : Nat), (∀ i e, es[i]? = some e → 1 + bkL e ≤ Rows.uptoBulk (D (k + i))) → bkLL es ≤ Rows.uptoBulkAll ((List.range es.length).map fun i => D (k + i))
  | [], _, _ => by simp [bkLL]
  | e :: r, k, h => by
    have h0 := h 0 e rfl
    have h1 := bkLL_le r (k + 1) (fun i e2 he => by have := h (i + 1) e2 (by simpa using he); rwa [show k + (i + 1) = k + 1 + i by omega] at this)
    rw [List.length_cons, List.range_succ_eq_map, List.map_cons, List.map_map, Rows.uptoBulkAll, bkLL]
    have e : ((fun i => D (k + i)) ∘ Nat.succ) = fun i => D (k + 1 + i) := by funext i; show D (k + (i + 1)) = _; rw [show k + (i + 1) = k + 1 + i by omega]
    rw [e]
    rw [Nat.add_zero] at *
    omega
section
variable {H : Type} {enc : TypeId × Value → H} {W : World}
/-- The two things that are shown of a Sh, by its build. -/
def OpensV (enc : TypeId × Value → H) (P : Program) (W : World) (sh : Sh) : Prop := ∀ (t : TypeId) (fuel : Nat) (cs : List Value) (x : DataW H × List MemPlace), sh.Of P (.inl t) → DataW.trod enc P W 0 (fun _ => true) true fuel t cs = some x →
  ∃ ds, Fits (∀ m ∈ x.1.weights P t, m ≤ reachBytes) (Rows.uptoBulk x.1) sh ds ∧ CellsAre (fun _ => True) W cs ds ∧ 1 + bkL ds ≤ Rows.uptoBulk x.1
def OpensG (enc : TypeId × Value → H) (P : Program) (W : World) (sh : Sh) : Prop := ∀ (fs : List Field) (o n : Nat) (cs : List Value) (xs : List (DataW H × List MemPlace)), sh.Of P (.inr (fs, o)) → xs.length = fs.length →
  (∀ (i : Nat) (f : Field), fs[i]? = some f → DataW.trod enc P W 0 (fun _ => true) true n f.type ((cs.drop f.offset).take (P.cellsOf f.type)) = xs[i]?) →
  ∃ ds, Fits (∀ m ∈ DataW.weightsEach P (fs.map (·.type)) (xs.map (·.1)), m ≤ reachBytes) (Rows.uptoBulkAll (xs.map (·.1))) sh ds ∧ CellsAre (fun _ => True) W (cs.drop o) ds ∧ bkL ds ≤ Rows.uptoBulkAll (xs.map (·.1))
theorem opens_sum (P : Program) (sh : Sh) : OpensV enc P W sh ∧ OpensG enc P W sh := by
  induction sh with
  | i =>
    refine ⟨fun t fuel cs x hO h => ?_, fun fs o n cs xs hO => by cases hO⟩
    obtain ⟨k, rfl, rfl, hwf⟩ := DataW.trod_int (by exact hO) h
    have hrg : -9223372036854775808 ≤ k ∧ k ≤ 9223372036854775807 := by simpa [Lit.wf, IntKind.min, IntKind.max, IntKind.bits, IntKind.signed] using hwf
    exact ⟨[.i k], ⟨k, rfl, hrg⟩, cells_one (.i k) (.i k), bulkD_pos _⟩
  | b =>
    refine ⟨fun t fuel cs x hO h => ?_, fun fs o n cs xs hO => by cases hO⟩
    obtain ⟨k, rfl, rfl⟩ := DataW.trod_bool (by exact hO) h
    exact ⟨[.b k], ⟨k, rfl⟩, cells_one (.b k) (.b k), bulkD_pos _⟩
  | s =>
    refine ⟨fun t fuel cs x hO h => ?_, fun fs o n cs xs hO => by cases hO⟩
    obtain ⟨k, rfl, rfl, hz⟩ := DataW.trod_string (by exact hO) h
    refine ⟨[.s k], ⟨k, rfl, hz, fun hs => ?_, ?_⟩, cells_one (.s k) (.s k), bulkD_pos _⟩
    · have := hs k.data.toList.length (by simp [DataW.weights])
      rw [reachBytes] at this
      simpa using this
    · simp [Rows.uptoBulk]
  | q =>
    refine ⟨fun t fuel cs x hO h => ?_, fun fs o n cs xs hO => by cases hO⟩
    obtain ⟨k, rfl, rfl, hwf⟩ := DataW.trod_int (by exact hO) h
    have hrg : 0 ≤ k ∧ k ≤ 18446744073709551615 := by simpa [Lit.wf, IntKind.min, IntKind.max, IntKind.bits, IntKind.signed] using hwf
    obtain ⟨n, rfl⟩ := Int.eq_ofNat_of_zero_le hrg.1
    exact ⟨[.q n], ⟨n, rfl, by omega⟩, cells_one (.q n) (.q n), bulkD_pos _⟩
  | fl =>
    refine ⟨fun t fuel cs x hO h => ?_, fun fs o n cs xs hO => by cases hO⟩
    obtain ⟨k, rfl, hk⟩ := trod_real hO h
    exact ⟨[.f k], ⟨k, rfl, hk⟩, cells_one (.f k) (.f k), bulkD_pos _⟩
  | u =>
    refine ⟨fun t fuel cs x hO h => (by cases hO), fun fs o n cs xs hO hl h => ?_⟩
    exact ⟨[], rfl, fun q d hq => by simp at hq, Nat.zero_le _⟩
  | st f ih =>
    refine ⟨fun t fuel cs x hO h => ?_, fun fs o n cs xs hO => by cases hO⟩
    obtain ⟨fs, hu, hc, hF⟩ := hO
    obtain ⟨xs, n, _, rfl, hl, hxl, hf⟩ := DataW.trod_struct hu h
    obtain ⟨ds, h1, h2, h3⟩ := ih.2 fs.toList 0 n cs xs hF (by rw [hxl]; simp) (fun i g hg => hf i g (by simpa using hg))
    refine ⟨ds, Fits.mono (sh := f) (fun hs m hm => hs m (by simp only [DataW.weights, hu]; exact hm)) (by simp only [Rows.uptoBulk]; omega) h1, by simpa using h2, by simp only [Rows.uptoBulk]; omega⟩
  | c a r iha ihr =>
    refine ⟨fun t fuel cs x hO h => (by cases hO), fun fs o n cs xs hO hl h => ?_⟩
    obtain ⟨f, fs', rfl, hoff, hcell, hA, hR⟩ := hO
    cases xs with
    | nil => simp at hl
    | cons x xs =>
      have h0 := h 0 f rfl
      obtain ⟨d1, f1, c1, b1⟩ := iha.1 f.type n _ x hA h0
      obtain ⟨d2, f2, c2, b2⟩ := ihr.2 fs' (o + a.sz) n cs xs hR (by simpa using hl) (fun i g hg => h (i + 1) g (by simpa using hg))
      refine ⟨d1 ++ d2, ⟨d1, d2, rfl, f1.mono (fun hs m hm => hs m (by simp only [List.map_cons, DataW.weightsEach, List.mem_append]; exact .inl hm)) (by simp only [List.map_cons, Rows.uptoBulkAll]; omega), f2.mono (fun hs m hm => hs m (by simp only [List.map_cons, DataW.weightsEach, List.mem_append]; exact .inr hm)) (by simp only [List.map_cons, Rows.uptoBulkAll]; omega)⟩, ?_, by rw [bkL_app]; simp only [List.map_cons, Rows.uptoBulkAll]; omega⟩
      · intro q d hq
        have hl1 := f1.len
        by_cases hqa : q < d1.length
        · rw [List.getElem?_append_left hqa] at hq
          obtain ⟨u, hu, hR⟩ := c1 q d hq
          refine ⟨u, ?_, hR⟩
          rw [List.getElem?_take] at hu
          split at hu
          · simp only at hoff
            rw [← hoff]
            exact hu
          · cases hu
        · rw [List.getElem?_append_right (by omega)] at hq
          obtain ⟨u, hu, hR⟩ := c2 _ d hq
          refine ⟨u, ?_, hR⟩
          rw [List.getElem?_drop] at hu ⊢
          rw [show o + q = o + a.sz + (q - d1.length) by omega]
          exact hu
  | l bytes sz e ih =>
    refine ⟨fun t fuel cs x hO h => ?_, fun fs o n cs xs hO => by cases hO⟩
    obtain ⟨te, hu, hby, hsz, hez, hz0, hE⟩ := hO
    rcases Go.Deep.open_slice hu h with ⟨rfl, rfl⟩ | ⟨ad, len, cap, m, n, D, Pl, rfl, _, hl, hm, hmm, hx, hel⟩
    · exact ⟨[.l sz []], ⟨[], rfl, Nat.zero_le _, fun _ => by simp, Nat.zero_le _, fun d hd => by simp at hd⟩, cells_one (.nil none 0 sz) (.l none 0 0 sz [] (Nat.le_refl _) (fun g off j q e d u h => by cases h)), bulkD_pos _⟩
    · simp at hmm
      subst hmm
      have hx1 : x.1 = .slice ((List.range len).map D) ((List.range (m - len)).map fun j => D (len + j)) := by rw [hx]
      have each : ∀ i, i < len → ∃ d : List Dat, Fits (∀ q ∈ x.1.weights P t, q ≤ reachBytes) (Rows.uptoBulk x.1) e d ∧ (∃ cs', W.cells? 0 (ad.add (i * sz)) sz = some cs' ∧ CellsAre (fun _ => True) W cs' d) ∧ 1 + bkL d ≤ Rows.uptoBulk (D i) := by
        intro i hi
        obtain ⟨cs', h1, h2⟩ := hel i (by omega)
        rw [hsz] at h1
        obtain ⟨d, f1, c1, b1⟩ := ih.1 te n cs' _ hE h2
        have hget : ((List.range len).map D)[i]? = some (D i) := by rw [List.getElem?_map, List.getElem?_range hi]; rfl
        have hw : ∀ q ∈ (D i).weights P te, q ∈ x.1.weights P t := fun q hq => by
          rw [hx1]
          simp only [DataW.weights, hu, List.mem_cons, List.mem_append]
          exact .inr (.inl (weights_all hget q hq))
        have hbk : Rows.uptoBulk (D i) ≤ Rows.uptoBulk x.1 := by
          rw [hx1]
          have := bulkD_in _ i _ hget
          simp only [Rows.uptoBulk]
          omega
        exact ⟨d, f1.mono (fun hs q hq => hs q (hw q hq)) hbk, ⟨cs', h1, c1⟩, b1⟩
      obtain ⟨es, hil, hip⟩ := list_pick len each
      have hcellA : ∀ (j : Nat) (d : List Dat), es[j]? = some d → d.length = sz ∧ ∀ (q : Nat) (y : Dat), d[q]? = some y → ∃ u, W.cell? (ad.add (j * sz + q)) = some u ∧ Reads (fun _ => True) W u y ∧ Caps W u y := fun j d hj => by
        obtain ⟨hf, ⟨cs', h1, h2⟩, _⟩ := hip j d hj
        obtain ⟨_, hlen, hc⟩ := World.cells?_some h1
        refine ⟨by rw [hf.len, hez], fun q y hy => ?_⟩
        obtain ⟨u, hu, hR⟩ := h2 q y hy
        have hq := (List.getElem?_eq_some_iff.1 hu).1
        have := hc q (by omega)
        rw [Go.Deep.add_add] at this
        exact ⟨u, this.trans hu, hR⟩
      refine ⟨[.l sz es], ⟨es, rfl, by omega, fun hs => ?_, ?_, fun d hd => ?_⟩, cells_one ?_ ?_, ?_⟩
      · have := hs ((len + (m - len)) * P.bytesOf te) (by rw [hx1]; simp [DataW.weights, hu])
        rw [hby, reachBytes] at this
        rw [hil]
        have h3 : len + (m - len) = m := by omega
        rw [h3] at this
        exact Nat.le_trans (Nat.mul_le_mul_right _ hl) this
      · rw [hx1, hil]
        have := bulkD_all ((List.range len).map D)
        rw [List.length_map, List.length_range] at this
        simp only [Rows.uptoBulk]
        omega
      · obtain ⟨i, hi, rfl⟩ := List.getElem_of_mem hd
        exact (hip i _ (List.getElem?_eq_getElem hi)).1
      · rw [← hil]
        by_cases h0 : len = 0
        · rw [List.eq_nil_of_length_eq_zero (by omega : es.length = 0)]
          exact .nil (some ad) m sz
        · obtain ⟨b, off, spot⟩ := ad
          have hcell : ∀ (j : Nat) (d : List Dat), es[j]? = some d → d.length = sz ∧ ∀ (q : Nat) (y : Dat), d[q]? = some y → ∃ u, W.cell? ((Addr.mk b off spot).add (j * sz + q)) = some u ∧ Reads (fun _ => True) W u y := fun j d hj => ⟨(hcellA j d hj).1, fun q y hy => by
            obtain ⟨u, h1, h2, _⟩ := (hcellA j d hj).2 q y hy
            exact ⟨u, h1, h2⟩⟩
          obtain ⟨d0, hd0⟩ : ∃ d, es[0]? = some d := ⟨es[0]'(by omega), List.getElem?_eq_getElem _⟩
          have hd0l := (hcell 0 d0 hd0).1
          obtain ⟨y0, hy0⟩ : ∃ y, d0[0]? = some y := ⟨d0[0]'(by omega), List.getElem?_eq_getElem _⟩
          obtain ⟨u0, hu0, _⟩ := (hcell 0 d0 hd0).2 0 y0 hy0
          have hspot : spot = none := by simpa [Addr.add] using World.cell?_spot hu0
          subst hspot
          have hb0 : b < W.heap.size := by have := World.block_lt_of_cell? W _ hu0; simpa [Addr.add] using this
          have hsome : ∀ (j : Nat) (d : List Dat) (q : Nat) (y : Dat), es[j]? = some d → d[q]? = some y → ∃ u, W.cell? ⟨b, off + j * sz + q, none⟩ = some u ∧ Reads (fun _ => True) W u y := fun j d q y hj hy => by
            obtain ⟨u, h1, h2⟩ := (hcell j d hj).2 q y hy
            rw [Addr.add_lit] at h1
            exact ⟨u, by rw [Nat.add_assoc]; exact h1, h2⟩
          refine .l b off m sz es (fun j q => (W.cell? ⟨b, off + j * sz + q, none⟩).getD undef) trivial hb0 (fun j d hj => (hcell j d hj).1) (fun j d q y hj hy => ?_) (fun j d q y hj hy => ?_)
          · obtain ⟨u, h1, _⟩ := hsome j d q y hj hy
            rw [h1]; rfl
          · obtain ⟨u, h1, h2⟩ := hsome j d q y hj hy
            rw [h1]; exact h2
      · refine .l (some ad) len m sz es hl (fun g off j q e d u hg hj hq hu => ?_)
        cases hg
        obtain ⟨u', h1, _, h2⟩ := (hcellA j e hj).2 q d hq
        rw [Addr.add_lit, ← Nat.add_assoc, hu] at h1
        cases h1
        exact h2
      · show 1 + (bkLL es + 0) ≤ _
        have := bkLL_le (D := D) es 0 (fun i e he => by rw [Nat.zero_add]; exact (hip i e he).2.2)
        simp only [Nat.zero_add] at this
        rw [hil] at this
        replace this : bkLL es ≤ Rows.uptoBulkAll ((List.range len).map D) := this
        rw [hx1]
        simp only [Rows.uptoBulk]
        omega
end
end Go.Proofs.Ytfjcpghepkmbfaa
