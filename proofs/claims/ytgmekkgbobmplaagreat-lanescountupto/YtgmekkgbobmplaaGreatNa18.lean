/- Texts laid together: OpX OpDX OpQ. -/
import Derived.Test.YtgmekkgbobmplaaGreatNa4
import Derived.Test.YtgmekkgbobmplaaGreatNa8
import Derived.Test.YtgmekkgbobmplaaGreatNa16
/- Arguments of any depth, opened, with the bulk of all their lists together. No walk here. -/
namespace Go.Proofs.YtgmekkgbobmplaaGreat
open Go.ChangeShapes Go.WideShapes Go.ChangeAt Go.RowKit

mutual
/-- How many elements stand in it, at every depth. -/
def Dat.bk : Dat → Nat
  | .l _ es => bkLL es
  | _ => 0
def bkL : List Dat → Nat
  | [] => 0
  | d :: r => d.bk + bkL r
def bkLL : List (List Dat) → Nat
  | [] => 0
  | e :: r => 1 + bkL e + bkLL r
end
theorem bkL_app : ∀ a b : List Dat, bkL (a ++ b) = bkL a + bkL b
  | [], b => by simp [bkL]
  | d :: r, b => by rw [List.cons_append, bkL, bkL, bkL_app r b]; omega
theorem bkLL_le {H : Type} {D : Nat → DataW H} : ∀ (es : List (List Dat)) (k : Nat), (∀ i e, es[i]? = some e → 1 + bkL e ≤ Rows.uptoBulk (D (k + i))) → bkLL es ≤ Rows.uptoBulkAll ((List.range es.length).map fun i => D (k + i))
  | [], _, _ => by simp [bkLL]
  | e :: r, k, h => by
    have h0 := h 0 e rfl
    have h1 := bkLL_le r (k + 1) (fun i e2 he => by have := h (i + 1) e2 (by simpa using he); rwa [show k + (i + 1) = k + 1 + i by omega] at this)
    rw [List.length_cons, List.range_succ_eq_map, List.map_cons, List.map_map, Rows.uptoBulkAll, bkLL]
    have e : ((fun i => D (k + i)) ∘ Nat.succ) = fun i => D (k + 1 + i) := by funext i; show D (k + (i + 1)) = _; rw [show k + (i + 1) = k + 1 + i by omega]
    rw [e]
    rw [Nat.add_zero] at *
    omega
section
variable {H : Type} {enc : TypeId × Value → H} {W : World}
/-- The two things that are shown of a Sh, by its build. -/
def OpensV (enc : TypeId × Value → H) (P : Program) (W : World) (sh : Sh) : Prop := ∀ (t : TypeId) (fuel : Nat) (cs : List Value) (x : DataW H × List MemPlace), sh.Of P (.inl t) → DataW.trod enc P W 0 (fun _ => true) true fuel t cs = some x →
  ∃ ds, Fits (∀ m ∈ x.1.weights P t, m ≤ reachBytes) (Rows.uptoBulk x.1) sh ds ∧ CellsAre (fun _ => True) W cs ds ∧ 1 + bkL ds ≤ Rows.uptoBulk x.1
def OpensG (enc : TypeId × Value → H) (P : Program) (W : World) (sh : Sh) : Prop := ∀ (fs : List Field) (o n : Nat) (cs : List Value) (xs : List (DataW H × List MemPlace)), sh.Of P (.inr (fs, o)) → xs.length = fs.length →
  (∀ (i : Nat) (f : Field), fs[i]? = some f → DataW.trod enc P W 0 (fun _ => true) true n f.type ((cs.drop f.offset).take (P.cellsOf f.type)) = xs[i]?) →
  ∃ ds, Fits (∀ m ∈ DataW.weightsEach P (fs.map (·.type)) (xs.map (·.1)), m ≤ reachBytes) (Rows.uptoBulkAll (xs.map (·.1))) sh ds ∧ CellsAre (fun _ => True) W (cs.drop o) ds ∧ bkL ds ≤ Rows.uptoBulkAll (xs.map (·.1))
theorem opens_sum (P : Program) (sh : Sh) : OpensV enc P W sh ∧ OpensG enc P W sh := by
  induction sh with
  | i =>
    refine ⟨fun t fuel cs x hO h => ?_, fun fs o n cs xs hO => by cases hO⟩
    obtain ⟨k, rfl, rfl, hwf⟩ := DataW.trod_int (by exact hO) h
    have hrg : -9223372036854775808 ≤ k ∧ k ≤ 9223372036854775807 := by simpa [Lit.wf, IntKind.min, IntKind.max, IntKind.bits, IntKind.signed] using hwf
    exact ⟨[.i k], ⟨k, rfl, hrg⟩, cells_one (.i k) (.i k), bulkD_pos _⟩
  | b =>
    refine ⟨fun t fuel cs x hO h => ?_, fun fs o n cs xs hO => by cases hO⟩
    obtain ⟨k, rfl, rfl⟩ := DataW.trod_bool (by exact hO) h
    exact ⟨[.b k], ⟨k, rfl⟩, cells_one (.b k) (.b k), bulkD_pos _⟩
  | s =>
    refine ⟨fun t fuel cs x hO h => ?_, fun fs o n cs xs hO => by cases hO⟩
    obtain ⟨k, rfl, rfl, hz⟩ := DataW.trod_string (by exact hO) h
    refine ⟨[.s k], ⟨k, rfl, hz, fun hs => ?_, ?_⟩, cells_one (.s k) (.s k), bulkD_pos _⟩
    · have := hs k.data.toList.length (by simp [DataW.weights])
      rw [reachBytes] at this
      simpa using this
    · simp [Rows.uptoBulk]
  | q =>
    refine ⟨fun t fuel cs x hO h => ?_, fun fs o n cs xs hO => by cases hO⟩
    obtain ⟨k, rfl, rfl, hwf⟩ := DataW.trod_int (by exact hO) h
    have hrg : 0 ≤ k ∧ k ≤ 18446744073709551615 := by simpa [Lit.wf, IntKind.min, IntKind.max, IntKind.bits, IntKind.signed] using hwf
    obtain ⟨n, rfl⟩ := Int.eq_ofNat_of_zero_le hrg.1
    exact ⟨[.q n], ⟨n, rfl, by omega⟩, cells_one (.q n) (.q n), bulkD_pos _⟩
  | fl =>
    refine ⟨fun t fuel cs x hO h => ?_, fun fs o n cs xs hO => by cases hO⟩
    obtain ⟨k, rfl, hk⟩ := trod_real hO h
    exact ⟨[.f k], ⟨k, rfl, hk⟩, cells_one (.f k) (.f k), bulkD_pos _⟩
  | u =>
    refine ⟨fun t fuel cs x hO h => (by cases hO), fun fs o n cs xs hO hl h => ?_⟩
    exact ⟨[], rfl, fun q d hq => by simp at hq, Nat.zero_le _⟩
  | st f ih =>
    refine ⟨fun t fuel cs x hO h => ?_, fun fs o n cs xs hO => by cases hO⟩
    obtain ⟨fs, hu, hc, hF⟩ := hO
    obtain ⟨xs, n, _, rfl, hl, hxl, hf⟩ := DataW.trod_struct hu h
    obtain ⟨ds, h1, h2, h3⟩ := ih.2 fs.toList 0 n cs xs hF (by rw [hxl]; simp) (fun i g hg => hf i g (by simpa using hg))
    refine ⟨ds, Fits.mono (sh := f) (fun hs m hm => hs m (by simp only [DataW.weights, hu]; exact hm)) (by simp only [Rows.uptoBulk]; omega) h1, by simpa using h2, by simp only [Rows.uptoBulk]; omega⟩
  | c a r iha ihr =>
    refine ⟨fun t fuel cs x hO h => (by cases hO), fun fs o n cs xs hO hl h => ?_⟩
    obtain ⟨f, fs', rfl, hoff, hcell, hA, hR⟩ := hO
    cases xs with
    | nil => simp at hl
    | cons x xs =>
      have h0 := h 0 f rfl
      obtain ⟨d1, f1, c1, b1⟩ := iha.1 f.type n _ x hA h0
      obtain ⟨d2, f2, c2, b2⟩ := ihr.2 fs' (o + a.sz) n cs xs hR (by simpa using hl) (fun i g hg => h (i + 1) g (by simpa using hg))
      refine ⟨d1 ++ d2, ⟨d1, d2, rfl, f1.mono (fun hs m hm => hs m (by simp only [List.map_cons, DataW.weightsEach, List.mem_append]; exact .inl hm)) (by simp only [List.map_cons, Rows.uptoBulkAll]; omega), f2.mono (fun hs m hm => hs m (by simp only [List.map_cons, DataW.weightsEach, List.mem_append]; exact .inr hm)) (by simp only [List.map_cons, Rows.uptoBulkAll]; omega)⟩, ?_, by rw [bkL_app]; simp only [List.map_cons, Rows.uptoBulkAll]; omega⟩
      · intro q d hq
        have hl1 := f1.len
        by_cases hqa : q < d1.length
        · rw [List.getElem?_append_left hqa] at hq
          obtain ⟨u, hu, hR⟩ := c1 q d hq
          refine ⟨u, ?_, hR⟩
          rw [List.getElem?_take] at hu
          split at hu
          · simp only at hoff
            rw [← hoff]
            exact hu
          · cases hu
        · rw [List.getElem?_append_right (by omega)] at hq
          obtain ⟨u, hu, hR⟩ := c2 _ d hq
          refine ⟨u, ?_, hR⟩
          rw [List.getElem?_drop] at hu ⊢
          rw [show o + q = o + a.sz + (q - d1.length) by omega]
          exact hu
  | l bytes sz e ih =>
    refine ⟨fun t fuel cs x hO h => ?_, fun fs o n cs xs hO => by cases hO⟩
    obtain ⟨te, hu, hby, hsz, hez, hz0, hE⟩ := hO
    rcases Go.Deep.open_slice hu h with ⟨rfl, rfl⟩ | ⟨ad, len, cap, m, n, D, Pl, rfl, _, hl, hm, hmm, hx, hel⟩
    · exact ⟨[.l sz []], ⟨[], rfl, Nat.zero_le _, fun _ => by simp, Nat.zero_le _, fun d hd => by simp at hd⟩, cells_one (.nil none 0 sz) (.l none 0 0 sz [] (Nat.le_refl _) (fun g off j q e d u h => by cases h)), bulkD_pos _⟩
    · simp at hmm
      subst hmm
      have hx1 : x.1 = .slice ((List.range len).map D) ((List.range (m - len)).map fun j => D (len + j)) := by rw [hx]
      have each : ∀ i, i < len → ∃ d : List Dat, Fits (∀ q ∈ x.1.weights P t, q ≤ reachBytes) (Rows.uptoBulk x.1) e d ∧ (∃ cs', W.cells? 0 (ad.add (i * sz)) sz = some cs' ∧ CellsAre (fun _ => True) W cs' d) ∧ 1 + bkL d ≤ Rows.uptoBulk (D i) := by
        intro i hi
        obtain ⟨cs', h1, h2⟩ := hel i (by omega)
        rw [hsz] at h1
        obtain ⟨d, f1, c1, b1⟩ := ih.1 te n cs' _ hE h2
        have hget : ((List.range len).map D)[i]? = some (D i) := by rw [List.getElem?_map, List.getElem?_range hi]; rfl
        have hw : ∀ q ∈ (D i).weights P te, q ∈ x.1.weights P t := fun q hq => by
          rw [hx1]
          simp only [DataW.weights, hu, List.mem_cons, List.mem_append]
          exact .inr (.inl (weights_all hget q hq))
        have hbk : Rows.uptoBulk (D i) ≤ Rows.uptoBulk x.1 := by
          rw [hx1]
          have := bulkD_in _ i _ hget
          simp only [Rows.uptoBulk]
          omega
        exact ⟨d, f1.mono (fun hs q hq => hs q (hw q hq)) hbk, ⟨cs', h1, c1⟩, b1⟩
      obtain ⟨es, hil, hip⟩ := list_pick len each
      have hcellA : ∀ (j : Nat) (d : List Dat), es[j]? = some d → d.length = sz ∧ ∀ (q : Nat) (y : Dat), d[q]? = some y → ∃ u, W.cell? (ad.add (j * sz + q)) = some u ∧ Reads (fun _ => True) W u y ∧ Caps W u y := fun j d hj => by
        obtain ⟨hf, ⟨cs', h1, h2⟩, _⟩ := hip j d hj
        obtain ⟨_, hlen, hc⟩ := World.cells?_some h1
        refine ⟨by rw [hf.len, hez], fun q y hy => ?_⟩
        obtain ⟨u, hu, hR⟩ := h2 q y hy
        have hq := (List.getElem?_eq_some_iff.1 hu).1
        have := hc q (by omega)
        rw [Go.Deep.add_add] at this
        exact ⟨u, this.trans hu, hR⟩
      refine ⟨[.l sz es], ⟨es, rfl, by omega, fun hs => ?_, ?_, fun d hd => ?_⟩, cells_one ?_ ?_, ?_⟩
      · have := hs ((len + (m - len)) * P.bytesOf te) (by rw [hx1]; simp [DataW.weights, hu])
        rw [hby, reachBytes] at this
        rw [hil]
        have h3 : len + (m - len) = m := by omega
        rw [h3] at this
        exact Nat.le_trans (Nat.mul_le_mul_right _ hl) this
      · rw [hx1, hil]
        have := bulkD_all ((List.range len).map D)
        rw [List.length_map, List.length_range] at this
        simp only [Rows.uptoBulk]
        omega
      · obtain ⟨i, hi, rfl⟩ := List.getElem_of_mem hd
        exact (hip i _ (List.getElem?_eq_getElem hi)).1
      · rw [← hil]
        by_cases h0 : len = 0
        · rw [List.eq_nil_of_length_eq_zero (by omega : es.length = 0)]
          exact .nil (some ad) m sz
        · obtain ⟨b, off, spot⟩ := ad
          have hcell : ∀ (j : Nat) (d : List Dat), es[j]? = some d → d.length = sz ∧ ∀ (q : Nat) (y : Dat), d[q]? = some y → ∃ u, W.cell? ((Addr.mk b off spot).add (j * sz + q)) = some u ∧ Reads (fun _ => True) W u y := fun j d hj => ⟨(hcellA j d hj).1, fun q y hy => by
            obtain ⟨u, h1, h2, _⟩ := (hcellA j d hj).2 q y hy
            exact ⟨u, h1, h2⟩⟩
          obtain ⟨d0, hd0⟩ : ∃ d, es[0]? = some d := ⟨es[0]'(by omega), List.getElem?_eq_getElem _⟩
          have hd0l := (hcell 0 d0 hd0).1
          obtain ⟨y0, hy0⟩ : ∃ y, d0[0]? = some y := ⟨d0[0]'(by omega), List.getElem?_eq_getElem _⟩
          obtain ⟨u0, hu0, _⟩ := (hcell 0 d0 hd0).2 0 y0 hy0
          have hspot : spot = none := by simpa [Addr.add] using World.cell?_spot hu0
          subst hspot
          have hb0 : b < W.heap.size := by have := World.block_lt_of_cell? W _ hu0; simpa [Addr.add] using this
          have hsome : ∀ (j : Nat) (d : List Dat) (q : Nat) (y : Dat), es[j]? = some d → d[q]? = some y → ∃ u, W.cell? ⟨b, off + j * sz + q, none⟩ = some u ∧ Reads (fun _ => True) W u y := fun j d q y hj hy => by
            obtain ⟨u, h1, h2⟩ := (hcell j d hj).2 q y hy
            rw [Addr.add_lit] at h1
            exact ⟨u, by rw [Nat.add_assoc]; exact h1, h2⟩
          refine .l b off m sz es (fun j q => (W.cell? ⟨b, off + j * sz + q, none⟩).getD undef) trivial hb0 (fun j d hj => (hcell j d hj).1) (fun j d q y hj hy => ?_) (fun j d q y hj hy => ?_)
          · obtain ⟨u, h1, _⟩ := hsome j d q y hj hy
            rw [h1]; rfl
          · obtain ⟨u, h1, h2⟩ := hsome j d q y hj hy
            rw [h1]; exact h2
      · refine .l (some ad) len m sz es hl (fun g off j q e d u hg hj hq hu => ?_)
        cases hg
        obtain ⟨u', h1, _, h2⟩ := (hcellA j e hj).2 q d hq
        rw [Addr.add_lit, ← Nat.add_assoc, hu] at h1
        cases h1
        exact h2
      · show 1 + (bkLL es + 0) ≤ _
        have := bkLL_le (D := D) es 0 (fun i e he => by rw [Nat.zero_add]; exact (hip i e he).2.2)
        simp only [Nat.zero_add] at this
        rw [hil] at this
        replace this : bkLL es ≤ Rows.uptoBulkAll ((List.range len).map D) := this
        rw [hx1]
        simp only [Rows.uptoBulk]
        omega
end
end Go.Proofs.YtgmekkgbobmplaaGreat

/- A message as an argument, with the bulk of all its lists. No walk here. -/
namespace Go.Proofs.YtgmekkgbobmplaaGreat
open Go.ChangeShapes Go.WideShapes Go.ChangeAt Go.RowKit

theorem bk_pairs (l : List Sg) : bkLL (l.map fun p => [.i p.1, .s p.2]) = l.length := by
  induction l with
  | nil => rfl
  | cons p r ih => rw [List.map_cons, bkLL, ih]; simp [bkL, Dat.bk]; omega
theorem bk_cts (l : List Ct) : bkLL (l.map dCt) = l.length + (l.flatMap fun x => x.2.2.2).length := by
  induction l with
  | nil => rfl
  | cons c r ih =>
    rw [List.map_cons, bkLL, ih, List.flatMap_cons, List.length_append, List.length_cons]
    have : bkL (dCt c) = c.2.2.2.length := by simp only [dCt, bkL, Dat.bk, dPairs, bk_pairs]; omega
    omega
theorem bk_cgs (l : List Cg) : bkLL (l.map dCg) = (l.flatMap cgG).length + (l.flatMap fun c => c.2.2.1).length := by
  induction l with
  | nil => rfl
  | cons c r ih =>
    rw [List.map_cons, bkLL, ih, List.flatMap_cons, List.flatMap_cons, List.length_append, List.length_append]
    have : bkL (dCg c) = c.2.2.1.length + (c.2.2.1.flatMap fun x => x.2.2.2).length := by simp only [dCg, bkL, Dat.bk, dCts, bk_cts]; omega
    have : (cgG c).length = (c.2.2.1.flatMap fun x => x.2.2.2).length + 1 := by rw [cgG, List.length_append]; rfl
    omega
theorem bk_ints (l : List Int) : bkLL (l.map fun x => [.i x]) = l.length := by
  induction l with
  | nil => rfl
  | cons p r ih => rw [List.map_cons, bkLL, ih]; simp [bkL, Dat.bk]; omega
theorem bk_lns (l : List Ln) : (l.flatMap fun k => k.2).length ≤ bkLL (l.map dLn) := by
  induction l with
  | nil => exact Nat.le_refl _
  | cons k r ih =>
    rw [List.map_cons, bkLL, List.flatMap_cons, List.length_append]
    have : bkL (dLn k) = k.1.2.length + k.2.length := by simp only [dLn, bkL, Dat.bk, dInts, dPairs, bk_pairs, bk_ints]; omega
    omega
theorem bk_tm (m : Ms) : (tmG m).length ≤ bkL (dMs m) := by
  have h1 := bk_lns m.ln
  have h2 : bkL (dMs m) = m.nx.length + (m.sg.length + (bkLL (m.cg.map dCg) + bkLL (m.ln.map dLn))) := by simp only [dMs, bkL, Dat.bk, dInts, dPairs, dCgs, dLns, bk_pairs, bk_ints]; omega
  rw [h2, bk_cgs, tmG, List.length_append, List.length_append]
  omega
section
variable {H : Type} {enc : TypeId × Value → H} {W : World} {fuel : Nat} {x : DataW H × List MemPlace}
theorem open_msgS {c0 c1 c2 c3 c4 c5 c6 c7 c8 c9 c10 c11 c12 c13 c14 c15 c16 : Value} (h : DataW.trod enc Tryz.prog W 0 (fun _ => true) true fuel 48 [c0, c1, c2, c3, c4, c5, c6, c7, c8, c9, c10, c11, c12, c13, c14, c15, c16] = some x) :
    ∃ (m : Ms) (a13 : Option Addr) (k13 : Nat) (a14 : Option Addr) (k14 : Nat) (a15 : Option Addr) (k15 : Nat) (a16 : Option Addr) (k16 : Nat), (c0 = .int .i64 m.k ∧ c1 = .int .i64 m.ep ∧ c2 = .int .i64 m.v ∧ c3 = .int .i64 m.sl ∧ c4 = .int .i64 m.rq.c ∧ c5 = .int .i64 m.rq.st ∧ c6 = .int .i64 m.rq.k ∧ c7 = .string m.rq.key ∧ c8 = .float .f64 m.rq.b ∧ c9 = .int .i64 m.rq.id ∧ c10 = .int .i64 m.rs.1 ∧ c11 = .float .f64 m.rs.2 ∧ c12 = .string m.tx ∧ c13 = .slice a13 m.nx.length k13 ∧ c14 = .slice a14 m.sg.length k14 ∧ c15 = .slice a15 m.cg.length k15 ∧ c16 = .slice a16 m.ln.length k16) ∧ MsB m ∧ MsL (fun _ => True) W m (.slice a13 m.nx.length k13) (.slice a14 m.sg.length k14) (.slice a15 m.cg.length k15) (.slice a16 m.ln.length k16) ∧ (tmG m).length ≤ Rows.uptoBulk x.1 := by
  obtain ⟨ds, hf, hc, hbk⟩ := (opens_sum Tryz.prog shMsg).1 _ _ _ _ of_msg h
  obtain ⟨m, rfl, hB⟩ := fit_msg hf
  obtain ⟨v13, v14, v15, v16, hcs, hL⟩ := ms_cells (m := m) rfl hc
  obtain ⟨a13, k13, e13⟩ := Reads.form hL.nx
  obtain ⟨a14, k14, e14⟩ := Reads.form hL.sg
  obtain ⟨a15, k15, e15⟩ := Reads.form hL.cg
  obtain ⟨a16, k16, e16⟩ := Reads.form hL.ln
  rw [List.length_map] at e13 e14 e15 e16
  subst e13 e14 e15 e16
  simp only [msC, List.cons.injEq, and_true] at hcs
  exact ⟨m, a13, k13, a14, k14, a15, k15, a16, k16, hcs, hB, hL, by have := bk_tm m; omega⟩
end
end Go.Proofs.YtgmekkgbobmplaaGreat

/- Lists of packets, scripts of the lanes' laws, as arguments, with bounds out of their bulk. No walk here. -/
namespace Go.Proofs.YtgmekkgbobmplaaGreat
open Go.ChangeShapes Go.WideShapes Go.ChangeAt Go.RowKit

section
variable {S : Prop} {U : Nat}
theorem fitU_ints {ds : List Dat} (h : Fits S U shInts ds) : ∃ xs : List Int, ds = [dInts xs] ∧ intsR xs ∧ xs.length ≤ U := by
  obtain ⟨es, rfl, h1, _, h2, h3⟩ := h
  obtain ⟨xs, rfl, h4⟩ := fits_map (f := fun x : Int => [Dat.i x]) (Q := iR) es (fun d hd => by obtain ⟨x, hx, hr⟩ := h3 d hd; exact ⟨x, hx, hr⟩)
  rw [List.length_map] at h1 h2
  exact ⟨xs, rfl, ⟨h1, h4⟩, h2⟩
theorem fitU_sig {ds : List Dat} (h : Fits S U shSig ds) : ∃ p : Sg, ds = [.i p.1, .s p.2] ∧ (iR p.1 ∧ p.2.size ≤ maxLen) ∧ p.2.size ≤ U := by
  obtain ⟨d1, d2, rfl, ⟨x, rfl, hx⟩, d3, d4, rfl, ⟨y, rfl, hy, _, hu⟩, rfl⟩ := h
  exact ⟨(x, y), rfl, ⟨hx, hy⟩, hu⟩
theorem fitU_sigs {ds : List Dat} (h : Fits S U shSigs ds) : ∃ ps : List Sg, ds = [dPairs ps] ∧ sgsR ps ∧ ps.length ≤ U ∧ ∀ p, p ∈ ps → p.2.size ≤ U := by
  obtain ⟨es, rfl, h1, _, h2, h3⟩ := h
  obtain ⟨ps, rfl, h4⟩ := fits_map (f := fun p : Sg => [Dat.i p.1, Dat.s p.2]) (Q := fun p => (iR p.1 ∧ p.2.size ≤ maxLen) ∧ p.2.size ≤ U) es (fun d hd => fitU_sig (h3 d hd))
  rw [List.length_map] at h1 h2
  exact ⟨ps, rfl, ⟨h1, fun p hp => (h4 p hp).1⟩, h2, fun p hp => (h4 p hp).2⟩
theorem fitU_req {ds : List Dat} (h : Fits S U shReq ds) : ∃ r : Rq, ds = [.i r.c, .i r.st, .i r.k, .s r.key, .f r.b, .i r.id] ∧ rqR r ∧ r.key.size ≤ U := by
  obtain ⟨d1, d2, rfl, ⟨c, rfl, hc⟩, d3, d4, rfl, ⟨st, rfl, hst⟩, d5, d6, rfl, ⟨d7, d8, rfl, ⟨k, rfl, hk⟩, d9, d10, rfl, ⟨key, rfl, hkey, _, hu⟩, d11, d12, rfl, ⟨b, rfl, hb⟩, d13, d14, rfl, ⟨id, rfl, hid⟩, rfl⟩, rfl⟩ := h
  exact ⟨⟨c, st, k, key, b, id⟩, rfl, ⟨⟨hc, hst⟩, ⟨hk, hid⟩, hkey, hb⟩, hu⟩
def ctU (U : Nat) (c : Ct) : Prop := c.2.2.1.key.size ≤ U ∧ c.2.2.2.length ≤ U ∧ ∀ p, p ∈ c.2.2.2 → p.2.size ≤ U
def cgU (U : Nat) (c : Cg) : Prop := c.2.2.1.length ≤ U ∧ (∀ x, x ∈ c.2.2.1 → ctU U x) ∧ c.2.2.2.2.size ≤ U
def lnU (U : Nat) (k : Ln) : Prop := k.1.2.length ≤ U ∧ k.2.length ≤ U ∧ ∀ p, p ∈ k.2 → p.2.size ≤ U
theorem fitU_cert {ds : List Dat} (h : Fits S U shCert ds) : ∃ c : Ct, ds = dCt c ∧ ctR c ∧ ctU U c := by
  obtain ⟨d1, d2, rfl, ⟨v, rfl, hv⟩, d3, d4, rfl, ⟨sl, rfl, hsl⟩, d5, d6, rfl, hr, d7, d8, rfl, hs, rfl⟩ := h
  obtain ⟨r, rfl, hr2, hr3⟩ := fitU_req hr
  obtain ⟨ps, rfl, hp, hp2⟩ := fitU_sigs hs
  exact ⟨(v, sl, r, ps), rfl, ⟨⟨hv, hsl⟩, hr2, hp⟩, hr3, hp2⟩
theorem fitU_certs {ds : List Dat} (h : Fits S U shCerts ds) : ∃ l : List Ct, ds = [dCts l] ∧ (l.length ≤ maxLen ∧ ∀ x, x ∈ l → ctR x) ∧ l.length ≤ U ∧ ∀ x, x ∈ l → ctU U x := by
  obtain ⟨es, rfl, h1, _, h2, h3⟩ := h
  obtain ⟨l, rfl, h4⟩ := fits_map (f := dCt) (Q := fun c => ctR c ∧ ctU U c) es (fun d hd => fitU_cert (h3 d hd))
  rw [List.length_map] at h1 h2
  exact ⟨l, rfl, ⟨h1, fun x hx => (h4 x hx).1⟩, h2, fun x hx => (h4 x hx).2⟩
theorem fitU_chg {ds : List Dat} (h : Fits S U shChg ds) : ∃ c : Cg, ds = dCg c ∧ cgR c ∧ cgU U c := by
  obtain ⟨d1, d2, rfl, ⟨v, rfl, hv⟩, d3, d4, rfl, ⟨sl, rfl, hsl⟩, d5, d6, rfl, hr, d7, d8, rfl, hs, rfl⟩ := h
  obtain ⟨l, rfl, hl, hl2, hl3⟩ := fitU_certs hr
  obtain ⟨p, rfl, hp, hp2⟩ := fitU_sig hs
  exact ⟨(v, sl, l, p), rfl, ⟨⟨hv, hsl⟩, hl, hp⟩, hl2, hl3, hp2⟩
theorem fitU_chgs {ds : List Dat} (h : Fits S U shChgs ds) : ∃ l : List Cg, ds = [dCgs l] ∧ (l.length ≤ maxLen ∧ ∀ x, x ∈ l → cgR x) ∧ l.length ≤ U ∧ ∀ x, x ∈ l → cgU U x := by
  obtain ⟨es, rfl, h1, _, h2, h3⟩ := h
  obtain ⟨l, rfl, h4⟩ := fits_map (f := dCg) (Q := fun c => cgR c ∧ cgU U c) es (fun d hd => fitU_chg (h3 d hd))
  rw [List.length_map] at h1 h2
  exact ⟨l, rfl, ⟨h1, fun x hx => (h4 x hx).1⟩, h2, fun x hx => (h4 x hx).2⟩
theorem fitU_link {ds : List Dat} (h : Fits S U shLink ds) : ∃ k : Ln, ds = dLn k ∧ lnR k ∧ lnU U k := by
  obtain ⟨d1, d2, rfl, ⟨d5, d6, rfl, ⟨x, rfl, hx⟩, d7, d8, rfl, hi, rfl⟩, d3, d4, rfl, h3, rfl⟩ := h
  obtain ⟨xs, rfl, h4, h5⟩ := fitU_ints hi
  obtain ⟨ps, rfl, h6, h7⟩ := fitU_sigs h3
  exact ⟨((x, xs), ps), rfl, ⟨hx, h4, h6⟩, h5, h7⟩
theorem fitU_links {ds : List Dat} (h : Fits S U shLinks ds) : ∃ l : List Ln, ds = [dLns l] ∧ (l.length ≤ maxLen ∧ ∀ x, x ∈ l → lnR x) ∧ l.length ≤ U ∧ ∀ x, x ∈ l → lnU U x := by
  obtain ⟨es, rfl, h1, _, h2, h3⟩ := h
  obtain ⟨l, rfl, h4⟩ := fits_map (f := dLn) (Q := fun c => lnR c ∧ lnU U c) es (fun d hd => fitU_link (h3 d hd))
  rw [List.length_map] at h1 h2
  exact ⟨l, rfl, ⟨h1, fun x hx => (h4 x hx).1⟩, h2, fun x hx => (h4 x hx).2⟩
structure msU (U : Nat) (m : Ms) : Prop where
  key : m.rq.key.size ≤ U
  tx : m.tx.size ≤ U
  nx : m.nx.length ≤ U
  sg : m.sg.length ≤ U ∧ ∀ p, p ∈ m.sg → p.2.size ≤ U
  cg : m.cg.length ≤ U ∧ ∀ c, c ∈ m.cg → cgU U c
  ln : m.ln.length ≤ U ∧ ∀ c, c ∈ m.ln → lnU U c
theorem fitU_msg {ds : List Dat} (h : Fits S U shMsg ds) : ∃ m : Ms, ds = dMs m ∧ MsB m ∧ msU U m := by
  obtain ⟨d1, d2, rfl, ⟨k, rfl, hk⟩, d3, d4, rfl, ⟨ep, rfl, hep⟩, d5, d6, rfl, ⟨v, rfl, hv⟩, d7, d8, rfl, ⟨sl, rfl, hsl⟩, d9, d10, rfl, hr, d11, d12, rfl, ⟨e1, e2, rfl, ⟨rc, rfl, hrc⟩, e3, e4, rfl, ⟨rf, rfl, hrf⟩, rfl⟩, d13, d14, rfl, ⟨tx, rfl, htx, _, htu⟩, d15, d16, rfl, hi, d17, d18, rfl, hs, d19, d20, rfl, hc, d21, d22, rfl, hl, rfl⟩ := h
  obtain ⟨r, rfl, hr2, hr3⟩ := fitU_req hr
  obtain ⟨xs, rfl, hx, hx2⟩ := fitU_ints hi
  obtain ⟨ps, rfl, hp, hp2⟩ := fitU_sigs hs
  obtain ⟨cg, rfl, hcg, hcg2⟩ := fitU_chgs hc
  obtain ⟨ln, rfl, hln, hln2⟩ := fitU_links hl
  exact ⟨⟨k, ep, v, sl, r, (rc, rf), tx, xs, ps, cg, ln⟩, rfl, ⟨hk, hep, hv, hsl, hr2, hrc, hrf, htx, hx, hp, hcg, hln⟩, ⟨hr3, htu, hx2, hp2, hcg2, hln2⟩⟩
theorem msU.s {m : Ms} (h : msU U m) (hU : U ≤ 1048576) : msS m := by
  have hsg : ∀ l : List Sg, l.length ≤ U → (∀ p, p ∈ l → p.2.size ≤ U) → sgsS l := fun l h1 h2 => ⟨by omega, fun p hp => by have := h2 p hp; show p.2.size ≤ 281474976710656; omega⟩
  refine ⟨by have := h.key; omega, by have := h.tx; omega, by have := h.nx; omega, hsg _ h.sg.1 h.sg.2, ⟨by have := h.cg.1; omega, fun c hc => ?_⟩, ⟨by have := h.ln.1; omega, fun k hk => ?_⟩⟩
  · obtain ⟨h1, h2, h3⟩ := h.cg.2 c hc
    refine ⟨⟨by omega, fun x hx => ?_⟩, by show c.2.2.2.2.size ≤ 281474976710656; omega⟩
    obtain ⟨h4, h5, h6⟩ := h2 x hx
    exact ⟨by omega, hsg _ h5 h6⟩
  · obtain ⟨h1, h2, h3⟩ := h.ln.2 k hk
    exact ⟨by omega, hsg _ h2 h3⟩
theorem tm_fitP {m : Ms} (h : MsB m) : ∀ p, p ∈ tmG m → fitP p := by
  intro p hp
  simp only [tmG, List.mem_append, List.mem_flatMap] at hp
  rcases hp with hp | ⟨c, hc, hp⟩ | ⟨k, hk, hp⟩
  · exact h.sg.2 p hp
  · simp only [cgG, List.mem_append, List.mem_flatMap, List.mem_singleton] at hp
    rcases hp with ⟨x, hx, hp⟩ | rfl
    · exact (((h.cg.2 c hc).2.1.2 x hx).2.2).2 p hp
    · exact (h.cg.2 c hc).2.2
  · exact (h.ln.2 k hk).2.2.2 p hp
/-- What is known of a packet that came in. -/
def pkU (U : Nat) (q : Pkt) : Prop := pktR q ∧ msU U q.2.2
theorem fitU_pkt {ds : List Dat} (h : Fits S U shPkt ds) : ∃ q : Pkt, ds = dPk q ∧ pkU U q := by
  obtain ⟨d1, r1, rfl, ⟨fr, rfl, h1⟩, d2, r2, rfl, ⟨tg, rfl, h2⟩, d3, r3, rfl, h3, rfl⟩ := h
  obtain ⟨m, rfl, hm, hm2⟩ := fitU_msg h3
  exact ⟨(fr, tg, m), by simp [dPk], ⟨h1, h2, hm⟩, hm2⟩
def shPkts : Sh := .l 232 19 shPkt
theorem of_pkts : shPkts.Of Tryz.prog (.inl 29) := ⟨_, Tryz.underlying29, by kernel_rfl, by kernel_rfl, rfl, by decide, of_pkt⟩
theorem fitU_pkts {ds : List Dat} (h : Fits S U shPkts ds) : ∃ l : List Pkt, ds = [.l 19 (l.map dPk)] ∧ (l.length ≤ maxLen ∧ l.length ≤ U) ∧ ∀ q, q ∈ l → pkU U q := by
  obtain ⟨es, rfl, h1, _, h2, h3⟩ := h
  obtain ⟨l, rfl, h4⟩ := fits_map (f := dPk) (Q := pkU U) es (fun d hd => fitU_pkt (h3 d hd))
  rw [List.length_map] at h1 h2
  exact ⟨l, rfl, ⟨h1, h2⟩, h4⟩
theorem bk_pks (l : List Pkt) : (l.flatMap fun q => tmG q.2.2).length + l.length ≤ bkLL (l.map dPk) := by
  induction l with
  | nil => exact Nat.le_refl _
  | cons q r ih =>
    rw [List.map_cons, bkLL, List.flatMap_cons, List.length_append, List.length_cons]
    have h1 := bk_tm q.2.2
    have : bkL (dPk q) = bkL (dMs q.2.2) := by simp [dPk, bkL, Dat.bk]
    omega
end
section
variable {H : Type} {enc : TypeId × Value → H} {W : World} {fuel : Nat} {x : DataW H × List MemPlace}
theorem open_pkts {ad : Option Addr} {len cap : Nat} (h : DataW.trod enc Tryz.prog W 0 (fun _ => true) true fuel 29 [.slice ad len cap] = some x) :
    ∃ l : List Pkt, l.length = len ∧ Reads (fun _ => True) W (.slice ad len cap) (.l 19 (l.map dPk)) ∧ (∀ q, q ∈ l → pkU (Rows.uptoBulk x.1) q) ∧ (l.flatMap fun q => tmG q.2.2).length + l.length ≤ Rows.uptoBulk x.1 := by
  obtain ⟨ds, hf, hc, hbk⟩ := (opens_sum Tryz.prog shPkts).1 _ _ _ _ of_pkts h
  obtain ⟨l, rfl, h1, h3⟩ := fitU_pkts hf
  obtain ⟨u0, e0, r0, _⟩ := hc 0 _ rfl
  cases e0
  obtain ⟨ad', cap', hv⟩ := r0.form
  rw [List.length_map] at hv
  cases hv
  have h9 := bk_pks l
  have h8 : bkL [Dat.l 19 (l.map dPk)] = bkLL (l.map dPk) := by simp [bkL, Dat.bk]
  exact ⟨l, rfl, r0, h3, by omega⟩
end
end Go.Proofs.YtgmekkgbobmplaaGreat
