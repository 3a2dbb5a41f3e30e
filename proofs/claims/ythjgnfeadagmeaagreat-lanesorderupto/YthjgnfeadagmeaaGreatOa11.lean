/- Texts laid together: LnR LnS LnT LnU LnV NOrd. -/
import Derived.Test.YthjgnfeadagmeaaGreatLnQM
import Derived.Test.YthjgnfeadagmeaaGreatLnPM
import Derived.Test.YthjgnfeadagmeaaGreatWsPM
import Derived.Maps.AppendAt
/- Packets sent and taken in their order: plain lists. No walk here. -/
namespace Go.Proofs.YthjgnfeadagmeaaGreat
open Go.RowKit

theorem nrmR2 (r : Rq) : normR (normR r) = normR r := by cases r; simp [normR, canW_idem]
theorem mapI2 {α : Type} {f : α → α} (h : ∀ x, f (f x) = f x) (l : List α) : (l.map f).map f = l.map f := by rw [List.map_map]; congr 1; funext x; exact h x
theorem norm_norm (m : Ms) : normM (normM m) = normM m := by
  have h1 : ∀ c, nCt (nCt c) = nCt c := fun c => by obtain ⟨a, b, c, d⟩ := c; simp [nCt, nrmR2]
  have h2 : ∀ c, nCg (nCg c) = nCg c := fun c => by obtain ⟨a, b, c, d⟩ := c; simp only [nCg, mapI2 h1]
  cases m
  simp only [normM, nrmR2, canW_idem, mapI2 h2]
theorem sendP_map (qs : List Pkt) : ∀ ps : List Pkt, ps.length + qs.length ≤ 4096 → sendP ps qs = ps ++ qs.map nrmP := by
  induction qs with
  | nil => intro ps _; show ps = _; simp
  | cons q r ih =>
    intro ps h
    rw [List.length_cons] at h
    show sendP (addP ps (nrmP q)) r = _
    rw [addP_yes (by omega), ih _ (by rw [List.length_append, List.length_singleton]; omega)]
    simp
theorem samePk_nrm (q : Pkt) : samePk (nrmP q) q = true := by
  unfold samePk
  have h : sameMs (nrmP q).2.2 q.2.2 = true := (sameMs_iff _ _).2 (norm_norm q.2.2)
  rw [h]
  simp [nrmP]
theorem samePk_nrm2 (q : Pkt) : samePk (nrmP (nrmP q)) q = true := by
  unfold samePk
  have h : sameMs (nrmP (nrmP q)).2.2 q.2.2 = true := (sameMs_iff _ _).2 (by show normM (normM (normM q.2.2)) = normM q.2.2; rw [norm_norm, norm_norm])
  rw [h]
  simp [nrmP]
/-- What is under way where packets were sent and one of them doubled, and what was wanted. -/
def wayL (qs : List Pkt) (p : Nat) : List Pkt := qs.map nrmP ++ ((qs.map nrmP)[p]?.map nrmP).toList
def wantL (qs : List Pkt) (p : Nat) : List Pkt := qs ++ qs[p]?.toList
theorem way_len (qs : List Pkt) (p : Nat) : (wayL qs p).length = (wantL qs p).length := by
  unfold wayL wantL
  rw [List.length_append, List.length_append, List.length_map, List.getElem?_map]
  cases qs[p]? <;> rfl
theorem way_same (qs : List Pkt) (p i : Nat) (x y : Pkt) (hx : (wayL qs p)[i]? = some x) (hy : (wantL qs p)[i]? = some y) : samePk x y = true := by
  unfold wayL at hx
  unfold wantL at hy
  rcases Nat.lt_or_ge i qs.length with hi | hi
  · rw [List.getElem?_append_left (by rw [List.length_map]; exact hi), List.getElem?_map] at hx
    rw [List.getElem?_append_left hi] at hy
    rw [hy] at hx
    cases hx
    exact samePk_nrm y
  · rw [List.getElem?_append_right (by rw [List.length_map]; exact hi), List.length_map, List.getElem?_map] at hx
    rw [List.getElem?_append_right hi] at hy
    cases hq : qs[p]? with
    | none => rw [hq] at hy; simp at hy
    | some q =>
      rw [hq] at hx hy
      cases hk : i - qs.length with
      | zero => rw [hk] at hx hy; simp at hx hy; rw [← hx, ← hy]; exact samePk_nrm2 q
      | succ k => rw [hk] at hy; simp at hy
end Go.Proofs.YthjgnfeadagmeaaGreat

/- A row of packets in memory, as a list of rows of cells. No walk here. -/
namespace Go.Proofs.YthjgnfeadagmeaaGreat
open Go.RowKit

def PkRow (F : Nat → Prop) (w : World) (g o : Nat) (q : Pkt) (L : List Value) : Prop := ∃ (a13 : Option Addr) (c13 : Nat) (a14 : Option Addr) (c14 : Nat) (a15 : Option Addr) (c15 : Nat) (a16 : Option Addr) (c16 : Nat), L = pkC q.1 q.2.1 q.2.2 (.slice a13 q.2.2.nx.length c13) (.slice a14 q.2.2.sg.length c14) (.slice a15 q.2.2.cg.length c15) (.slice a16 q.2.2.ln.length c16) ∧ (∀ (i : Nat) (u : Value), L[i]? = some u → w.cell? ⟨g, o + i, none⟩ = some u) ∧ MsL F w q.2.2 (.slice a13 q.2.2.nx.length c13) (.slice a14 q.2.2.sg.length c14) (.slice a15 q.2.2.cg.length c15) (.slice a16 q.2.2.ln.length c16)
theorem PkRow.len {F : Nat → Prop} {w : World} {g o : Nat} {q : Pkt} {L : List Value} (h : PkRow F w g o q L) : L.length = 19 := by
  obtain ⟨_, _, _, _, _, _, _, _, rfl, _⟩ := h
  rfl
theorem pks_rows {F : Nat → Prop} {w : World} {v : Value} {qs : List Pkt} (h : Reads F w v (.l 19 (qs.map dPk))) (h0 : 0 < qs.length) :
    ∃ g off cap, ∃ R : List (List Value), v = .slice (some ⟨g, off, none⟩) qs.length cap ∧ g < w.heap.size ∧ R.length = qs.length ∧ ∀ (j : Nat) (q : Pkt), qs[j]? = some q → ∃ L, R[j]? = some L ∧ PkRow F w g (off + j * 19) q L := by
  obtain ⟨q0, h1⟩ : ∃ q0, qs[0]? = some q0 := ⟨_, List.getElem?_eq_getElem h0⟩
  obtain ⟨g, off, cap, _, _, _, _, _, _, _, _, hv, _, hg, _, _⟩ := pk_at h 0 q0 h1
  have hx : ∀ j : Fin qs.length, ∃ L, PkRow F w g (off + j.1 * 19) (qs[j.1]) L := fun j => by
    obtain ⟨g2, off2, cap2, a13, c13, a14, c14, a15, c15, a16, c16, hv2, _, _, hc, hm⟩ := pk_at h j.1 (qs[j.1]) (List.getElem?_eq_getElem j.2)
    rw [hv] at hv2
    cases hv2
    exact ⟨_, a13, c13, a14, c14, a15, c15, a16, c16, rfl, hc, hm⟩
  refine ⟨g, off, cap, List.ofFn fun j => Classical.choose (hx j), hv, hg, List.length_ofFn, fun j q hj => ?_⟩
  obtain ⟨hl, rfl⟩ := List.getElem?_eq_some_iff.1 hj
  exact ⟨_, by rw [List.getElem?_ofFn, dif_pos hl], Classical.choose_spec (hx ⟨j, hl⟩)⟩
theorem flat_len {R : List (List Value)} (hR : ∀ L, L ∈ R → L.length = 19) : R.flatten.length = R.length * 19 := by
  induction R with
  | nil => rfl
  | cons a r ih =>
    rw [List.flatten_cons, List.length_append, hR a List.mem_cons_self, ih (fun L hL => hR L (List.mem_cons_of_mem _ hL)), List.length_cons]
    omega
theorem flat_get {R : List (List Value)} (hR : ∀ L, L ∈ R → L.length = 19) : ∀ (j : Nat) (L : List Value) (i : Nat), R[j]? = some L → i < 19 → R.flatten[j * 19 + i]? = L[i]? := by
  induction R with
  | nil => intro j L i h; cases h
  | cons a r ih =>
    intro j L i h hi
    have ha := hR a List.mem_cons_self
    rw [List.flatten_cons]
    cases j with
    | zero =>
      cases h
      rw [List.getElem?_append_left (by omega)]
      congr 1
      omega
    | succ k =>
      rw [List.getElem?_append_right (by omega), ha]
      have := ih (fun L hL => hR L (List.mem_cons_of_mem _ hL)) k L i h hi
      rw [← this]
      congr 1
      omega
theorem flat_in {R : List (List Value)} (hR : ∀ L, L ∈ R → L.length = 19) {k : Nat} {u : Value} (h : R.flatten[k]? = some u) : ∃ L, R[k / 19]? = some L ∧ L[k % 19]? = some u := by
  have hk := (List.getElem?_eq_some_iff.1 h).1
  rw [flat_len hR] at hk
  have hj : k / 19 < R.length := by omega
  refine ⟨R[k / 19], List.getElem?_eq_getElem hj, ?_⟩
  rw [← flat_get hR (k / 19) _ (k % 19) (List.getElem?_eq_getElem hj) (Nat.mod_lt _ (by decide)), ← h]
  congr 1
  omega
end Go.Proofs.YthjgnfeadagmeaaGreat

/- One packet's cells read as a row of one. No walk here. -/
namespace Go.Proofs.YthjgnfeadagmeaaGreat
open Go.RowKit

theorem reads_pk {F : Nat → Prop} {w : World} {g o : Nat} {q : Pkt} {a13 a14 a15 a16 : Option Addr} {c13 c14 c15 c16 : Nat} (hF : F g) (hg : g < w.heap.size)
    (hc : ∀ (i : Nat) (u : Value), (pkC q.1 q.2.1 q.2.2 (.slice a13 q.2.2.nx.length c13) (.slice a14 q.2.2.sg.length c14) (.slice a15 q.2.2.cg.length c15) (.slice a16 q.2.2.ln.length c16))[i]? = some u → w.cell? ⟨g, o + i, none⟩ = some u) (hm : MsL F w q.2.2 (.slice a13 q.2.2.nx.length c13) (.slice a14 q.2.2.sg.length c14) (.slice a15 q.2.2.cg.length c15) (.slice a16 q.2.2.ln.length c16)) (cap : Nat) :
    Reads F w (.slice (some ⟨g, o, none⟩) 1 cap) (.l 19 ([q].map dPk)) := by
  refine Reads.l g o cap 19 [dPk q] (fun _ i => (pkC q.1 q.2.1 q.2.2 (.slice a13 q.2.2.nx.length c13) (.slice a14 q.2.2.sg.length c14) (.slice a15 q.2.2.cg.length c15) (.slice a16 q.2.2.ln.length c16)).getD i (.int .i64 0)) hF hg (fun j e he => ?_) (fun j e i d he hd => ?_) (fun j e i d he hd => ?_)
  · have hj := (List.getElem?_eq_some_iff.1 he).1
    obtain rfl : j = 0 := by simpa using hj
    cases he
    rfl
  · have hj := (List.getElem?_eq_some_iff.1 he).1
    obtain rfl : j = 0 := by simpa using hj
    cases he
    have hi : i < 19 := (List.getElem?_eq_some_iff.1 hd).1
    rw [Nat.zero_mul, Nat.add_zero]
    refine hc i _ ?_
    have hl : i < (pkC q.1 q.2.1 q.2.2 (.slice a13 q.2.2.nx.length c13) (.slice a14 q.2.2.sg.length c14) (.slice a15 q.2.2.cg.length c15) (.slice a16 q.2.2.ln.length c16)).length := hi
    rw [List.getD_eq_getElem?_getD, List.getElem?_eq_getElem hl]
    rfl
  · have hj := (List.getElem?_eq_some_iff.1 he).1
    obtain rfl : j = 0 := by simpa using hj
    cases he
    have hi : i < 19 := (List.getElem?_eq_some_iff.1 hd).1
    match i, hd with
    | 0, h => cases h; exact .i _
    | 1, h => cases h; exact .i _
    | 2, h => cases h; exact .i _
    | 3, h => cases h; exact .i _
    | 4, h => cases h; exact .i _
    | 5, h => cases h; exact .i _
    | 6, h => cases h; exact .i _
    | 7, h => cases h; exact .i _
    | 8, h => cases h; exact .i _
    | 9, h => cases h; exact .s _
    | 10, h => cases h; exact .f _
    | 11, h => cases h; exact .i _
    | 12, h => cases h; exact .i _
    | 13, h => cases h; exact .f _
    | 14, h => cases h; exact .s _
    | 15, h => cases h; exact hm.nx
    | 16, h => cases h; exact hm.sg
    | 17, h => cases h; exact hm.cg
    | 18, h => cases h; exact hm.ln
    | n + 19, _ => exact absurd hi (by omega)
end Go.Proofs.YthjgnfeadagmeaaGreat

/- A row of packets of one's own: what lies in it, one of them as a row of one, a row of one that is built. No walk here. -/
namespace Go.Proofs.YthjgnfeadagmeaaGreat
open Go.RowKit

theorem infoPk : (Tryz.prog.info? 50).map (fun i => (i.zero, i.size, i.bytes)) = some (some (.agg zPk.toArray), 19, 232) := by kernel_rfl
theorem undPk : Tryz.prog.underlying 29 = some (.slice 50) := by kernel_rfl
/-- These cells are the packet's, its lists in blocks of F. -/
def PkL (F : Nat → Prop) (w : World) (q : Pkt) (L : List Value) : Prop := ∃ (a13 : Option Addr) (c13 : Nat) (a14 : Option Addr) (c14 : Nat) (a15 : Option Addr) (c15 : Nat) (a16 : Option Addr) (c16 : Nat), L = pkC q.1 q.2.1 q.2.2 (.slice a13 q.2.2.nx.length c13) (.slice a14 q.2.2.sg.length c14) (.slice a15 q.2.2.cg.length c15) (.slice a16 q.2.2.ln.length c16) ∧ MsL F w q.2.2 (.slice a13 q.2.2.nx.length c13) (.slice a14 q.2.2.sg.length c14) (.slice a15 q.2.2.cg.length c15) (.slice a16 q.2.2.ln.length c16)
theorem set_zpk (fr tg : Int) (m : Ms) (v13 v14 v15 v16 : Value) : setAt zPk 0 (pkC fr tg m v13 v14 v15 v16).toArray.toList = pkC fr tg m v13 v14 v15 v16 := by
  have h := jn_mid (pkC fr tg m v13 v14 v15 v16) [] zPk [] rfl
  simpa using h
theorem yields_ldat {ops : Array Oper} {S : World → Prop} {op : Oper} {a : Act} (hw : Region.wanted op (yielded ops a.tmps) = true) (ty : TypeId) (x : Operand) (ho : op.op = .load ty x) (b o : Nat) (hx : a.eval x = .pointer (some ⟨b, o, none⟩)) (cs : List Value) (d : TypeDesc) (hS : ∀ w, S w → w.rangeAt b o cs)
    (hu : Tryz.prog.underlying ty = some d) (hd : d.isRow = true) (hi : (Tryz.prog.info? ty).map (·.size) = some cs.length) (A : Value) (hA : A = .agg cs.toArray) : YieldsIf Tryz.prog ops S op A a := by
  rw [hA]
  exact yieldsIf_load_mid hw ty x ho b o hx cs d hS hu hd hi
theorem PkRow.cells {F : Nat → Prop} {w : World} {g o : Nat} {q : Pkt} {L : List Value} (h : PkRow F w g o q L) : PkL F w q L := by
  obtain ⟨a13, c13, a14, c14, a15, c15, a16, c16, h1, _, h3⟩ := h
  exact ⟨a13, c13, a14, c14, a15, c15, a16, c16, h1, h3⟩
theorem PkL.len {F : Nat → Prop} {w : World} {q : Pkt} {L : List Value} (h : PkL F w q L) : L.length = 19 := by
  obtain ⟨_, _, _, _, _, _, _, _, rfl, _⟩ := h
  rfl
theorem PkL.one {F : Nat → Prop} {w : World} {q : Pkt} {L : List Value} (h : PkL F w q L) (u : Value) (hu : u ∈ L) : u.oneCell' = true := by
  obtain ⟨_, _, _, _, _, _, _, _, rfl, _⟩ := h
  simp [pkC, msC] at hu
  rcases hu with rfl | rfl | rfl | rfl | rfl | rfl | rfl | rfl | rfl | rfl | rfl | rfl | rfl | rfl | rfl | rfl | rfl | rfl | rfl <;> rfl
theorem PkL.keep {F : Nat → Prop} {w w' : World} {q : Pkt} {L : List Value} (h : PkL F w q L) (hs : w.heap.size ≤ w'.heap.size) (hb : ∀ k, k < w.heap.size → F k → w'.heap[k]? = w.heap[k]?) : PkL F w' q L := by
  obtain ⟨a13, c13, a14, c14, a15, c15, a16, c16, h1, h3⟩ := h
  exact ⟨a13, c13, a14, c14, a15, c15, a16, c16, h1, h3.keep hs hb⟩
/-- A row of packets of one's own at v, in a block from B on. -/
def WtR (F : Nat → Prop) (B : Nat) (w : World) (v : Value) (W : List Pkt) : Prop := ∃ G : List (List Value), w.ownsRow B 50 19 v W.length G.flatten ∧ G.length = W.length ∧ ∀ (i : Nat) (q : Pkt), W[i]? = some q → ∃ L, G[i]? = some L ∧ PkL F w q L
theorem rows_wid {F : Nat → Prop} {w : World} {W : List Pkt} {G : List (List Value)} (hl : G.length = W.length) (h : ∀ (i : Nat) (q : Pkt), W[i]? = some q → ∃ L, G[i]? = some L ∧ PkL F w q L) (L : List Value) (hL : L ∈ G) : L.length = 19 := by
  obtain ⟨i, hi⟩ := List.mem_iff_getElem?.1 hL
  have hq := List.getElem?_eq_getElem (l := W) (i := i) (by rw [← hl]; exact (List.getElem?_eq_some_iff.1 hi).1)
  obtain ⟨L2, h1, h2⟩ := h i _ hq
  rw [hi] at h1
  cases h1
  exact h2.len
theorem rows_one {F : Nat → Prop} {w : World} {W : List Pkt} {G : List (List Value)} (hl : G.length = W.length) (h : ∀ (i : Nat) (q : Pkt), W[i]? = some q → ∃ L, G[i]? = some L ∧ PkL F w q L) (u : Value) (hu : u ∈ G.flatten) : u.oneCell' = true := by
  obtain ⟨L, hL, hu⟩ := List.mem_flatten.1 hu
  obtain ⟨i, hi⟩ := List.mem_iff_getElem?.1 hL
  have hq := List.getElem?_eq_getElem (l := W) (i := i) (by rw [← hl]; exact (List.getElem?_eq_some_iff.1 hi).1)
  obtain ⟨L2, h1, h2⟩ := h i _ hq
  rw [hi] at h1
  cases h1
  exact h2.one u hu
/-- What is read as a row of packets, as rows of cells. -/
theorem pks_own {F : Nat → Prop} {w : World} {ad : Option Addr} {cap : Nat} {qs : List Pkt} (h : Reads F w (.slice ad qs.length cap) (.l 19 (qs.map dPk))) (h0 : 0 < qs.length) :
    ∃ g off, ad = some ⟨g, off, none⟩ ∧ ∃ R : List (List Value), R.length = qs.length ∧ (∀ (j : Nat) (u : Value), R.flatten[j]? = some u → w.cell? ((⟨g, off, none⟩ : Addr).add j) = some u) ∧ ∀ (i : Nat) (q : Pkt), qs[i]? = some q → ∃ L, R[i]? = some L ∧ PkL F w q L := by
  obtain ⟨g, off, cap2, R, hv, _, hl, hR⟩ := pks_rows h h0
  cases hv
  have hw : ∀ L, L ∈ R → L.length = 19 := rows_wid (F := F) (w := w) hl (fun i q hq => by
    obtain ⟨L, h1, h2⟩ := hR i q hq
    exact ⟨L, h1, h2.cells⟩)
  refine ⟨g, off, rfl, R, hl, fun j u hj => ?_, fun i q hq => ?_⟩
  · obtain ⟨L, h1, h2⟩ := flat_in hw hj
    have hq := List.getElem?_eq_getElem (l := qs) (i := j / 19) (by rw [← hl]; exact (List.getElem?_eq_some_iff.1 h1).1)
    obtain ⟨L2, h3, h4⟩ := hR _ _ hq
    rw [h1] at h3
    cases h3
    obtain ⟨_, _, _, _, _, _, _, _, _, h5, _⟩ := h4
    have h6 := h5 _ _ h2
    rw [Nat.add_assoc, Nat.div_add_mod' j 19] at h6
    rw [Addr.add_lit]
    exact h6
  · obtain ⟨L, h1, h2⟩ := hR i q hq
    exact ⟨L, h1, h2.cells⟩
section
variable {F : Nat → Prop} {B : Nat} {w w' : World} {v : Value} {W : List Pkt}
theorem WtR.stay (h : WtR F B w v W) (hs : w.heap.size ≤ w'.heap.size) (hk : ∀ k, v.ownBlock = some k → w'.heap[k]? = w.heap[k]?) (hF : ∀ k, k < w.heap.size → F k → w'.heap[k]? = w.heap[k]?) : WtR F B w' v W := by
  obtain ⟨G, h1, h2, h3⟩ := h
  refine ⟨G, own_rowN h1 hk, h2, fun i q hq => ?_⟩
  obtain ⟨L, h4, h5⟩ := h3 i q hq
  exact ⟨L, h4, h5.keep hs hF⟩
theorem WtR.lt (h : WtR F B w v W) (k : Nat) (hk : v.ownBlock = some k) : B ≤ k ∧ k < w.heap.size := by
  obtain ⟨G, h1, _⟩ := h
  exact h1.lt k hk
theorem WtR.keep (h : WtR F B w v W) (hb : Below w.heap.size w w') : WtR F B w' v W := h.stay hb.size (fun k hk => hb.block k (h.lt k hk).2) (fun k hk _ => hb.block k hk)
/-- It stays where other blocks change. -/
theorem WtR.outs {P : Nat → Prop} (h : WtR F B w v W) (ho : Outs P w w') (hv : ∀ k, v.ownBlock = some k → ¬ P k) (hF : ∀ k, F k → ¬ P k) : WtR F B w' v W := h.stay ho.size (fun k hk => ho.block k (h.lt k hk).2 (hv k hk)) (fun k hk hf => ho.block k hk (hF k hf))
theorem WtR.form (h : WtR F B w v W) (h0 : 0 < W.length) : ∃ b cap, v = .slice (some ⟨b, 0, none⟩) W.length cap := by
  obtain ⟨G, h1, _⟩ := h
  rcases h1.2 with ⟨_, h2⟩ | ⟨b, cap, _, hv, _⟩
  · omega
  · exact ⟨b, cap, hv⟩
/-- One of them, as a row of one. -/
theorem WtR.at {b cap cp n : Nat} (h : WtR F B w (.slice (some ⟨b, 0, none⟩) n cap) W) {i : Nat} {q : Pkt} (hq : W[i]? = some q) : Reads (fun _ => True) w (.slice (some ⟨b, i * 19, none⟩) 1 cp) (.l 19 ([q].map dPk)) := by
  obtain ⟨G, h1, h2, h3⟩ := h
  obtain ⟨L, h4, a13, c13, a14, c14, a15, c15, a16, c16, rfl, hm⟩ := h3 i q hq
  refine reads_pk trivial (h1.lt b rfl).2 (fun j u hu => ?_) (hm.mono2 (fun _ _ _ => trivial)) cp
  have h5 := h1.cells (g := b) rfl (i * 19 + j) u (by rw [flat_get (rows_wid h2 h3) i _ j h4 (List.getElem?_eq_some_iff.1 hu).1]; exact hu)
  rw [Addr.add_lit, Nat.zero_add] at h5
  exact h5
end
/-- One more. -/
theorem WtR.more {F : Nat → Prop} {B n : Nat} {w' : World} {v' : Value} {W : List Pkt} {q : Pkt} {G : List (List Value)} {L : List Value} (hn : n = W.length) (hl : G.length = W.length) (h3 : ∀ (i : Nat) (q : Pkt), W[i]? = some q → ∃ L, G[i]? = some L ∧ PkL F w' q L) (ho : w'.ownsRow B 50 19 v' (n + 1) (G.flatten ++ L)) (hL : PkL F w' q L) : WtR F B w' v' (W ++ [q]) := by
  refine ⟨G ++ [L], ?_, by simp [hl], fun i x hx => ?_⟩
  · rw [List.flatten_append, List.flatten_cons, List.flatten_nil, List.append_nil, List.length_append, List.length_singleton, ← hn]
    exact ho
  · rcases Nat.lt_or_ge i W.length with hi | hi
    · rw [List.getElem?_append_left hi] at hx
      rw [List.getElem?_append_left (by rw [hl]; exact hi)]
      exact h3 i x hx
    · rw [List.getElem?_append_right hi] at hx
      rw [List.getElem?_append_right (by rw [hl]; exact hi), hl]
      cases hk : i - W.length with
      | zero =>
        rw [hk] at hx
        cases hx
        exact ⟨L, rfl, hL⟩
      | succ k =>
        rw [hk] at hx
        cases hx
/-- A row of one packet is built. -/
theorem bs_one (w : World) (fr tg : Int) (m : Ms) (v13 v14 v15 v16 : Value) :
    (Instr.buildSlice 29 1 #[(0, .agg (pkC fr tg m v13 v14 v15 v16).toArray)]).run Tryz.prog w = .ok (.slice (some ⟨w.heap.size, 0, none⟩) 1 1) (w.alloc (.cells (pkC fr tg m v13 v14 v15 v16).toArray 50)) := by
  obtain ⟨i, hi, hz, hs, _⟩ := info_parts infoPk
  have hf : Instr.fill (fun j => some (j * 19, 19)) ((Array.range (1 * 19)).map ((Value.agg zPk.toArray).cells[· % (Value.agg zPk.toArray).cells.size]!)) [(0, .agg (pkC fr tg m v13 v14 v15 v16).toArray)] = some (pkC fr tg m v13 v14 v15 v16).toArray := by kernel_rfl
  simp only [Nat.one_mul] at hf
  simp [Instr.buildSlice, run_underlying undPk, sizeOf, typeInfo, zeroValue, hi, hz, hs, hf, newRow]
theorem owp_bs {o : Oper} {a : Act} {w : World} {K : Act → World → Prop} {Q : Exit → Act → World → Prop} (x : Operand) (ho : o.op = .buildSlice 29 1 #[(0, x)]) (fr tg : Int) (m : Ms) (a13 a14 a15 a16 : Option Addr) (n13 n14 n15 n16 c13 c14 c15 c16 : Nat) (hx : a.eval x = .agg (pkC fr tg m (.slice a13 n13 c13) (.slice a14 n14 c14) (.slice a15 n15 c15) (.slice a16 n16 c16)).toArray)
    (h : K (a.put o.dst (.slice (some ⟨w.heap.size, 0, none⟩) 1 1)) (w.alloc (.cells (pkC fr tg m (.slice a13 n13 c13) (.slice a14 n14 c14) (.slice a15 n15 c15) (.slice a16 n16 c16)).toArray 50))) : o.wp Tryz.prog a w K Q := by
  unfold Oper.wp execOp
  have h2 := bs_one w fr tg m (.slice a13 n13 c13) (.slice a14 n14 c14) (.slice a15 n15 c15) (.slice a16 n16 c16)
  simp only [ho, Sem.run_bind, List.map_toArray, List.map_cons, List.map_nil, hx, h2, Result.andThen_ok]
  exact h
theorem wl_bs {ops : Array Oper} {rest : List Oper} {o : Oper} {a : Act} {w : World} {Q : Exit → Act → World → Prop} (hg : o.guard = none) (x : Operand) (ho : o.op = .buildSlice 29 1 #[(0, x)]) (fr tg : Int) (m : Ms) (a13 a14 a15 a16 : Option Addr) (n13 n14 n15 n16 c13 c14 c15 c16 : Nat) (hx : a.eval x = .agg (pkC fr tg m (.slice a13 n13 c13) (.slice a14 n14 c14) (.slice a15 n15 c15) (.slice a16 n16 c16)).toArray)
    (h : wpList Tryz.prog ops Q rest (a.put o.dst (.slice (some ⟨w.heap.size, 0, none⟩) 1 1)) (w.alloc (.cells (pkC fr tg m (.slice a13 n13 c13) (.slice a14 n14 c14) (.slice a15 n15 c15) (.slice a16 n16 c16)).toArray 50))) : wpList Tryz.prog ops Q (o :: rest) a w :=
  wpList_plain hg fun _ hK => owp_bs x ho fr tg m a13 a14 a15 a16 n13 n14 n15 n16 c13 c14 c15 c16 hx (hK _ _ h)
end Go.Proofs.YthjgnfeadagmeaaGreat

/- The law of order: what each step leaves. No walk here. -/
namespace Go.Proofs.YthjgnfeadagmeaaGreat
open Go.RowKit

theorem rmv_0 {α : Type} (l : List α) (j : Nat) : rmv (l.drop j) 0 = l.drop (j + 1) := by
  unfold rmv
  rw [List.take_zero, List.nil_append, List.drop_drop]
theorem plN_0 (n : Nat) : plN 0 n = 0 := by unfold plN; simp
theorem plN_in {p n : Nat} (h : p < n) : plN (p : Int) n = p := by
  unfold plN
  rw [Int.emod_eq_of_lt (by omega) (by omega)]
  rfl
theorem LaneAt.stays {P : Nat → Prop} {N : Nat} {w w' : World} {v : Value} {bad : List Int} {ps : List Pkt} {L : List Sg} (h : LaneAt N P w v bad ps L) (hs : w.heap.size ≤ w'.heap.size) (hk : ∀ k, k < w.heap.size → P k → w'.heap[k]? = w.heap[k]?) : LaneAt N P w' v bad ps L := by
  obtain ⟨F, g, ab, kb, vr, vk, Fb, B, hv, hM, hP⟩ := h
  exact ⟨F, g, ab, kb, vr, vk, Fb, B, hv, hM.stay hs (fun k hl hf => hk k hl ((hP k).2 hf)), hP⟩
/-- The number of the packet that is doubled. -/
theorem rem_in (k : Int) (n : Nat) (h0 : 0 < n) (h1 : n ≤ 200) : ∃ p : Nat, p < n ∧ wrap64 ((IntKind.u64.wrap k).tmod (n : Int)) = (p : Int) := by
  have e1 : IntKind.u64.wrap k = k % 18446744073709551616 := IntKind.wrap_u64 k
  have e2 : (k % 18446744073709551616).tmod (n : Int) = (k % 18446744073709551616) % (n : Int) := by rw [Int.tmod_eq_emod_of_nonneg (by omega)]
  have e3 := Int.emod_nonneg (k % 18446744073709551616) (b := (n : Int)) (by omega)
  have e4 := Int.emod_lt_of_pos (k % 18446744073709551616) (b := (n : Int)) (by omega)
  refine ⟨((k % 18446744073709551616) % (n : Int)).toNat, by omega, ?_⟩
  rw [e1, e2, IntWalk.wrap64_in _ (by omega)]
  omega
theorem wrap_n (n : Nat) (h1 : n ≤ 200) : IntKind.u64.wrap (n : Int) = (n : Int) := by rw [IntKind.wrap_u64]; omega
section
variable {w0 w w' : World} {N B b cap p T T' : Nat} {v : Value} {P : Nat → Prop} {ps qs W : List Pkt} {L : List Sg}
theorem CtSt.send0 (h : CtSt w0 w N v [] 0 P [] []) (hq : AllS qs) (hn : ∀ q, q ∈ qs → MsN q.2.2) (hf : ∀ q, q ∈ qs → ∀ p, p ∈ tmG q.2.2 → fitP p) (h2 : qs.length ≤ 200) (hT : (qs.flatMap fun q => tmG q.2.2).length ≤ T) (hT2 : T ≤ 1048576) (a : Option Addr) (c : Nat) (hR : Reads (fun k => k < w0.heap.size) w (.slice a qs.length c) (.l 19 (qs.map dPk))) :
    Calls Tryz.prog 12 #[v, .slice a qs.length c] w fun e w' => e = .returned (.tuple #[]) ∧ ∃ P' L', CtSt w0 w' N v [] T P' (qs.map nrmP) L' := by
  refine (nsend_any h.at_ qs a c hR (fun k hk hp => by have := h.at_.low k hp; have := h.low; omega) (by omega) (fun q hx => ⟨hq q hx, hn q hx, hf q hx⟩) (by simp only [List.length_nil]; omega)).mono ?_
  rintro e w' ⟨rfl, hp⟩
  obtain ⟨P', h1⟩ := h.post (T' := T) hp (hq.send [] (fun x hx => by cases hx)) (by have := noteP_len [] qs; simp only [List.length_nil] at this; omega)
  rw [sendP_map qs [] (by simp only [List.length_nil]; omega), List.nil_append] at h1
  exact ⟨rfl, P', _, h1⟩
theorem CtSt.copy0 (h : CtSt w0 w N v [] T P (qs.map nrmP) L) (hp : p < qs.length) (h2 : qs.length ≤ 200) :
    Calls Tryz.prog 22 #[v, .int .i64 (p : Int)] w fun e w' => e = .returned (.bool true) ∧ ∃ P', CtSt w0 w' N v [] T P' (wayL qs p) L ∧ Outs P w w' ∧ ∀ k, P' k → P k ∨ w.heap.size ≤ k := by
  refine (ncopy_any h.at_ (by rw [List.length_map]; omega) h.all (p : Int)).mono ?_
  rintro e w' ⟨q, hq, rfl, P', k1, k2, k3⟩
  rw [List.length_map, plN_in hp] at hq
  have hw : wayL qs p = qs.map nrmP ++ [nrmP q] := by unfold wayL; rw [hq]; rfl
  rw [addP_yes (by rw [List.length_map]; omega), ← hw] at k1
  refine ⟨by rw [decide_eq_true (by rw [List.length_map]; omega)], P', ⟨k1, h.low, h.bel.trans (k2.below h.bel.size (fun k hk => Nat.le_trans h.low (h.at_.low k hk))), ?_, h.len⟩, k2, k3⟩
  rw [hw]
  exact h.all.one (h.all q (List.mem_of_getElem? hq))
/-- A row of one's own grew, or was written over. -/
theorem CtSt.grown {row : Option Nat} (h : CtSt w0 w N v [] T P ps L) (hg : w.grownBy w' row) (hr : ∀ k, row = some k → w0.heap.size ≤ k ∧ ¬ P k) : CtSt w0 w' N v [] T P ps L :=
  ⟨h.at_.stays hg.size (fun k hl hp => hg.block k hl (fun e => (hr k e.symm).2 hp)), h.low, h.bel.grown hg h.bel.size (fun k hk => (hr k hk).1), h.all, h.len⟩
/-- Within the law's loop: the first j were taken. -/
structure OrSt (w0 w : World) (N : Nat) (v : Value) (T : Nat) (P : Nat → Prop) (L : List Sg) (qs : List Pkt) (p B b cap nW j : Nat) : Prop where
  ct : CtSt w0 w N v [] T P ((wayL qs p).drop j) L
  wt : WtR (fun k => k < w0.heap.size) B w (.slice (some ⟨b, 0, none⟩) nW cap) (wantL qs p)
  nb : ¬ P b
theorem OrSt.keep {nW j : Nat} (h : OrSt w0 w N v T P L qs p B b cap nW j) (hb : Below w.heap.size w w') : OrSt w0 w' N v T P L qs p B b cap nW j := ⟨h.ct.keep hb, h.wt.keep hb, h.nb⟩
theorem OrSt.take0 {nW j : Nat} (h : OrSt w0 w N v T P L qs p B b cap nW j) (hn : ∀ q, q ∈ qs → MsN q.2.2) (hl : (wantL qs p).length = nW) (hj : j < nW) :
    Calls Tryz.prog 17 #[v, .int .i64 0] w fun e w' => ∃ fr tg m a13 c13 a14 c14 a15 c15 a16 c16 y P', (wantL qs p)[j]? = some y ∧ samePk (fr, tg, m) y = true ∧ MsN m ∧ MsN y.2.2 ∧ e = .returned (.tuple #[.agg (pkC fr tg m (.slice a13 m.nx.length c13) (.slice a14 m.sg.length c14) (.slice a15 m.cg.length c15) (.slice a16 m.ln.length c16)).toArray, .bool true]) ∧
      MsL P w' m (.slice a13 m.nx.length c13) (.slice a14 m.sg.length c14) (.slice a15 m.cg.length c15) (.slice a16 m.ln.length c16) ∧ OrSt w0 w' N v T P' L qs p B b cap nW (j + 1) := by
  have hwl := way_len qs p
  have hd : ((wayL qs p).drop j).length = nW - j := by rw [List.length_drop, hwl, hl]
  refine (ntake_any h.ct.at_ (by omega) 0).mono ?_
  rintro e w' ⟨fr, tg, m, a13, c13, a14, c14, a15, c15, a16, c16, P', hq, rfl, hm, hA, hO, hs⟩
  rw [plN_0, List.getElem?_drop, Nat.add_zero] at hq
  rw [plN_0, rmv_0] at hA
  obtain ⟨y, hy⟩ : ∃ y, (wantL qs p)[j]? = some y := ⟨_, List.getElem?_eq_getElem (by omega)⟩
  have hPw : ∀ k, P k → w0.heap.size ≤ k := fun k hk => Nat.le_trans h.ct.low (h.ct.at_.low k hk)
  have hxm : MsN m := by
    have h1 := List.mem_of_getElem? hq
    unfold wayL at h1
    rcases List.mem_append.1 h1 with h1 | h1
    · obtain ⟨q, hq1, hq2⟩ := List.mem_map.1 h1
      rw [← show (nrmP q).2.2 = m by rw [hq2]]
      exact (hn q hq1).norm
    · rw [List.getElem?_map] at h1
      cases hk : qs[p]? with
      | none => rw [hk] at h1; simp at h1
      | some q =>
        rw [hk] at h1
        have e1 : nrmP (nrmP q) = (fr, tg, m) := by simp at h1; exact h1.symm
        rw [← show (nrmP (nrmP q)).2.2 = m by rw [e1]]
        exact (hn q (List.mem_of_getElem? hk)).norm.norm
  have hym : MsN y.2.2 := by
    have h1 := List.mem_of_getElem? hy
    unfold wantL at h1
    rcases List.mem_append.1 h1 with h1 | h1
    · exact hn y h1
    · cases hk : qs[p]? with
      | none => rw [hk] at h1; simp at h1
      | some q =>
        rw [hk] at h1
        have e1 : q = y := by simp at h1; exact h1.symm
        exact e1 ▸ hn q (List.mem_of_getElem? hk)
  refine ⟨fr, tg, m, a13, c13, a14, c14, a15, c15, a16, c16, y, P', hy, way_same qs p j _ y hq hy, hxm, hym, rfl, hm, ⟨hA, h.ct.low, h.ct.bel.trans (hO.below h.ct.bel.size hPw), fun x hx => ?_, h.ct.len⟩, h.wt.outs hO (fun k hk => by cases hk; exact h.nb) (fun k hk hp => by have := hPw k hp; omega), fun hp => h.nb (hs b hp)⟩
  have h1 : x ∈ (wayL qs p).drop j := by
    rw [← rmv_0] at hx
    rcases List.mem_append.1 hx with hx | hx
    · exact List.mem_of_mem_take hx
    · exact List.mem_of_mem_drop hx
  exact h.ct.all x h1
theorem same_ones {x y : Pkt} (h : samePk x y = true) : samePks [x] [y] = true := by
  simp [samePks, allTo, h]
end
end Go.Proofs.YthjgnfeadagmeaaGreat

/- The law of order, walked. -/
namespace Go.Proofs.YthjgnfeadagmeaaGreat
open Go.RowKit

set_option maxRecDepth 100000 in
set_option maxHeartbeats 12800000 in
theorem nord_far (a : Option Addr) (cap n : Nat) (h : 200 < n) (k : Int) (w : World) : Calls Tryz.prog 6 #[.slice a n cap, .int .i64 k] w fun e w' => e = .returned (.bool true) ∧ Below w.heap.size w w' := by
  have h1 : (200 : Int) < (n : Int) := by omega
  clear h
  go_enter Tryz.func6, Tryz.ntmps6
  go_wp2_with (first
    | (have := H1; go_at_call 8; go_must (refine (nlives_any _).mono ?_; rintro e w2 ⟨rfl, hb⟩; have H2 := hid (H1.out.trans (hb.mono H1.out.size)); clear hb))
    | (go_at_call 8; go_must (refine (nlives_any _).mono ?_; rintro e w1 ⟨rfl, hb⟩; have H1 := hid hb; clear hb)))
  go_ret
  exact ⟨rfl, H2.out⟩
set_option maxRecDepth 100000 in
set_option maxHeartbeats 12800000 in
theorem nord_none_none (cap : Nat) (k : Int) (w : World) : Calls Tryz.prog 6 #[.slice none 0 cap, .int .i64 k] w fun e w' => e = .returned (.bool true) ∧ Below w.heap.size w w' := by
  have HN := hid (fun (u : World) => nnew_any none 0 0 [] rfl (by omega) u (.inl rfl))
  have HSd := hid (fun (u : World) (N : Nat) (v : Value) (P : Nat → Prop) (hu : CtSt w u N v [] 0 P [] []) => hu.send0 (T := 0) (qs := []) (fun q hq => by cases hq) (fun q hq => by cases hq) (fun q hq => by cases hq) (by decide) (by decide) (by decide) none cap (.nil _ _ _))
  obtain ⟨i0, hi0, hz0, hz1, hz2⟩ := info_parts infoPk
  go_enter Tryz.func6, Tryz.ntmps6
  go_wp2_with (first
    | (have := H2; go_at_call 12; go_must (refine (HSd.out _ _ _ _ H2.out).mono ?_; rintro e w3 ⟨rfl, P3, L3, h3⟩; have H3 := hid h3; clear h3))
    | (have := H1; go_at_call 9; go_must (refine (HN.out _).mono ?_; rintro r w2 ⟨v, P, rfl, hA, hb⟩; obtain ⟨g, rfl⟩ := hA.isptr; have H2 : Hid (CtSt w w2 w1.heap.size (.pointer (some ⟨g, 0, none⟩)) [] 0 P [] []) := hid ⟨hA, H1.out.size, H1.out.trans (hb.mono H1.out.size), (fun q hq => by cases hq), Nat.le_refl _⟩; clear hA hb))
    | (go_at_call 8; go_must (refine (nlives_any _).mono ?_; rintro e w1 ⟨rfl, hb⟩; have H1 := hid hb; clear hb)))
  have H4 := H3
  go_loopw [8] (fun i wr => i = .int .i64 0 ∧ CtSt w wr w1.heap.size (.pointer (some ⟨g, 0, none⟩)) [] 0 P3 [] L3) (fun _ _ => 0)
  case atStart => exact ⟨rfl, H4.out⟩
  case round =>
    obtain ⟨rfl, hS⟩ := hrel
    have HS := hid hS
    clear hS
    go_wp2_with (first
      | (have := H7; go_at_call 24; go_must (refine (nlen_any H7.out.at_).mono ?_; rintro e w8 ⟨rfl, hb⟩; have H8 := hid (H7.out.keep hb); clear hb))
      | (have := H6; refine wl_store_blk rfl 50 _ _ rfl w6.heap.size 0 rfl zPk.toArray rfl zPk 50 (heap_alloc_last w6 _) (by simp [zPk]) (by kernel_rfl) (by simp [zPk, Value.oneCell']) ?_; go_must (intro w7 Hz; have H7 := hid (H6.out.keep (Hz.out.2.below ((Below.refl _ _).alloc (Nat.le_refl _) _) (Nat.le_refl _))); clear Hz))
      | (have := HS; go_at_call 17; go_must (refine (ntake_none HS.out.at_ rfl 0).mono ?_; rintro e w6 ⟨rfl, hb⟩; have H6 := hid (HS.out.keep hb); clear hb)))
    go_ret
    exact ⟨rfl, H8.out.bel⟩
set_option maxRecDepth 100000 in
set_option maxHeartbeats 12800000 in
theorem nord_none_some (ad : Addr) (cap : Nat) (k : Int) (w : World) : Calls Tryz.prog 6 #[.slice (some ad) 0 cap, .int .i64 k] w fun e w' => e = .returned (.bool true) ∧ Below w.heap.size w w' := by
  have HN := hid (fun (u : World) => nnew_any none 0 0 [] rfl (by omega) u (.inl rfl))
  have HSd := hid (fun (u : World) (N : Nat) (v : Value) (P : Nat → Prop) (hu : CtSt w u N v [] 0 P [] []) => hu.send0 (T := 0) (qs := []) (fun q hq => by cases hq) (fun q hq => by cases hq) (fun q hq => by cases hq) (by decide) (by decide) (by decide) (some ad) cap (.nil _ _ _))
  obtain ⟨i0, hi0, hz0, hz1, hz2⟩ := info_parts infoPk
  go_enter Tryz.func6, Tryz.ntmps6
  go_wp2_with (first
    | (have := H3; at_builtin; refine wpList_append_own _ rfl _ _ 29 rfl w3.heap.size 50 i0 _ 19 232 undPk hi0 hz0 hz1 hz2 rfl (by decide) (.slice none 0 0) 0 [] rfl ⟨rfl, .inl ⟨rfl, rfl⟩⟩ ad 0 cap [] rfl rfl (fun j u hj => by cases hj) (fun u hu => by cases hu) (by decide) (by decide) (Nat.le_refl _) ?_)
    | (have := H2; go_at_call 12; go_must (refine (HSd.out _ _ _ _ H2.out).mono ?_; rintro e w3 ⟨rfl, P3, L3, h3⟩; have H3 := hid h3; clear h3))
    | (have := H1; go_at_call 9; go_must (refine (HN.out _).mono ?_; rintro r w2 ⟨v, P, rfl, hA, hb⟩; obtain ⟨g, rfl⟩ := hA.isptr; have H2 : Hid (CtSt w w2 w1.heap.size (.pointer (some ⟨g, 0, none⟩)) [] 0 P [] []) := hid ⟨hA, H1.out.size, H1.out.trans (hb.mono H1.out.size), (fun q hq => by cases hq), Nat.le_refl _⟩; clear hA hb))
    | (go_at_call 8; go_must (refine (nlives_any _).mono ?_; rintro e w1 ⟨rfl, hb⟩; have H1 := hid hb; clear hb)))
  intro v' w4 hown hgrow hnil
  obtain rfl : v' = .slice none 0 0 := by first | exact hnil.2 ⟨rfl, rfl⟩ | exact hnil
  have H4 : Hid (CtSt w w4 w1.heap.size (.pointer (some ⟨g, 0, none⟩)) [] 0 P3 [] L3) := hid (H3.out.grown hgrow (fun k hk => by cases hk))
  clear hown hgrow hnil
  go_wp2
  go_loopw [8] (fun i wr => i = .int .i64 0 ∧ CtSt w wr w1.heap.size (.pointer (some ⟨g, 0, none⟩)) [] 0 P3 [] L3) (fun _ _ => 0)
  case atStart => exact ⟨rfl, H4.out⟩
  case round =>
    obtain ⟨rfl, hS⟩ := hrel
    have HS := hid hS
    clear hS
    go_wp2_with (first
      | (have := H7; go_at_call 24; go_must (refine (nlen_any H7.out.at_).mono ?_; rintro e w8 ⟨rfl, hb⟩; have H8 := hid (H7.out.keep hb); clear hb))
      | (have := H6; refine wl_store_blk rfl 50 _ _ rfl w6.heap.size 0 rfl zPk.toArray rfl zPk 50 (heap_alloc_last w6 _) (by simp [zPk]) (by kernel_rfl) (by simp [zPk, Value.oneCell']) ?_; go_must (intro w7 Hz; have H7 := hid (H6.out.keep (Hz.out.2.below ((Below.refl _ _).alloc (Nat.le_refl _) _) (Nat.le_refl _))); clear Hz))
      | (have := HS; go_at_call 17; go_must (refine (ntake_none HS.out.at_ rfl 0).mono ?_; rintro e w6 ⟨rfl, hb⟩; have H6 := hid (HS.out.keep hb); clear hb)))
    go_ret
    exact ⟨rfl, H8.out.bel⟩
set_option maxRecDepth 100000 in
set_option maxHeartbeats 12800000 in
theorem nord_some (U : Nat) (hU : U ≤ 1048576) (a : Option Addr) (cap : Nat) (qs : List Pkt) (hB : ∀ q, q ∈ qs → pkU U q) (hT : (qs.flatMap fun q => tmG q.2.2).length ≤ U) (h0 : 0 < qs.length) (h2 : qs.length ≤ 200) (k : Int) (w : World) (hR : Reads (fun _ => True) w (.slice a qs.length cap) (.l 19 (qs.map dPk))) :
    Calls Tryz.prog 6 #[.slice a qs.length cap, .int .i64 k] w fun e w' => e = .returned (.bool true) ∧ Below w.heap.size w w' := by
  have hR' : Reads (fun k => k < w.heap.size) w (.slice a qs.length cap) (.l 19 (qs.map dPk)) := hR.mono (fun k hk _ => hk)
  obtain ⟨p, hp, er⟩ := rem_in k qs.length h0 h2
  obtain ⟨q, hq⟩ : ∃ q, qs[p]? = some q := ⟨_, List.getElem?_eq_getElem hp⟩
  obtain ⟨g9, off9, cp9, a13, c13, a14, c14, a15, c15, a16, c16, hv9, hF9, hg9, hc9, hm9⟩ := pk_at hR' p q hq
  cases hv9
  have hN : ∀ q, q ∈ qs → MsN q.2.2 := fun q hx => (hB q hx).1.2.2.n
  have HN := hid (fun (u : World) => nnew_any none 0 0 [] rfl (by omega) u (.inl rfl))
  have HRd := hid (fun (u : World) (hu : Below w.heap.size w u) => hR'.under hu (Nat.le_refl _))
  have HSd := hid (fun (u : World) (N : Nat) (v : Value) (P : Nat → Prop) (hu : CtSt w u N v [] 0 P [] []) => hu.send0 (T := U) (fun q hx => (hB q hx).2.s hU) hN (fun q hx => tm_fitP (hB q hx).1.2.2) h2 hT hU (some ⟨g9, off9, none⟩) cap (hR'.under hu.bel (Nat.le_refl _)))
  have HCp := hid (fun (u : World) (N : Nat) (v : Value) (P : Nat → Prop) (L : List Sg) (hu : CtSt w u N v [] U P (qs.map nrmP) L) => hu.copy0 hp h2)
  have hcs : ∀ u : World, Below w.heap.size w u → ∀ (i : Nat) (x : Value), (pkC q.1 q.2.1 q.2.2 (.slice a13 q.2.2.nx.length c13) (.slice a14 q.2.2.sg.length c14) (.slice a15 q.2.2.cg.length c15) (.slice a16 q.2.2.ln.length c16))[i]? = some x → u.cell? ⟨g9, off9 + p * 19 + i, none⟩ = some x := fun u hu i x hx => (hu.cell (p := ⟨g9, _, none⟩) hg9).trans (hc9 i x hx)
  have HCs := hid hcs
  have HM9 := hid hm9
  obtain ⟨A, eA⟩ : ∃ A, A = Value.agg (pkC q.1 q.2.1 q.2.2 (.slice a13 q.2.2.nx.length c13) (.slice a14 q.2.2.sg.length c14) (.slice a15 q.2.2.cg.length c15) (.slice a16 q.2.2.ln.length c16)).toArray := ⟨_, rfl⟩
  have HAg := hid eA
  have hW : wantL qs p = qs ++ [q] := by unfold wantL; rw [hq]; rfl
  have HQ := hid (And.intro h0 (And.intro h2 (And.intro hN (And.intro hW (And.intro hp hg9)))))
  have e1 := wrap_n qs.length h2
  have c1 : (0 : Int) < (qs.length : Int) := by omega
  have c2 : ¬ ((200 : Int) < (qs.length : Int)) := by omega
  have c3 : ¬ ((qs.length : Int) = 0) := by omega
  have c4 : (0 : Int) ≤ (p : Int) := Int.natCast_nonneg _
  have c5 : (p : Int) < (qs.length : Int) := by omega
  obtain ⟨i0, hi0, hz0, hz1, hz2⟩ := info_parts infoPk
  clear hR hR' hB hT hq hg9 hc9 hm9 hF9 hN hcs eA hW h0 h2 hp
  go_enter Tryz.func6, Tryz.ntmps6
  go_wp2_with (first
    | (have := H3; at_builtin; refine wpList_append_own _ rfl _ _ 29 rfl w3.heap.size 50 i0 _ 19 232 undPk hi0 hz0 hz1 hz2 rfl (by decide) (.slice none 0 0) 0 [] rfl ⟨rfl, .inl ⟨rfl, rfl⟩⟩ ⟨g9, off9, none⟩ qs.length cap R.flatten rfl ?qc1 ?qc2 ?qc3 ?qc4 ?qc5 ?qc6 ?_)
    | (have := H2; go_at_call 12; go_must (refine (HSd.out _ _ _ _ H2.out).mono ?_; rintro e w3 ⟨rfl, P3, L3, h3⟩; obtain ⟨_, _, e9, R, r1, r2, r3⟩ := pks_own (HRd.out _ h3.bel) HQ.out.1; cases e9; have HRw := hid (And.intro r1 (And.intro r2 r3)); have H3 := hid h3; clear h3 r1 r2 r3))
    | (have := H1; go_at_call 9; go_must (refine (HN.out _).mono ?_; rintro r w2 ⟨v, P, rfl, hA, hb⟩; obtain ⟨g, rfl⟩ := hA.isptr; have H2 : Hid (CtSt w w2 w1.heap.size (.pointer (some ⟨g, 0, none⟩)) [] 0 P [] []) := hid ⟨hA, H1.out.size, H1.out.trans (hb.mono H1.out.size), (fun q hq => by cases hq), Nat.le_refl _⟩; clear hA hb))
    | (go_at_call 8; go_must (refine (nlives_any _).mono ?_; rintro e w1 ⟨rfl, hb⟩; have H1 := hid hb; clear hb)))
  case qc1 => rw [flat_len (rows_wid HRw.out.1 HRw.out.2.2), HRw.out.1]
  case qc2 => exact fun j u hj => HRw.out.2.1 j u hj
  case qc3 => exact rows_one HRw.out.1 HRw.out.2.2
  case qc4 => have := HQ.out.2.1; unfold maxLen; omega
  case qc5 => have := HQ.out.2.1; omega
  case qc6 => exact Nat.le_refl _
  intro v' w4 hown hgrow hnil
  have hb4 : Below w3.heap.size w3 w4 := (Below.refl _ w3).grown hgrow (Nat.le_refl _) (by intro k hk; cases hk)
  have hW4 : WtR (fun k => k < w.heap.size) w3.heap.size w4 v' qs := ⟨R, by simpa using hown, HRw.out.1, fun i q hq => by
    obtain ⟨L, k1, k2⟩ := HRw.out.2.2 i q hq
    exact ⟨L, k1, k2.keep hb4.size (fun k hk _ => hb4.block k hk)⟩⟩
  obtain ⟨b, cp, rfl⟩ := hW4.form HQ.out.1
  have hnb : ∀ k, P3 k → k < w3.heap.size := fun k hk => H3.out.at_.lt k hk
  have hbl := hW4.lt b rfl
  have H4 : Hid (CtSt w w4 w1.heap.size (.pointer (some ⟨g, 0, none⟩)) [] U P3 (qs.map nrmP) L3 ∧ WtR (fun k => k < w.heap.size) w3.heap.size w4 (.slice (some ⟨b, 0, none⟩) qs.length cp) qs ∧ ¬ P3 b ∧ w.heap.size ≤ w3.heap.size) := hid ⟨H3.out.keep hb4, hW4, fun hq => by have := hnb b hq; omega, H3.out.bel.size⟩
  clear hown hgrow hnil hb4 hW4 hnb hbl
  go_wp2_with (first
    | (have := H5; at_builtin; refine wpList_append_own_at _ rfl _ _ 29 rfl w3.heap.size 50 i0 _ 19 232 undPk hi0 hz0 hz1 hz2 rfl (by decide) (.slice (some ⟨b, 0, none⟩) qs.length cp) qs.length G.flatten rfl (HG.out.1.alloc _) ⟨w5.heap.size, 0, none⟩ 1 1 (pkC q.1 q.2.1 q.2.2 (.slice a13 q.2.2.nx.length c13) (.slice a14 q.2.2.sg.length c14) (.slice a15 q.2.2.cg.length c15) (.slice a16 q.2.2.ln.length c16)) rfl rfl (fun j u hj => by rw [Addr.add_lit, Nat.zero_add]; exact cell_at (heap_alloc_last w5 _) j u hj) ?qd3 ?qd4 ?qd5 ?qd6 ?_)
    | (have := H5; refine wl_bs rfl _ rfl q.1 q.2.1 q.2.2 a13 a14 a15 a16 q.2.2.nx.length q.2.2.sg.length q.2.2.cg.length q.2.2.ln.length c13 c14 c15 c16 HAg.out ?_)
    | (have := H5; refine wl_ldat rfl 50 _ rfl g9 (off9 + p * 19) rfl (pkC q.1 q.2.1 q.2.2 (.slice a13 q.2.2.nx.length c13) (.slice a14 q.2.2.sg.length c14) (.slice a15 q.2.2.cg.length c15) (.slice a16 q.2.2.ln.length c16)) (fun i u hu => HCs.out _ H5.out.1.bel i u hu) _ Tryz.underlying50 rfl (by kernel_rfl) A HAg.out ?_)
    | (have := H4; go_at_call 22; go_must (refine (HCp.out _ _ _ _ _ H4.out.1).mono ?_; rintro e w5 ⟨rfl, P5, h5, ho, hn⟩; have hw5 := H4.out.2.1.outs ho (fun k hk => by cases hk; exact H4.out.2.2.1) (fun k hk hp => by have h1 := H4.out.1.at_.low k hp; have h3 := H4.out.1.low; omega); have hn5 : ¬ P5 b := (fun hp => by rcases hn b hp with h9 | h9; exact H4.out.2.2.1 h9; have := (H4.out.2.1.lt b rfl).2; omega); have H5 := hid (And.intro h5 (And.intro hw5 hn5)); obtain ⟨G, g1, g2, g3⟩ := hw5; have HG := hid (And.intro g1 (And.intro g2 g3)); clear h5 ho hn hn5 g1 g2 g3)))
  case qd3 => exact fun u hu => PkL.one (F := fun k => k < w.heap.size) (w := w) (q := q) ⟨_, _, _, _, _, _, _, _, rfl, HM9.out⟩ u hu
  case qd4 => have := HQ.out.2.1; unfold maxLen; omega
  case qd5 => have := HQ.out.2.1; omega
  case qd6 => have h1 := H4.out.2.1.lt b rfl; have h2 := (H5.out.2.1.lt b rfl).2; simp; omega
  intro v' w7 hown hgrow hnil hat
  have hba : Below w5.heap.size w5 (w5.alloc (.cells (pkC q.1 q.2.1 q.2.2 (.slice a13 q.2.2.nx.length c13) (.slice a14 q.2.2.sg.length c14) (.slice a15 q.2.2.cg.length c15) (.slice a16 q.2.2.ln.length c16)).toArray 50)) := (Below.refl _ _).alloc (Nat.le_refl _) _
  have hbw : w3.heap.size ≤ b ∧ b < w5.heap.size := ⟨(H4.out.2.1.lt b rfl).1, (H5.out.2.1.lt b rfl).2⟩
  have hrow : ∀ k, (Value.slice (some ⟨b, 0, none⟩) qs.length cp).ownBlock = some k → w.heap.size ≤ k ∧ ¬ P5 k := fun k hk => by cases hk; exact ⟨Nat.le_trans H4.out.2.2.2 hbw.1, H5.out.2.2⟩
  have h7 : CtSt w w7 w1.heap.size (.pointer (some ⟨g, 0, none⟩)) [] U P5 (wayL qs p) L3 := (H5.out.1.keep hba).grown hgrow hrow
  have hW7 : WtR (fun k => k < w.heap.size) w3.heap.size w7 v' (wantL qs p) := by
    rw [HQ.out.2.2.2.1]
    refine WtR.more rfl HG.out.2.1 (fun i x hx => ?_) hown ⟨_, _, _, _, _, _, _, _, rfl, HM9.out.under h7.bel⟩
    obtain ⟨L, k1, k2⟩ := HG.out.2.2 i x hx
    refine ⟨L, k1, k2.keep (Nat.le_trans hba.size hgrow.size) (fun k hk hf => ?_)⟩
    exact (hgrow.block k (Nat.lt_of_lt_of_le hk hba.size) (fun e => by have e2 : k = b := (by simpa [Value.ownBlock] using e); have := H4.out.2.2.2; have := hbw.1; omega)).trans (hba.block k hk)
  have hlW : (wantL qs p).length = qs.length + 1 := by rw [HQ.out.2.2.2.1]; simp
  obtain ⟨b2, cp2, rfl⟩ := hW7.form (by omega)
  rw [hlW] at hW7 ⊢
  have hnb : ¬ P5 b2 := fun hp => by
    have h9 := H5.out.1.at_.lt b2 hp
    rcases hat with e | e
    · have e2 : b2 = b := by simpa [Value.ownBlock] using e
      rw [e2] at hp
      exact H5.out.2.2 hp
    · have e2 : b2 = w5.heap.size + 1 := by simpa [Value.ownBlock] using e
      omega
  have H7 : Hid (OrSt w w7 w1.heap.size (.pointer (some ⟨g, 0, none⟩)) U P5 L3 qs p w3.heap.size b2 cp2 (qs.length + 1) 0) := hid ⟨h7, hW7, hnb⟩
  have HL := hid hlW
  clear hown hgrow hnil hat hba hbw hrow h7 hW7 hlW hnb
  go_wp2
  go_loopw [8] (fun i wr => ∃ (j : Nat) (P : Nat → Prop), j ≤ qs.length + 1 ∧ i = .int .i64 (j : Int) ∧ OrSt w wr w1.heap.size (.pointer (some ⟨g, 0, none⟩)) U P L3 qs p w3.heap.size b2 cp2 (qs.length + 1) j)
    (fun i _ => (((qs.length + 1 : Nat) : Int) - intOf i).toNat)
  case atStart => exact ⟨0, P5, by omega, rfl, H7.out⟩
  case round =>
    obtain ⟨j, P, hj, rfl, hS⟩ := hrel
    have HS := hid hS
    clear hS
    have hj0 : (0 : Int) ≤ (j : Int) := Int.natCast_nonneg _
    by_cases hjn : j = qs.length + 1
    · have hj1 : ¬ ((j : Int) < (qs.length : Int) + 1) := by omega
      have hd : ((wayL qs p).drop j).length = 0 := by rw [List.length_drop, way_len, HL.out]; omega
      have HD := hid hd
      clear hj hjn hd
      as_aux_lemma =>
        go_wp2_with (first
          | (have := H11; go_at_call 24; go_must (refine (nlen_any H11.out.ct.at_).mono ?_; rintro e w12 ⟨rfl, hb⟩; rw [HD.out]; have H12 := hid (H11.out.keep hb); clear hb))
          | (have := H10; refine wl_store_blk rfl 50 _ _ rfl w10.heap.size 0 rfl zPk.toArray rfl zPk 50 (heap_alloc_last w10 _) (by simp [zPk]) (by kernel_rfl) (by simp [zPk, Value.oneCell']) ?_; go_must (intro w11 Hz; have H11 := hid (H10.out.keep (Hz.out.2.below ((Below.refl _ _).alloc (Nat.le_refl _) _) (Nat.le_refl _))); clear Hz))
          | (have := HS; go_at_call 17; go_must (refine (ntake_none HS.out.ct.at_ HD.out 0).mono ?_; rintro e w10 ⟨rfl, hb⟩; have H10 := hid (HS.out.keep hb); clear hb)))
        go_ret
        exact ⟨rfl, H12.out.ct.bel⟩
    have hj1 : (j : Int) < (qs.length : Int) + 1 := by omega
    have hjw : IntKind.i64.wrap ((j : Int) + 1) = (j : Int) + 1 := wrap_l3 (by omega) (by have := HQ.out.2.1; omega)
    have hjw2 : wrap64 ((j : Int) + 1) = (j : Int) + 1 := by rw [← IntWalk.i64_left]; exact hjw
    have HTk := hid (HS.out.take0 HQ.out.2.2.1 HL.out (by omega))
    have HJ := hid (And.intro hj hjn)
    have hcp : qs.length + 1 ≤ cp2 := by
      obtain ⟨_, k1, _⟩ := HS.out.wt
      rcases k1.2 with ⟨h9, _⟩ | ⟨_, _, _, h9, _, _, k2, _⟩
      · cases h9
      · simp only [Value.slice.injEq] at h9
        obtain ⟨_, _, rfl⟩ := h9
        rw [HL.out] at k2
        exact k2
    have hcp1 : (j : Int) + 1 ≤ (cp2 : Int) := by omega
    have hcp2 : (j : Int) ≤ (j : Int) + 1 := by omega
    have hcp3 : ¬ (cp2 = j) := by omega
    clear hj hjn hcp
    as_aux_lemma =>
      go_upto_region 15 with (first
        | (have := HT; refine wl_store_blk rfl 50 _ _ rfl w10.heap.size 0 rfl _ HP.out zPk 50 (heap_alloc_last w10 _) (by simp [zPk, pkC, msC]) (by kernel_rfl) (by simp [pkC, msC, Value.oneCell']) ?_; go_must (intro w11 Hz; have hb11 : Below w10.heap.size w10 w11 := Hz.out.2.below ((Below.refl _ _).alloc (Nat.le_refl _) _) (Nat.le_refl _); have H11 : Hid (OrSt w w11 w1.heap.size (.pointer (some ⟨g, 0, none⟩)) U P2 L3 qs p w3.heap.size b2 cp2 (qs.length + 1) (j + 1) ∧ MsL P w11 m (.slice b13 m.nx.length d13) (.slice b14 m.sg.length d14) (.slice b15 m.cg.length d15) (.slice b16 m.ln.length d16) ∧ BxAt w11 w10.heap.size (pkC fr tg m (.slice b13 m.nx.length d13) (.slice b14 m.sg.length d14) (.slice b15 m.cg.length d15) (.slice b16 m.ln.length d16)) 50) := hid ⟨HT.out.2.2.2.2.2.keep hb11, HT.out.2.2.2.2.1.under hb11, (by have h9 := Hz.out.1; rw [set_zpk] at h9; exact h9)⟩; clear Hz hb11))
        | (have := HTk; go_at_call 17; go_must (refine HTk.out.mono ?_; rintro e w10 ⟨fr, tg, m, b13, d13, b14, d14, b15, d15, b16, d16, y, P2, hy, hsm, hxn, hyn, rfl, hm, hS2⟩; have HT := hid (And.intro hy (And.intro hsm (And.intro hxn (And.intro hyn (And.intro hm hS2))))); obtain ⟨Ap, eP⟩ : ∃ Ap, Ap = Value.agg (pkC fr tg m (.slice b13 m.nx.length d13) (.slice b14 m.sg.length d14) (.slice b15 m.cg.length d15) (.slice b16 m.ln.length d16)).toArray := ⟨_, rfl⟩; rw [← eP]; have HP := hid eP; clear hy hsm hxn hyn hm hS2 eP)))
      as_aux_lemma =>
        refine wp_region_G (S := fun ww => BxAt ww w10.heap.size (pkC fr tg m (.slice b13 m.nx.length d13) (.slice b14 m.sg.length d14) (.slice b15 m.cg.length d15) (.slice b16 m.ln.length d16)) 50) (ex := []) (by kernel_rfl) ?_
        try (change wpAnyG _ _ _ _ _ _ _ _ _ (World.drew _))
        refine wpAnyG_take (i := 0) (v := ?v1) rfl (by kernel_rfl) (fun _ _ _ h => h) (Or.inl ⟨by rfl, ?hy1⟩) H11.out.2.2 ?rest1
        case hy1 => (intro ww _; go_simp; try with_reducible rfl)
        go_simp
        refine wpAnyG_take (i := 1) (v := ?v2) rfl (by kernel_rfl) (fun _ _ _ h => h) (Or.inl ⟨by rfl, ?hy2⟩) H11.out.2.2 ?rest2
        case hy2 => (intro ww _; go_simp; try with_reducible rfl)
        go_simp
        refine wpAnyG_take (i := 2) (v := ?v3) rfl (by kernel_rfl) (fun _ _ _ h => h) (Or.inl ⟨by rfl, ?hy3⟩) H11.out.2.2 ?rest3
        case hy3 => (intro ww _; go_simp; try with_reducible rfl)
        go_simp
        refine wpAnyG_take (i := 3) (v := Ap) rfl (by kernel_rfl) (fun _ _ _ h => h) ?hy4 H11.out.2.2 ?rest4
        case hy4 => exact yields_ldat (by rfl) 50 _ rfl w10.heap.size 0 rfl (pkC fr tg m (.slice b13 m.nx.length d13) (.slice b14 m.sg.length d14) (.slice b15 m.cg.length d15) (.slice b16 m.ln.length d16)) _ (fun ww hS i u hu => by rw [Nat.zero_add]; exact hS.cell i u hu) Tryz.underlying50 rfl (by kernel_rfl) Ap HP.out
        go_simp
        refine wpAnyG_take (i := 5) (v := ?v5) rfl (by kernel_rfl) (fun _ _ _ h => h) (Or.inl ⟨by rfl, ?hy5⟩) H11.out.2.2 ?rest5
        case hy5 => (intro ww _; go_simp; try with_reducible rfl)
        go_simp
        refine wpAnyG_take (i := 6) (v := ?v6) rfl (by kernel_rfl) (fun _ _ _ h => h) (Or.inl ⟨by rfl, ?hy6⟩) H11.out.2.2 ?rest6
        case hy6 => (intro ww _; go_simp; try with_reducible rfl)
        go_simp
        refine wpAnyG_take (i := 7) (v := ?v7) rfl (by kernel_rfl) (fun _ _ _ h => h) (Or.inl ⟨by rfl, ?hy7⟩) H11.out.2.2 ?rest7
        case hy7 => (intro ww _; go_simp; try with_reducible rfl)
        go_simp
        refine wpAnyG_take (i := 8) (v := ?v8) rfl (by kernel_rfl) (fun _ _ _ h => h) (Or.inl ⟨by rfl, ?hy8⟩) H11.out.2.2 ?rest8
        case hy8 => (intro ww _; go_simp; try with_reducible rfl)
        go_simp
        refine wpAnyG_take (i := 9) (v := ?v9) rfl (by kernel_rfl) (fun _ _ _ h => h) (Or.inl ⟨by rfl, ?hy9⟩) H11.out.2.2 ?rest9
        case hy9 => (intro ww _; go_simp; try with_reducible rfl)
        go_simp
        refine wpAnyG_all (rs := [4]) (by kernel_rfl) (by simp) ?_
        intro i hi
        obtain rfl := List.mem_singleton.1 hi
        clear hi
        refine wpOp_n rfl (by rfl) (fun K hK => ?_)
        refine owp_bs _ rfl fr tg m b13 b14 b15 b16 m.nx.length m.sg.length m.cg.length m.ln.length d13 d14 d15 d16 HP.out ?_
        have hb12 : Below w11.drew.heap.size w11.drew (w11.drew.alloc (.cells (pkC fr tg m (.slice b13 m.nx.length d13) (.slice b14 m.sg.length d14) (.slice b15 m.cg.length d15) (.slice b16 m.ln.length d16)).toArray 50)) := (Below.refl _ _).alloc (Nat.le_refl _) _
        obtain ⟨w12, e12⟩ : ∃ w12, w12 = w11.drew.alloc (.cells (pkC fr tg m (.slice b13 m.nx.length d13) (.slice b14 m.sg.length d14) (.slice b15 m.cg.length d15) (.slice b16 m.ln.length d16)).toArray 50) := ⟨_, rfl⟩
        rw [← e12] at hb12 ⊢
        have hx12 : BxAt w12 w11.drew.heap.size (pkC fr tg m (.slice b13 m.nx.length d13) (.slice b14 m.sg.length d14) (.slice b15 m.cg.length d15) (.slice b16 m.ln.length d16)) 50 := by rw [e12]; exact heap_alloc_last _ _
        have hbd : Below w11.heap.size w11 w12 := (Below.refl _ _).drew.trans hb12
        have H12 : Hid (OrSt w w12 w1.heap.size (.pointer (some ⟨g, 0, none⟩)) U P2 L3 qs p w3.heap.size b2 cp2 (qs.length + 1) (j + 1) ∧ MsL P w12 m (.slice b13 m.nx.length d13) (.slice b14 m.sg.length d14) (.slice b15 m.cg.length d15) (.slice b16 m.ln.length d16) ∧ BxAt w12 w10.heap.size (pkC fr tg m (.slice b13 m.nx.length d13) (.slice b14 m.sg.length d14) (.slice b15 m.cg.length d15) (.slice b16 m.ln.length d16)) 50 ∧ BxAt w12 w11.drew.heap.size (pkC fr tg m (.slice b13 m.nx.length d13) (.slice b14 m.sg.length d14) (.slice b15 m.cg.length d15) (.slice b16 m.ln.length d16)) 50) := hid ⟨H11.out.1.keep hbd, H11.out.2.1.under hbd, H11.out.2.2.keep hbd, hx12⟩
        clear hb12 e12 hx12 hbd
        refine hK _ _ ⟨fun _ => H12.out.2.2.1, ?_⟩
        clear hK K
        go_simp
        refine wpAnyG_all (rs := [10]) (by kernel_rfl) (by simp) ?_
        intro i hi
        obtain rfl := List.mem_singleton.1 hi
        clear hi
        refine wpOp_n rfl (by rfl) (fun K hK => ?_)
        go_simp
        refine (wsamePks_any (F1 := fun _ => True) (F2 := fun _ => True) _ _ 1 1 1 (cp2 - j) [(fr, tg, m)] [y] rfl rfl (by decide) (fun x hx => by rw [List.mem_singleton.1 hx]; exact HT.out.2.2.1) (fun x hx => by rw [List.mem_singleton.1 hx]; exact HT.out.2.2.2.1) _ (reads_pk (o := 0) trivial (lt_of_blk H12.out.2.2.2) (fun i u hu => by rw [Nat.zero_add]; exact H12.out.2.2.2.cell i u hu) (H12.out.2.1.mono2 (fun _ _ _ => trivial)) 1) ?wt).mono ?_
        case wt => exact H12.out.1.wt.at HT.out.1
        rintro e w13 ⟨rfl, hb⟩
        rw [same_ones HT.out.2.1]
        have H13 := hid (And.intro (H12.out.1.keep hb) (H12.out.2.2.1.keep hb))
        clear hb
        refine hK _ _ ⟨fun _ => H13.out.2, ?_⟩
        clear hK K
        go_simp
        refine wpAnyG_take (i := 11) (v := ?v10) rfl (by kernel_rfl) (fun _ _ _ h => h) (Or.inl ⟨by rfl, ?hy10⟩) H13.out.2 ?rest10
        case hy10 => (intro ww _; go_simp; try with_reducible rfl)
        go_simp
        refine wpAnyG_take (i := 12) (v := ?v11) rfl (by kernel_rfl) (fun _ _ _ h => h) (Or.inl ⟨by rfl, ?hy11⟩) H13.out.2 ?rest11
        case hy11 => (intro ww _; go_simp; try with_reducible rfl)
        go_simp
        refine wpAnyG_done (by kernel_rfl) ?_ _
        go_simp
        go_wp2
        go_roundw
        case rel => exact ⟨j + 1, P2, by have := HJ.out; omega, by simp, H13.out.1⟩
        case measure => have := HJ.out; simp [intOf]; omega
theorem nord_any (U : Nat) (hU : U ≤ 1048576) (a : Option Addr) (cap : Nat) (qs : List Pkt) (hB : ∀ q, q ∈ qs → pkU U q) (hT : (qs.flatMap fun q => tmG q.2.2).length + qs.length ≤ U) (k : Int) (w : World) (hR : Reads (fun _ => True) w (.slice a qs.length cap) (.l 19 (qs.map dPk))) :
    Calls Tryz.prog 6 #[.slice a qs.length cap, .int .i64 k] w fun e w' => e = .returned (.bool true) ∧ Below w.heap.size w w' := by
  by_cases h2 : 200 < qs.length
  · exact nord_far a cap qs.length h2 k w
  by_cases h0 : qs.length = 0
  · rw [h0]
    cases a with
    | none => exact nord_none_none cap k w
    | some ad => exact nord_none_some ad cap k w
  · exact nord_some U hU a cap qs hB (by omega) (by omega) (by omega) k w hR
end Go.Proofs.YthjgnfeadagmeaaGreat
