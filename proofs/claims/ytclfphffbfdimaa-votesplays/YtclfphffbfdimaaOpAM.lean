/- Arguments of any depth, opened at once: what a type tells (Sh), what data fits it, and that an argument that the row reads as such reads so in memory. No walk here. -/
import Derived.Test.YtclfphffbfdimaaDeCM
import Derived.Test.YtclfphffbfdimaaRows
import Derived.ProofKit
import Derived.OpenShut
import Derived.ShutString
import Derived.ChangeOld
import Derived.Deep.Slices
namespace Go.Proofs.Ytclfphffbfdimaa
open Go.ChangeShapes Go.WideShapes Go.ChangeAt Go.RowKit

/-- What a type tells: a number, a bool, a text, a list, a struct (its fields one behind the other: c, u). -/
inductive Sh where
  | i | b | s | q | fl
  | l (bytes sz : Nat) (e : Sh)
  | st (f : Sh)
  | u
  | c (a r : Sh)
def Sh.sz : Sh → Nat
  | .i => 1 | .b => 1 | .s => 1 | .q => 1 | .fl => 1
  | .l _ _ _ => 1
  | .st f => f.sz
  | .u => 0
  | .c a r => a.sz + r.sz
/-- The type t (or the fields from offset o on) tells that. -/
def Sh.Of (P : Program) : Sh → TypeId ⊕ (List Field × Nat) → Prop
  | .i, .inl t => P.underlying t = some (.int .i64)
  | .b, .inl t => P.underlying t = some .bool
  | .s, .inl t => P.underlying t = some .string
  | .q, .inl t => P.underlying t = some (.int .u64)
  | .fl, .inl t => P.underlying t = some (.float .f64)
  | .l bytes sz e, .inl t => ∃ te, P.underlying t = some (.slice te) ∧ P.bytesOf te = bytes ∧ P.cellsOf te = sz ∧ e.sz = sz ∧ 0 < sz ∧ Sh.Of P e (.inl te)
  | .st f, .inl t => ∃ fs, P.underlying t = some (.struct fs) ∧ P.cellsOf t = f.sz ∧ Sh.Of P f (.inr (fs.toList, 0))
  | .u, .inr x => x.1 = []
  | .c a r, .inr x => ∃ f fs, x.1 = f :: fs ∧ f.offset = x.2 ∧ P.cellsOf f.type = a.sz ∧ Sh.Of P a (.inl f.type) ∧ Sh.Of P r (.inr (fs, x.2 + a.sz))
  | _, _ => False
/-- The data ds fits it; S: where the row bounds what is reached; U: the bulk. -/
def Fits (S : Prop) (U : Nat) : Sh → List Dat → Prop
  | .i, ds => ∃ x : Int, ds = [.i x] ∧ -9223372036854775808 ≤ x ∧ x ≤ 9223372036854775807
  | .b, ds => ∃ x : Bool, ds = [.b x]
  | .s, ds => ∃ x : ByteArray, ds = [.s x] ∧ x.size ≤ maxLen ∧ (S → x.size ≤ 140737488351232) ∧ x.size ≤ U
  | .q, ds => ∃ x : Nat, ds = [.q x] ∧ x < 18446744073709551616
  | .fl, ds => ∃ x : Nat, ds = [.f x] ∧ x < 18446744073709551616
  | .l bytes sz e, ds => ∃ es : List (List Dat), ds = [.l sz es] ∧ es.length ≤ maxLen ∧ (S → es.length * bytes ≤ 140737488351232) ∧ es.length ≤ U ∧ ∀ d, d ∈ es → Fits S U e d
  | .st f, ds => Fits S U f ds
  | .u, ds => ds = []
  | .c a r, ds => ∃ d1 d2, ds = d1 ++ d2 ∧ Fits S U a d1 ∧ Fits S U r d2
theorem Fits.mono {S S' : Prop} {U U' : Nat} (hS : S' → S) (hU : U ≤ U') : ∀ {sh : Sh} {ds : List Dat}, Fits S U sh ds → Fits S' U' sh ds
  | .i, _, h => h
  | .b, _, h => h
  | .q, _, h => h
  | .fl, _, h => h
  | .s, _, ⟨x, h1, h2, h3, h4⟩ => ⟨x, h1, h2, fun s => h3 (hS s), Nat.le_trans h4 hU⟩
  | .l _ _ _, _, ⟨es, h1, h2, h3, h4, h5⟩ => ⟨es, h1, h2, fun s => h3 (hS s), Nat.le_trans h4 hU, fun d hd => Fits.mono hS hU (h5 d hd)⟩
  | .st f, ds, h => Fits.mono (sh := f) (ds := ds) hS hU h
  | .u, _, h => h
  | .c _ _, _, ⟨d1, d2, h1, h2, h3⟩ => ⟨d1, d2, h1, Fits.mono hS hU h2, Fits.mono hS hU h3⟩
theorem Fits.len {S : Prop} {U : Nat} : ∀ {sh : Sh} {ds : List Dat}, Fits S U sh ds → ds.length = sh.sz
  | .i, _, ⟨x, h, _⟩ => by rw [h]; rfl
  | .b, _, ⟨x, h⟩ => by rw [h]; rfl
  | .q, _, ⟨x, h, _⟩ => by rw [h]; rfl
  | .fl, _, ⟨x, h, _⟩ => by rw [h]; rfl
  | .s, _, ⟨x, h, _⟩ => by rw [h]; rfl
  | .l _ _ _, _, ⟨es, h, _⟩ => by rw [h]; rfl
  | .st f, ds, h => Fits.len (sh := f) (ds := ds) h
  | .u, _, h => by rw [show _ = [] from h]; rfl
  | .c _ _, _, ⟨d1, d2, h1, h2, h3⟩ => by rw [h1, List.length_append, Fits.len h2, Fits.len h3]; rfl
/-- The cells cs read as ds. -/
def CellsAre (G : Nat → Prop) (W : World) (cs : List Value) (ds : List Dat) : Prop := ∀ (q : Nat) (d : Dat), ds[q]? = some d → ∃ u, cs[q]? = some u ∧ Reads G W u d ∧ Caps W u d
theorem cells_one {G : Nat → Prop} {W : World} {v : Value} {d : Dat} (h : Reads G W v d) (hc : Caps W v d) : CellsAre G W [v] [d] := fun q x hq => by
  cases q with
  | zero => cases hq; exact ⟨v, rfl, h, hc⟩
  | succ q => simp at hq
theorem bulkD_pos {H : Type} (d : DataW H) : 1 ≤ Rows.uptoBulk d := by
  cases d with
  | lit l => cases l <;> simp [Rows.uptoBulk]
  | _ => simp [Rows.uptoBulk]
theorem bulkD_all {H : Type} : ∀ l : List (DataW H), l.length ≤ Rows.uptoBulkAll l
  | [] => Nat.zero_le _
  | d :: r => by
    have h1 := bulkD_pos d
    have h2 := bulkD_all r
    simp only [Rows.uptoBulkAll, List.length_cons]
    omega
theorem bulkD_in {H : Type} : ∀ (l : List (DataW H)) (j : Nat) (d : DataW H), l[j]? = some d → Rows.uptoBulk d ≤ Rows.uptoBulkAll l
  | [], _, _, h => by simp at h
  | d :: r, 0, d', h => by simp at h; subst h; simp only [Rows.uptoBulkAll]; omega
  | d :: r, j + 1, d', h => by
    have := bulkD_in r j d' (by simpa using h)
    simp only [Rows.uptoBulkAll]
    omega
theorem weights_all {H : Type} {P : Program} {e : TypeId} : ∀ {ds : List (DataW H)} {j : Nat} {d : DataW H}, ds[j]? = some d → ∀ n ∈ d.weights P e, n ∈ DataW.weightsAll P e ds
  | [], _, _, h => by simp at h
  | d :: r, 0, d', h => fun n hn => by simp at h; subst h; simp only [DataW.weightsAll, List.mem_append]; exact .inl hn
  | d :: r, j + 1, d', h => fun n hn => by simp only [DataW.weightsAll, List.mem_append]; exact .inr (weights_all (by simpa using h) n hn)
theorem list_pick {α : Type} {Q : Nat → α → Prop} : ∀ n, (∀ i, i < n → ∃ x, Q i x) → ∃ xs : List α, xs.length = n ∧ ∀ i x, xs[i]? = some x → Q i x
  | 0, _ => ⟨[], rfl, fun i x h => by simp at h⟩
  | n + 1, h => by
    obtain ⟨xs, hl, hx⟩ := list_pick n (fun i hi => h i (by omega))
    obtain ⟨x, hq⟩ := h n (by omega)
    refine ⟨xs ++ [x], by simp [hl], fun i y hy => ?_⟩
    rcases Nat.lt_trichotomy i n with hi | hi | hi
    · rw [List.getElem?_append_left (by omega)] at hy; exact hx i y hy
    · subst hi; rw [List.getElem?_append_right (by omega), hl, Nat.sub_self] at hy; cases hy; exact hq
    · rw [List.getElem?_eq_none (by simp; omega)] at hy; cases hy
section
variable {H : Type} {enc : TypeId × Value → H} {W : World}
/-- A real that came in is a word of 64 bits. -/
theorem trod_real {P : Program} {t : TypeId} {fuel : Nat} {cs : List Value} {x : DataW H × List MemPlace} (ht : P.underlying t = some (.float .f64)) (h : DataW.trod enc P W 0 (fun _ => true) true fuel t cs = some x) : ∃ b : Nat, cs = [.float .f64 b] ∧ b < 18446744073709551616 := by
  have key : ∃ b : Nat, cs = [.float .f64 b] ∧ (Lit.float .f64 b).wf = true := by
    cases fuel with
    | zero => simp [DataW.trod] at h
    | succ n =>
      unfold DataW.trod at h
      rw [ht] at h
      split at h <;> simp_all
  obtain ⟨b, h1, h2⟩ := key
  exact ⟨b, h1, by simpa [Lit.wf] using h2⟩
/-- The two things that are shown of a Sh, by its build. -/
def OpensT (enc : TypeId × Value → H) (P : Program) (W : World) (sh : Sh) : Prop := ∀ (t : TypeId) (fuel : Nat) (cs : List Value) (x : DataW H × List MemPlace), sh.Of P (.inl t) → DataW.trod enc P W 0 (fun _ => true) true fuel t cs = some x →
  ∃ ds, Fits (∀ m ∈ x.1.weights P t, m ≤ reachBytes) (Rows.uptoBulk x.1) sh ds ∧ CellsAre (fun _ => True) W cs ds
def OpensF (enc : TypeId × Value → H) (P : Program) (W : World) (sh : Sh) : Prop := ∀ (fs : List Field) (o n : Nat) (cs : List Value) (xs : List (DataW H × List MemPlace)), sh.Of P (.inr (fs, o)) → xs.length = fs.length →
  (∀ (i : Nat) (f : Field), fs[i]? = some f → DataW.trod enc P W 0 (fun _ => true) true n f.type ((cs.drop f.offset).take (P.cellsOf f.type)) = xs[i]?) →
  ∃ ds, Fits (∀ m ∈ DataW.weightsEach P (fs.map (·.type)) (xs.map (·.1)), m ≤ reachBytes) (Rows.uptoBulkAll (xs.map (·.1))) sh ds ∧ CellsAre (fun _ => True) W (cs.drop o) ds
theorem opens_all (P : Program) (sh : Sh) : OpensT enc P W sh ∧ OpensF enc P W sh := by
  induction sh with
  | i =>
    refine ⟨fun t fuel cs x hO h => ?_, fun fs o n cs xs hO => by cases hO⟩
    obtain ⟨k, rfl, rfl, hwf⟩ := DataW.trod_int (by exact hO) h
    have hrg : -9223372036854775808 ≤ k ∧ k ≤ 9223372036854775807 := by simpa [Lit.wf, IntKind.min, IntKind.max, IntKind.bits, IntKind.signed] using hwf
    exact ⟨[.i k], ⟨k, rfl, hrg⟩, cells_one (.i k) (.i k)⟩
  | b =>
    refine ⟨fun t fuel cs x hO h => ?_, fun fs o n cs xs hO => by cases hO⟩
    obtain ⟨k, rfl, rfl⟩ := DataW.trod_bool (by exact hO) h
    exact ⟨[.b k], ⟨k, rfl⟩, cells_one (.b k) (.b k)⟩
  | s =>
    refine ⟨fun t fuel cs x hO h => ?_, fun fs o n cs xs hO => by cases hO⟩
    obtain ⟨k, rfl, rfl, hz⟩ := DataW.trod_string (by exact hO) h
    refine ⟨[.s k], ⟨k, rfl, hz, fun hs => ?_, ?_⟩, cells_one (.s k) (.s k)⟩
    · have := hs k.data.toList.length (by simp [DataW.weights])
      rw [reachBytes] at this
      simpa using this
    · simp [Rows.uptoBulk]
  | q =>
    refine ⟨fun t fuel cs x hO h => ?_, fun fs o n cs xs hO => by cases hO⟩
    obtain ⟨k, rfl, rfl, hwf⟩ := DataW.trod_int (by exact hO) h
    have hrg : 0 ≤ k ∧ k ≤ 18446744073709551615 := by simpa [Lit.wf, IntKind.min, IntKind.max, IntKind.bits, IntKind.signed] using hwf
    obtain ⟨n, rfl⟩ := Int.eq_ofNat_of_zero_le hrg.1
    exact ⟨[.q n], ⟨n, rfl, by omega⟩, cells_one (.q n) (.q n)⟩
  | fl =>
    refine ⟨fun t fuel cs x hO h => ?_, fun fs o n cs xs hO => by cases hO⟩
    obtain ⟨k, rfl, hk⟩ := trod_real hO h
    exact ⟨[.f k], ⟨k, rfl, hk⟩, cells_one (.f k) (.f k)⟩
  | u =>
    refine ⟨fun t fuel cs x hO h => (by cases hO), fun fs o n cs xs hO hl h => ?_⟩
    exact ⟨[], rfl, fun q d hq => by simp at hq⟩
  | st f ih =>
    refine ⟨fun t fuel cs x hO h => ?_, fun fs o n cs xs hO => by cases hO⟩
    obtain ⟨fs, hu, hc, hF⟩ := hO
    obtain ⟨xs, n, _, rfl, hl, hxl, hf⟩ := DataW.trod_struct hu h
    obtain ⟨ds, h1, h2⟩ := ih.2 fs.toList 0 n cs xs hF (by rw [hxl]; simp) (fun i g hg => hf i g (by simpa using hg))
    refine ⟨ds, Fits.mono (sh := f) (fun hs m hm => hs m (by simp only [DataW.weights, hu]; exact hm)) (by simp only [Rows.uptoBulk]; omega) h1, by simpa using h2⟩
  | c a r iha ihr =>
    refine ⟨fun t fuel cs x hO h => (by cases hO), fun fs o n cs xs hO hl h => ?_⟩
    obtain ⟨f, fs', rfl, hoff, hcell, hA, hR⟩ := hO
    cases xs with
    | nil => simp at hl
    | cons x xs =>
      have h0 := h 0 f rfl
      obtain ⟨d1, f1, c1⟩ := iha.1 f.type n _ x hA h0
      obtain ⟨d2, f2, c2⟩ := ihr.2 fs' (o + a.sz) n cs xs hR (by simpa using hl) (fun i g hg => h (i + 1) g (by simpa using hg))
      refine ⟨d1 ++ d2, ⟨d1, d2, rfl, f1.mono (fun hs m hm => hs m (by simp only [List.map_cons, DataW.weightsEach, List.mem_append]; exact .inl hm)) (by simp only [List.map_cons, Rows.uptoBulkAll]; omega), f2.mono (fun hs m hm => hs m (by simp only [List.map_cons, DataW.weightsEach, List.mem_append]; exact .inr hm)) (by simp only [List.map_cons, Rows.uptoBulkAll]; omega)⟩, ?_⟩
      · intro q d hq
        have hl1 := f1.len
        by_cases hqa : q < d1.length
        · rw [List.getElem?_append_left hqa] at hq
          obtain ⟨u, hu, hR⟩ := c1 q d hq
          refine ⟨u, ?_, hR⟩
          rw [List.getElem?_take] at hu
          split at hu
          · simp only at hoff
            rw [← hoff]
            exact hu
          · cases hu
        · rw [List.getElem?_append_right (by omega)] at hq
          obtain ⟨u, hu, hR⟩ := c2 _ d hq
          refine ⟨u, ?_, hR⟩
          rw [List.getElem?_drop] at hu ⊢
          rw [show o + q = o + a.sz + (q - d1.length) by omega]
          exact hu
  | l bytes sz e ih =>
    refine ⟨fun t fuel cs x hO h => ?_, fun fs o n cs xs hO => by cases hO⟩
    obtain ⟨te, hu, hby, hsz, hez, hz0, hE⟩ := hO
    rcases Go.Deep.open_slice hu h with ⟨rfl, rfl⟩ | ⟨ad, len, cap, m, n, D, Pl, rfl, _, hl, hm, hmm, hx, hel⟩
    · exact ⟨[.l sz []], ⟨[], rfl, Nat.zero_le _, fun _ => by simp, Nat.zero_le _, fun d hd => by simp at hd⟩, cells_one (.nil none 0 sz) (.l none 0 0 sz [] (Nat.le_refl _) (fun g off j q e d u h => by cases h))⟩
    · simp at hmm
      subst hmm
      have hx1 : x.1 = .slice ((List.range len).map D) ((List.range (m - len)).map fun j => D (len + j)) := by rw [hx]
      have each : ∀ i, i < len → ∃ d : List Dat, Fits (∀ q ∈ x.1.weights P t, q ≤ reachBytes) (Rows.uptoBulk x.1) e d ∧ ∃ cs', W.cells? 0 (ad.add (i * sz)) sz = some cs' ∧ CellsAre (fun _ => True) W cs' d := by
        intro i hi
        obtain ⟨cs', h1, h2⟩ := hel i (by omega)
        rw [hsz] at h1
        obtain ⟨d, f1, c1⟩ := ih.1 te n cs' _ hE h2
        have hget : ((List.range len).map D)[i]? = some (D i) := by rw [List.getElem?_map, List.getElem?_range hi]; rfl
        have hw : ∀ q ∈ (D i).weights P te, q ∈ x.1.weights P t := fun q hq => by
          rw [hx1]
          simp only [DataW.weights, hu, List.mem_cons, List.mem_append]
          exact .inr (.inl (weights_all hget q hq))
        have hbk : Rows.uptoBulk (D i) ≤ Rows.uptoBulk x.1 := by
          rw [hx1]
          have := bulkD_in _ i _ hget
          simp only [Rows.uptoBulk]
          omega
        exact ⟨d, f1.mono (fun hs q hq => hs q (hw q hq)) hbk, cs', h1, c1⟩
      obtain ⟨es, hil, hip⟩ := list_pick len each
      have hcellA : ∀ (j : Nat) (d : List Dat), es[j]? = some d → d.length = sz ∧ ∀ (q : Nat) (y : Dat), d[q]? = some y → ∃ u, W.cell? (ad.add (j * sz + q)) = some u ∧ Reads (fun _ => True) W u y ∧ Caps W u y := fun j d hj => by
        obtain ⟨hf, cs', h1, h2⟩ := hip j d hj
        obtain ⟨_, hlen, hc⟩ := World.cells?_some h1
        refine ⟨by rw [hf.len, hez], fun q y hy => ?_⟩
        obtain ⟨u, hu, hR⟩ := h2 q y hy
        have hq := (List.getElem?_eq_some_iff.1 hu).1
        have := hc q (by omega)
        rw [Go.Deep.add_add] at this
        exact ⟨u, this.trans hu, hR⟩
      refine ⟨[.l sz es], ⟨es, rfl, by omega, fun hs => ?_, ?_, fun d hd => ?_⟩, cells_one ?_ ?_⟩
      · have := hs ((len + (m - len)) * P.bytesOf te) (by rw [hx1]; simp [DataW.weights, hu])
        rw [hby, reachBytes] at this
        rw [hil]
        have h3 : len + (m - len) = m := by omega
        rw [h3] at this
        exact Nat.le_trans (Nat.mul_le_mul_right _ hl) this
      · rw [hx1, hil]
        have := bulkD_all ((List.range len).map D)
        rw [List.length_map, List.length_range] at this
        simp only [Rows.uptoBulk]
        omega
      · obtain ⟨i, hi, rfl⟩ := List.getElem_of_mem hd
        exact (hip i _ (List.getElem?_eq_getElem hi)).1
      · rw [← hil]
        by_cases h0 : len = 0
        · rw [List.eq_nil_of_length_eq_zero (by omega : es.length = 0)]
          exact .nil (some ad) m sz
        · obtain ⟨b, off, spot⟩ := ad
          have hcell : ∀ (j : Nat) (d : List Dat), es[j]? = some d → d.length = sz ∧ ∀ (q : Nat) (y : Dat), d[q]? = some y → ∃ u, W.cell? ((Addr.mk b off spot).add (j * sz + q)) = some u ∧ Reads (fun _ => True) W u y := fun j d hj => ⟨(hcellA j d hj).1, fun q y hy => by
            obtain ⟨u, h1, h2, _⟩ := (hcellA j d hj).2 q y hy
            exact ⟨u, h1, h2⟩⟩
          obtain ⟨d0, hd0⟩ : ∃ d, es[0]? = some d := ⟨es[0]'(by omega), List.getElem?_eq_getElem _⟩
          have hd0l := (hcell 0 d0 hd0).1
          obtain ⟨y0, hy0⟩ : ∃ y, d0[0]? = some y := ⟨d0[0]'(by omega), List.getElem?_eq_getElem _⟩
          obtain ⟨u0, hu0, _⟩ := (hcell 0 d0 hd0).2 0 y0 hy0
          have hspot : spot = none := by simpa [Addr.add] using World.cell?_spot hu0
          subst hspot
          have hb0 : b < W.heap.size := by have := World.block_lt_of_cell? W _ hu0; simpa [Addr.add] using this
          have hsome : ∀ (j : Nat) (d : List Dat) (q : Nat) (y : Dat), es[j]? = some d → d[q]? = some y → ∃ u, W.cell? ⟨b, off + j * sz + q, none⟩ = some u ∧ Reads (fun _ => True) W u y := fun j d q y hj hy => by
            obtain ⟨u, h1, h2⟩ := (hcell j d hj).2 q y hy
            rw [Addr.add_lit] at h1
            exact ⟨u, by rw [Nat.add_assoc]; exact h1, h2⟩
          refine .l b off m sz es (fun j q => (W.cell? ⟨b, off + j * sz + q, none⟩).getD undef) trivial hb0 (fun j d hj => (hcell j d hj).1) (fun j d q y hj hy => ?_) (fun j d q y hj hy => ?_)
          · obtain ⟨u, h1, _⟩ := hsome j d q y hj hy
            rw [h1]; rfl
          · obtain ⟨u, h1, h2⟩ := hsome j d q y hj hy
            rw [h1]; exact h2
      · refine .l (some ad) len m sz es hl (fun g off j q e d u hg hj hq hu => ?_)
        cases hg
        obtain ⟨u', h1, _, h2⟩ := (hcellA j e hj).2 q d hq
        rw [Addr.add_lit, ← Nat.add_assoc, hu] at h1
        cases h1
        exact h2
end
end Go.Proofs.Ytclfphffbfdimaa
