/- Texts laid together: LnA ScA HlA LdA StB LnB TeA TeE TeB BaD BaE TeF TeQ. -/
import Derived.Test.YtgmekkgbobmplaaGreatNa4
import Derived.Test.YtgmekkgbobmplaaGreatNa1
import Derived.Shelf.Strconv.Clone
import Derived.OrdersHeld
import Derived.Deep.MidRow
import Derived.Deep.DeepMust
import Derived.Deep.Cut
import Derived.Test.YtgmekkgbobmplaaGreatNa3
import Derived.Deep.QuietTactic
import Derived.Test.YtgmekkgbobmplaaGreatNa2
import Derived.Deep.RegionHeld3
/- A row of structs that is copied and then written over, one element after the other: what stands, what is still to be written. No walk here. -/
namespace Go.Proofs.YtgmekkgbobmplaaGreat
open Go.RowKit

section
variable {k : Nat} {G : List (List Value)} {X : List Value}
theorem jn_len : ∀ {G : List (List Value)}, (∀ x, x ∈ G → x.length = k) → G.flatten.length = G.length * k
  | [], _ => by simp
  | x :: G, h => by
    rw [List.flatten_cons, List.length_append, h x (List.mem_cons_self ..), jn_len (fun y hy => h y (List.mem_cons_of_mem _ hy)), List.length_cons, Nat.succ_mul]
    omega
theorem jn_split {i : Nat} {x : List Value} (h : G[i]? = some x) : G.flatten = (G.take i).flatten ++ (x ++ (G.drop (i + 1)).flatten) := by
  obtain ⟨hl, he⟩ := List.getElem?_eq_some_iff.1 h
  conv => lhs; rw [← List.take_append_drop i G, List.drop_eq_getElem_cons hl, he]
  rw [List.flatten_append, List.flatten_cons]
theorem jn_take (hG : ∀ x, x ∈ G → x.length = k) {i : Nat} (hi : i ≤ G.length) : (G.take i).flatten.length = i * k := by
  rw [jn_len (k := k) (fun x hx => hG x (List.mem_of_mem_take hx)), List.length_take, Nat.min_eq_left hi]
theorem jn_at (hG : ∀ x, x ∈ G → x.length = k) {i : Nat} {x : List Value} (h : G[i]? = some x) (q : Nat) (hq : q < k) : (G.flatten ++ X)[i * k + q]? = x[q]? := by
  obtain ⟨hl, _⟩ := List.getElem?_eq_some_iff.1 h
  have h1 := jn_take hG (Nat.le_of_lt hl)
  have hx := hG x (List.mem_of_getElem? h)
  rw [jn_split h, List.append_assoc, List.getElem?_append_right (by omega), h1, Nat.add_sub_cancel_left, List.append_assoc, List.getElem?_append_left (by omega)]
theorem jn_mid : ∀ (vs A B C : List Value), B.length = vs.length → setAt (A ++ (B ++ C)) A.length vs = A ++ (vs ++ C)
  | [], A, B, C, h => by
    obtain rfl := List.eq_nil_of_length_eq_zero h
    rfl
  | v :: vs, A, [], C, h => by cases h
  | v :: vs, A, b :: B, C, h => by
    have h1 : (A ++ (b :: B ++ C)).set A.length v = (A ++ [v]) ++ (B ++ C) := by simp
    rw [setAt, h1]
    have h2 := jn_mid vs (A ++ [v]) B C (by simpa using h)
    rw [List.length_append] at h2
    rw [show A.length + 1 = A.length + [v].length from rfl, h2]
    simp
theorem jn_set (hG : ∀ x, x ∈ G → x.length = k) {i : Nat} (hi : i < G.length) (y : List Value) (hy : y.length = k) : setAt (G.flatten ++ X) (i * k) y = (G.set i y).flatten ++ X := by
  have h : G[i]? = some G[i] := List.getElem?_eq_getElem hi
  have h1 := jn_take hG (Nat.le_of_lt hi)
  have h2 : (G.set i y)[i]? = some y := by simp [hi]
  rw [jn_split h, ← h1, List.append_assoc, List.append_assoc, jn_mid _ _ _ _ (by rw [hy]; exact hG _ (List.getElem_mem hi)), jn_split h2, List.take_set, List.drop_set, List.set_eq_of_length_le (l := G.take i) (by rw [List.length_take]; omega)]
  simp
end
/-- These cells read as these data. -/
def RowD (F : Nat → Prop) (w : World) (x : List Value) (ds : List Dat) : Prop := x.length = ds.length ∧ ∀ (q : Nat) (d : Dat), ds[q]? = some d → ∃ u, x[q]? = some u ∧ Reads F w u d
theorem RowD.keep {F : Nat → Prop} {w w' : World} {x : List Value} {ds : List Dat} (h : RowD F w x ds) (hs : w.heap.size ≤ w'.heap.size) (hb : ∀ k, k < w.heap.size → F k → w'.heap[k]? = w.heap[k]?) : RowD F w' x ds := ⟨h.1, fun q d hd => by
  obtain ⟨u, h1, h2⟩ := h.2 q d hd
  exact ⟨u, h1, h2.keep hs hb⟩⟩
theorem RowD.mono {F F' : Nat → Prop} {w : World} {x : List Value} {ds : List Dat} (h : RowD F w x ds) (hF : ∀ k, k < w.heap.size → F k → F' k) : RowD F' w x ds := ⟨h.1, fun q d hd => by
  obtain ⟨u, h1, h2⟩ := h.2 q d hd
  exact ⟨u, h1, h2.mono hF⟩⟩
theorem Reads.cell1 {F : Nat → Prop} {w : World} {u : Value} {d : Dat} (h : Reads F w u d) : u.oneCell' = true := by cases h <;> rfl
theorem RowD.cell1 {F : Nat → Prop} {w : World} {x : List Value} {ds : List Dat} (h : RowD F w x ds) (u : Value) (hu : u ∈ x) : u.oneCell' = true := by
  obtain ⟨q, hq, rfl⟩ := List.mem_iff_getElem.1 hu
  obtain ⟨v, h1, h2⟩ := h.2 q _ (List.getElem?_eq_getElem (by rw [← h.1]; exact hq))
  rw [List.getElem?_eq_getElem hq] at h1
  cases h1
  exact h2.cell1
/-- A list that is read, as rows of cells. -/
theorem rows_of {F : Nat → Prop} {w : World} {ad : Addr} {n c sz : Nat} {es : List (List Dat)} (h : Reads F w (.slice (some ad) n c) (.l sz es)) (hw : ∀ e, e ∈ es → e.length = sz) :
    ∃ G : List (List Value), n = es.length ∧ G.length = es.length ∧ (∀ x, x ∈ G → x.length = sz) ∧ (∀ (j : Nat) (u : Value), G.flatten[j]? = some u → w.cell? (ad.add j) = some u) ∧ ∀ (i : Nat) (d : List Dat), es[i]? = some d → ∃ x, G[i]? = some x ∧ RowD F w x d := by
  cases h with
  | nil _ _ _ => exact ⟨[], rfl, rfl, (fun x hx => (List.not_mem_nil hx).elim), (fun j u hu => by cases hu), (fun i d hd => by cases hd)⟩
  | l g off cap sz es cf hF hg hs hc hr =>
    obtain ⟨G, hl, hG⟩ := list_pick (Q := fun i x => ∃ d, es[i]? = some d ∧ RowD F w x d ∧ ∀ q, q < sz → ∃ u, x[q]? = some u ∧ w.cell? ⟨g, off + i * sz + q, none⟩ = some u) es.length (fun i hi => by
      have hd := List.getElem?_eq_getElem hi
      have hsz := hs i _ hd
      refine ⟨(List.range sz).map (fun q => cf i q), _, hd, ⟨by simp [hsz], fun q d hq => ⟨cf i q, ?_, hr i _ q d hd hq⟩⟩, fun q hq => ⟨cf i q, by simp [hq], ?_⟩⟩
      · have : q < sz := by rw [← hsz]; exact (List.getElem?_eq_some_iff.1 hq).1
        simp [this]
      · exact hc i _ q _ hd (List.getElem?_eq_getElem (by rw [hsz]; exact hq)))
    have hwid : ∀ x, x ∈ G → x.length = sz := fun x hx => by
      obtain ⟨i, hi⟩ := List.mem_iff_getElem?.1 hx
      obtain ⟨d, hd, hR, _⟩ := hG i x hi
      rw [hR.1, hs i d hd]
    refine ⟨G, rfl, hl, hwid, fun j u hj => ?_, fun i d hd => ?_⟩
    · have hjl := (List.getElem?_eq_some_iff.1 hj).1
      rw [jn_len hwid] at hjl
      have hsz0 : 0 < sz := Nat.pos_of_ne_zero (fun e => by rw [e] at hjl; omega)
      have hi : j / sz < G.length := Nat.div_lt_of_lt_mul (by rw [Nat.mul_comm]; exact hjl)
      have hq : j % sz < sz := Nat.mod_lt _ hsz0
      have hx := List.getElem?_eq_getElem hi
      have hjq : j / sz * sz + j % sz = j := by rw [Nat.mul_comm]; exact Nat.div_add_mod j sz
      have h2 := jn_at (X := []) hwid hx (j % sz) hq
      rw [hjq, List.append_nil, hj] at h2
      obtain ⟨d, _, _, h3⟩ := hG _ _ hx
      obtain ⟨u2, h4, h5⟩ := h3 _ hq
      rw [h4] at h2
      cases h2
      rw [Nat.add_assoc, hjq] at h5
      rw [Addr.add_lit]
      exact h5
    · obtain ⟨x, hx⟩ : ∃ x, G[i]? = some x := ⟨_, List.getElem?_eq_getElem (by rw [hl]; exact (List.getElem?_eq_some_iff.1 hd).1)⟩
      obtain ⟨d2, h1, h2, _⟩ := hG i x hx
      rw [hd] at h1
      cases h1
      exact ⟨x, hx, h2⟩
/-- A row at b that held es: the first j of it are written over by fs. -/
structure OlSt (T : TypeId) (sz b : Nat) (w0 w : World) (es fs : List (List Dat)) (G : List (List Value)) (X : List Value) (j : Nat) : Prop where
  blk : w.heap[b]? = some (.cells (G.flatten ++ X).toArray T (0, 0))
  wid : ∀ x, x ∈ G → x.length = sz
  len : G.length = es.length
  done : ∀ (i : Nat) (d : List Dat), i < j → fs[i]? = some d → ∃ x, G[i]? = some x ∧ RowD (fun k => w0.heap.size ≤ k ∧ k ≠ b) w x d
  rest : ∀ (i : Nat) (d : List Dat), j ≤ i → es[i]? = some d → ∃ x, G[i]? = some x ∧ RowD (fun k => k ≠ b) w x d
  low : w0.heap.size ≤ b
  bel : Below w0.heap.size w0 w
section
variable {T : TypeId} {sz b : Nat} {w0 w w' : World} {es fs : List (List Dat)} {G : List (List Value)} {X : List Value} {j : Nat}
theorem OlSt.keep (h : OlSt T sz b w0 w es fs G X j) (hb : Below w.heap.size w w') : OlSt T sz b w0 w' es fs G X j :=
  ⟨(hb.block _ (lt_of_blk h.blk)).trans h.blk, h.wid, h.len, fun i d hi hd => by
    obtain ⟨x, h1, h2⟩ := h.done i d hi hd
    exact ⟨x, h1, h2.keep hb.size (fun k hk _ => hb.block k hk)⟩, fun i d hi hd => by
    obtain ⟨x, h1, h2⟩ := h.rest i d hi hd
    exact ⟨x, h1, h2.keep hb.size (fun k hk _ => hb.block k hk)⟩, h.low, h.bel.trans (hb.mono h.bel.size)⟩
theorem OlSt.at (h : OlSt T sz b w0 w es fs G X j) {i : Nat} {x : List Value} (hx : G[i]? = some x) (q : Nat) (u : Value) (hu : x[q]? = some u) : w.cell? ⟨b, i * sz + q, none⟩ = some u := by
  refine cell_at h.blk _ _ ?_
  rw [jn_at h.wid hx q (by rw [← h.wid x (List.mem_of_getElem? hx)]; exact (List.getElem?_eq_some_iff.1 hu).1)]
  exact hu
theorem OlSt.put (h : OlSt T sz b w0 w es fs G X j) (y : List Value) (d : List Dat) (hj : j < es.length) (hd : fs[j]? = some d) (hy : y.length = sz) (hr : RowD (fun k => w0.heap.size ≤ k ∧ k ≠ b) w y d) (ho : One b w w') (hw : w'.heap[b]? = some (.cells (setAt (G.flatten ++ X) (j * sz) y).toArray T (0, 0))) :
    OlSt T sz b w0 w' es fs (G.set j y) X (j + 1) := by
  have hjG : j < G.length := by rw [h.len]; exact hj
  rw [jn_set h.wid hjG y hy] at hw
  have hk : ∀ {x : List Value} {ds : List Dat} {F : Nat → Prop}, (∀ k, F k → k ≠ b) → RowD F w x ds → RowD F w' x ds := fun hF hx => hx.keep (Nat.le_of_eq ho.size.symm) (fun k _ hk => ho.block k (hF k hk))
  refine ⟨hw, fun x hx => ?_, by rw [List.length_set]; exact h.len, fun i e hi he => ?_, fun i e hi he => ?_, h.low, ho.below h.bel h.low⟩
  · rcases List.mem_or_eq_of_mem_set hx with hx | rfl
    · exact h.wid x hx
    · exact hy
  · by_cases hij : i = j
    · subst hij
      rw [hd] at he
      cases he
      exact ⟨y, by simp [hjG], hk (fun k hk => hk.2) hr⟩
    · obtain ⟨x, h1, h2⟩ := h.done i e (by omega) he
      exact ⟨x, by rw [List.getElem?_set_ne (fun e => hij e.symm)]; exact h1, hk (fun k hk => hk.2) h2⟩
  · obtain ⟨x, h1, h2⟩ := h.rest i e (by omega) he
    exact ⟨x, by rw [List.getElem?_set_ne (by omega)]; exact h1, hk (fun k hk => hk) h2⟩
/-- All is written over. -/
theorem OlSt.all (h : OlSt T sz b w0 w es fs G X es.length) (hf : fs.length = es.length) (hw : ∀ d, d ∈ fs → d.length = sz) (cap : Nat) : Reads (fun k => w0.heap.size ≤ k) w (.slice (some ⟨b, 0, none⟩) es.length cap) (.l sz fs) := by
  have hR : ∀ (i : Nat) (d : List Dat), fs[i]? = some d → ∃ x, G[i]? = some x ∧ RowD (fun k => w0.heap.size ≤ k ∧ k ≠ b) w x d := fun i d hd => h.done i d (by rw [← hf]; exact (List.getElem?_eq_some_iff.1 hd).1) hd
  rw [← hf]
  refine .l b 0 cap sz fs (fun i q => ((G.getD i []).getD q undef)) h.low (lt_of_blk h.blk) (fun i e he => hw e (List.mem_of_getElem? he)) (fun i e q d he hd => ?_) (fun i e q d he hd => ?_)
  · obtain ⟨x, h1, h2, h3⟩ := hR i e he
    obtain ⟨u, h4, _⟩ := h3 q d hd
    rw [Nat.zero_add, List.getD_eq_getElem?_getD, List.getD_eq_getElem?_getD, h1, Option.getD_some, h4]
    exact h.at h1 q u h4
  · obtain ⟨x, h1, h2, h3⟩ := hR i e he
    obtain ⟨u, h4, h5⟩ := h3 q d hd
    rw [List.getD_eq_getElem?_getD, List.getD_eq_getElem?_getD, h1, Option.getD_some, h4]
    exact h5.mono (fun k _ hk => hk.1)
/-- A copy at its beginning. -/
theorem OlSt.begin {F : Nat → Prop} {n : Nat} {v : Value} (hown : w'.ownsRow w.heap.size T sz v n G.flatten) (hb : Below w.heap.size w w') (hn : n = es.length) (hl : G.length = es.length) (hw : ∀ x, x ∈ G → x.length = sz) (hr : ∀ (i : Nat) (d : List Dat), es[i]? = some d → ∃ x, G[i]? = some x ∧ RowD F w x d) :
    (es = [] ∧ ∃ a c, v = .slice a 0 c) ∨ ∃ b c X, v = .slice (some ⟨b, 0, none⟩) n c ∧ OlSt T sz b w w' es fs G X 0 := by
  rcases hown.2 with ⟨hv, h0⟩ | ⟨g, cap, cur, hv, hg, hh, hnc, hcp, hcs, ht⟩
  · exact .inl ⟨List.eq_nil_of_length_eq_zero (by omega), none, 0, hv⟩
  · refine .inr ⟨g, cap, cur.toList.drop (n * sz), hv, ?_, hw, hl, fun i d hi => absurd hi (Nat.not_lt_zero _), fun i d _ hd => ?_, hg, hb⟩
    · rw [hh, ← ht, List.take_append_drop]
    · obtain ⟨x, h1, h2⟩ := hr i d hd
      exact ⟨x, h1, (h2.mono (F' := fun k => k ≠ g) (fun k hk _ => by omega)).keep hb.size (fun k hk _ => hb.block k hk)⟩
end
end Go.Proofs.YtgmekkgbobmplaaGreat

/- strings.Clone, as the library has it. -/
namespace Go.Proofs.YtgmekkgbobmplaaGreat
open Go.RowKit

def renLMn316 : Go.Shelf.Ren := ⟨fun | 316 => 93 | n => n, fun | 0 => 0 | 3 => 3 | 4 => 4 | 5 => 5 | 9 => 9 | 37 => 160 | 127 => 178 | n => n, fun | n => n⟩
theorem layLMn316 : Go.Proofs.LaysM.n316 Tryz.prog renLMn316 := {
  mixed := by kernel_rfl
  f316 := Tryz.func93.trans (congrArg some (by kernel_rfl))
  t0 := Tryz.underlying0
  a0 := Tryz.isAgg0
  z0 := Tryz.sizeOf0
  v0 := Tryz.zeroValue0
  t3 := Tryz.underlying3
  a3 := Tryz.isAgg3
  z3 := Tryz.sizeOf3
  v3 := Tryz.zeroValue3
  t4 := Tryz.underlying4
  a4 := Tryz.isAgg4
  z4 := Tryz.sizeOf4
  v4 := Tryz.zeroValue4
  t9 := Tryz.underlying9
  a9 := Tryz.isAgg9
  z9 := Tryz.sizeOf9
  v9 := Tryz.zeroValue9
  t37 := Tryz.underlying160
  a37 := Tryz.isAgg160
  z37 := Tryz.sizeOf160
  v37 := Tryz.zeroValue160
  t127 := Tryz.underlying178
  a127 := Tryz.isAgg178
  z127 := Tryz.sizeOf178
  v127 := Tryz.zeroValue178
  t5 := Tryz.underlying5
  a5 := Tryz.isAgg5
  z5 := Tryz.sizeOf5
  v5 := Tryz.zeroValue5
  i0 := by kernel_rfl
  i3 := by kernel_rfl
  i4 := by kernel_rfl
  i5 := by kernel_rfl
  i9 := by kernel_rfl
  i37 := by kernel_rfl
  i127 := by kernel_rfl }
set_option maxRecDepth 100000 in
theorem sclone_any (t : ByteArray) (ht : t.size ≤ 281474976710656) (w : World) : Calls Tryz.prog 57 #[.string t] w fun e w' => e = .returned (.string t) ∧ Below w.heap.size w w' := by
  have hc := fun u : World => Any.stringslite_Clone layLMn316 t u ht
  go_enter Tryz.func57, Tryz.ntmps57
  go_wp2_with (go_at_call 93; refine (hc _).mono ?_; rintro e w1 ⟨rfl, hb⟩; have H1 := hid hb; clear hb)
  go_ret
  exact ⟨rfl, H1.out⟩
end Go.Proofs.YtgmekkgbobmplaaGreat

/- Regions that draw, reads taken first, where what stands at their end writes what was read: behind the operations named (they wait for all that is taken) the condition need not hold. -/
namespace Go.Proofs.YtgmekkgbobmplaaGreat
open Go.RowKit

section
variable {P : Program} {ops : Array Oper} {Q : Exit → Act → World → Prop} {md : Region.Mode} {S : World → Prop} {ex : List Nat}
/-- k waits for i. -/
def reachB (md : Region.Mode) (ops : Array Oper) : Nat → Nat → Nat → Bool
  | 0, _, _ => false
  | n + 1, k, i => match ops[k]? with
    | none => false
    | some o => o.after.any fun e => Region.binds md e && (e.on == i || reachB md ops n e.on i)
def Closed (md : Region.Mode) (ops : Array Oper) (listed : Array Bool) : Prop := ∀ (j : Nat) (o : Oper), ops[j]? = some o → listed.getD j false = true → ∀ e ∈ o.after, Region.binds md e = true → listed.getD e.on false = true
def closedB (md : Region.Mode) (ops : Array Oper) (listed : Array Bool) : Bool := (List.range ops.size).all fun j => !(listed.getD j false) || match ops[j]? with
  | none => true
  | some o => o.after.all fun e => !(Region.binds md e) || listed.getD e.on false
theorem closed_of {listed : Array Bool} (h : closedB md ops listed = true) : Closed md ops listed := fun j o ho hl e he hb => by
  have hj : j < ops.size := (Array.getElem?_eq_some_iff.1 ho).1
  have h1 := List.all_eq_true.1 h j (List.mem_range.2 hj)
  simp only [hl, ho, Bool.not_true, Bool.false_or] at h1
  have h2 := Array.all_eq_true_iff_forall_mem.1 h1 e he
  simpa [hb] using h2
theorem reach_listed {listed : Array Bool} (hc : Closed md ops listed) {i : Nat} : ∀ (n k : Nat), reachB md ops n k i = true → (∀ o, ops[k]? = some o → ∀ e ∈ o.after, Region.binds md e = true → listed.getD e.on false = true) → listed.getD i false = true
  | 0, _, h, _ => by simp [reachB] at h
  | n + 1, k, h, hk => by
    rw [reachB] at h
    cases ho : ops[k]? with
    | none => rw [ho] at h; cases h
    | some o =>
      rw [ho] at h
      obtain ⟨q, hq, h1⟩ := Array.any_eq_true.1 h
      have he := Array.getElem_mem hq
      generalize o.after[q] = e at he h1
      rw [Bool.and_eq_true, Bool.or_eq_true] at h1
      have hl := hk o ho e he h1.1
      rcases h1.2 with h2 | h2
      · rw [beq_iff_eq] at h2
        rw [← h2]
        exact hl
      · exact reach_listed hc n e.on h2 (fun o' ho' e' he' hb' => hc e.on o' ho' hl e' he' hb')
theorem closed_step {listed : Array Bool} (hc : Closed md ops listed) {j : Nat} (hj : j ∈ Region.ready md ops listed) : Closed md ops (listed.setIfInBounds j true) := fun k o ho hl e he hb => by
  by_cases hkj : j = k
  · subst hkj
    obtain ⟨_, o', ho', hall⟩ := mem_ready.1 hj
    rw [ho] at ho'
    cases ho'
    exact getD_set_true (hall e he hb)
  · rw [getD_set_ne false hkj] at hl
    exact getD_set_true (hc k o ho hl e he hb)
def wpAnyG (P : Program) (md : Region.Mode) (ops : Array Oper) (Q : Exit → Act → World → Prop) (S : World → Prop) (ex : List Nat) : Nat → Array Bool → Act → World → Prop
  | 0, listed, a, w => Region.ready md ops listed = [] ∧ Q .normal a w
  | fuel + 1, listed, a, w =>
    (Region.ready md ops listed = [] → Q .normal a w) ∧
    ∀ i ∈ Region.ready md ops listed, wpOp P ops Q i (fun a' w' => (i ∉ ex → S w') ∧ wpAnyG P md ops Q S ex fuel (listed.setIfInBounds i true) a' w') a w
theorem wpAny_of_G : ∀ (fuel : Nat) (listed : Array Bool) (a : Act) (w : World), wpAnyG P md ops Q S ex fuel listed a w → wpAny P md ops Q fuel listed a w
  | 0, _, _, _, h => h
  | fuel + 1, _, _, _, h => ⟨h.1, fun i hi => wpOp_mono (fun a' w' h' => wpAny_of_G fuel _ a' w' h'.2) (h.2 i hi)⟩
theorem wpAnyG_first {i : Nat} {oi : Oper} {v : Value} (hi : ops[i]? = some oi) (hsel : ∀ (j : Nat) (o : Oper) cs b, ops[j]? = some o → o.op ≠ .select cs b)
    (hQ : ∀ c a w, Q (.panic c) (a.put oi.dst v) w → Q (.panic c) a w) (N : Nat) (hex : ∀ k, k ∈ ex → reachB md ops N k i = true) :
    ∀ (fuel : Nat) (listed : Array Bool) (a : Act) (w : World), Closed md ops listed →
      (∀ j oj, ops[j]? = some oj → j ≠ i → listed.getD j true = false → (∀ e ∈ oj.after, Region.binds md e = true → e.on ≠ i) → oi.apart ops oj = true) →
      i ∈ Region.ready md ops listed → YieldsIf P ops S oi v a → S w →
      wpAnyG P md ops Q S ex fuel (listed.setIfInBounds i true) (a.put oi.dst v) w → wpAnyG P md ops Q S ex (fuel + 1) listed a w := by
  intro fuel
  induction fuel with
  | zero =>
    intro listed a w _ _ hr hy hS H
    refine ⟨fun h => (by rw [h] at hr; cases hr), fun j hj => ?_⟩
    by_cases hji : j = i
    · subst hji; exact hy.wpOp hi hS ⟨fun _ => hS, H⟩
    · have := ready_mono hj hji
      rw [H.1] at this
      cases this
  | succ fuel ih =>
    intro listed a w hcl hfree hr hy hS H
    refine ⟨fun h => (by rw [h] at hr; cases hr), fun j hj => ?_⟩
    by_cases hji : j = i
    · subst hji; exact hy.wpOp hi hS ⟨fun _ => hS, H⟩
    · have h1 := H.2 j (ready_mono hj hji)
      obtain ⟨hjun, oj, hoj, hall⟩ := mem_ready.1 hj
      have hun := (mem_ready.1 hr).1
      have hnex : j ∉ ex := fun hje => by
        have hl := reach_listed hcl N j (hex j hje) (fun o ho e he hb => by rw [hoj] at ho; cases ho; exact hall e he hb)
        rcases Nat.lt_or_ge i listed.size with h' | h'
        · simp [h'] at hun hl; rw [hun] at hl; cases hl
        · simp [Array.getElem?_eq_none h'] at hl
      have hnot : ∀ e ∈ oj.after, Region.binds md e = true → e.on ≠ i := fun e he hb heq => by
        have h1 := hall e he hb
        rw [heq] at h1
        rcases Nat.lt_or_ge i listed.size with h' | h'
        · simp [h'] at hun h1; rw [hun] at h1; cases h1
        · simp [Array.getElem?_eq_none h'] at h1
      have h2 := wpOp_putIf hoj (hfree j oj hoj hji hjun hnot) (fun cs b => hsel i oi cs b hi) (fun cs b => hsel j oj cs b hoj) hQ hy h1
      have hfree' : ∀ k ok, ops[k]? = some ok → k ≠ i → (listed.setIfInBounds j true).getD k true = false →
          (∀ e ∈ ok.after, Region.binds md e = true → e.on ≠ i) → oi.apart ops ok = true := fun k ok hk hki hun hno => by
        refine hfree k ok hk hki ?_ hno
        by_cases hjk : j = k
        · subst hjk; exact hjun
        · rw [getD_set_ne true hjk] at hun; exact hun
      refine wpOp_mono (fun a' w' h3 => ⟨h3.2.1, ih (listed.setIfInBounds j true) a' w' (closed_step hcl hj) hfree' (ready_mono hr (Ne.symm hji)) h3.1 (h3.2.1 hnex) ?_⟩) h2
      rw [Array.setIfInBounds_comm _ _ hji]
      exact h3.2.2
theorem wpAnyG_take {i : Nat} {oi : Oper} {v : Value} {fuel : Nat} {listed : Array Bool} {a : Act} {w : World} (hi : ops[i]? = some oi)
    (hb : (Region.noSelect ops && (Region.free md ops listed i && ((Region.ready md ops listed).contains i && (closedB md ops listed && ex.all fun k => reachB md ops ops.size k i)))) = true)
    (hQ : ∀ c a w, Q (.panic c) (a.put oi.dst v) w → Q (.panic c) a w) (hy : YieldsIf P ops S oi v a) (hS : S w)
    (h : wpAnyG P md ops Q S ex fuel (listed.setIfInBounds i true) (a.put oi.dst v) w) : wpAnyG P md ops Q S ex (fuel + 1) listed a w := by
  simp only [Bool.and_eq_true] at hb
  obtain ⟨hs, hf, hr, hc, he⟩ := hb
  exact wpAnyG_first hi (Region.noSelect_spec hs) hQ ops.size (fun k hk => List.all_eq_true.1 he k hk) fuel listed a w (closed_of hc) (Region.free_spec hi hf) (by simpa using hr) hy hS h
theorem wpAnyG_all {rs : List Nat} {fuel : Nat} {listed : Array Bool} {a : Act} {w : World} (hr : Region.ready md ops listed = rs) (hne : rs ≠ [])
    (h : ∀ i ∈ rs, wpOp P ops Q i (fun a' w' => (i ∉ ex → S w') ∧ wpAnyG P md ops Q S ex fuel (listed.setIfInBounds i true) a' w') a w) : wpAnyG P md ops Q S ex (fuel + 1) listed a w :=
  ⟨fun h0 => absurd (hr ▸ h0) hne, hr ▸ h⟩
theorem wpAnyG_done {listed : Array Bool} {a : Act} {w : World} (hr : Region.ready md ops listed = []) (h : Q .normal a w) :
    ∀ fuel, wpAnyG P md ops Q S ex fuel listed a w
  | 0 => ⟨hr, h⟩
  | _ + 1 => ⟨fun _ => h, by rw [hr]; simp⟩
theorem wp_region_G {id : Nat} {a : Act} {w : World} (hm : P.follows .mixedOrders = true)
    (h : wpAnyG P .any ops Q S ex ops.size (Array.replicate ops.size false) a { w with drawn := w.drawn + 1 }) : (Code.region id ops true).wp P Q a w :=
  wp_region_any hm (wpAny_of_G _ _ _ _ h)
end
end Go.Proofs.YtgmekkgbobmplaaGreat

/- Structs loaded at any place of a block, as one value; a result that is a variable. No walk here. -/
namespace Go.Proofs.YtgmekkgbobmplaaGreat
open Go.RowKit

section
variable {o : Oper} {a : Act} {w : World} {K : Act → World → Prop} {Q : Exit → Act → World → Prop} {ops : Array Oper} {rest : List Oper}
/-- A struct read at a place of a block, as one value. -/
theorem owp_ldat (T : TypeId) (p : Operand) (ho : o.op = .load T p) (b off : Nat) (hp : a.eval p = .pointer (some ⟨b, off, none⟩)) (L : List Value) (hL : ∀ (j : Nat) (v : Value), L[j]? = some v → w.cell? ⟨b, off + j, none⟩ = some v) (d : TypeDesc) (hu : Tryz.prog.underlying T = some d) (hd : d.isRow = true) (hi : (Tryz.prog.info? T).map (·.size) = some L.length) (A : Value) (hA : A = .agg L.toArray)
    (h : K (a.put o.dst A) w) : o.wp Tryz.prog a w K Q :=
  wp_load_mid T p ho b off hp L d hL hu hd hi (by rw [← hA]; exact h)
theorem wl_ldat (hw : Region.wanted o (yielded ops a.tmps) = true) (T : TypeId) (p : Operand) (ho : o.op = .load T p) (b off : Nat) (hp : a.eval p = .pointer (some ⟨b, off, none⟩)) (L : List Value) (hL : ∀ (j : Nat) (v : Value), L[j]? = some v → w.cell? ⟨b, off + j, none⟩ = some v) (d : TypeDesc) (hu : Tryz.prog.underlying T = some d) (hd : d.isRow = true) (hi : (Tryz.prog.info? T).map (·.size) = some L.length) (A : Value) (hA : A = .agg L.toArray)
    (h : wpList Tryz.prog ops Q rest (a.put o.dst A) w) : wpList Tryz.prog ops Q (o :: rest) a w := by
  refine wpList_step fun K hK => ?_
  rw [if_pos hw]
  exact owp_ldat T p ho b off hp L hL d hu hd hi A hA (hK _ _ h)
/-- A whole block read, as one value. -/
theorem wl_loadB (hw : Region.wanted o (yielded ops a.tmps) = true) (T : TypeId) (p : Operand) (ho : o.op = .load T p) (b off : Nat) (hp : a.eval p = .pointer (some ⟨b, off, none⟩)) (L : List Value) (TB : TypeId) (hL : w.heap[b]? = some (.cells L.toArray TB (0, 0))) (d : TypeDesc) (hu : Tryz.prog.underlying T = some d) (hd : d.isRow = true) (hi : (Tryz.prog.info? T).map (·.size) = some L.length) (A : Value) (hA : A = .agg L.toArray)
    (h0 : off = 0) (h : wpList Tryz.prog ops Q rest (a.put o.dst A) w) : wpList Tryz.prog ops Q (o :: rest) a w := by
  subst h0
  exact wl_ldat hw T p ho b 0 hp L (fun j v hv => by rw [Nat.zero_add]; exact cell_at hL j v hv) d hu hd hi A hA h
theorem ret_cell1 {f : Func} {a : Act} {w : World} {Q : Ending → World → Prop} {s : Nat} {t : TypeId} {ad : Addr} {v : Value} (hr : f.results = #[.cell s t]) (hs : a.tmps.getD s undef = .pointer (some ad)) (hl : (loadVar t ad).run Tryz.prog w = .ok v w) (hd : a.defers = [])
    (h : Q (.returned v) w) : bodyPost Tryz.prog f Q .ret a w := by
  refine bodyPost_ret (v := v) ?_ hd h
  have h1 : a.tmps.getD s undef = .pointer (some ad) := hs
  simp [results, hr, -Array.getD_eq_getD_getElem?, h1, asAddr, hl]
end
theorem load_whole {w : World} {b : Nat} {L : List Value} {T TB : TypeId} (h : w.heap[b]? = some (.cells L.toArray TB (0, 0))) (d : TypeDesc) (hu : Tryz.prog.underlying T = some d) (hd : d.isRow = true) (hi : (Tryz.prog.info? T).map (·.size) = some L.length) : (loadVar T ⟨b, 0, none⟩).run Tryz.prog w = .ok (.agg L.toArray) w :=
  run_loadVar_mid (P := Tryz.prog) w b 0 T L d (fun j v hv => by rw [Nat.zero_add]; exact cell_at h j v hv) hu hd hi
/-- Two variables made one behind the other. -/
theorem two_new (w : World) (o1 o2 : Obj) : ∃ W, (w.alloc o1).alloc o2 = W ∧ Below w.heap.size w W ∧ W.heap[w.heap.size]? = some o1 ∧ W.heap[w.heap.size + 1]? = some o2 ∧ W.heap.size = w.heap.size + 2 := by
  have h1 : Below w.heap.size w (w.alloc o1) := (Below.refl _ _).alloc (Nat.le_refl _) _
  have h2 : Below (w.alloc o1).heap.size (w.alloc o1) ((w.alloc o1).alloc o2) := (Below.refl _ _).alloc (Nat.le_refl _) _
  refine ⟨_, rfl, h1.trans (h2.mono h1.size), (h2.block _ (by simp)).trans (heap_alloc_last w o1), ?_, by simp⟩
  have := heap_alloc_last (w.alloc o1) o2
  rw [show (w.alloc o1).heap.size = w.heap.size + 1 by simp] at this
  exact this
end Go.Proofs.YtgmekkgbobmplaaGreat

/- One cell put into a block that is known whole. -/
namespace Go.Proofs.YtgmekkgbobmplaaGreat
open Go.RowKit

section
variable {o : Oper} {a : Act} {w : World} {K : Act → World → Prop} {Q : Exit → Act → World → Prop} {ops : Array Oper} {rest : List Oper}
theorem owp_stone (T : TypeId) (p x : Operand) (ho : o.op = .store T p x) (b off : Nat) (hp : a.eval p = .pointer (some ⟨b, off, none⟩)) (u : Value) (hx : a.eval x = u) (hc : u.cells = #[u]) (h1 : u.oneCell' = true) (L : List Value) (TB : TypeId) (hL : w.heap[b]? = some (.cells L.toArray TB (0, 0))) (hn : off < L.length)
    (hi : (Tryz.prog.info? T).map (·.size) = some 1) (h : ∀ w', Hid (w'.heap[b]? = some (.cells (L.set off u).toArray TB (0, 0)) ∧ One b w w') → K (a.put o.dst undef) w') : o.wp Tryz.prog a w K Q := by
  have hcl : w.cell? ⟨b, off, none⟩ = some L[off] := cell_at hL off _ (List.getElem?_eq_getElem hn)
  have hf : w.frozen? ⟨b, off, none⟩ = false := free_at hL _
  have hb : (w.setCell ⟨b, off, none⟩ u).heap[b]? = some (.cells (L.set off u).toArray TB (0, 0)) := by have := blk_set hL off u; simpa using this
  refine owp_skip (w' := w.setCell ⟨b, off, none⟩ u) ?_ (h _ ⟨hb, one_cells b [u] off w⟩)
  have hr := run_store Tryz.prog w ⟨b, off, none⟩ u .plain h1
  rw [hcl] at hr
  simp only [hf] at hr
  cases hq : Tryz.prog.info? T with
  | none => simp [hq] at hi
  | some i =>
    have hs : i.size = 1 := by simp [hq] at hi; omega
    simp [execOp, ho, Instr.storeAt, Instr.sureAddr, hp, hx, storeVar, sizeOf, typeInfo, hq, hs, hc, storeCells, Addr.add, hr, Result.andThen]
theorem wl_stone (hgd : o.guard = none) (T : TypeId) (p x : Operand) (ho : o.op = .store T p x) (b off : Nat) (hp : a.eval p = .pointer (some ⟨b, off, none⟩)) (u : Value) (hx : a.eval x = u) (hc : u.cells = #[u]) (h1 : u.oneCell' = true) (L : List Value) (TB : TypeId) (hL : w.heap[b]? = some (.cells L.toArray TB (0, 0))) (hn : off < L.length)
    (hi : (Tryz.prog.info? T).map (·.size) = some 1) (h : ∀ w', Hid (w'.heap[b]? = some (.cells (L.set off u).toArray TB (0, 0)) ∧ One b w w') → wpList Tryz.prog ops Q rest (a.put o.dst undef) w') : wpList Tryz.prog ops Q (o :: rest) a w :=
  wpList_plain hgd fun _ hK => owp_stone T p x ho b off hp u hx hc h1 L TB hL hn hi (fun w' hw => hK _ _ (h w' hw))
end
end Go.Proofs.YtgmekkgbobmplaaGreat

/- The program's copies: a real, a request, a signature. -/
namespace Go.Proofs.YtgmekkgbobmplaaGreat
open Go.RowKit

theorem two_newL (L Z : List Value) (T T2 : TypeId) (w : World) : ∃ wb, (w.alloc (.cells L.toArray T)).alloc (.cells Z.toArray T2) = wb ∧ Below w.heap.size w wb ∧ BxAt wb w.heap.size L T ∧ BxAt wb (w.heap.size + 1) Z T2 := by
  have h1 : Below w.heap.size w (w.alloc (.cells L.toArray T)) := (Below.refl _ _).alloc (Nat.le_refl _) _
  have hs : (w.alloc (.cells L.toArray T)).heap.size = w.heap.size + 1 := by simp
  have h2 : Below (w.alloc (.cells L.toArray T)).heap.size (w.alloc (.cells L.toArray T)) ((w.alloc (.cells L.toArray T)).alloc (.cells Z.toArray T2)) := (Below.refl _ _).alloc (Nat.le_refl _) _
  have h3 : BxAt (w.alloc (.cells L.toArray T)) w.heap.size L T := heap_alloc_last w _
  refine ⟨_, rfl, h1.trans (h2.mono h1.size), h3.keep h2, ?_⟩
  have h4 := heap_alloc_last (w.alloc (.cells L.toArray T)) (.cells Z.toArray T2)
  rw [hs] at h4
  exact h4
theorem sub_cell {w : World} {b : Nat} {L : List Value} {T : TypeId} (h : BxAt w b L T) (o : Nat) (M : List Value) (hM : (L.drop o).take M.length = M) (j : Nat) (v : Value) (hv : M[j]? = some v) : w.cell? ⟨b, o + j, none⟩ = some v := by
  refine h.cell _ _ ?_
  have hj := (List.getElem?_eq_some_iff.1 hv).1
  rw [← hM, List.getElem?_take_of_lt hj, List.getElem?_drop] at hv
  exact hv
theorem below_eq {w w' : World} (h : w' = w) : Below w.heap.size w w' := by rw [h]; exact Below.refl _ _
theorem ncanon_any (b : Nat) (w : World) : Calls Tryz.prog 56 #[.float .f64 b] w fun e w' => e = .returned (.float .f64 (canW b)) ∧ Below w.heap.size w w' := by
  go_enter Tryz.func56, Tryz.ntmps56
  cases hn : nanW b
  · go_wp2_with (go_at_call 91; refine (isnan_any _ _).mono ?_; rintro e w1 ⟨rfl, rfl⟩; rw [hn])
    go_ret
    exact ⟨by simp [canW, hn], Below.refl _ _⟩
  · go_wp2_with (first | (go_at_call 91; refine (isnan_any _ _).mono ?_; rintro e w1 ⟨rfl, rfl⟩; rw [hn]) | rw [ff_run])
    go_ret
    exact ⟨by simp [canW, hn], Below.refl _ _⟩
set_option maxRecDepth 100000 in
set_option maxHeartbeats 1600000 in
theorem nownRq_any (r : Rq) (ht : r.key.size ≤ 281474976710656) (w : World) :
    Calls Tryz.prog 55 #[.agg #[.int .i64 r.c, .int .i64 r.st, .int .i64 r.k, .string r.key, .float .f64 r.b, .int .i64 r.id]] w fun e w' => e = .returned (.agg #[.int .i64 r.c, .int .i64 r.st, .int .i64 r.k, .string r.key, .float .f64 (canW r.b), .int .i64 r.id]) ∧ Below w.heap.size w w' := by
  obtain ⟨wa, ha, hb, hx, hz⟩ := two_newL [.int .i64 r.c, .int .i64 r.st, .int .i64 r.k, .string r.key, .float .f64 r.b, .int .i64 r.id] [.int .i64 0, .int .i64 0, .int .i64 0, .string ⟨#[]⟩, .float .f64 0, .int .i64 0] 41 41 w
  have HT := hid ht
  have HA := hid ha
  have S0 : Hid (Below w.heap.size w wa ∧ BxAt wa w.heap.size [.int .i64 r.c, .int .i64 r.st, .int .i64 r.k, .string r.key, .float .f64 r.b, .int .i64 r.id] 41 ∧ BxAt wa (w.heap.size + 1) [.int .i64 0, .int .i64 0, .int .i64 0, .string ⟨#[]⟩, .float .f64 0, .int .i64 0] 41) := hid ⟨hb, hx, hz⟩
  clear ha hb hx hz ht
  have z3 := S0.out.2.1.cell 3 _ rfl
  go_enter Tryz.func55, Tryz.ntmps55
  go_upto_region 1 with fail
  rw [HA.out]
  go_wp2_with (first
    | (have := S2; refine wl_store_blk rfl 41 _ _ rfl (w.heap.size + 1) 0 rfl _ rfl [.int .i64 0, .int .i64 0, .int .i64 0, .string ⟨#[]⟩, .float .f64 0, .int .i64 0] 41 S2.out.2.2 (by simp) (by kernel_rfl) (by simp [Value.oneCell']) ?_; go_must (intro wz Hz; have SZ : Hid (BxAt wz (w.heap.size + 1) [.int .i64 r.c, .int .i64 r.st, .int .i64 r.k, .string r.key, .float .f64 (canW r.b), .int .i64 r.id] 41 ∧ One (w.heap.size + 1) w2s wz) := hid Hz.out; clear Hz))
    | (have := S2; refine wl_loadB rfl 41 _ rfl w.heap.size 0 rfl [.int .i64 r.c, .int .i64 r.st, .int .i64 r.k, .string r.key, .float .f64 (canW r.b), .int .i64 r.id] 41 S2.out.2.1 _ Tryz.underlying41 rfl (by kernel_rfl) (.agg #[.int .i64 r.c, .int .i64 r.st, .int .i64 r.k, .string r.key, .float .f64 (canW r.b), .int .i64 r.id]) rfl rfl ?_)
    | (have := C2; refine wl_stone rfl 37 _ _ rfl w.heap.size 4 rfl (.float .f64 (canW r.b)) rfl rfl rfl [.int .i64 r.c, .int .i64 r.st, .int .i64 r.k, .string r.key, .float .f64 r.b, .int .i64 r.id] 41 C2.out.2.1 (by simp) (by kernel_rfl) ?_; go_must (intro w2s Hz; have S2 : Hid (Below w.heap.size w w2s ∧ BxAt w2s w.heap.size [.int .i64 r.c, .int .i64 r.st, .int .i64 r.k, .string r.key, .float .f64 (canW r.b), .int .i64 r.id] 41 ∧ BxAt w2s (w.heap.size + 1) [.int .i64 0, .int .i64 0, .int .i64 0, .string ⟨#[]⟩, .float .f64 0, .int .i64 0] 41) := hid ⟨Hz.out.2.below C2.out.1 (Nat.le_refl _), Hz.out.1, (Hz.out.2.block _ (by omega)).trans C2.out.2.2⟩; clear Hz))
    | (have := S1; go_at_call 56; go_must (refine (ncanon_any _ _).mono ?_; rintro e w2 ⟨rfl, hb⟩; have hB := S1.out.1; have C2 : Hid (Below w.heap.size w w2 ∧ BxAt w2 w.heap.size [.int .i64 r.c, .int .i64 r.st, .int .i64 r.k, .string r.key, .float .f64 r.b, .int .i64 r.id] 41 ∧ BxAt w2 (w.heap.size + 1) [.int .i64 0, .int .i64 0, .int .i64 0, .string ⟨#[]⟩, .float .f64 0, .int .i64 0] 41) := hid ⟨hB.trans (hb.mono hB.size), S1.out.2.1.keep hb, S1.out.2.2.keep hb⟩; clear hb hB))
    | (have := C1; refine wl_stone rfl 9 _ _ rfl w.heap.size 3 rfl (.string r.key) rfl rfl rfl [.int .i64 r.c, .int .i64 r.st, .int .i64 r.k, .string r.key, .float .f64 r.b, .int .i64 r.id] 41 C1.out.2.1 (by simp) (by kernel_rfl) ?_; go_must (intro w1s Hz; have S1 : Hid (Below w.heap.size w w1s ∧ BxAt w1s w.heap.size [.int .i64 r.c, .int .i64 r.st, .int .i64 r.k, .string r.key, .float .f64 r.b, .int .i64 r.id] 41 ∧ BxAt w1s (w.heap.size + 1) [.int .i64 0, .int .i64 0, .int .i64 0, .string ⟨#[]⟩, .float .f64 0, .int .i64 0] 41) := hid ⟨Hz.out.2.below C1.out.1 (Nat.le_refl _), Hz.out.1, (Hz.out.2.block _ (by omega)).trans C1.out.2.2⟩; clear Hz; have z4 := S1.out.2.1.cell 4 _ rfl))
    | (have := S0; go_at_call 57; go_must (refine (sclone_any _ (by first | exact HT.out | exact HT.out.1 | exact HT.out.2) _).mono ?_; rintro e w1 ⟨rfl, hb⟩; have hB := S0.out.1; have C1 : Hid (Below w.heap.size w w1 ∧ BxAt w1 w.heap.size [.int .i64 r.c, .int .i64 r.st, .int .i64 r.k, .string r.key, .float .f64 r.b, .int .i64 r.id] 41 ∧ BxAt w1 (w.heap.size + 1) [.int .i64 0, .int .i64 0, .int .i64 0, .string ⟨#[]⟩, .float .f64 0, .int .i64 0] 41) := hid ⟨hB.trans (hb.mono hB.size), S0.out.2.1.keep hb, S0.out.2.2.keep hb⟩; clear hb hB)))
  refine ret_cell1 (s := 2) (ad := ⟨w.heap.size + 1, 0, none⟩) rfl rfl (load_whole SZ.out.1 _ Tryz.underlying41 rfl (by kernel_rfl)) rfl ?_
  have hBz : Below w.heap.size w wz := SZ.out.2.below S2.out.1 (by omega)
  exact ⟨rfl, hBz⟩
set_option maxRecDepth 100000 in
set_option maxHeartbeats 1600000 in
theorem nownSig_any (x : Int) (t : ByteArray) (ht : t.size ≤ 281474976710656) (w : World) :
    Calls Tryz.prog 95 #[.agg #[.int .i64 x, .string t]] w fun e w' => e = .returned (.agg #[.int .i64 x, .string t]) ∧ Below w.heap.size w w' := by
  obtain ⟨wa, ha, hb, hx, hz⟩ := two_newL [.int .i64 x, .string t] [.int .i64 0, .string ⟨#[]⟩] 87 87 w
  have HT := hid ht
  have HA := hid ha
  have S0 : Hid (Below w.heap.size w wa ∧ BxAt wa w.heap.size [.int .i64 x, .string t] 87 ∧ BxAt wa (w.heap.size + 1) [.int .i64 0, .string ⟨#[]⟩] 87) := hid ⟨hb, hx, hz⟩
  clear ha hb hx hz ht
  have z1 := S0.out.2.1.cell 1 _ rfl
  go_enter Tryz.func95, Tryz.ntmps95
  go_upto_region 1 with fail
  rw [HA.out]
  go_wp2_with (first
    | (have := S1; refine wl_store_blk rfl 87 _ _ rfl (w.heap.size + 1) 0 rfl _ rfl [.int .i64 0, .string ⟨#[]⟩] 87 S1.out.2.2 (by simp) (by kernel_rfl) (by simp [Value.oneCell']) ?_; go_must (intro wz Hz; have SZ : Hid (BxAt wz (w.heap.size + 1) [.int .i64 x, .string t] 87 ∧ One (w.heap.size + 1) w1s wz) := hid Hz.out; clear Hz))
    | (have := S1; refine wl_loadB rfl 87 _ rfl w.heap.size 0 rfl [.int .i64 x, .string t] 87 S1.out.2.1 _ Tryz.underlying87 rfl (by kernel_rfl) (.agg #[.int .i64 x, .string t]) rfl rfl ?_)
    | (have := C1; refine wl_stone rfl 9 _ _ rfl w.heap.size 1 rfl (.string t) rfl rfl rfl [.int .i64 x, .string t] 87 C1.out.2.1 (by simp) (by kernel_rfl) ?_; go_must (intro w1s Hz; have S1 : Hid (Below w.heap.size w w1s ∧ BxAt w1s w.heap.size [.int .i64 x, .string t] 87 ∧ BxAt w1s (w.heap.size + 1) [.int .i64 0, .string ⟨#[]⟩] 87) := hid ⟨Hz.out.2.below C1.out.1 (Nat.le_refl _), Hz.out.1, (Hz.out.2.block _ (by omega)).trans C1.out.2.2⟩; clear Hz))
    | (have := S0; go_at_call 57; go_must (refine (sclone_any _ (by first | exact HT.out | exact HT.out.1 | exact HT.out.2) _).mono ?_; rintro e w1 ⟨rfl, hb⟩; have hB := S0.out.1; have C1 : Hid (Below w.heap.size w w1 ∧ BxAt w1 w.heap.size [.int .i64 x, .string t] 87 ∧ BxAt w1 (w.heap.size + 1) [.int .i64 0, .string ⟨#[]⟩] 87) := hid ⟨hB.trans (hb.mono hB.size), S0.out.2.1.keep hb, S0.out.2.2.keep hb⟩; clear hb hB)))
  refine ret_cell1 (s := 2) (ad := ⟨w.heap.size + 1, 0, none⟩) rfl rfl (load_whole SZ.out.1 _ Tryz.underlying87 rfl (by kernel_rfl)) rfl ?_
  have hBz : Below w.heap.size w wz := SZ.out.2.below S1.out.1 (by omega)
  exact ⟨rfl, hBz⟩
end Go.Proofs.YtgmekkgbobmplaaGreat

/- Signatures as pairs. No walk here. -/
namespace Go.Proofs.YtgmekkgbobmplaaGreat
open Go.RowKit

def eqP (p q : Int × ByteArray) : Bool := decide (p.1 = q.1) && decide (p.2.data.toList = q.2.data.toList)
theorem eqP_iff (p q : Int × ByteArray) : eqP p q = true ↔ p = q := by
  unfold eqP
  rw [Bool.and_eq_true_iff, decide_eq_true_iff, decide_eq_true_iff]
  constructor
  · rintro ⟨h1, h2⟩
    exact Prod.ext h1 (bytes_eq h2)
  · rintro rfl
    exact ⟨rfl, rfl⟩
def stands (l : List (Int × ByteArray)) (p : Int × ByteArray) : Bool := l.any (eqP p)
theorem stands_iff (l : List (Int × ByteArray)) (p : Int × ByteArray) : stands l p = true ↔ p ∈ l := by
  unfold stands
  rw [List.any_eq_true]
  constructor
  · rintro ⟨q, hq, h⟩
    rw [(eqP_iff p q).1 h]
    exact hq
  · intro h
    exact ⟨p, h, (eqP_iff p p).2 rfl⟩
theorem stands_no {l : List (Int × ByteArray)} {p : Int × ByteArray} (h : p ∉ l) : stands l p = false := by
  cases e : stands l p with
  | false => rfl
  | true => exact absurd ((stands_iff l p).1 e) h
theorem stands_snoc {l : List (Int × ByteArray)} {p : Int × ByteArray} {j : Nat} (h : p ∉ l.take j) (hx : (idOf l j, rtOf l j) ≠ p) (hj : j < l.length) : p ∉ l.take (j + 1) := by
  rw [List.take_add_one, getP_some hj]
  intro hm
  rcases List.mem_append.1 hm with h1 | h1
  · exact h h1
  · exact hx (List.mem_singleton.1 h1).symm
theorem stands_at {l : List (Int × ByteArray)} {p : Int × ByteArray} {j : Nat} (hx : (idOf l j, rtOf l j) = p) (hj : j < l.length) : p ∈ l := by
  rw [← hx]
  exact List.mem_of_getElem? (getP_some hj)
end Go.Proofs.YtgmekkgbobmplaaGreat

/- Who signed a text, gathered. No walk here. -/
namespace Go.Proofs.YtgmekkgbobmplaaGreat
open Go.RowKit

/-- Numbers with one text. -/
def gP (t : ByteArray) (zs : List Int) : List (Int × ByteArray) := zs.map fun z => (z, t)
theorem gP_len (t : ByteArray) (zs : List Int) : (gP t zs).length = zs.length := by simp [gP]
theorem gP_app (t : ByteArray) (a b : List Int) : gP t (a ++ b) = gP t a ++ gP t b := by simp [gP]
theorem gP_mem (t : ByteArray) (zs : List Int) (z : Int) : (z, t) ∈ gP t zs ↔ z ∈ zs := by
  unfold gP
  rw [List.mem_map]
  constructor
  · rintro ⟨y, hy, h⟩
    have e : y = z := congrArg Prod.fst h
    rw [← e]
    exact hy
  · intro h
    exact ⟨z, h, rfl⟩
theorem gP_stands (t : ByteArray) (zs : List Int) (z : Int) : stands (gP t zs) (z, t) = hasM zs z := by
  by_cases h : z ∈ zs
  · rw [(stands_iff _ _).2 ((gP_mem t zs z).2 h)]
    exact (decide_eq_true h).symm
  · rw [stands_no (fun hm => h ((gP_mem t zs z).1 hm))]
    exact (decide_eq_false h).symm
/-- The members whose signature is there, each once. -/
def gOut (l : List Int) (t : ByteArray) (ss : List (Int × ByteArray)) : Nat → List Int
  | 0 => []
  | j + 1 => gOut l t ss j ++ (if stands ss (l.getD j 0, t) = true ∧ hasM (gOut l t ss j) (l.getD j 0) = false then [l.getD j 0] else [])
theorem gOut_yes {l : List Int} {t : ByteArray} {ss : List (Int × ByteArray)} {j : Nat} (h1 : stands ss (l.getD j 0, t) = true) (h2 : hasM (gOut l t ss j) (l.getD j 0) = false) : gOut l t ss (j + 1) = gOut l t ss j ++ [l.getD j 0] := by rw [gOut, if_pos ⟨h1, h2⟩]
theorem gOut_no {l : List Int} {t : ByteArray} {ss : List (Int × ByteArray)} {j : Nat} (h : ¬ (stands ss (l.getD j 0, t) = true ∧ hasM (gOut l t ss j) (l.getD j 0) = false)) : gOut l t ss (j + 1) = gOut l t ss j := by rw [gOut, if_neg h, List.append_nil]
theorem gOut_len (l : List Int) (t : ByteArray) (ss : List (Int × ByteArray)) : ∀ j, (gOut l t ss j).length ≤ j
  | 0 => Nat.le_refl _
  | j + 1 => by
    have := gOut_len l t ss j
    rw [gOut, List.length_append]
    split <;> simp <;> omega
theorem gOut_nodup (l : List Int) (t : ByteArray) (ss : List (Int × ByteArray)) : ∀ j, (gOut l t ss j).Nodup
  | 0 => List.Pairwise.nil
  | j + 1 => by
    rw [gOut]
    split
    · next h =>
      refine List.nodup_append.2 ⟨gOut_nodup l t ss j, by simp, fun x hx y hy => ?_⟩
      rw [List.mem_singleton.1 hy]
      intro e
      rw [e] at hx
      exact of_decide_eq_false h.2 hx
    · rw [List.append_nil]
      exact gOut_nodup l t ss j
theorem gOut_mem (l : List Int) (t : ByteArray) (ss : List (Int × ByteArray)) (z : Int) : ∀ j, j ≤ l.length → (z ∈ gOut l t ss j ↔ z ∈ l.take j ∧ (z, t) ∈ ss)
  | 0, _ => by simp [gOut]
  | j + 1, hj => by
    have ih := gOut_mem l t ss z j (by omega)
    have hl : l.getD j 0 = l[j]'(by omega) := getD_get l j (by omega)
    rw [List.take_add_one, List.getElem?_eq_getElem (show j < l.length by omega)]
    by_cases hc : stands ss (l.getD j 0, t) = true ∧ hasM (gOut l t ss j) (l.getD j 0) = false
    · rw [gOut_yes hc.1 hc.2, List.mem_append, List.mem_append, ih, hl]
      constructor
      · rintro (h | h)
        · exact ⟨.inl h.1, h.2⟩
        · have e := List.mem_singleton.1 h
          refine ⟨.inr (by simp [e]), ?_⟩
          rw [e, ← hl]
          exact (stands_iff _ _).1 hc.1
      · rintro ⟨h | h, h2⟩
        · exact .inl ⟨h, h2⟩
        · exact .inr (by simpa using h)
    · rw [gOut_no hc, List.mem_append, ih]
      constructor
      · rintro ⟨h, h2⟩
        exact ⟨.inl h, h2⟩
      · rintro ⟨h | h, h2⟩
        · exact ⟨h, h2⟩
        · have e : z = l.getD j 0 := by rw [hl]; simpa using h
          have hs : stands ss (l.getD j 0, t) = true := (stands_iff _ _).2 (by rw [← e]; exact h2)
          have hh : hasM (gOut l t ss j) (l.getD j 0) = true := by
            cases e2 : hasM (gOut l t ss j) (l.getD j 0) with
            | true => rfl
            | false => exact absurd ⟨hs, e2⟩ hc
          have := of_decide_eq_true hh
          rw [← e] at this
          exact ih.1 this
/-- A list of different ones is no longer than a list that has them all. -/
theorem nodup_len {α : Type} [DecidableEq α] : ∀ (a b : List α), a.Nodup → (∀ x, x ∈ a → x ∈ b) → a.length ≤ b.length
  | [], _, _, _ => Nat.zero_le _
  | x :: a, b, h1, h2 => by
    have hx := h2 x (List.mem_cons_self ..)
    have h3 := List.nodup_cons.1 h1
    have := nodup_len a (b.erase x) h3.2 (fun y hy => (List.mem_erase_of_ne (a := y) (b := x) (fun e => h3.1 (by rw [← e]; exact hy))).2 (h2 y (List.mem_cons_of_mem _ hy)))
    rw [List.length_erase_of_mem hx] at this
    have := List.length_pos_of_mem hx
    rw [List.length_cons]
    omega
theorem gP_nodup (t : ByteArray) {zs : List Int} (h : zs.Nodup) : (gP t zs).Nodup := List.pairwise_map.2 (h.imp (fun hab e => hab (congrArg Prod.fst e)))
theorem gOut_le (l : List Int) (t : ByteArray) (ss : List (Int × ByteArray)) (j : Nat) (hj : j ≤ l.length) : (gOut l t ss j).length ≤ ss.length := by
  rw [← gP_len t]
  refine nodup_len _ _ (gP_nodup t (gOut_nodup l t ss j)) (fun x hx => ?_)
  obtain ⟨z, hz, rfl⟩ := List.mem_map.1 hx
  exact ((gOut_mem l t ss z j hj).1 hz).2
/-- .. rising. -/
def gathL (l : List Int) (t : ByteArray) (ss : List (Int × ByteArray)) : List Int := (gOut l t ss l.length).mergeSort (fun a b => decide (a ≤ b))
theorem gathL_mem (l : List Int) (t : ByteArray) (ss : List (Int × ByteArray)) (z : Int) : z ∈ gathL l t ss ↔ z ∈ l ∧ (z, t) ∈ ss := by
  rw [gathL, List.mem_mergeSort, gOut_mem l t ss z l.length (Nat.le_refl _), List.take_length]
theorem gathL_inc (l : List Int) (t : ByteArray) (ss : List (Int × ByteArray)) : Inc (gathL l t ss) := by
  have h1 : (gathL l t ss).Pairwise (fun a b => decide (a ≤ b) = true) := List.pairwise_mergeSort (fun a b c h1 h2 => by simp at *; omega) (fun a b => by simp; omega) _
  have h2 : (gathL l t ss).Nodup := (List.mergeSort_perm _ _).nodup_iff.2 (gOut_nodup l t ss _)
  exact (List.pairwise_and_iff.2 ⟨h1, h2⟩).imp (fun {a b} h => by have := of_decide_eq_true h.1; have := h.2; omega)
theorem gathL_eq {l : List Int} {t : ByteArray} {ss : List (Int × ByteArray)} {S : List Int} (h1 : Inc S) (h2 : ∀ z, z ∈ S ↔ z ∈ gOut l t ss l.length) : S = gathL l t ss :=
  inc_eq _ _ h1 (gathL_inc l t ss) (fun z => by rw [h2, gOut_mem l t ss z l.length (Nat.le_refl _), List.take_length, gathL_mem])
end Go.Proofs.YtgmekkgbobmplaaGreat

/- The document's: is a signature in the list? -/
namespace Go.Proofs.YtgmekkgbobmplaaGreat
open Go.RowKit

theorem data_list (b : ByteArray) : b.toList = b.data.toList := ByteArray.toList_eq b
theorem SgP.new (w : World) (q : Int) (r : ByteArray) : (w.alloc (.cells #[.int .i64 q, .string r] 87)).heap[w.heap.size]? = some (.cells #[.int .i64 q, .string r] 87 (0, 0)) := heap_alloc_last w _
set_option maxRecDepth 100000 in
set_option maxHeartbeats 1600000 in
theorem wstands_any (a : Option Addr) (n cap : Nat) (l : List (Int × ByteArray)) (hn : l.length = n) (hm : n ≤ maxLen) (q : Int) (r : ByteArray) (w : World) (hP : PairsIn w a l) :
    Calls Tryz.prog 44 #[.slice a n cap, .agg #[.int .i64 q, .string r]] w fun e w' => e = .returned (.bool (stands l (q, r))) ∧ Below w.heap.size w w' := by
  have hm2 : (n : Int) ≤ 9223372036854775807 := by unfold maxLen at hm; omega
  have HP := hid hP
  have HN := hid hn
  clear hP hm hn
  go_enter Tryz.func44, Tryz.ntmps44
  go_wp2
  go_loopw [5] (fun i wr => ∃ j : Nat, j ≤ n ∧ i = .int .i64 (j : Int) ∧ (q, r) ∉ l.take j ∧ wr.heap[w.heap.size]? = some (.cells #[.int .i64 q, .string r] 87 (0, 0)) ∧ Below w.heap.size w wr)
    (fun i _ => ((n : Int) - intOf i).toNat)
  case atStart => exact ⟨0, by omega, rfl, by simp, SgP.new w q r, (Below.refl _ _).alloc (Nat.le_refl _) _⟩
  case round =>
    obtain ⟨j, hj, rfl, hno, hsg, hbel⟩ := hrel
    have HB := hid (And.intro hsg hbel)
    clear hsg hbel
    by_cases hjn : j = n
    · have hj1 : ¬ ((j : Int) < (n : Int)) := by omega
      have HF : Hid (stands l (q, r) = false) := hid (stands_no (by rwa [List.take_of_length_le (by rw [HN.out]; omega)] at hno))
      clear hno hj hjn
      go_wp2
      go_ret
      exact ⟨by rw [HF.out]; rfl, HB.out.2⟩
    · have hj1 : (j : Int) < (n : Int) := by omega
      have hj0 : (0 : Int) ≤ (j : Int) := Int.natCast_nonneg _
      have hjl : j < l.length := by rw [HN.out]; omega
      obtain ⟨g1, o1, rfl, hg1, x1, y1⟩ := HP.out.at j _ (getP_some hjl)
      have hbx : ∀ c : Cls wr, Below w.heap.size w c.1 := fun c => HB.out.2.trans (c.2.mono HB.out.2.size)
      have hsb : ∀ c : Cls wr, c.1.heap[w.heap.size]? = some (.cells [.int .i64 q, .string r].toArray 87 (0, 0)) := fun c => (c.2.block _ (lt_of_blk HB.out.1)).trans HB.out.1
      have d3 : ∀ c : Cls wr, c.1.cell? ⟨w.heap.size, 0, none⟩ = some (.int .i64 q) := fun c => cell_at (hsb c) 0 _ rfl
      have d4 : ∀ c : Cls wr, c.1.cell? ⟨w.heap.size, 1, none⟩ = some (.string r) := fun c => cell_at (hsb c) 1 _ rfl
      by_cases hx : (idOf l j, rtOf l j) = (q, r)
      · have HF : Hid (stands l (q, r) = true) := hid ((stands_iff _ _).2 (stands_at hx hjl))
        have d1 : ∀ c : Cls wr, c.1.cell? ⟨g1, o1 + j * 2, none⟩ = some (.int .i64 q) := fun c => ((hbx c).cell (p := ⟨g1, _, none⟩) hg1).trans (by rw [x1, hx])
        have d2 : ∀ c : Cls wr, c.1.cell? ⟨g1, o1 + j * 2 + 1, none⟩ = some (.string r) := fun c => ((hbx c).cell (p := ⟨g1, _, none⟩) hg1).trans (by rw [y1, hx])
        clear hx x1 y1 hbx hsb hg1 hno hj hjn hjl
        go_wp2
        haveI := Cls.ne wr
        refine wp_region_cls wr (by kernel_rfl) (by kernel_rfl) ?_
        repeat (go_big_quiet_step ((fail)))
        refine wpQuiet_nil ?_
        rintro _ ⟨c, rfl⟩
        go_wp2
        go_ret
        exact ⟨by rw [HF.out]; rfl, HB.out.2.trans (c.2.mono HB.out.2.size)⟩
      · have HF : Hid ((q, r) ∉ l.take (j + 1)) := hid (stands_snoc hno hx hjl)
        obtain ⟨x, ex⟩ : ∃ x, x = idOf l j := ⟨_, rfl⟩
        obtain ⟨y, ey⟩ : ∃ y, y = rtOf l j := ⟨_, rfl⟩
        rw [← ex, ← ey] at hx
        rw [← ex] at x1
        rw [← ey] at y1
        have d1 : ∀ c : Cls wr, c.1.cell? ⟨g1, o1 + j * 2, none⟩ = some (.int .i64 x) := fun c => ((hbx c).cell (p := ⟨g1, _, none⟩) hg1).trans x1
        have d2 : ∀ c : Cls wr, c.1.cell? ⟨g1, o1 + j * 2 + 1, none⟩ = some (.string y) := fun c => ((hbx c).cell (p := ⟨g1, _, none⟩) hg1).trans y1
        have HX := hid hx
        have HJ := hid (And.intro hj hjn)
        clear x1 y1 hbx hsb hg1 hno hj hjn hjl ex ey hx
        by_cases hxq : x = q
        · have hyr : ¬ (y = r) := fun h => HX.out (by rw [hxq, h])
          have hyr2 : ¬ (y.toList = r.toList) := fun h => hyr (bytes_eq (by rw [← data_list, ← data_list]; exact h))
          have hyr3 : (y.toList == r.toList) = false := by simpa using hyr2
          subst hxq
          go_wp2
          haveI := Cls.ne wr
          refine wp_region_cls wr (by kernel_rfl) (by kernel_rfl) ?_
          repeat (go_big_quiet_step ((fail)))
          refine wpQuiet_nil ?_
          rintro _ ⟨c, rfl⟩
          go_wp2
          go_roundw
          case rel => exact ⟨j + 1, by have := HJ.out; omega, by go_num, HF.out, (c.2.block _ (lt_of_blk HB.out.1)).trans HB.out.1, HB.out.2.trans (c.2.mono HB.out.2.size)⟩
          case measure => simp [intOf]; omega
        · go_wp2
          haveI := Cls.ne wr
          refine wp_region_cls wr (by kernel_rfl) (by kernel_rfl) ?_
          repeat (go_big_quiet_step ((fail)))
          refine wpQuiet_nil ?_
          rintro _ ⟨c, rfl⟩
          go_wp2
          go_roundw
          case rel => exact ⟨j + 1, by have := HJ.out; omega, by go_num, HF.out, (c.2.block _ (lt_of_blk HB.out.1)).trans HB.out.1, HB.out.2.trans (c.2.mono HB.out.2.size)⟩
          case measure => simp [intOf]; omega
set_option maxRecDepth 100000 in
set_option maxHeartbeats 1600000 in
/-- The same lists are the same. -/
theorem wsame_yes (a1 a2 : Option Addr) (n c1 c2 : Nat) (ps : List (Int × ByteArray)) (hn : ps.length = n) (hm : n ≤ maxLen) (w : World) (h1 : PairsIn w a1 ps) (h2 : PairsIn w a2 ps) :
    Calls Tryz.prog 80 #[.slice a1 n c1, .slice a2 n c2] w fun e w' => e = .returned (.bool true) ∧ Below w.heap.size w w' := by
  have hm2 : (n : Int) ≤ 9223372036854775807 := by unfold maxLen at hm; omega
  have HP := hid (And.intro h1 h2)
  have HN := hid hn
  clear h1 h2 hm hn
  go_enter Tryz.func80, Tryz.ntmps80
  go_wp2
  go_loopw [5] (fun i wr => ∃ j : Nat, j ≤ n ∧ i = .int .i64 (j : Int) ∧ Below w.heap.size w wr)
    (fun i _ => ((n : Int) - intOf i).toNat)
  case atStart => exact ⟨0, by omega, rfl, Below.refl _ _⟩
  case round =>
    obtain ⟨j, hj, rfl, hbel⟩ := hrel
    have HB := hid hbel
    clear hbel
    by_cases hjn : j = n
    · have hj1 : ¬ ((j : Int) < (n : Int)) := by omega
      clear hj hjn
      go_wp2
      go_ret
      exact ⟨rfl, HB.out⟩
    · have hj1 : (j : Int) < (n : Int) := by omega
      have hj0 : (0 : Int) ≤ (j : Int) := Int.natCast_nonneg _
      have hp := getP_some (ps := ps) (j := j) (by rw [HN.out]; omega)
      obtain ⟨g1, o1, rfl, hg1, x1, y1⟩ := HP.out.1.at j _ hp
      obtain ⟨g2, o2, rfl, hg2, x2, y2⟩ := HP.out.2.at j _ hp
      obtain ⟨x, ex⟩ : ∃ x, x = idOf ps j := ⟨_, rfl⟩
      obtain ⟨r, er⟩ : ∃ r, r = rtOf ps j := ⟨_, rfl⟩
      rw [← ex] at x1 x2
      rw [← er] at y1 y2
      have hbx : ∀ q : Cls wr, Below w.heap.size w q.1 := fun q => HB.out.trans (q.2.mono HB.out.size)
      have d1 : ∀ q : Cls wr, q.1.cell? ⟨g1, o1 + j * 2, none⟩ = some (.int .i64 x) := fun q => ((hbx q).cell (p := ⟨g1, _, none⟩) hg1).trans x1
      have d2 : ∀ q : Cls wr, q.1.cell? ⟨g1, o1 + j * 2 + 1, none⟩ = some (.string r) := fun q => ((hbx q).cell (p := ⟨g1, _, none⟩) hg1).trans y1
      have d3 : ∀ q : Cls wr, q.1.cell? ⟨g2, o2 + j * 2, none⟩ = some (.int .i64 x) := fun q => ((hbx q).cell (p := ⟨g2, _, none⟩) hg2).trans x2
      have d4 : ∀ q : Cls wr, q.1.cell? ⟨g2, o2 + j * 2 + 1, none⟩ = some (.string r) := fun q => ((hbx q).cell (p := ⟨g2, _, none⟩) hg2).trans y2
      have HJ := hid (And.intro hj hjn)
      clear hp x1 y1 x2 y2 hbx hg1 hg2 ex er hj hjn
      go_wp2
      haveI := Cls.ne wr
      refine wp_region_cls wr (by kernel_rfl) (by kernel_rfl) ?_
      repeat (go_big_quiet_step ((fail)))
      refine wpQuiet_nil ?_
      rintro _ ⟨q, rfl⟩
      go_wp2
      go_roundw
      case rel => exact ⟨j + 1, by have := HJ.out; omega, by go_num, HB.out.trans (q.2.mono HB.out.size)⟩
      case measure => simp [intOf]; omega
end Go.Proofs.YtgmekkgbobmplaaGreat

/- What all families of texts share: one operation that is ready in a region that draws. -/
namespace Go.Proofs.YtgmekkgbobmplaaGreat
open Go.RowKit

section
variable {P : Program} {ops : Array Oper} {o : Oper} {a : Act} {w : World} {K : Act → World → Prop} {Q : Exit → Act → World → Prop}
theorem wpOp_q {i : Nat} (hi : ops[i]? = some o) (hgd : o.guard = none) (h : ∀ K' : Act → World → Prop, (∀ a w, K a w → K' a w) → o.wp P a w K' Q) : wpOp P ops Q i K a w := by
  unfold Go.wpOp
  simp only [hi]
  have hw : Region.wanted o (yielded ops a.tmps) = true := by simp [Region.wanted, hgd]
  simp only [hw, if_true]
  exact .inl (h K (fun _ _ h => h))
end
end Go.Proofs.YtgmekkgbobmplaaGreat

/- What all families of texts share: results that live in a variable; rows of one's own beside a store elsewhere. -/
namespace Go.Proofs.YtgmekkgbobmplaaGreat
open Go.RowKit

theorem ret_pair {f : Func} {a : Act} {w : World} {Q : Ending → World → Prop} {s s2 : Nat} {t : TypeId} {ad : Addr} {v v2 : Value} (hr : f.results = #[.cell s t, .tmp s2]) (hs : a.tmps.getD s undef = .pointer (some ad)) (hl : (loadVar t ad).run Tryz.prog w = .ok v w) (h2 : a.tmps.getD s2 undef = v2) (hd : a.defers = [])
    (h : Q (.returned (.tuple #[v, v2])) w) : bodyPost Tryz.prog f Q .ret a w := by
  refine bodyPost_ret (v := .tuple #[v, v2]) ?_ hd h
  have h1 : a.tmps.getD s undef = .pointer (some ad) := hs
  simp [results, hr, -Array.getD_eq_getD_getElem?, h1, h2, asAddr, hl]
theorem ret_three {f : Func} {a : Act} {w : World} {Q : Ending → World → Prop} {s s2 s3 : Nat} {t : TypeId} {ad : Addr} {v v2 v3 : Value} (hr : f.results = #[.cell s t, .tmp s2, .tmp s3]) (hs : a.tmps.getD s undef = .pointer (some ad)) (hl : (loadVar t ad).run Tryz.prog w = .ok v w) (h2 : a.tmps.getD s2 undef = v2) (h3 : a.tmps.getD s3 undef = v3) (hd : a.defers = [])
    (h : Q (.returned (.tuple #[v, v2, v3])) w) : bodyPost Tryz.prog f Q .ret a w := by
  refine bodyPost_ret (v := .tuple #[v, v2, v3]) ?_ hd h
  have h1 : a.tmps.getD s undef = .pointer (some ad) := hs
  simp [results, hr, -Array.getD_eq_getD_getElem?, h1, h2, h3, asAddr, hl]
theorem ret_four {f : Func} {a : Act} {w : World} {Q : Ending → World → Prop} {s s2 s3 s4 : Nat} {t : TypeId} {ad : Addr} {v v2 v3 v4 : Value} (hr : f.results = #[.cell s t, .tmp s2, .tmp s3, .tmp s4]) (hs : a.tmps.getD s undef = .pointer (some ad)) (hl : (loadVar t ad).run Tryz.prog w = .ok v w) (h2 : a.tmps.getD s2 undef = v2) (h3 : a.tmps.getD s3 undef = v3) (h4 : a.tmps.getD s4 undef = v4) (hd : a.defers = [])
    (h : Q (.returned (.tuple #[v, v2, v3, v4])) w) : bodyPost Tryz.prog f Q .ret a w := by
  refine bodyPost_ret (v := .tuple #[v, v2, v3, v4]) ?_ hd h
  have h1 : a.tmps.getD s undef = .pointer (some ad) := hs
  simp [results, hr, -Array.getD_eq_getD_getElem?, h1, h2, h3, h4, asAddr, hl]
theorem res_put {w : World} {b : Nat} {p q x y : Value} {T : TypeId} (h : w.heap[b]? = some (.cells #[p, q] T (0, 0))) : ((w.setCell ⟨b, 0, none⟩ x).setCell ⟨b, 1, none⟩ y).heap[b]? = some (.cells #[x, y] T (0, 0)) := by
  have h1 : (w.setCell ⟨b, 0, none⟩ x).heap[b]? = some (.cells #[x, q] T (0, 0)) := (blk_set h 0 x).trans (by simp)
  exact (blk_set h1 1 y).trans (by simp)
theorem own_put {w : World} {B z : Nat} {v : Value} {n : Nat} {xs : List Value} {e : TypeId} (h : w.ownsRow B e z v n xs) (r o : Nat) (x : Value) (hr : r < B) : (w.setCell ⟨r, o, none⟩ x).ownsRow B e z v n xs := by
  refine ⟨h.1, ?_⟩
  rcases h.2 with hn | ⟨g, cap, cur, hv, hB, hh, hx⟩
  · exact .inl hn
  · exact .inr ⟨g, cap, cur, hv, hB, (Below.heap_setCell _ _ _ _ (by show ¬ g = r; omega)).trans hh, hx⟩
theorem cell_two {w : World} {b : Nat} {x y : Value} {T : TypeId} {fr : Nat × Nat} (h : w.heap[b]? = some (.cells #[x, y] T fr)) : w.cell? ⟨b, 0, none⟩ = some x ∧ w.cell? ⟨b, 1, none⟩ = some y :=
  ⟨cell_at (L := [x, y]) h 0 _ rfl, cell_at (L := [x, y]) h 1 _ rfl⟩
end Go.Proofs.YtgmekkgbobmplaaGreat

/- The document's Gather. -/
namespace Go.Proofs.YtgmekkgbobmplaaGreat
open Go.RowKit

theorem Tryz.info87 : (Tryz.prog.info? 87).map (fun i => (i.zero, i.size, i.bytes)) = some (some (.agg #[.int .i64 0, .string ⟨#[]⟩]), 2, 24) := by kernel_rfl
theorem own_pairsT {w : World} {B : Nat} {v : Value} {ps : List (Int × ByteArray)} {T : TypeId} (h : w.ownsRow B T 2 v ps.length (pC ps)) : ∃ ad cap, v = .slice ad ps.length cap ∧ PairsIn w ad ps := by
  rcases h.2 with ⟨hv, h0⟩ | ⟨g, cap, cur, hv, hB, hh, hx⟩
  · exact ⟨none, 0, by rw [hv, h0], .inl (List.eq_nil_of_length_eq_zero h0)⟩
  · refine ⟨_, cap, hv, .inr ⟨g, 0, rfl, lt_of_blk hh, fun j p hj => ?_⟩⟩
    subst hv
    have h1 := h.cells (g := g) rfl _ _ (pC_get ps j p hj).1
    have h2 := h.cells (g := g) rfl _ _ (pC_get ps j p hj).2
    rw [Addr.add_lit] at h1 h2
    exact ⟨h1, by rw [Nat.add_assoc]; exact h2⟩
/-! Sorting in place: all but the k-th of the first i + 1 rise. -/
theorem getD_set (L : List Int) (k j : Nat) (y : Int) (hk : k < L.length) : (L.set k y).getD j 0 = if j = k then y else L.getD j 0 := by
  rw [List.getD_eq_getElem?_getD, List.getD_eq_getElem?_getD, List.getElem?_set]
  by_cases h : k = j
  · rw [if_pos h, if_pos hk, if_pos h.symm]; rfl
  · rw [if_neg h, if_neg (fun e => h e.symm)]
def srt (L : List Int) (i k : Nat) : Prop := ∀ a b, a < b → b ≤ i → b ≠ k → L.getD a 0 < L.getD b 0
def rose (L : List Int) (i : Nat) : Prop := ∀ a b, a < b → b < i → L.getD a 0 < L.getD b 0
theorem rose.srt {L : List Int} {i : Nat} (h : rose L i) : srt L i i := fun a b h1 h2 h3 => h a b h1 (by omega)
def swp (L : List Int) (k : Nat) : List Int := (L.set (k + 1) (L.getD k 0)).set k (L.getD (k + 1) 0)
theorem swp_len (L : List Int) (k : Nat) : (swp L k).length = L.length := by simp [swp]
theorem swp_get (L : List Int) (k j : Nat) (hk : k + 1 < L.length) : (swp L k).getD j 0 = if j = k then L.getD (k + 1) 0 else if j = k + 1 then L.getD k 0 else L.getD j 0 := by
  rw [swp, getD_set _ _ _ _ (by simp; omega), getD_set _ _ _ _ hk]
theorem swp_perm (L : List Int) (k : Nat) (hk : k + 1 < L.length) : (swp L k).Perm L := by
  have := List.set_set_perm hk (show k < L.length by omega)
  rw [swp, getD_get L k (by omega), getD_get L (k + 1) hk]
  exact this
theorem srt.swp {L : List Int} {i k : Nat} (h : srt L i (k + 1)) (hi : i < L.length) (hk : k + 1 ≤ i) (hg : L.getD (k + 1) 0 < L.getD k 0) : srt (swp L k) i k := fun a b h1 h2 h3 => by
  rw [swp_get L k a (by omega), swp_get L k b (by omega)]
  rw [if_neg h3]
  by_cases hb : b = k + 1
  · rw [if_pos hb]
    by_cases ha : a = k
    · rw [if_pos ha]; exact hg
    · rw [if_neg ha, if_neg (by omega)]
      exact h a k (by omega) (by omega) (by omega)
  · rw [if_neg hb]
    by_cases ha : a = k
    · rw [if_pos ha]; exact h (k + 1) b (by omega) h2 hb
    · rw [if_neg ha]
      by_cases ha2 : a = k + 1
      · rw [if_pos ha2]; exact h k b (by omega) h2 hb
      · rw [if_neg ha2]; exact h a b h1 h2 hb
theorem srt.first {L : List Int} {i : Nat} (h : srt L i 0) : rose L (i + 1) := fun a b h1 h2 => h a b h1 (by omega) (by omega)
theorem srt.here {L : List Int} {i k : Nat} (h : srt L i (k + 1)) (hd : L.Nodup) (hi : i < L.length) (hk : k + 1 ≤ i) (hg : ¬ (L.getD (k + 1) 0 < L.getD k 0)) : rose L (i + 1) := fun a b h1 h2 => by
  have hne : L.getD k 0 ≠ L.getD (k + 1) 0 := fun e => by
    rw [getD_get L k (by omega), getD_get L (k + 1) (by omega)] at e
    exact List.pairwise_iff_getElem.1 hd k (k + 1) (by omega) (by omega) (by omega) e
  by_cases hb : b = k + 1
  · subst hb
    by_cases ha : a = k
    · subst ha; omega
    · have := h a k (by omega) (by omega) (by omega)
      omega
  · exact h a b h1 (by omega) hb
theorem rose.inc {L : List Int} (h : rose L L.length) : Inc L := List.pairwise_iff_getElem.2 (fun a b ha hb hab => by
  have := h a b hab hb
  rwa [getD_get L a ha, getD_get L b hb] at this)
/-! .. in memory. -/
theorem pC_set (ps : List (Int × ByteArray)) : ∀ (k : Nat) (p : Int × ByteArray), (((pC ps).set (k * 2) (.int .i64 p.1)).set (k * 2 + 1) (.string p.2)) = pC (ps.set k p) := by
  induction ps with
  | nil => intro k p; rfl
  | cons q ps ih =>
    intro k p
    cases k with
    | zero => rfl
    | succ k =>
      rw [pC_cons, show (k + 1) * 2 = k * 2 + 1 + 1 by omega, List.set_cons_succ, List.set_cons_succ, List.set_cons_succ, List.set_cons_succ, ih k p, List.set_cons_succ, pC_cons]
theorem gP_set (t : ByteArray) (L : List Int) (k : Nat) (x : Int) : gP t (L.set k x) = (gP t L).set k (x, t) := by simp [gP, List.map_set]
theorem own_cellset {w : World} {B z : Nat} {g cp n : Nat} {xs : List Value} {e : TypeId} (h : w.ownsRow B e z (.slice (some ⟨g, 0, none⟩) n cp) n xs) (o : Nat) (x : Value) : (w.setCell ⟨g, o, none⟩ x).ownsRow B e z (.slice (some ⟨g, 0, none⟩) n cp) n (xs.set o x) := by
  refine ⟨by rw [List.length_set]; exact h.1, ?_⟩
  rcases h.2 with ⟨hv, _⟩ | ⟨g', cap, cur, hv, hB, hh, hc1, hc2, hc3, hc4⟩
  · exact absurd hv (by simp)
  · cases hv
    refine .inr ⟨g, cp, _, rfl, hB, (blk_set hh o x).trans rfl, hc1, hc2, by simp [hc3], ?_⟩
    rw [← hc4]
    simp [List.take_set]
theorem own_two {w : World} {B : Nat} {g cp n : Nat} {ps : List (Int × ByteArray)} {e : TypeId} (h : w.ownsRow B e 2 (.slice (some ⟨g, 0, none⟩) n cp) n (pC ps)) (k : Nat) (p : Int × ByteArray) : ((w.setCell ⟨g, k * 2, none⟩ (.int .i64 p.1)).setCell ⟨g, k * 2 + 1, none⟩ (.string p.2)).ownsRow B e 2 (.slice (some ⟨g, 0, none⟩) n cp) n (pC (ps.set k p)) := by
  have := own_cellset (own_cellset h (k * 2) (.int .i64 p.1)) (k * 2 + 1) (.string p.2)
  rwa [pC_set] at this
theorem ownsRow_low {w : World} {B B' : Nat} {e : TypeId} {z : Nat} {v : Value} {n : Nat} {xs : List Value} (h : w.ownsRow B e z v n xs) (hB : B' ≤ B) : w.ownsRow B' e z v n xs := by
  refine ⟨h.1, ?_⟩
  rcases h.2 with hn | ⟨g, cap, cur, hv, hg, hx⟩
  · exact .inl hn
  · exact .inr ⟨g, cap, cur, hv, by omega, hx⟩
theorem below_drewN (w : World) (n : Nat) : Below w.heap.size w (w.drewN n) := ⟨rfl, rfl, rfl, Nat.le_refl _, fun _ _ => rfl⟩
/-- What is gathered so far lies in a row of its own. -/
structure GaSt (w0 w : World) (v : Value) (t : ByteArray) (O : List Int) : Prop where
  own : w.ownsRow w0.heap.size 87 2 v O.length (pC (gP t O))
  bel : Below w0.heap.size w0 w
theorem GaSt.keep {w0 w w' : World} {v : Value} {t : ByteArray} {O : List Int} (h : GaSt w0 w v t O) (hb : Below w.heap.size w w') : GaSt w0 w' v t O := ⟨ownsRow_keep h.own hb, h.bel.trans (hb.mono h.bel.size)⟩
theorem GaSt.pairs {w0 w : World} {v : Value} {t : ByteArray} {O : List Int} (h : GaSt w0 w v t O) : ∃ ad cap, v = .slice ad O.length cap ∧ PairsIn w ad (gP t O) := by
  obtain ⟨ad, cap, hv, hi⟩ := own_pairsT (ps := gP t O) (by rw [gP_len]; exact h.own)
  rw [gP_len] at hv
  exact ⟨ad, cap, hv, hi⟩
theorem GaSt.cells {w0 w : World} {g n cp : Nat} {t : ByteArray} {L : List Int} (h : GaSt w0 w (.slice (some ⟨g, 0, none⟩) n cp) t L) (k : Nat) (hk : k < L.length) : w.cell? ⟨g, k * 2, none⟩ = some (.int .i64 (L.getD k 0)) ∧ w.cell? ⟨g, k * 2 + 1, none⟩ = some (.string t) := by
  have hp : (gP t L)[k]? = some (L.getD k 0, t) := by rw [gP, List.getElem?_map, getD_some hk]; rfl
  have h1 := h.own.cells (g := g) rfl _ _ (pC_get _ k _ hp).1
  have h2 := h.own.cells (g := g) rfl _ _ (pC_get _ k _ hp).2
  rw [Addr.add_lit, Nat.zero_add] at h1 h2
  exact ⟨h1, h2⟩
theorem GaSt.blk {w0 w : World} {g n cp : Nat} {t : ByteArray} {L : List Int} (h : GaSt w0 w (.slice (some ⟨g, 0, none⟩) n cp) t L) : w0.heap.size ≤ g ∧ g < w.heap.size := h.own.lt g rfl
theorem GaSt.free {w0 w : World} {g n cp : Nat} {t : ByteArray} {L : List Int} (h : GaSt w0 w (.slice (some ⟨g, 0, none⟩) n cp) t L) (hn : L.length = n) (j : Nat) : w.frozen? ⟨g, j, none⟩ = false := by
  subst hn
  exact h.own.frozenAt j
theorem GaSt.put {w0 w : World} {g n cp : Nat} {t : ByteArray} {L : List Int} (h : GaSt w0 w (.slice (some ⟨g, 0, none⟩) n cp) t L) (hn : L.length = n) (k : Nat) (y : Int) : GaSt w0 ((w.setCell ⟨g, k * 2, none⟩ (.int .i64 y)).setCell ⟨g, k * 2 + 1, none⟩ (.string t)) (.slice (some ⟨g, 0, none⟩) n cp) t (L.set k y) := by
  subst hn
  refine ⟨?_, (h.bel.setCell h.blk.1 _).setCell h.blk.1 _⟩
  rw [List.length_set, gP_set]
  exact own_two h.own k (y, t)
end Go.Proofs.YtgmekkgbobmplaaGreat

/- Lists of signatures copied into rows of one's own; a thing said by Heard in memory. -/
namespace Go.Proofs.YtgmekkgbobmplaaGreat
open Go.RowKit

theorem pC_two : ∀ (ps : List (Int × ByteArray)) (j : Nat) (u : Value), (pC ps)[j]? = some u → ∃ p, ps[j / 2]? = some p ∧ ((j % 2 = 0 ∧ u = .int .i64 p.1) ∨ (j % 2 = 1 ∧ u = .string p.2))
  | [], j, u, h => by simp [pC] at h
  | p :: ps, 0, u, h => by
    rw [pC_cons] at h
    simp at h
    exact ⟨p, by simp, .inl ⟨rfl, h.symm⟩⟩
  | p :: ps, 1, u, h => by
    rw [pC_cons] at h
    simp at h
    exact ⟨p, by simp, .inr ⟨rfl, h.symm⟩⟩
  | p :: ps, j + 2, u, h => by
    rw [pC_cons] at h
    simp at h
    obtain ⟨q, hq, hu⟩ := pC_two ps j u h
    refine ⟨q, ?_, ?_⟩
    · rw [show (j + 2) / 2 = j / 2 + 1 by omega]
      simpa using hq
    · rw [show (j + 2) % 2 = j % 2 by omega]
      exact hu
theorem pC_cell1 (ps : List (Int × ByteArray)) : ∀ v ∈ pC ps, v.oneCell' = true := by
  intro v hv
  obtain ⟨j, hj, rfl⟩ := List.getElem_of_mem hv
  obtain ⟨p, _, h | h⟩ := pC_two ps j _ (List.getElem?_eq_getElem hj)
  · rw [h.2]; rfl
  · rw [h.2]; rfl
theorem pairs_cells {w : World} {ad : Addr} {ps : List (Int × ByteArray)} (h : PairsIn w (some ad) ps) (j : Nat) (u : Value) (hu : (pC ps)[j]? = some u) : w.cell? (ad.add j) = some u := by
  obtain ⟨p, hp, hu⟩ := pC_two ps j u hu
  obtain ⟨g, off, ha, hg, h0, h1⟩ := h.at (j / 2) p hp
  cases ha
  rw [Addr.add_lit]
  rcases hu with ⟨hj, rfl⟩ | ⟨hj, rfl⟩
  · rw [show off + j = off + j / 2 * 2 by omega]; exact h0
  · rw [show off + j = off + j / 2 * 2 + 1 by omega]; exact h1
/-- The slice v holds the signatures ps, in a row of its own; nothing below B has turned since w0. -/
structure OwnedT (B : Nat) (w0 w : World) (v : Value) (ps : List (Int × ByteArray)) : Prop where
  own : w.ownsRow B 87 2 v ps.length (pC ps)
  bel : Below B w0 w
  le : B ≤ w.heap.size
theorem OwnedT.nil {B : Nat} {w0 w : World} (h : Below B w0 w) (hB : B ≤ w.heap.size) : OwnedT B w0 w (.slice none 0 0) [] := ⟨⟨rfl, .inl ⟨rfl, rfl⟩⟩, h, hB⟩
theorem OwnedT.alloc {B : Nat} {w0 w : World} {v : Value} {l : List (Int × ByteArray)} (h : OwnedT B w0 w v l) (o : Obj) : OwnedT B w0 (w.alloc o) v l :=
  ⟨h.own.alloc o, h.bel.alloc h.le o, by have := h.le; simp; omega⟩
theorem OwnedT.grow {B : Nat} {w0 w w2 : World} {v v2 : Value} {l xs : List (Int × ByteArray)} {m : Nat} (h : OwnedT B w0 w v l) (hm : xs.length = m) (h2 : w2.ownsRow B 87 2 v2 (l.length + m) (pC l ++ pC xs)) (hg : w.grownBy w2 v.ownBlock) : OwnedT B w0 w2 v2 (l ++ xs) :=
  ⟨by rw [List.length_append, pC_app, hm]; exact h2, h.bel.grown hg h.le (fun k hk => (h.own.lt k hk).1), Nat.le_trans h.le hg.size⟩
theorem OwnedT.form {B : Nat} {w0 w : World} {v : Value} {l : List (Int × ByteArray)} (h : OwnedT B w0 w v l) (hl : 0 < l.length) : ∃ g cap, v = .slice (some ⟨g, 0, none⟩) l.length cap ∧ l.length ≤ cap ∧ cap ≤ maxLen ∧ g < w.heap.size ∧ B ≤ g ∧ PairsIn w (some ⟨g, 0, none⟩) l := by
  rcases h.own.2 with ⟨_, h0⟩ | ⟨g, cap, cur, hv, hb, hh, hnc, hcp, hcs, htake⟩
  · omega
  · obtain ⟨ad, c2, hv2, hp⟩ := own_pairsT h.own
    rw [hv] at hv2
    cases hv2
    exact ⟨g, cap, hv, hnc, hcp, lt_of_blk hh, hb, hp⟩
section
variable {o : Oper} {a : Act} {w : World} {Q : Exit → Act → World → Prop} {ops : Array Oper} {rest : List Oper} {K : Act → World → Prop}
/-- A copy of one's own. -/
theorem owp_ownT (x y : Operand) (ho : o.op = .call { callee := .builtin .append, args := #[x, y], argTypes := #[44, 44] })
    (hx : a.eval x = .slice none 0 0) (ad : Option Addr) (n cap : Nat) (ps : List (Int × ByteArray)) (hy : a.eval y = .slice ad n cap) (hn : ps.length = n) (hS : PairsIn w ad ps) (hl : n * 24 ≤ 140737488355328)
    (h : ∀ v' w', Hid (OwnedT w.heap.size w w' v' ps) → K (a.put o.dst v') w') : o.wp Tryz.prog a w K Q := by
  obtain ⟨i0, hi0, hz0, hz1, hz2⟩ := info_parts Tryz.info87
  cases ad with
  | none =>
    obtain rfl : ps = [] := by rcases hS with h | ⟨g, off, ha, _⟩; exact h; cases ha
    obtain rfl : 0 = n := hn
    refine owp_value (v := .slice none 0 0) (w' := w) ?_ (h _ _ (OwnedT.nil (Below.refl _ _) (Nat.le_refl _)))
    simp [execOp, ho, resolve, invoke, builtin, hx, hy, Builtin.append_, run_underlying Tryz.underlying44, sizeOf, typeInfo, hi0, Builtin.lenOf, Builtin.firstCells, Result.andThen]
  | some ad =>
    refine wp_append_own w x y 44 ho w.heap.size 87 i0 (.agg #[.int .i64 0, .string ⟨#[]⟩]) 2 24 Tryz.underlying44 hi0 hz0 hz1 hz2 rfl (by decide) (.slice none 0 0) 0 [] hx ⟨rfl, .inl ⟨rfl, rfl⟩⟩ ad n cap (pC ps) hy (by rw [pC_len, hn]) (fun j v hv => pairs_cells hS j v hv) (pC_cell1 ps) (by unfold maxLen; omega) (by omega) (Nat.le_refl _) (fun v' w' hown hgrow _ => ?_)
    rw [Nat.zero_add, List.nil_append, ← hn] at hown
    exact h _ _ ⟨hown, (Below.refl _ _).grown hgrow (Nat.le_refl _) (fun k hk => by cases hk), hgrow.size⟩
theorem wl_ownT (hgd : o.guard = none) (x y : Operand) (ho : o.op = .call { callee := .builtin .append, args := #[x, y], argTypes := #[44, 44] })
    (hx : a.eval x = .slice none 0 0) (ad : Option Addr) (n cap : Nat) (ps : List (Int × ByteArray)) (hy : a.eval y = .slice ad n cap) (hn : ps.length = n) (hS : PairsIn w ad ps) (hl : n * 24 ≤ 140737488355328)
    (h : ∀ v' w', Hid (OwnedT w.heap.size w w' v' ps) → wpList Tryz.prog ops Q rest (a.put o.dst v') w') : wpList Tryz.prog ops Q (o :: rest) a w :=
  wpList_plain hgd fun _ hK => owp_ownT x y ho hx ad n cap ps hy hn hS hl fun v' w' h' => hK _ _ (h v' w' h')
end
theorem gathL_le (l : List Int) (t : ByteArray) (ss : List (Int × ByteArray)) : (gathL l t ss).length ≤ ss.length := by
  rw [gathL, List.length_mergeSort]
  exact gOut_le l t ss l.length (Nat.le_refl _)
end Go.Proofs.YtgmekkgbobmplaaGreat
