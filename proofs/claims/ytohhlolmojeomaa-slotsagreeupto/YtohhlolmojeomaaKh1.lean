/- Texts laid together: StA CgA ChA GtA SlA BuA SlG SlE SlB. -/
import Derived.Test.YtohhlolmojeomaaKc1
import Derived.Deep.MidRow
import Derived.Test.YtohhlolmojeomaaKe1
import Derived.Test.YtohhlolmojeomaaKa1
import Derived.BigQuiet
import Derived.Test.YtohhlolmojeomaaKg1
import Derived.OwnWalk
import Derived.Test.YtohhlolmojeomaaKb1
import Derived.Deep.DeepMust
/- Stores into blocks that are known whole, as one step of a walk each. -/
namespace Go.Proofs.Ytohhlolmojeomaa
open Go.RowKit

/-- A list of cells, these put from o on. -/
def setAt : List Value → Nat → List Value → List Value
  | L, _, [] => L
  | L, o, v :: vs => setAt (L.set o v) (o + 1) vs
theorem blk_cells {b : Nat} {T : TypeId} : ∀ (vs : List Value) (o : Nat) (L : List Value) (w : World), w.heap[b]? = some (.cells L.toArray T (0, 0)) → (w.setCells b o vs).heap[b]? = some (.cells (setAt L o vs).toArray T (0, 0))
  | [], _, _, _, h => h
  | v :: vs, o, L, w, h => blk_cells vs (o + 1) (L.set o v) (w.setCell ⟨b, o, none⟩ v) (by have := blk_set h o v; simpa using this)
theorem blk_there {w : World} {b : Nat} {T : TypeId} {L : List Value} (h : w.heap[b]? = some (.cells L.toArray T (0, 0))) (o n : Nat) (hn : o + n ≤ L.length) : w.there b o n := fun j hj => by
  have hl : o + j < L.length := by omega
  exact ⟨by rw [cell_at h (o + j) _ (List.getElem?_eq_getElem hl)]; rfl, free_at h _⟩
section
variable {o : Oper} {a : Act} {w : World} {K : Act → World → Prop} {Q : Exit → Act → World → Prop} {ops : Array Oper} {rest : List Oper}
theorem owp_store_blk (T : TypeId) (p x : Operand) (ho : o.op = .store T p x) (b off : Nat) (hp : a.eval p = .pointer (some ⟨b, off, none⟩)) (cells : Array Value) (hx : a.eval x = .agg cells) (L : List Value) (TB : TypeId) (hL : w.heap[b]? = some (.cells L.toArray TB (0, 0))) (hn : off + cells.size ≤ L.length)
    (hi : (Try.prog.info? T).map (·.size) = some cells.size) (h1 : cells.all (·.oneCell') = true) (h : ∀ w', Hid (w'.heap[b]? = some (.cells (setAt L off cells.toList).toArray TB (0, 0)) ∧ One b w w') → K (a.put o.dst undef) w') : o.wp Try.prog a w K Q :=
  wp_store_mid (P := Try.prog) T p x ho b off cells hp hx (blk_there hL off _ hn) hi h1 (h _ ⟨blk_cells cells.toList off L w hL, one_cells b _ off w⟩)
theorem wl_store_blk (hgd : o.guard = none) (T : TypeId) (p x : Operand) (ho : o.op = .store T p x) (b off : Nat) (hp : a.eval p = .pointer (some ⟨b, off, none⟩)) (cells : Array Value) (hx : a.eval x = .agg cells) (L : List Value) (TB : TypeId) (hL : w.heap[b]? = some (.cells L.toArray TB (0, 0))) (hn : off + cells.size ≤ L.length)
    (hi : (Try.prog.info? T).map (·.size) = some cells.size) (h1 : cells.all (·.oneCell') = true) (h : ∀ w', Hid (w'.heap[b]? = some (.cells (setAt L off cells.toList).toArray TB (0, 0)) ∧ One b w w') → wpList Try.prog ops Q rest (a.put o.dst undef) w') : wpList Try.prog ops Q (o :: rest) a w :=
  wpList_plain hgd fun _ hK => owp_store_blk T p x ho b off hp cells hx L TB hL hn hi h1 (fun w' hw => hK _ _ (h w' hw))
end
end Go.Proofs.Ytohhlolmojeomaa

/- Certificates and changes in memory; variables of cells. No walk here. -/
namespace Go.Proofs.Ytohhlolmojeomaa
open Go.RowKit

/-- A variable of these cells. -/
def BxAt (w : World) (b : Nat) (L : List Value) (T : TypeId) : Prop := w.heap[b]? = some (.cells L.toArray T (0, 0))
theorem BxAt.keep {w w' : World} {b : Nat} {L : List Value} {T : TypeId} (h : BxAt w b L T) (hb : Below w.heap.size w w') : BxAt w' b L T := (hb.block b (lt_of_blk h)).trans h
theorem BxAt.cell {w : World} {b : Nat} {L : List Value} {T : TypeId} (h : BxAt w b L T) (j : Nat) (v : Value) (hv : L[j]? = some v) : w.cell? ⟨b, j, none⟩ = some v := cell_at h j v hv
def ctC (c : Ct) (v : Value) : List Value := [.int .i64 c.1, .int .i64 c.2.1, .int .i64 c.2.2.1.c, .int .i64 c.2.2.1.st, .int .i64 c.2.2.1.k, .string c.2.2.1.key, .float .f64 c.2.2.1.b, .int .i64 c.2.2.1.id, v]
def cgC (c : Cg) (v : Value) : List Value := [.int .i64 c.1, .int .i64 c.2.1, v, .int .i64 c.2.2.2.1, .string c.2.2.2.2]
theorem ct_at {F : Nat → Prop} {w : World} {v : Value} {l : List Ct} (h : Reads F w v (dCts l)) (j : Nat) (hj : j < l.length) :
    ∃ g off cap a k, v = .slice (some ⟨g, off, none⟩) l.length cap ∧ PairsIn w a (l.getD j ct0).2.2.2 ∧ g < w.heap.size ∧ ∀ (q : Nat) (u : Value), (ctC (l.getD j ct0) (.slice a (l.getD j ct0).2.2.2.length k))[q]? = some u → w.cell? ⟨g, off + j * 9 + q, none⟩ = some u := by
  have hx : (l.map dCt)[j]? = some (dCt (l.getD j ct0)) := by rw [List.getElem?_map]; simp [hj]
  obtain ⟨g, off, cap, hv, _, hg, _, hc⟩ := h.at j _ hx
  obtain ⟨u8, k8, r8⟩ := hc 8 _ rfl
  obtain ⟨a, k, rfl, hp, _⟩ := reads_pairs r8
  rw [List.length_map] at hv
  refine ⟨g, off, cap, a, k, hv, hp, hg, fun q u hq => ?_⟩
  match q, hq with
  | 0, hq => obtain ⟨x, k0, r0⟩ := hc 0 _ rfl; rw [r0.int] at k0; cases hq; exact k0
  | 1, hq => obtain ⟨x, k0, r0⟩ := hc 1 _ rfl; rw [r0.int] at k0; cases hq; exact k0
  | 2, hq => obtain ⟨x, k0, r0⟩ := hc 2 _ rfl; rw [r0.int] at k0; cases hq; exact k0
  | 3, hq => obtain ⟨x, k0, r0⟩ := hc 3 _ rfl; rw [r0.int] at k0; cases hq; exact k0
  | 4, hq => obtain ⟨x, k0, r0⟩ := hc 4 _ rfl; rw [r0.int] at k0; cases hq; exact k0
  | 5, hq => obtain ⟨x, k0, r0⟩ := hc 5 _ rfl; rw [r0.str] at k0; cases hq; exact k0
  | 6, hq => obtain ⟨x, k0, r0⟩ := hc 6 _ rfl; rw [r0.flt] at k0; cases hq; exact k0
  | 7, hq => obtain ⟨x, k0, r0⟩ := hc 7 _ rfl; rw [r0.int] at k0; cases hq; exact k0
  | 8, hq => cases hq; exact k8
  | q + 9, hq => cases hq
theorem cg_at {F : Nat → Prop} {w : World} {v : Value} {l : List Cg} (h : Reads F w v (dCgs l)) (j : Nat) (hj : j < l.length) :
    ∃ g off cap a n k, v = .slice (some ⟨g, off, none⟩) l.length cap ∧ Reads F w (.slice a n k) (dCts (l.getD j cg0).2.2.1) ∧ g < w.heap.size ∧ ∀ (q : Nat) (u : Value), (cgC (l.getD j cg0) (.slice a n k))[q]? = some u → w.cell? ⟨g, off + j * 5 + q, none⟩ = some u := by
  have hx : (l.map dCg)[j]? = some (dCg (l.getD j cg0)) := by rw [List.getElem?_map]; simp [hj]
  obtain ⟨g, off, cap, hv, _, hg, _, hc⟩ := h.at j _ hx
  obtain ⟨u2, k2, r2⟩ := hc 2 _ rfl
  obtain ⟨a, k, hu⟩ := Reads.form r2
  subst hu
  rw [List.length_map] at hv
  refine ⟨g, off, cap, a, _, k, hv, r2, hg, fun q u hq => ?_⟩
  match q, hq with
  | 0, hq => obtain ⟨x, k0, r0⟩ := hc 0 _ rfl; rw [r0.int] at k0; cases hq; exact k0
  | 1, hq => obtain ⟨x, k0, r0⟩ := hc 1 _ rfl; rw [r0.int] at k0; cases hq; exact k0
  | 2, hq => cases hq; exact k2
  | 3, hq => obtain ⟨x, k0, r0⟩ := hc 3 _ rfl; rw [r0.int] at k0; cases hq; exact k0
  | 4, hq => obtain ⟨x, k0, r0⟩ := hc 4 _ rfl; rw [r0.str] at k0; cases hq; exact k0
  | q + 5, hq => cases hq

theorem heap_lt {w : World} {k : Nat} {o : Obj} (h : w.heap[k]? = some o) : k < w.heap.size := by
  rcases Nat.lt_or_ge k w.heap.size with h1 | h1
  · exact h1
  · rw [Array.getElem?_eq_none h1] at h; cases h
theorem inR_of {s : Nat} {z : Int} (h0 : 0 ≤ z) (h1 : z < ((256 ^ s : Nat) : Int)) : inR s z = true := decide_eq_true ⟨h0, h1⟩
theorem flat_snoc {α : Type} {f : α → List UInt8} {l : List α} {d : α} (j : Nat) (hj : j < l.length) : (l.take j).flatMap f ++ f (l.getD j d) = (l.take (j + 1)).flatMap f := by
  rw [List.take_succ_eq_append_getElem hj, List.flatMap_append]
  simp [hj]
end Go.Proofs.Ytohhlolmojeomaa

/- Changes: what fits, their texts, which are right, what is picked. No walk here. -/
namespace Go.Proofs.Ytohhlolmojeomaa
open Go.RowKit

/-- Does the change fit the epoch, whatever its signature? -/
def fiB (e : Int) (c : Cg) : Bool := inB e 0 60 && ((inB c.1 0 15 && inB c.2.1 1 15) && ctsB e c.2.2.1)
/-- All certificates fit, each of a greater slot than the one ahead: there are four at most. -/
theorem cts_few {e : Int} {l : List Ct} (h : allTo (ctAt e l) l.length = true) : l.length ≤ 4 := by
  have hs : ∀ i, i < l.length → 4 * e + (i : Int) + 1 ≤ (l.getD i ct0).2.1 := by
    intro i
    induction i with
    | zero =>
      intro hi
      have h1 := allTo_at h 0 hi
      simp only [ctAt, ctB, ofB, Bool.and_eq_true, decide_eq_true_eq] at h1
      omega
    | succ i ih =>
      intro hi
      have h1 := allTo_at h (i + 1) hi
      have h2 := ih (by omega)
      simp only [ctAt, Bool.and_eq_true, Bool.or_eq_true, decide_eq_true_eq, Nat.add_sub_cancel] at h1
      omega
  rcases Nat.lt_or_ge 4 l.length with h4 | h4
  · have h1 := hs 4 h4
    have h2 := allTo_at h 4 h4
    simp only [ctAt, ctB, ofB, Bool.and_eq_true, decide_eq_true_eq] at h2
    omega
  · exact h4
theorem cts_all (e : Int) (l : List Ct) : allTo (ctAt e l) l.length = ctsB e l := by
  rw [ctsB]
  cases h : allTo (ctAt e l) l.length with
  | false => rw [Bool.and_false]
  | true => rw [decide_eq_true (cts_few h)]; rfl
/-- What a change signs. -/
def chL (e : Int) (c : Cg) : List UInt8 := be 1 86 ++ (be 2 e.toNat ++ (be 1 c.1.toNat ++ (be 1 c.2.1.toNat ++ lsL ctL c.2.2.1)))
def chE (e : Int) (c : Cg) : Int := if fiB e c = true then (if (chL e c).length ≤ 65535 then 0 else 3) else 1
def chT (e : Int) (c : Cg) : ByteArray := if chE e c = 0 then ⟨(chL e c).toArray⟩ else ⟨#[]⟩
theorem chE_ok {e : Int} {c : Cg} (h : chE e c = 0) : fiB e c = true ∧ (chL e c).length ≤ 65535 := by
  unfold chE at h
  split at h
  · split at h
    · exact ⟨by assumption, by assumption⟩
    · cases h
  · cases h
theorem chE_no {e : Int} {c : Cg} (h : fiB e c = false) : chE e c = 1 := by rw [chE, if_neg (by rw [h]; decide)]
theorem chE_long {e : Int} {c : Cg} (h : fiB e c = true) (hl : 65535 < (chL e c).length) : chE e c = 3 := by rw [chE, if_pos h, if_neg (by omega)]
theorem chE_yes {e : Int} {c : Cg} (h : fiB e c = true) (hl : (chL e c).length ≤ 65535) : chE e c = 0 := by rw [chE, if_pos h, if_pos hl]
theorem chT_yes {e : Int} {c : Cg} (h : fiB e c = true) (hl : (chL e c).length ≤ 65535) : chT e c = ⟨(chL e c).toArray⟩ := by rw [chT, if_pos (chE_yes h hl)]
theorem chT_no {e : Int} {c : Cg} (h : chE e c ≠ 0) : chT e c = ⟨#[]⟩ := by rw [chT, if_neg h]
theorem fi_parts {e : Int} {c : Cg} (h : fiB e c = true) : inB e 0 60 = true ∧ inB c.1 0 15 = true ∧ inB c.2.1 1 15 = true ∧ ctsB e c.2.2.1 = true := by
  simp only [fiB, Bool.and_eq_true] at h
  exact ⟨h.1, h.2.1.1, h.2.1.2, h.2.2⟩
theorem inB_iff {n a b : Int} (h : inB n a b = true) : a ≤ n ∧ n ≤ b := by
  simp only [inB, Bool.and_eq_true, decide_eq_true_eq] at h
  exact h
theorem cts_parts {e : Int} {l : List Ct} (h : ctsB e l = true) : l.length ≤ 4 ∧ (∀ i, i < l.length → ctB e (l.getD i ct0) = true) ∧ ∀ i, 0 < i → i < l.length → (l.getD (i - 1) ct0).2.1 < (l.getD i ct0).2.1 := by
  simp only [ctsB, Bool.and_eq_true, decide_eq_true_eq] at h
  refine ⟨h.1, fun i hi => ?_, fun i h0 hi => ?_⟩
  · have := allTo_at h.2 i hi
    simp only [ctAt, Bool.and_eq_true] at this
    exact this.1
  · have := allTo_at h.2 i hi
    simp only [ctAt, Bool.and_eq_true, Bool.or_eq_true, decide_eq_true_eq] at this
    omega
theorem cts_mem {e : Int} {l : List Ct} (h : ctsB e l = true) {x : Ct} (hx : x ∈ l) : ctB e x = true := by
  obtain ⟨i, hi, rfl⟩ := getD_mem (d := ct0) hx
  exact (cts_parts h).2.1 i hi
theorem ct_parts {e : Int} {c : Ct} (h : ctB e c = true) : inB c.1 0 15 = true ∧ (4 * e < c.2.1 ∧ c.2.1 ≤ 4 * (e + 1)) ∧ askB c.2.2.1 = true ∧ sigsB c.2.2.2 = true := by
  simp only [ctB, ofB, Bool.and_eq_true, decide_eq_true_eq] at h
  exact ⟨h.1.1, h.1.2, h.2.1, h.2.2⟩
/-- Of its certificates, one by one, the first error. -/
def ceE (ep : Int) (l : List Int) (v : Int) : List Ct → Int
  | [] => 0
  | y :: ys => if v ≤ y.1 then 13 else if provesB ep l (prT ep y.1 y.2.1 y.2.2.1) y.2.2.2 = true then ceE ep l v ys else 15
theorem ceE_step (ep : Int) (l : List Int) (v : Int) : ∀ (ys : List Ct) (j : Nat), ceE ep l v (ys.take j) = 0 → j < ys.length → ceE ep l v (ys.take (j + 1)) = (if v ≤ (ys.getD j ct0).1 then 13 else if provesB ep l (prT ep (ys.getD j ct0).1 (ys.getD j ct0).2.1 (ys.getD j ct0).2.2.1) (ys.getD j ct0).2.2.2 = true then 0 else 15) ∧ (ceE ep l v (ys.take (j + 1)) ≠ 0 → ceE ep l v ys = ceE ep l v (ys.take (j + 1)))
  | [], j, _, hj => by simp at hj
  | y :: ys, 0, h, hj => by
    refine ⟨by simp [ceE], fun hn => ?_⟩
    simp only [List.take_succ_cons, List.take_zero, ceE] at hn ⊢
    split
    · rfl
    · split
      · rename_i h1 h2
        rw [if_neg h1, if_pos h2] at hn
        exact absurd rfl hn
      · rfl
  | y :: ys, j + 1, h, hj => by
    simp only [List.take_succ_cons, ceE] at h ⊢
    split at h
    · cases h
    · split at h
      · rename_i h1 h2
        obtain ⟨k1, k2⟩ := ceE_step ep l v ys j h (by simpa using hj)
        refine ⟨by rw [if_neg h1, if_pos h2]; simpa using k1, fun hn => ?_⟩
        rw [if_neg h1, if_pos h2] at hn
        rw [if_neg h1, if_pos h2, if_neg h1, if_pos h2]
        exact k2 hn
      · cases h
/-- Which changes are right, or the first error. -/
def riE (ep : Int) (l : List Int) (x : Cg) : Int :=
  if rightC ep l = true then (if chE ep x = 0 then (if hasM l x.1 = true then (if ceE ep l x.2.1 x.2.2.1 = 0 then (if x.2.2.2 = (x.1, chT ep x) then 0 else 16) else ceE ep l x.2.1 x.2.2.1) else 8) else chE ep x) else 1
/-- The certificate of the greatest view of a slot. -/
def bst (slot : Int) : List Ct → Option Ct → Option Ct
  | [], o => o
  | y :: ys, o => bst slot ys (if y.2.1 = slot then (match o with | none => some y | some z => if z.1 < y.1 then some y else some z) else o)
def bstOf (slot : Int) (cs : List Ct) : Option Ct := bst slot cs none
def allC (l : List Cg) : List Ct := l.flatMap (·.2.2.1)
theorem bst_app (slot : Int) : ∀ (a b : List Ct) (o : Option Ct), bst slot (a ++ b) o = bst slot b (bst slot a o)
  | [], _, _ => rfl
  | y :: a, b, o => by simp only [List.cons_append, bst]; exact bst_app slot a b _
theorem bstOf_snoc (slot : Int) (a : List Ct) (y : Ct) : bstOf slot (a ++ [y]) = if y.2.1 = slot then (match bstOf slot a with | none => some y | some z => if z.1 < y.1 then some y else some z) else bstOf slot a := by
  rw [bstOf, bst_app]; rfl
theorem bst_mem (slot : Int) : ∀ (cs : List Ct) (o : Option Ct) (y : Ct), bst slot cs o = some y → (y ∈ cs ∧ y.2.1 = slot) ∨ o = some y
  | [], o, y, h => .inr h
  | x :: cs, o, y, h => by
    rcases bst_mem slot cs _ y h with h1 | h1
    · exact .inl ⟨List.mem_cons_of_mem _ h1.1, h1.2⟩
    · split at h1
      · rename_i hs
        cases o with
        | none => cases h1; exact .inl ⟨List.mem_cons_self .., hs⟩
        | some z =>
          simp only at h1
          split at h1
          · cases h1; exact .inl ⟨List.mem_cons_self .., hs⟩
          · exact .inr h1
      · exact .inr h1
theorem bstOf_mem {slot : Int} {cs : List Ct} {y : Ct} (h : bstOf slot cs = some y) : y ∈ cs ∧ y.2.1 = slot := by
  rcases bst_mem slot cs none y h with h | h
  · exact h
  · cases h
/-- How many slots are picked. -/
def lstOf (ep : Int) (cs : List Ct) : Nat :=
  if (bstOf (4 * ep + 4) cs).isSome then 4 else if (bstOf (4 * ep + 3) cs).isSome then 3 else if (bstOf (4 * ep + 2) cs).isSome then 2 else if (bstOf (4 * ep + 1) cs).isSome then 1 else 0
def rqOf (o : Option Ct) : Rq := match o with | none => zeroQ | some y => y.2.2.1
/-- What is picked, as it came. -/
def pkL (ep : Int) (cs : List Ct) : List Rq := (List.range (lstOf ep cs)).map fun (i : Nat) => rqOf (bstOf (4 * ep + 1 + (i : Int)) cs)
/-- All of one view. -/
def vwB (v : Int) (l : List Cg) : Bool := inB v 1 15 && l.all fun x => decide (x.2.1 = v)
def riA (ep : Int) (m : List Int) : List Cg → Int
  | [] => 0
  | x :: l => if riE ep m x = 0 then riA ep m l else riE ep m x
theorem riA_step (ep : Int) (m : List Int) : ∀ (l : List Cg) (j : Nat), riA ep m (l.take j) = 0 → j < l.length → riA ep m (l.take (j + 1)) = riE ep m (l.getD j cg0) ∧ (riE ep m (l.getD j cg0) ≠ 0 → riA ep m l = riE ep m (l.getD j cg0))
  | [], j, _, hj => by simp at hj
  | x :: l, 0, h, hj => by
    simp only [List.take_succ_cons, List.take_zero, riA, List.getD_cons_zero]
    refine ⟨?_, fun hn => if_neg hn⟩
    split
    · rename_i h1; exact h1.symm
    · rfl
  | x :: l, j + 1, h, hj => by
    simp only [List.take_succ_cons, riA, List.getD_cons_succ] at h ⊢
    split at h
    · rename_i h1
      obtain ⟨k1, k2⟩ := riA_step ep m l j h (by simpa using hj)
      rw [if_pos h1, if_pos h1]
      exact ⟨k1, k2⟩
    · rename_i h1; exact absurd h h1
/-- Of rising members. -/
def rsgB (l : List Cg) : Bool := allTo (fun i => decide (i = 0) || decide ((l.getD (i - 1) cg0).1 < (l.getD i cg0).1)) l.length
def rfE (ep : Int) (m : List Int) (v : Int) (l : List Cg) : Int :=
  if rightC ep m = true then (if vwB v l = true then (if riA ep m l = 0 then (if rsgB l = true then (if quoZ (m.length : Int) ≤ (l.length : Int) then 0 else 15) else 17) else riA ep m l) else 13) else 1
theorem riA_mem {ep : Int} {m : List Int} : ∀ {l : List Cg}, riA ep m l = 0 → ∀ x ∈ l, riE ep m x = 0
  | [], _, x, hx => by simp at hx
  | y :: l, h, x, hx => by
    simp only [riA] at h
    split at h
    · rename_i h1
      rcases List.mem_cons.1 hx with rfl | hx
      · exact h1
      · exact riA_mem h x hx
    · rename_i h1; exact absurd h h1
theorem rfE_ok {ep : Int} {m : List Int} {v : Int} {l : List Cg} (h : rfE ep m v l = 0) : rightC ep m = true ∧ vwB v l = true ∧ riA ep m l = 0 ∧ rsgB l = true ∧ quoZ (m.length : Int) ≤ (l.length : Int) := by
  unfold rfE at h
  repeat' split at h
  all_goals first | cases h | skip
  · exact ⟨by assumption, by assumption, by assumption, by assumption, by assumption⟩
  · rename_i h3; exact absurd h h3
theorem riE_ok {ep : Int} {m : List Int} {x : Cg} (h : riE ep m x = 0) : rightC ep m = true ∧ chE ep x = 0 ∧ hasM m x.1 = true ∧ ceE ep m x.2.1 x.2.2.1 = 0 ∧ x.2.2.2 = (x.1, chT ep x) := by
  unfold riE at h
  repeat' split at h
  all_goals first | cases h | skip
  · exact ⟨by assumption, by assumption, by assumption, by assumption, by assumption⟩
  · rename_i h3; exact absurd h h3
  · rename_i h3; exact absurd h h3
theorem ceE_mem {ep : Int} {m : List Int} {v : Int} : ∀ {ys : List Ct}, ceE ep m v ys = 0 → ∀ y ∈ ys, y.1 < v ∧ provesB ep m (prT ep y.1 y.2.1 y.2.2.1) y.2.2.2 = true
  | [], _, y, hy => by simp at hy
  | z :: ys, h, y, hy => by
    simp only [ceE] at h
    split at h
    · cases h
    · split at h
      · rename_i h1 h2
        rcases List.mem_cons.1 hy with rfl | hy
        · exact ⟨by omega, h2⟩
        · exact ceE_mem h y hy
      · cases h
end Go.Proofs.Ytohhlolmojeomaa

/- An array of four certificates, a row of requests: as cells, one read, one put; whole arrays as one step of a walk. -/
namespace Go.Proofs.Ytohhlolmojeomaa
open Go.RowKit

theorem setAt_mid : ∀ (vs A B C : List Value), B.length = vs.length → setAt (A ++ (B ++ C)) A.length vs = A ++ (vs ++ C)
  | [], A, B, C, h => by
    obtain rfl := List.eq_nil_of_length_eq_zero h
    rfl
  | v :: vs, A, [], C, h => by cases h
  | v :: vs, A, b :: B, C, h => by
    have h1 : (A ++ (b :: B ++ C)).set A.length v = (A ++ [v]) ++ (B ++ C) := by simp
    rw [setAt, h1]
    have h2 := setAt_mid vs (A ++ [v]) B C (by simpa using h)
    rw [List.length_append] at h2
    rw [show A.length + 1 = A.length + [v].length from rfl, h2]
    simp
/-- A row of things, each of k cells. -/
theorem row_len {α : Type} {f : α → List Value} {k : Nat} (hf : ∀ x, (f x).length = k) : ∀ G : List α, (G.flatMap f).length = G.length * k
  | [] => by simp
  | x :: G => by rw [List.flatMap_cons, List.length_append, hf, row_len hf G, List.length_cons, Nat.succ_mul]; omega
theorem row_split {α : Type} {f : α → List Value} {G : List α} {i : Nat} {x : α} (h : G[i]? = some x) : G.flatMap f = (G.take i).flatMap f ++ (f x ++ (G.drop (i + 1)).flatMap f) := by
  obtain ⟨hl, he⟩ := List.getElem?_eq_some_iff.1 h
  conv => lhs; rw [← List.take_append_drop i G, List.drop_eq_getElem_cons hl, he]
  rw [List.flatMap_append, List.flatMap_cons]
theorem row_at {α : Type} {f : α → List Value} {k : Nat} (hf : ∀ x, (f x).length = k) {G : List α} {i : Nat} {x : α} (h : G[i]? = some x) (q : Nat) (hq : q < k) : (G.flatMap f)[i * k + q]? = (f x)[q]? := by
  obtain ⟨hl, _⟩ := List.getElem?_eq_some_iff.1 h
  have h1 : ((G.take i).flatMap f).length = i * k := by rw [row_len hf, List.length_take, Nat.min_eq_left (Nat.le_of_lt hl)]
  rw [row_split h, List.getElem?_append_right (by omega), h1, Nat.add_sub_cancel_left, List.getElem?_append_left (by rw [hf]; exact hq)]
theorem row_set {α : Type} {f : α → List Value} {k : Nat} (hf : ∀ x, (f x).length = k) {G : List α} {i : Nat} (hi : i < G.length) (y : α) : setAt (G.flatMap f) (i * k) (f y) = (G.set i y).flatMap f := by
  have h : G[i]? = some G[i] := List.getElem?_eq_getElem hi
  have h1 : ((G.take i).flatMap f).length = i * k := by rw [row_len hf, List.length_take, Nat.min_eq_left (Nat.le_of_lt hi)]
  have h2 : (G.set i y)[i]? = some y := by simp [hi]
  rw [row_split h, ← h1, setAt_mid _ _ _ _ (by rw [hf, hf]), row_split h2, List.take_set, List.drop_set, List.set_eq_of_length_le (l := G.take i) (by rw [List.length_take]; omega)]
  simp
theorem row_ext {α : Type} {f : α → List Value} {k : Nat} (hf : ∀ x, (f x).length = k) {G : List α} {i : Nat} {x : α} (h : G[i]? = some x) : (G.flatMap f).toArray.extract (i * k) (i * k + k) = (f x).toArray := by
  obtain ⟨hl, _⟩ := List.getElem?_eq_some_iff.1 h
  have h1 : ((G.take i).flatMap f).length = i * k := by rw [row_len hf, List.length_take, Nat.min_eq_left (Nat.le_of_lt hl)]
  apply Array.ext'
  rw [List.extract_toArray, List.extract_eq_take_drop, row_split h, Nat.add_sub_cancel_left, ← h1, List.drop_left]
  have h3 := hf x
  rw [← h3, List.take_left]
/-- Four certificates, each with where its signatures lie. -/
def gcF (p : Ct × Value) : List Value := ctC p.1 p.2
def gC (G : List (Ct × Value)) : List Value := G.flatMap gcF
theorem gcF_len (p : Ct × Value) : (gcF p).length = 9 := rfl
def rqC (r : Rq) : List Value := [.int .i64 r.c, .int .i64 r.st, .int .i64 r.k, .string r.key, .float .f64 r.b, .int .i64 r.id]
def rC (l : List Rq) : List Value := l.flatMap rqC
theorem rqC_len (r : Rq) : (rqC r).length = 6 := rfl
def nilV : Value := .slice none 0 0
def z4 : List (Ct × Value) := [(ct0, nilV), (ct0, nilV), (ct0, nilV), (ct0, nilV)]
/-- The greatest certificates out of cs, slot by slot. -/
structure GOk (ep : Int) (cs : List Ct) (G : List (Ct × Value)) : Prop where
  len : G.length = 4
  all : ∀ i : Nat, i < 4 → ∃ a k, G[i]? = some ((bstOf (4 * ep + 1 + (i : Int)) cs).getD ct0, .slice a ((bstOf (4 * ep + 1 + (i : Int)) cs).getD ct0).2.2.2.length k)
theorem GOk.new (ep : Int) : GOk ep [] z4 := ⟨rfl, fun i hi => by
  match i, hi with
  | 0, _ => exact ⟨none, 0, rfl⟩
  | 1, _ => exact ⟨none, 0, rfl⟩
  | 2, _ => exact ⟨none, 0, rfl⟩
  | 3, _ => exact ⟨none, 0, rfl⟩⟩
theorem slot_ne {ep : Int} {y : Ct} {ix i : Nat} (hs : y.2.1 = 4 * ep + 1 + (ix : Int)) (h : i ≠ ix) : ¬ y.2.1 = 4 * ep + 1 + (i : Int) := by omega
theorem GOk.put {ep : Int} {cs : List Ct} {G : List (Ct × Value)} (h : GOk ep cs G) (y : Ct) (ix : Nat) (hx : ix < 4) (hs : y.2.1 = 4 * ep + 1 + (ix : Int)) (a : Option Addr) (k : Nat) (hnew : bstOf (4 * ep + 1 + (ix : Int)) (cs ++ [y]) = some y) : GOk ep (cs ++ [y]) (G.set ix (y, .slice a y.2.2.2.length k)) := by
  refine ⟨by rw [List.length_set]; exact h.len, fun i hi => ?_⟩
  by_cases e : i = ix
  · subst e
    rw [hnew]
    exact ⟨a, k, by simp [h.len, hx]⟩
  · rw [bstOf_snoc, if_neg (slot_ne hs e)]
    obtain ⟨a2, k2, h2⟩ := h.all i hi
    exact ⟨a2, k2, by rw [List.getElem?_set_ne (fun e2 => e e2.symm)]; exact h2⟩
theorem GOk.stay {ep : Int} {cs : List Ct} {G : List (Ct × Value)} (h : GOk ep cs G) (y : Ct) (ix : Nat) (hs : y.2.1 = 4 * ep + 1 + (ix : Int)) (hold : bstOf (4 * ep + 1 + (ix : Int)) (cs ++ [y]) = bstOf (4 * ep + 1 + (ix : Int)) cs) : GOk ep (cs ++ [y]) G := by
  refine ⟨h.len, fun i hi => ?_⟩
  by_cases e : i = ix
  · subst e
    rw [hold]
    exact h.all i hi
  · rw [bstOf_snoc, if_neg (slot_ne hs e)]
    exact h.all i hi
/-- How far requests go, of the first j. -/
def cntTo (G : List (Ct × Value)) : Nat → Nat
  | 0 => 0
  | j + 1 => if (G.getD j (ct0, nilV)).1.2.2.2.length = 0 then cntTo G j else j + 1
theorem cntTo_le (G : List (Ct × Value)) : ∀ j, cntTo G j ≤ j
  | 0 => Nat.le_refl _
  | j + 1 => by
    rw [cntTo]
    have := cntTo_le G j
    split <;> omega
theorem GOk.none {ep : Int} {cs : List Ct} {G : List (Ct × Value)} (h : GOk ep cs G) (hne : ∀ y ∈ cs, y.2.2.2.length ≠ 0) (i : Nat) (hi : i < 4) : (G.getD i (ct0, nilV)).1.2.2.2.length = 0 ↔ (bstOf (4 * ep + 1 + (i : Int)) cs).isSome = false := by
  obtain ⟨a, k, hg⟩ := h.all i hi
  rw [List.getD_eq_getElem?_getD, hg]
  cases hb : bstOf (4 * ep + 1 + (i : Int)) cs with
  | none => simp [ct0]
  | some y =>
    have := hne y (bstOf_mem hb).1
    simp [this]
theorem GOk.last {ep : Int} {cs : List Ct} {G : List (Ct × Value)} (h : GOk ep cs G) (hne : ∀ y ∈ cs, y.2.2.2.length ≠ 0) : cntTo G 4 = lstOf ep cs := by
  have h0 := h.none hne 0 (by omega)
  have h1 := h.none hne 1 (by omega)
  have h2 := h.none hne 2 (by omega)
  have h3 := h.none hne 3 (by omega)
  rw [show 4 * ep + 1 + ((0 : Nat) : Int) = 4 * ep + 1 by omega] at h0
  rw [show 4 * ep + 1 + ((1 : Nat) : Int) = 4 * ep + 2 by omega] at h1
  rw [show 4 * ep + 1 + ((2 : Nat) : Int) = 4 * ep + 3 by omega] at h2
  rw [show 4 * ep + 1 + ((3 : Nat) : Int) = 4 * ep + 4 by omega] at h3
  simp only [cntTo, lstOf, h0, h1, h2, h3]
  cases (bstOf (4 * ep + 4) cs).isSome <;> cases (bstOf (4 * ep + 3) cs).isSome <;> cases (bstOf (4 * ep + 2) cs).isSome <;> cases (bstOf (4 * ep + 1) cs).isSome <;> simp
theorem GOk.req {ep : Int} {cs : List Ct} {G : List (Ct × Value)} (h : GOk ep cs G) (i : Nat) (hi : i < 4) : (G.getD i (ct0, nilV)).1.2.2.1 = rqOf (bstOf (4 * ep + 1 + (i : Int)) cs) := by
  obtain ⟨a, k, hg⟩ := h.all i hi
  rw [List.getD_eq_getElem?_getD, hg]
  cases hb : bstOf (4 * ep + 1 + (i : Int)) cs with
  | none => rfl
  | some y => rfl
section
variable {o : Oper} {a : Act} {w : World} {K : Act → World → Prop} {Q : Exit → Act → World → Prop} {ops : Array Oper} {rest : List Oper}
/-- Part of an array of structs. -/
theorem wl_index_agg (hgd : o.guard = none) (t : TypeId) (x ix : Operand) (ho : o.op = .index t x ix) (cs : Array Value) (hx : a.eval x = .agg cs) (k : IntKind) (i : Int) (hix : a.eval ix = .int k i) (n : Nat) (e : TypeId) (hu : Try.prog.underlying t = some (.array n e))
    (de : TypeDesc) (hue : Try.prog.underlying e = some de) (hd : (match de with | .struct _ | .array _ _ => true | _ => false) = true) (sz : Nat) (hs : (Try.prog.info? e).map (·.size) = some sz) (h0 : 0 ≤ i) (h1 : i < n) (v : Array Value) (hv : cs.extract (i.toNat * sz) (i.toNat * sz + sz) = v)
    (h : wpList Try.prog ops Q rest (a.put o.dst (.agg v)) w) : wpList Try.prog ops Q (o :: rest) a w := by
  refine wpList_plain hgd fun _ hK => ?_
  refine owp_value (v := .agg v) (w' := w) ?_ (hK _ _ h)
  cases hq : Try.prog.info? e with
  | none => simp [hq] at hs
  | some i' =>
    simp [hq] at hs
    have ha : (isAgg e).run Try.prog w = .ok true w := by
      simp only [isAgg, Sem.run_bind, run_underlying hue, Result.andThen]
      cases de <;> simp_all
    simp [execOp, ho, Instr.index, hx, hix, asIntOf, run_underlying hu, h0, h1, sizeOf, typeInfo, hq, hs, part, ha, hv, Result.andThen]
theorem wl_load_arr (hgd : o.guard = none) (T : TypeId) (p : Operand) (ho : o.op = .load T p) (b off : Nat) (hp : a.eval p = .pointer (some ⟨b, off, none⟩)) (L : List Value) (TB : TypeId) (hL : w.heap[b]? = some (.cells L.toArray TB (0, 0))) (d : TypeDesc) (hu : Try.prog.underlying T = some d) (hd : d.isRow = true) (hi : (Try.prog.info? T).map (·.size) = some L.length)
    (h0 : off = 0) (h : wpList Try.prog ops Q rest (a.put o.dst (.agg L.toArray)) w) : wpList Try.prog ops Q (o :: rest) a w := by
  subst h0
  refine wpList_plain hgd fun K hK => ?_
  exact wp_load_mid T p ho b 0 hp L d (fun j v hv => by rw [Nat.zero_add]; exact cell_at hL j v hv) hu hd hi (hK _ _ h)
theorem wl_alloc_arr (hgd : o.guard = none) (t : TypeId) (ho : o.op = .alloc t) (z : Array Value) (n : Nat) (hz : (Try.prog.info? t).map (fun i => (i.zero, i.size)) = some (some (.agg z), n))
    (h : wpList Try.prog ops Q rest (a.put o.dst (.pointer (some ⟨w.heap.size, 0, none⟩))) (w.alloc (.cells z t))) : wpList Try.prog ops Q (o :: rest) a w := by
  refine wpList_plain hgd fun _ hK => ?_
  refine owp_value (v := .pointer (some ⟨w.heap.size, 0, none⟩)) (w' := w.alloc (.cells z t)) ?_ (hK _ _ h)
  have := (zero_of_info hz).1 w
  simp [execOp, ho, Instr.alloc, this, newVar, newRow, newObj, Value.cells, Result.andThen]
  rfl
theorem wl_box_arr (hgd : o.guard = none) (t : TypeId) (x : Operand) (ho : o.op = .box t x) (c : Array Value) (hx : a.eval x = .agg c)
    (h : wpList Try.prog ops Q rest (a.put o.dst (.pointer (some ⟨w.heap.size, 0, none⟩))) (w.alloc (.cells c t))) : wpList Try.prog ops Q (o :: rest) a w := by
  refine wpList_plain hgd fun _ hK => ?_
  refine owp_value (v := .pointer (some ⟨w.heap.size, 0, none⟩)) (w' := w.alloc (.cells c t)) ?_ (hK _ _ h)
  simp [execOp, ho, Instr.box, hx, newVar, newRow, newObj, Value.cells, Result.andThen]
  rfl
end
end Go.Proofs.Ytohhlolmojeomaa

/- A log of slots in memory: one block of 175 cells. No walk here. -/
namespace Go.Proofs.Ytohhlolmojeomaa
open Go.RowKit

/-- What is known of a slot: the proposal, who prepared, who committed (by the members' numbers, texts of requests), the certificate with where its signatures lie, what is committed. -/
structure Pl where
  pro : ByteArray
  pre : List ByteArray
  com : List ByteArray
  ct : Ct × Value
  don : ByteArray
def plC (p : Pl) : List Value := .string p.pro :: (sC p.pre ++ (sC p.com ++ (ctC p.ct.1 p.ct.2 ++ [.string p.don])))
structure PlOk (p : Pl) : Prop where
  pre : p.pre.length = 16
  com : p.com.length = 16
theorem plC_len {p : Pl} (h : PlOk p) : (plC p).length = 43 := by
  simp [plC, sC_len, h.pre, h.com, ctC]
theorem plC_pro (p : Pl) : (plC p)[0]? = some (.string p.pro) := rfl
theorem plC_pre {p : Pl} (i : Nat) (s : ByteArray) (hs : p.pre[i]? = some s) : (plC p)[1 + i]? = some (.string s) := by
  have hi : i < p.pre.length := (List.getElem?_eq_some_iff.1 hs).1
  rw [plC, Nat.add_comm, List.getElem?_cons_succ, List.getElem?_append_left (by rw [sC_len]; exact hi), sC, List.getElem?_map, hs]
  rfl
theorem plC_com {p : Pl} (h : PlOk p) (i : Nat) (s : ByteArray) (hs : p.com[i]? = some s) : (plC p)[17 + i]? = some (.string s) := by
  have hi : i < p.com.length := (List.getElem?_eq_some_iff.1 hs).1
  rw [plC, show 17 + i = 16 + i + 1 by omega, List.getElem?_cons_succ, List.getElem?_append_right (by rw [sC_len, h.pre]; omega), sC_len, h.pre, show 16 + i - 16 = i by omega, List.getElem?_append_left (by rw [sC_len]; exact hi), sC, List.getElem?_map, hs]
  rfl
theorem plC_ct {p : Pl} (h : PlOk p) (i : Nat) (v : Value) (hv : (ctC p.ct.1 p.ct.2)[i]? = some v) : (plC p)[33 + i]? = some v := by
  have hi : i < (ctC p.ct.1 p.ct.2).length := (List.getElem?_eq_some_iff.1 hv).1
  rw [plC, show 33 + i = 32 + i + 1 by omega, List.getElem?_cons_succ, List.getElem?_append_right (by rw [sC_len, h.pre]; omega), sC_len, h.pre, List.getElem?_append_right (by rw [sC_len, h.com]; omega), sC_len, h.com, show 32 + i - 16 - 16 = i by omega, List.getElem?_append_left hi]
  exact hv
theorem plC_don {p : Pl} (h : PlOk p) : (plC p)[42]? = some (.string p.don) := by
  rw [plC, show 42 = 41 + 1 by omega, List.getElem?_cons_succ, List.getElem?_append_right (by rw [sC_len, h.pre]; omega), sC_len, h.pre, List.getElem?_append_right (by rw [sC_len, h.com]; omega), sC_len, h.com]
  rfl
/-- The log's cells. -/
def lgC (ep : Int) (vm : Value) (v : Int) (ps : List Pl) : List Value := .int .i64 ep :: vm :: .int .i64 v :: ps.flatMap plC
theorem flat_at {ps : List Pl} (hps : ∀ p, p ∈ ps → PlOk p) : ∀ (i : Nat) (p : Pl) (q : Nat), ps[i]? = some p → q < 43 → (ps.flatMap plC)[i * 43 + q]? = (plC p)[q]? := by
  induction ps with
  | nil => intro i p q h; simp at h
  | cons x ps ih =>
    intro i p q h hq
    have hx := plC_len (hps x (List.mem_cons_self ..))
    cases i with
    | zero =>
      obtain rfl : x = p := by simpa using h
      rw [List.flatMap_cons, List.getElem?_append_left (by omega)]
      simp
    | succ i =>
      rw [List.flatMap_cons, List.getElem?_append_right (by omega), hx, show (i + 1) * 43 + q - 43 = i * 43 + q by omega]
      exact ih (fun y hy => hps y (List.mem_cons_of_mem _ hy)) i p q (by simpa using h) hq
theorem lgC_at {ep : Int} {vm : Value} {v : Int} {ps : List Pl} (hps : ∀ p, p ∈ ps → PlOk p) (i : Nat) (p : Pl) (q : Nat) (u : Value) (h : ps[i]? = some p) (hq : q < 43) (hu : (plC p)[q]? = some u) : (lgC ep vm v ps)[3 + i * 43 + q]? = some u := by
  rw [lgC, show 3 + i * 43 + q = i * 43 + q + 1 + 1 + 1 by omega, List.getElem?_cons_succ, List.getElem?_cons_succ, List.getElem?_cons_succ, flat_at hps i p q h hq]
  exact hu
/-- A log at block g: of this epoch, its members at vm, its view, its four places. -/
structure SlA (w : World) (g : Nat) (ep : Int) (am : Option Addr) (cm : Nat) (l : List Int) (v : Int) (ps : List Pl) : Prop where
  blk : w.heap[g]? = some (.cells (lgC ep (.slice am l.length cm) v ps).toArray 81 (0, 0))
  mem : IntsIn w am l
  four : ps.length = 4
  ok : ∀ p, p ∈ ps → PlOk p
section
variable {w w' : World} {g : Nat} {ep : Int} {am : Option Addr} {cm : Nat} {l : List Int} {v : Int} {ps : List Pl}
theorem SlA.keep (h : SlA w g ep am cm l v ps) (hb : Below w.heap.size w w') : SlA w' g ep am cm l v ps :=
  ⟨(hb.block _ (lt_of_blk h.blk)).trans h.blk, h.mem.keep hb (Nat.le_refl _), h.four, h.ok⟩
theorem SlA.c0 (h : SlA w g ep am cm l v ps) : w.cell? ⟨g, 0, none⟩ = some (.int .i64 ep) := cell_at h.blk 0 _ rfl
theorem SlA.c1 (h : SlA w g ep am cm l v ps) : w.cell? ⟨g, 1, none⟩ = some (.slice am l.length cm) := cell_at h.blk 1 _ rfl
theorem SlA.c2 (h : SlA w g ep am cm l v ps) : w.cell? ⟨g, 2, none⟩ = some (.int .i64 v) := cell_at h.blk 2 _ rfl
theorem SlA.at (h : SlA w g ep am cm l v ps) (i : Nat) (p : Pl) (q : Nat) (u : Value) (hi : ps[i]? = some p) (hq : q < 43) (hu : (plC p)[q]? = some u) : w.cell? ⟨g, 3 + i * 43 + q, none⟩ = some u := cell_at h.blk _ _ (lgC_at h.ok i p q u hi hq hu)
end
end Go.Proofs.Ytohhlolmojeomaa

/- All blocks but one as they were. -/
namespace Go.Proofs.Ytohhlolmojeomaa
open Go.RowKit

/-- All blocks but b are as they were; the streams too. -/
structure But (b : Nat) (w w' : World) : Prop where
  os : w'.os = w.os
  tape : w'.tape = w.tape
  output : w'.output = w.output
  size : w.heap.size ≤ w'.heap.size
  block : ∀ k, k < w.heap.size → k ≠ b → w'.heap[k]? = w.heap[k]?
theorem But.refl (b : Nat) (w : World) : But b w w := ⟨rfl, rfl, rfl, Nat.le_refl _, fun _ _ _ => rfl⟩
theorem But.trans {b : Nat} {x y z : World} (h : But b x y) (k : But b y z) : But b x z :=
  ⟨k.os.trans h.os, k.tape.trans h.tape, k.output.trans h.output, Nat.le_trans h.size k.size, fun i hi hb => (k.block i (Nat.lt_of_lt_of_le hi h.size) hb).trans (h.block i hi hb)⟩
theorem But.of {b : Nat} {x y : World} (h : Below x.heap.size x y) : But b x y := ⟨h.os, h.tape, h.output, h.size, fun k hk _ => h.block k hk⟩
theorem But.setCell {b : Nat} {x y : World} (h : But b x y) (o : Nat) (u : Value) : But b x (y.setCell ⟨b, o, none⟩ u) :=
  ⟨h.os, h.tape, h.output, by have := h.size; simpa [World.setCell] using this, fun i hi hb => by rw [Below.heap_setCell _ _ _ _ hb, h.block i hi hb]⟩
theorem But.below {b B : Nat} {x y : World} (h : But b x y) (hB : B ≤ x.heap.size) (hb : B ≤ b) : Below B x y := ⟨h.os, h.tape, h.output, h.size, fun k hk => h.block k (by omega) (by omega)⟩
theorem But.cell {b : Nat} {x y : World} (h : But b x y) (g o : Nat) (hg : g < x.heap.size) (hne : g ≠ b) : y.cell? ⟨g, o, none⟩ = x.cell? ⟨g, o, none⟩ := by
  simp only [World.cell?, h.block g hg hne]
theorem But.strs {b : Nat} {x y : World} {a : Option Addr} {ss : List ByteArray} (h : But b x y) (hS : StrsIn x a ss) (hne : ∀ ad, a = some ad → ad.block ≠ b) : StrsIn y a ss := by
  rcases hS with k | ⟨g, off, ha, hg, hc⟩
  · exact .inl k
  · exact .inr ⟨g, off, ha, Nat.lt_of_lt_of_le hg h.size, fun j s hs => (h.cell g _ hg (hne _ ha)).trans (hc j s hs)⟩
end Go.Proofs.Ytohhlolmojeomaa

/- A log of slots as values; its block, its certificates' signatures; stores into it. No walk here. -/
namespace Go.Proofs.Ytohhlolmojeomaa
open Go.RowKit

/-- What is known of a slot, without where it lies. -/
structure Pp where
  pro : ByteArray
  pre : List ByteArray
  com : List ByteArray
  ct : Ct
  don : ByteArray
def Pl.pp (p : Pl) : Pp := ⟨p.pro, p.pre, p.com, p.ct.1, p.don⟩
def cntS (L : List ByteArray) (t : ByteArray) : Nat := L.countP fun s => decide (s = t)
def quoOk (n : Nat) (L : List ByteArray) (t : ByteArray) : Bool := decide (quoZ (n : Int) ≤ (cntS L t : Int))
/-- The proposal is prepared. -/
def isPrep (n : Nat) (p : Pp) : Bool := decide (p.pro.size ≠ 0) && quoOk n p.pre p.pro
/-- Who stands there with this text, each with a signature. -/
def whoS (L : List ByteArray) (t x : ByteArray) (k : Nat) : List (Int × ByteArray) := ((List.range k).filter fun i : Nat => decide (L.getD i ⟨#[]⟩ = t)).map fun i : Nat => ((i : Int), x)
def certP (ep v slot : Int) (p : Pp) : Ct := (v, slot, rdR p.pro, whoS p.pre p.pro (prT ep v slot (rdR p.pro)) 16)
/-- What stays of a slot's round. -/
def setl (ep : Int) (n : Nat) (v slot : Int) (p : Pp) : Pp :=
  if isPrep n p = true then { p with
    ct := if p.ct.2.2.2.length = 0 ∨ p.ct.1 ≠ v then certP ep v slot p else p.ct
    don := if p.don.size = 0 ∧ quoOk n p.com p.pro = true then p.pro else p.don }
  else p
theorem whoS_succ (L : List ByteArray) (t x : ByteArray) (k : Nat) : whoS L t x (k + 1) = whoS L t x k ++ (if L.getD k ⟨#[]⟩ = t then [((k : Int), x)] else []) := by
  rw [whoS, List.range_succ, List.filter_append, List.map_append]
  congr 1
  by_cases h : L.getD k ⟨#[]⟩ = t
  · rw [if_pos h, List.filter_cons_of_pos (by rw [h]; exact decide_eq_true rfl)]; rfl
  · rw [if_neg h, List.filter_cons_of_neg (by rw [decide_eq_false h]; decide)]; rfl
/-- What fits one slot. -/
structure PpOk (p : Pp) : Prop where
  pre : p.pre.length = 16
  com : p.com.length = 16
  pro : p.pro.size ≤ 64
  don : p.don.size ≤ 64
theorem setl_ok {ep : Int} {n : Nat} {v slot : Int} {p : Pp} (h : PpOk p) : PpOk (setl ep n v slot p) := by
  unfold setl
  split
  · refine ⟨h.pre, h.com, h.pro, ?_⟩
    simp only
    split
    · exact h.pro
    · exact h.don
  · exact h

theorem setAt_in : ∀ (vs A B C : List Value) (q : Nat), q + vs.length ≤ B.length → setAt (A ++ (B ++ C)) (A.length + q) vs = A ++ (setAt B q vs ++ C)
  | [], A, B, C, q, h => rfl
  | v :: vs, A, B, C, q, h => by
    have hq : q < B.length := by simp at h; omega
    have h1 : (A ++ (B ++ C)).set (A.length + q) v = A ++ (B.set q v ++ C) := by
      rw [List.set_append_right _ _ (by omega), Nat.add_sub_cancel_left, List.set_append_left _ _ hq]
    rw [setAt, h1, Nat.add_assoc, setAt_in vs A (B.set q v) C (q + 1) (by rw [List.length_set]; simp at h; omega), setAt]
theorem flat_len43 {ps : List Pl} (hps : ∀ p, p ∈ ps → PlOk p) : (ps.flatMap plC).length = ps.length * 43 := by
  induction ps with
  | nil => rfl
  | cons x ps ih =>
    rw [List.flatMap_cons, List.length_append, plC_len (hps x (List.mem_cons_self ..)), ih (fun y hy => hps y (List.mem_cons_of_mem _ hy)), List.length_cons]
    omega
theorem lgC_set {ep : Int} {vm : Value} {v : Int} {ps : List Pl} (hps : ∀ p, p ∈ ps → PlOk p) (i : Nat) (p p' : Pl) (q : Nat) (vs : List Value) (h : ps[i]? = some p) (hq : q + vs.length ≤ 43) (he : setAt (plC p) q vs = plC p') : setAt (lgC ep vm v ps) (3 + i * 43 + q) vs = lgC ep vm v (ps.set i p') := by
  obtain ⟨hl, _⟩ := List.getElem?_eq_some_iff.1 h
  have h1 : ((ps.take i).flatMap plC).length = i * 43 := by
    rw [flat_len43 (fun x hx => hps x (List.mem_of_mem_take hx)), List.length_take, Nat.min_eq_left (Nat.le_of_lt hl)]
  have h2 : (ps.set i p')[i]? = some p' := by simp [hl]
  have hA : ([.int .i64 ep, vm, .int .i64 v] ++ (ps.take i).flatMap plC : List Value).length = 3 + i * 43 := by simp only [List.length_append, h1]; rfl
  rw [lgC, lgC, row_split h, row_split h2, List.take_set, List.drop_set, List.set_eq_of_length_le (l := ps.take i) (by rw [List.length_take]; omega), ← hA]
  have := setAt_in vs ([.int .i64 ep, vm, .int .i64 v] ++ (ps.take i).flatMap plC) (plC p) ((ps.drop (i + 1)).flatMap plC) q (by rw [plC_len (hps p (List.mem_of_getElem? h))]; exact hq)
  rw [he] at this
  simpa using this
theorem plC_setpro (p : Pl) (t : ByteArray) : setAt (plC p) 0 [.string t] = plC { p with pro := t } := rfl
theorem sC_setl (L : List ByteArray) (j : Nat) (t : ByteArray) : (sC L).set j (.string t) = sC (L.set j t) := by rw [sC, sC, List.map_set]
theorem plC_setpre (p : Pl) (j : Nat) (t : ByteArray) (hj : j < p.pre.length) : setAt (plC p) (1 + j) [.string t] = plC { p with pre := p.pre.set j t } := by
  show (plC p).set (1 + j) (.string t) = _
  rw [plC, plC, Nat.add_comm, List.set_cons_succ, List.set_append_left _ _ (by rw [sC_len]; exact hj), sC_setl]
theorem plC_setcom {p : Pl} (h : PlOk p) (j : Nat) (t : ByteArray) (hj : j < p.com.length) : setAt (plC p) (17 + j) [.string t] = plC { p with com := p.com.set j t } := by
  show (plC p).set (17 + j) (.string t) = _
  rw [plC, plC, show 17 + j = 16 + j + 1 by omega, List.set_cons_succ, List.set_append_right _ _ (by rw [sC_len, h.pre]; omega), sC_len, h.pre, Nat.add_sub_cancel_left, List.set_append_left _ _ (by rw [sC_len]; exact hj), sC_setl]
theorem plC_setdon {p : Pl} (h : PlOk p) (t : ByteArray) : setAt (plC p) 42 [.string t] = plC { p with don := t } := by
  show (plC p).set 42 (.string t) = _
  rw [plC, plC, show 42 = 41 + 1 by omega, List.set_cons_succ, List.set_append_right _ _ (by rw [sC_len, h.pre]; omega), sC_len, h.pre, List.set_append_right _ _ (by rw [sC_len, h.com]; omega), sC_len, h.com]
  rfl
theorem plC_setct {p : Pl} (h : PlOk p) (c : Ct) (y : Value) : setAt (plC p) 33 (ctC c y) = plC { p with ct := (c, y) } := by
  have := setAt_mid (ctC c y) (.string p.pro :: (sC p.pre ++ sC p.com)) (ctC p.ct.1 p.ct.2) [.string p.don] rfl
  have hl : (Value.string p.pro :: (sC p.pre ++ sC p.com)).length = 33 := by simp [sC_len, h.pre, h.com]
  rw [hl] at this
  have e1 : plC p = (.string p.pro :: (sC p.pre ++ sC p.com)) ++ (ctC p.ct.1 p.ct.2 ++ [.string p.don]) := by simp [plC]
  rw [e1, this]
  simp [plC]
def emL : List ByteArray := List.replicate 16 ⟨#[]⟩
theorem plC_setnow {p : Pl} (h : PlOk p) : setAt (plC p) 0 (.string ⟨#[]⟩ :: (sC emL ++ sC emL)) = plC { p with pro := ⟨#[]⟩, pre := emL, com := emL } := by
  have := setAt_mid (.string ⟨#[]⟩ :: (sC emL ++ sC emL)) [] (.string p.pro :: (sC p.pre ++ sC p.com)) (ctC p.ct.1 p.ct.2 ++ [.string p.don]) (by simp [sC_len, h.pre, h.com, emL])
  have e1 : plC p = [] ++ ((.string p.pro :: (sC p.pre ++ sC p.com)) ++ (ctC p.ct.1 p.ct.2 ++ [.string p.don])) := by simp [plC]
  rw [e1]
  refine this.trans ?_
  simp [plC]
/-- Where a certificate's signatures lie: at N or above. -/
def CtLie (w : World) (N : Nat) (p : Pl) : Prop := ∃ a k, p.ct.2 = .slice a p.ct.1.2.2.2.length k ∧ PairsIn w a p.ct.1.2.2.2 ∧ ∀ x, a = some x → N ≤ x.block
/-- A log at block g, what it knows as values; all that it made later lies at N or above. -/
structure LgM (w : World) (N g : Nat) (ep : Int) (am : Option Addr) (cm : Nat) (l : List Int) (v : Int) (ps : List Pl) : Prop where
  at_ : SlA w g ep am cm l v ps
  lt : g < N
  sz : N ≤ w.heap.size
  mem : ∀ x, am = some x → x.block ≠ g
  rd : ∀ p, p ∈ ps → CtLie w N p
theorem CtLie.but {w w' : World} {N b : Nat} {p : Pl} (h : CtLie w N p) (hb : But b w w') (hlt : b < N) : CtLie w' N p := by
  obtain ⟨a, k, e, hp, hN⟩ := h
  refine ⟨a, k, e, ?_, hN⟩
  rcases hp with h1 | ⟨g, off, ha, hg, hc⟩
  · exact .inl h1
  · exact .inr ⟨g, off, ha, Nat.lt_of_lt_of_le hg hb.size, fun j s hj => by
      have hne : g ≠ b := by have := hN _ ha; simp only at this; omega
      have h2 := hb.block g hg hne
      have := hc j s hj
      simp only [World.cell?, h2] at this ⊢
      exact this⟩
theorem But.ints {b : Nat} {x y : World} {a : Option Addr} {l : List Int} (h : But b x y) (hI : IntsIn x a l) (hne : ∀ ad, a = some ad → ad.block ≠ b) : IntsIn y a l := by
  rcases hI with k | ⟨g, off, ha, hg, hc⟩
  · exact .inl k
  · exact .inr ⟨g, off, ha, Nat.lt_of_lt_of_le hg h.size, fun j s hs => (h.cell g _ hg (hne _ ha)).trans (hc j s hs)⟩
section
variable {w w' : World} {N g : Nat} {ep : Int} {am : Option Addr} {cm : Nat} {l : List Int} {v : Int} {ps : List Pl}
theorem LgM.but (h : LgM w N g ep am cm l v ps) {b : Nat} (hb : But b w w') (hne : b ≠ g) (hlt : b < N) (hm : ∀ x, am = some x → x.block ≠ b) : LgM w' N g ep am cm l v ps :=
  ⟨⟨(hb.block g (lt_of_blk h.at_.blk) hne.symm).trans h.at_.blk, hb.ints h.at_.mem hm, h.at_.four, h.at_.ok⟩, h.lt, Nat.le_trans h.sz hb.size, h.mem, fun p hp => (h.rd p hp).but hb hlt⟩
theorem CtLie.keep {p : Pl} (h : CtLie w N p) (hb : Below w.heap.size w w') : CtLie w' N p := by
  obtain ⟨a, k, e, hp, hN⟩ := h
  exact ⟨a, k, e, hp.keep hb (Nat.le_refl _), hN⟩
theorem LgM.keep (h : LgM w N g ep am cm l v ps) (hb : Below w.heap.size w w') : LgM w' N g ep am cm l v ps :=
  ⟨h.at_.keep hb, h.lt, Nat.le_trans h.sz hb.size, h.mem, fun p hp => (h.rd p hp).keep hb⟩
/-- One slot put anew. -/
theorem LgM.put (h : LgM w N g ep am cm l v ps) (i : Nat) (p p' : Pl) (q : Nat) (vs : List Value) (hi : ps[i]? = some p) (hq : q + vs.length ≤ 43) (he : setAt (plC p) q vs = plC p') (hok : PlOk p') (hb : But g w w') (hblk : w'.heap[g]? = some (.cells (setAt (lgC ep (.slice am l.length cm) v ps) (3 + i * 43 + q) vs).toArray 81 (0, 0))) (hr : CtLie w' N p') : LgM w' N g ep am cm l v (ps.set i p') := by
  rw [lgC_set h.at_.ok i p p' q vs hi hq he] at hblk
  refine ⟨⟨hblk, hb.ints h.at_.mem h.mem, by rw [List.length_set]; exact h.at_.four, fun x hx => ?_⟩, h.lt, Nat.le_trans h.sz hb.size, h.mem, fun x hx => ?_⟩
  · rcases List.mem_or_eq_of_mem_set hx with h1 | h1
    · exact h.at_.ok x h1
    · rw [h1]; exact hok
  · rcases List.mem_or_eq_of_mem_set hx with h1 | h1
    · exact (h.rd x h1).but hb h.lt
    · rw [h1]; exact hr
theorem LgM.put1 (h : LgM w N g ep am cm l v ps) (i : Nat) (p p' : Pl) (q : Nat) (u : Value) (hi : ps[i]? = some p) (hq : q < 43) (he : setAt (plC p) q [u] = plC p') (hok : PlOk p') (hct : p'.ct = p.ct) : LgM (w.setCell ⟨g, 3 + i * 43 + q, none⟩ u) N g ep am cm l v (ps.set i p') := by
  have hb : But g w (w.setCell ⟨g, 3 + i * 43 + q, none⟩ u) := (But.refl g w).setCell _ _
  refine h.put i p p' q [u] hi (by simp; omega) he hok hb ?_ ?_
  · have := blk_set h.at_.blk (3 + i * 43 + q) u
    simpa [setAt] using this
  · obtain ⟨a, k, h1, h2, h3⟩ := (h.rd p (List.mem_of_getElem? hi)).but hb h.lt
    exact ⟨a, k, by rw [hct]; exact h1, by rw [hct]; exact h2, h3⟩
end
end Go.Proofs.Ytohhlolmojeomaa

/- How often a text stands in a row of sixteen. -/
namespace Go.Proofs.Ytohhlolmojeomaa
open Go.RowKit

section
variable {o : Oper} {a : Act} {w : World} {Q : Exit → Act → World → Prop} {ops : Array Oper} {rest : List Oper}
theorem wl_index_one (hgd : o.guard = none) (t : TypeId) (x ix : Operand) (ho : o.op = .index t x ix) (cs : Array Value) (hx : a.eval x = .agg cs) (k : IntKind) (i : Int) (hix : a.eval ix = .int k i) (n : Nat) (e : TypeId) (hu : Try.prog.underlying t = some (.array n e))
    (de : TypeDesc) (hue : Try.prog.underlying e = some de) (hd : (match de with | .struct _ | .array _ _ => true | _ => false) = false) (hs : (Try.prog.info? e).map (·.size) = some 1) (h0 : 0 ≤ i) (h1 : i < n) (v : Value) (hv : cs[i.toNat]? = some v)
    (h : wpList Try.prog ops Q rest (a.put o.dst v) w) : wpList Try.prog ops Q (o :: rest) a w := by
  refine wpList_plain hgd fun _ hK => ?_
  refine owp_value (v := v) (w' := w) ?_ (hK _ _ h)
  cases hq : Try.prog.info? e with
  | none => simp [hq] at hs
  | some i' =>
    simp [hq] at hs
    have ha : (isAgg e).run Try.prog w = .ok false w := by
      simp only [isAgg, Sem.run_bind, run_underlying hue, Result.andThen]
      cases de <;> simp_all
    simp [execOp, ho, Instr.index, hx, hix, asIntOf, run_underlying hu, h0, h1, sizeOf, typeInfo, hq, hs, part, ha, hv, Result.andThen]
end
theorem count_take (L : List ByteArray) (t s : ByteArray) (j : Nat) (h : L[j]? = some s) : (L.take (j + 1)).countP (fun x => decide (x = t)) = (L.take j).countP (fun x => decide (x = t)) + (if s = t then 1 else 0) := by
  obtain ⟨hl, he⟩ := List.getElem?_eq_some_iff.1 h
  rw [List.take_succ_eq_append_getElem hl, he, List.countP_append]
  simp [List.countP_cons]
set_option maxRecDepth 100000 in
set_option maxHeartbeats 1600000 in
theorem scount_any (L : List ByteArray) (hL : L.length = 16) (t : ByteArray) (w : World) : Calls Try.prog 61 #[.agg (sC L).toArray, .string t] w fun e w' => e = .returned (.int .i64 ((L.countP fun s => decide (s = t) : Nat) : Int)) ∧ Below w.heap.size w w' := by
  have HB : Hid ((w.alloc (.cells (sC L).toArray 74)).heap[w.heap.size]? = some (.cells (sC L).toArray 74 (0, 0)) ∧ Below w.heap.size w (w.alloc (.cells (sC L).toArray 74))) := hid ⟨heap_alloc_last w _, (Below.refl _ _).alloc (Nat.le_refl _) _⟩
  have HLs : Hid ((sC L).length = 16 ∧ L.length = 16) := hid ⟨by rw [sC_len]; exact hL, hL⟩
  clear hL
  go_enter Try.func61, Try.ntmps61
  go_wp2_with (first
    | (refine wl_box_arr rfl _ _ rfl _ rfl ?_)
    | (refine wl_load_arr rfl 74 _ rfl w.heap.size 0 rfl (sC L) 74 HB.out.1 _ Try.underlying74 rfl (by rw [HLs.out.1]; kernel_rfl) rfl ?_))
  go_loopw [5, 9] (fun c i wr => ∃ j : Nat, j ≤ 16 ∧ i = .int .i64 (j : Int) ∧ c = .int .i64 (((L.take j).countP fun s => decide (s = t) : Nat) : Int) ∧ Below w.heap.size w wr) (fun _ i _ => ((16 : Int) - intOf i).toNat)
  case atStart => exact ⟨0, by omega, rfl, rfl, HB.out.2⟩
  case round =>
    obtain ⟨j, hj, rfl, rfl, hb⟩ := hrel
    have hj0 : (0 : Int) ≤ (j : Int) := Int.natCast_nonneg _
    have hc16 : (L.take j).countP (fun s => decide (s = t)) ≤ 16 := Nat.le_trans List.countP_le_length (by rw [List.length_take]; omega)
    have HBw := hid hb
    by_cases hjn : j = 16
    · subst hjn
      rw [List.take_of_length_le (by rw [HLs.out.2]; exact Nat.le_refl _)] at hc16 ⊢
      clear hb hj
      go_wp2
      go_ret
      exact ⟨rfl, HBw.out⟩
    · have hj1 : (j : Int) < 16 := by omega
      obtain ⟨s, hs⟩ : ∃ s, L[j]? = some s := ⟨_, List.getElem?_eq_getElem (by rw [HLs.out.2]; omega)⟩
      have HTk := hid (count_take L t s j hs)
      have HCell : Hid ((sC L).toArray[((j : Nat) : Int).toNat]? = some (.string s)) := hid (by simp [sC, hs])
      have HJ := hid (And.intro hj hjn)
      generalize (L.take j).countP (fun s => decide (s = t)) = C at hc16 HTk ⊢
      have hw1 : IntKind.i64.wrap ((C : Int) + 1) = (C : Int) + 1 := wrap_small _ (by omega) (by omega)
      have hw2 : IntKind.i64.wrap ((j : Int) + 1) = (j : Int) + 1 := wrap_small _ (by omega) (by omega)
      clear hb hj hjn hs
      by_cases hst : s = t
      · have hbe : (s.toList == t.toList) = true := by rw [hst]; simp
        rw [if_pos hst] at HTk
        clear hst
        go_wp2_with (first | (refine wl_index_one rfl 74 _ _ rfl _ rfl .i64 (j : Int) rfl 16 9 Try.underlying74 _ Try.underlying9 rfl (by kernel_rfl) hj0 hj1 _ HCell.out ?_))
        go_roundw
        case rel => exact ⟨j + 1, by have := HJ.out; omega, by go_num, by rw [HTk.out]; simp, HBw.out⟩
        case measure => simp [intOf]; omega
      · have hbe : (s.toList == t.toList) = false := by
          cases e : (s.toList == t.toList) with
          | false => rfl
          | true => simp only [ByteArray.toList_eq, beq_iff_eq] at e; exact absurd (bytes_eq e) hst
        rw [if_neg hst] at HTk
        clear hst
        go_wp2_with (first | (refine wl_index_one rfl 74 _ _ rfl _ rfl .i64 (j : Int) rfl 16 9 Try.underlying74 _ Try.underlying9 rfl (by kernel_rfl) hj0 hj1 _ HCell.out ?_))
        go_roundw
        case rel => exact ⟨j + 1, by have := HJ.out; omega, by go_num, by rw [HTk.out]; simp, HBw.out⟩
        case measure => simp [intOf]; omega
end Go.Proofs.Ytohhlolmojeomaa

/- Is a log there; a slot's place. -/
namespace Go.Proofs.Ytohhlolmojeomaa
open Go.RowKit

theorem snone_nil (w : World) : Calls Try.prog 33 #[.pointer none] w fun e w' => e = .returned (.bool true) ∧ w' = w := by
  go_enter Try.func33, Try.ntmps33
  go_wp2
  go_ret
  exact ⟨rfl, rfl⟩
theorem snone_any (g : Nat) (ep : Int) (am : Option Addr) (cm : Nat) (l : List Int) (v : Int) (ps : List Pl) (w : World) (h : SlA w g ep am cm l v ps) (hl : 0 < l.length) : Calls Try.prog 33 #[.pointer (some ⟨g, 0, none⟩)] w fun e w' => e = .returned (.bool false) ∧ w' = w := by
  have c1 := h.c1
  have hb : ((l.length : Int) == 0) = false := beq_eq_false_iff_ne.2 (by omega)
  have hn : (l.length == 0) = false := beq_eq_false_iff_ne.2 (by omega)
  generalize l.length = n at c1 hb hn hl
  clear h
  go_enter Try.func33, Try.ntmps33
  go_wp2
  go_ret
  exact ⟨rfl, rfl⟩
theorem sat_nil (s : Int) (w : World) : Calls Try.prog 42 #[.pointer none, .int .i64 s] w fun e w' => e = .returned (.pointer none) ∧ w' = w := by
  go_enter Try.func42, Try.ntmps42
  go_wp2_with (go_at_call 33; go_must (refine (snone_nil _).mono ?_); rintro e w1 ⟨rfl, hw1⟩; replace hw1 := hw1.symm; subst hw1)
  go_ret
  exact ⟨rfl, rfl⟩
theorem wrap_s {x : Int} (h0 : -1000 ≤ x) (h1 : x ≤ 1000) : IntKind.i64.wrap x = x := by
  simp [IntKind.wrap, IntKind.bits, IntKind.signed]
  omega
theorem sat_no (g : Nat) (ep : Int) (am : Option Addr) (cm : Nat) (l : List Int) (v : Int) (ps : List Pl) (s : Int) (w : World) (h : SlA w g ep am cm l v ps) (hl : 0 < l.length) (he : 0 ≤ ep ∧ ep ≤ 60) (hs : s ≤ 4 * ep ∨ 4 * ep + 4 < s) : Calls Try.prog 42 #[.pointer (some ⟨g, 0, none⟩), .int .i64 s] w fun e w' => e = .returned (.pointer none) ∧ w' = w := by
  have HN := hid (snone_any g ep am cm l v ps w h hl)
  have c0 := h.c0
  have h1 : IntKind.i64.wrap (4 * ep) = 4 * ep := wrap_s (by omega) (by omega)
  have h2 : IntKind.i64.wrap (4 * ep + 4) = 4 * ep + 4 := wrap_s (by omega) (by omega)
  clear h hl he
  rcases hs with hs | hs
  · go_enter Try.func42, Try.ntmps42
    go_wp2_with (go_at_call 33; go_must (refine HN.out.mono ?_); rintro e w1 ⟨rfl, hw1⟩; replace hw1 := hw1.symm; subst hw1)
    go_ret
    exact ⟨rfl, rfl⟩
  · have h3 : ¬ s ≤ 4 * ep := by omega
    go_enter Try.func42, Try.ntmps42
    go_wp2_with (go_at_call 33; go_must (refine HN.out.mono ?_); rintro e w1 ⟨rfl, hw1⟩; replace hw1 := hw1.symm; subst hw1)
    go_ret
    exact ⟨rfl, rfl⟩
theorem sat_yes (g : Nat) (ep : Int) (am : Option Addr) (cm : Nat) (l : List Int) (v : Int) (ps : List Pl) (i : Nat) (w : World) (h : SlA w g ep am cm l v ps) (hl : 0 < l.length) (he : 0 ≤ ep ∧ ep ≤ 60) (hi : i < 4) : Calls Try.prog 42 #[.pointer (some ⟨g, 0, none⟩), .int .i64 (4 * ep + 1 + (i : Int))] w fun e w' => e = .returned (.pointer (some ⟨g, 3 + i * 43, none⟩)) ∧ w' = w := by
  have HN := hid (snone_any g ep am cm l v ps w h hl)
  have c0 := h.c0
  have h1 : IntKind.i64.wrap (4 * ep) = 4 * ep := wrap_s (by omega) (by omega)
  have h2 : IntKind.i64.wrap (4 * ep + 4) = 4 * ep + 4 := wrap_s (by omega) (by omega)
  have h3 : ¬ 4 * ep + 1 + (i : Int) ≤ 4 * ep := by omega
  have h4 : ¬ 4 * ep + 4 < 4 * ep + 1 + (i : Int) := by omega
  have h5 : IntKind.i64.wrap (4 * ep + 1 + (i : Int) - 4 * ep) = 1 + (i : Int) := (wrap_s (by omega) (by omega)).trans (by omega)
  have h6 : IntKind.i64.wrap (1 + (i : Int) - 1) = (i : Int) := (wrap_s (by omega) (by omega)).trans (by omega)
  have h7 : (i : Int) < 4 := by omega
  have h8 : (0 : Int) ≤ (i : Int) := Int.natCast_nonneg _
  clear h hl he
  go_enter Try.func42, Try.ntmps42
  go_wp2_with (go_at_call 33; go_must (refine HN.out.mono ?_); rintro e w1 ⟨rfl, hw1⟩; replace hw1 := hw1.symm; subst hw1)
  go_ret
  exact ⟨rfl, rfl⟩
end Go.Proofs.Ytohhlolmojeomaa
