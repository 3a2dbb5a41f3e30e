/- Changes: what fits, their texts, which are right, what is picked. No walk here. -/
import Derived.Test.YthoofboegchodaaKe1
import Derived.Test.YthoofboegchodaaKg1
namespace Go.Proofs.Ythoofboegchodaa
open Go.RowKit

/-- Does the change fit the epoch, whatever its signature? -/
def fiB (e : Int) (c : Cg) : Bool := inB e 0 60 && ((inB c.1 0 15 && inB c.2.1 1 15) && ctsB e c.2.2.1)
/-- All certificates fit, each of a greater slot than the one ahead: there are four at most. -/
theorem cts_few {e : Int} {l : List Ct} (h : allTo (ctAt e l) l.length = true) : l.length ≤ 4 := by
  have hs : ∀ i, i < l.length → 4 * e + (i : Int) + 1 ≤ (l.getD i ct0).2.1 := by
    intro i
    induction i with
    | zero =>
      intro hi
      have h1 := allTo_at h 0 hi
      simp only [ctAt, ctB, ofB, Bool.and_eq_true, decide_eq_true_eq] at h1
      omega
    | succ i ih =>
      intro hi
      have h1 := allTo_at h (i + 1) hi
      have h2 := ih (by omega)
      simp only [ctAt, Bool.and_eq_true, Bool.or_eq_true, decide_eq_true_eq, Nat.add_sub_cancel] at h1
      omega
  rcases Nat.lt_or_ge 4 l.length with h4 | h4
  · have h1 := hs 4 h4
    have h2 := allTo_at h 4 h4
    simp only [ctAt, ctB, ofB, Bool.and_eq_true, decide_eq_true_eq] at h2
    omega
  · exact h4
theorem cts_all (e : Int) (l : List Ct) : allTo (ctAt e l) l.length = ctsB e l := by
  rw [ctsB]
  cases h : allTo (ctAt e l) l.length with
  | false => rw [Bool.and_false]
  | true => rw [decide_eq_true (cts_few h)]; rfl
/-- What a change signs. -/
def chL (e : Int) (c : Cg) : List UInt8 := be 1 86 ++ (be 2 e.toNat ++ (be 1 c.1.toNat ++ (be 1 c.2.1.toNat ++ lsL ctL c.2.2.1)))
def chE (e : Int) (c : Cg) : Int := if fiB e c = true then (if (chL e c).length ≤ 65535 then 0 else 3) else 1
def chT (e : Int) (c : Cg) : ByteArray := if chE e c = 0 then ⟨(chL e c).toArray⟩ else ⟨#[]⟩
theorem chE_ok {e : Int} {c : Cg} (h : chE e c = 0) : fiB e c = true ∧ (chL e c).length ≤ 65535 := by
  unfold chE at h
  split at h
  · split at h
    · exact ⟨by assumption, by assumption⟩
    · cases h
  · cases h
theorem chE_no {e : Int} {c : Cg} (h : fiB e c = false) : chE e c = 1 := by rw [chE, if_neg (by rw [h]; decide)]
theorem chE_long {e : Int} {c : Cg} (h : fiB e c = true) (hl : 65535 < (chL e c).length) : chE e c = 3 := by rw [chE, if_pos h, if_neg (by omega)]
theorem chE_yes {e : Int} {c : Cg} (h : fiB e c = true) (hl : (chL e c).length ≤ 65535) : chE e c = 0 := by rw [chE, if_pos h, if_pos hl]
theorem chT_yes {e : Int} {c : Cg} (h : fiB e c = true) (hl : (chL e c).length ≤ 65535) : chT e c = ⟨(chL e c).toArray⟩ := by rw [chT, if_pos (chE_yes h hl)]
theorem chT_no {e : Int} {c : Cg} (h : chE e c ≠ 0) : chT e c = ⟨#[]⟩ := by rw [chT, if_neg h]
theorem fi_parts {e : Int} {c : Cg} (h : fiB e c = true) : inB e 0 60 = true ∧ inB c.1 0 15 = true ∧ inB c.2.1 1 15 = true ∧ ctsB e c.2.2.1 = true := by
  simp only [fiB, Bool.and_eq_true] at h
  exact ⟨h.1, h.2.1.1, h.2.1.2, h.2.2⟩
theorem inB_iff {n a b : Int} (h : inB n a b = true) : a ≤ n ∧ n ≤ b := by
  simp only [inB, Bool.and_eq_true, decide_eq_true_eq] at h
  exact h
theorem cts_parts {e : Int} {l : List Ct} (h : ctsB e l = true) : l.length ≤ 4 ∧ (∀ i, i < l.length → ctB e (l.getD i ct0) = true) ∧ ∀ i, 0 < i → i < l.length → (l.getD (i - 1) ct0).2.1 < (l.getD i ct0).2.1 := by
  simp only [ctsB, Bool.and_eq_true, decide_eq_true_eq] at h
  refine ⟨h.1, fun i hi => ?_, fun i h0 hi => ?_⟩
  · have := allTo_at h.2 i hi
    simp only [ctAt, Bool.and_eq_true] at this
    exact this.1
  · have := allTo_at h.2 i hi
    simp only [ctAt, Bool.and_eq_true, Bool.or_eq_true, decide_eq_true_eq] at this
    omega
theorem cts_mem {e : Int} {l : List Ct} (h : ctsB e l = true) {x : Ct} (hx : x ∈ l) : ctB e x = true := by
  obtain ⟨i, hi, rfl⟩ := getD_mem (d := ct0) hx
  exact (cts_parts h).2.1 i hi
theorem ct_parts {e : Int} {c : Ct} (h : ctB e c = true) : inB c.1 0 15 = true ∧ (4 * e < c.2.1 ∧ c.2.1 ≤ 4 * (e + 1)) ∧ askB c.2.2.1 = true ∧ sigsB c.2.2.2 = true := by
  simp only [ctB, ofB, Bool.and_eq_true, decide_eq_true_eq] at h
  exact ⟨h.1.1, h.1.2, h.2.1, h.2.2⟩
/-- Of its certificates, one by one, the first error. -/
def ceE (ep : Int) (l : List Int) (v : Int) : List Ct → Int
  | [] => 0
  | y :: ys => if v ≤ y.1 then 13 else if provesB ep l (prT ep y.1 y.2.1 y.2.2.1) y.2.2.2 = true then ceE ep l v ys else 15
theorem ceE_step (ep : Int) (l : List Int) (v : Int) : ∀ (ys : List Ct) (j : Nat), ceE ep l v (ys.take j) = 0 → j < ys.length → ceE ep l v (ys.take (j + 1)) = (if v ≤ (ys.getD j ct0).1 then 13 else if provesB ep l (prT ep (ys.getD j ct0).1 (ys.getD j ct0).2.1 (ys.getD j ct0).2.2.1) (ys.getD j ct0).2.2.2 = true then 0 else 15) ∧ (ceE ep l v (ys.take (j + 1)) ≠ 0 → ceE ep l v ys = ceE ep l v (ys.take (j + 1)))
  | [], j, _, hj => by simp at hj
  | y :: ys, 0, h, hj => by
    refine ⟨by simp [ceE], fun hn => ?_⟩
    simp only [List.take_succ_cons, List.take_zero, ceE] at hn ⊢
    split
    · rfl
    · split
      · rename_i h1 h2
        rw [if_neg h1, if_pos h2] at hn
        exact absurd rfl hn
      · rfl
  | y :: ys, j + 1, h, hj => by
    simp only [List.take_succ_cons, ceE] at h ⊢
    split at h
    · cases h
    · split at h
      · rename_i h1 h2
        obtain ⟨k1, k2⟩ := ceE_step ep l v ys j h (by simpa using hj)
        refine ⟨by rw [if_neg h1, if_pos h2]; simpa using k1, fun hn => ?_⟩
        rw [if_neg h1, if_pos h2] at hn
        rw [if_neg h1, if_pos h2, if_neg h1, if_pos h2]
        exact k2 hn
      · cases h
/-- Which changes are right, or the first error. -/
def riE (ep : Int) (l : List Int) (x : Cg) : Int :=
  if rightC ep l = true then (if chE ep x = 0 then (if hasM l x.1 = true then (if ceE ep l x.2.1 x.2.2.1 = 0 then (if x.2.2.2 = (x.1, chT ep x) then 0 else 16) else ceE ep l x.2.1 x.2.2.1) else 8) else chE ep x) else 1
/-- The certificate of the greatest view of a slot. -/
def bst (slot : Int) : List Ct → Option Ct → Option Ct
  | [], o => o
  | y :: ys, o => bst slot ys (if y.2.1 = slot then (match o with | none => some y | some z => if z.1 < y.1 then some y else some z) else o)
def bstOf (slot : Int) (cs : List Ct) : Option Ct := bst slot cs none
def allC (l : List Cg) : List Ct := l.flatMap (·.2.2.1)
theorem bst_app (slot : Int) : ∀ (a b : List Ct) (o : Option Ct), bst slot (a ++ b) o = bst slot b (bst slot a o)
  | [], _, _ => rfl
  | y :: a, b, o => by simp only [List.cons_append, bst]; exact bst_app slot a b _
theorem bstOf_snoc (slot : Int) (a : List Ct) (y : Ct) : bstOf slot (a ++ [y]) = if y.2.1 = slot then (match bstOf slot a with | none => some y | some z => if z.1 < y.1 then some y else some z) else bstOf slot a := by
  rw [bstOf, bst_app]; rfl
theorem bst_mem (slot : Int) : ∀ (cs : List Ct) (o : Option Ct) (y : Ct), bst slot cs o = some y → (y ∈ cs ∧ y.2.1 = slot) ∨ o = some y
  | [], o, y, h => .inr h
  | x :: cs, o, y, h => by
    rcases bst_mem slot cs _ y h with h1 | h1
    · exact .inl ⟨List.mem_cons_of_mem _ h1.1, h1.2⟩
    · split at h1
      · rename_i hs
        cases o with
        | none => cases h1; exact .inl ⟨List.mem_cons_self .., hs⟩
        | some z =>
          simp only at h1
          split at h1
          · cases h1; exact .inl ⟨List.mem_cons_self .., hs⟩
          · exact .inr h1
      · exact .inr h1
theorem bstOf_mem {slot : Int} {cs : List Ct} {y : Ct} (h : bstOf slot cs = some y) : y ∈ cs ∧ y.2.1 = slot := by
  rcases bst_mem slot cs none y h with h | h
  · exact h
  · cases h
/-- How many slots are picked. -/
def lstOf (ep : Int) (cs : List Ct) : Nat :=
  if (bstOf (4 * ep + 4) cs).isSome then 4 else if (bstOf (4 * ep + 3) cs).isSome then 3 else if (bstOf (4 * ep + 2) cs).isSome then 2 else if (bstOf (4 * ep + 1) cs).isSome then 1 else 0
def rqOf (o : Option Ct) : Rq := match o with | none => zeroQ | some y => y.2.2.1
/-- What is picked, as it came. -/
def pkL (ep : Int) (cs : List Ct) : List Rq := (List.range (lstOf ep cs)).map fun (i : Nat) => rqOf (bstOf (4 * ep + 1 + (i : Int)) cs)
/-- All of one view. -/
def vwB (v : Int) (l : List Cg) : Bool := inB v 1 15 && l.all fun x => decide (x.2.1 = v)
def riA (ep : Int) (m : List Int) : List Cg → Int
  | [] => 0
  | x :: l => if riE ep m x = 0 then riA ep m l else riE ep m x
theorem riA_step (ep : Int) (m : List Int) : ∀ (l : List Cg) (j : Nat), riA ep m (l.take j) = 0 → j < l.length → riA ep m (l.take (j + 1)) = riE ep m (l.getD j cg0) ∧ (riE ep m (l.getD j cg0) ≠ 0 → riA ep m l = riE ep m (l.getD j cg0))
  | [], j, _, hj => by simp at hj
  | x :: l, 0, h, hj => by
    simp only [List.take_succ_cons, List.take_zero, riA, List.getD_cons_zero]
    refine ⟨?_, fun hn => if_neg hn⟩
    split
    · rename_i h1; exact h1.symm
    · rfl
  | x :: l, j + 1, h, hj => by
    simp only [List.take_succ_cons, riA, List.getD_cons_succ] at h ⊢
    split at h
    · rename_i h1
      obtain ⟨k1, k2⟩ := riA_step ep m l j h (by simpa using hj)
      rw [if_pos h1, if_pos h1]
      exact ⟨k1, k2⟩
    · rename_i h1; exact absurd h h1
/-- Of rising members. -/
def rsgB (l : List Cg) : Bool := allTo (fun i => decide (i = 0) || decide ((l.getD (i - 1) cg0).1 < (l.getD i cg0).1)) l.length
def rfE (ep : Int) (m : List Int) (v : Int) (l : List Cg) : Int :=
  if rightC ep m = true then (if vwB v l = true then (if riA ep m l = 0 then (if rsgB l = true then (if quoZ (m.length : Int) ≤ (l.length : Int) then 0 else 15) else 17) else riA ep m l) else 13) else 1
theorem riA_mem {ep : Int} {m : List Int} : ∀ {l : List Cg}, riA ep m l = 0 → ∀ x ∈ l, riE ep m x = 0
  | [], _, x, hx => by simp at hx
  | y :: l, h, x, hx => by
    simp only [riA] at h
    split at h
    · rename_i h1
      rcases List.mem_cons.1 hx with rfl | hx
      · exact h1
      · exact riA_mem h x hx
    · rename_i h1; exact absurd h h1
theorem rfE_ok {ep : Int} {m : List Int} {v : Int} {l : List Cg} (h : rfE ep m v l = 0) : rightC ep m = true ∧ vwB v l = true ∧ riA ep m l = 0 ∧ rsgB l = true ∧ quoZ (m.length : Int) ≤ (l.length : Int) := by
  unfold rfE at h
  repeat' split at h
  all_goals first | cases h | skip
  · exact ⟨by assumption, by assumption, by assumption, by assumption, by assumption⟩
  · rename_i h3; exact absurd h h3
theorem riE_ok {ep : Int} {m : List Int} {x : Cg} (h : riE ep m x = 0) : rightC ep m = true ∧ chE ep x = 0 ∧ hasM m x.1 = true ∧ ceE ep m x.2.1 x.2.2.1 = 0 ∧ x.2.2.2 = (x.1, chT ep x) := by
  unfold riE at h
  repeat' split at h
  all_goals first | cases h | skip
  · exact ⟨by assumption, by assumption, by assumption, by assumption, by assumption⟩
  · rename_i h3; exact absurd h h3
  · rename_i h3; exact absurd h h3
theorem ceE_mem {ep : Int} {m : List Int} {v : Int} : ∀ {ys : List Ct}, ceE ep m v ys = 0 → ∀ y ∈ ys, y.1 < v ∧ provesB ep m (prT ep y.1 y.2.1 y.2.2.1) y.2.2.2 = true
  | [], _, y, hy => by simp at hy
  | z :: ys, h, y, hy => by
    simp only [ceE] at h
    split at h
    · cases h
    · split at h
      · rename_i h1 h2
        rcases List.mem_cons.1 hy with rfl | hy
        · exact ⟨by omega, h2⟩
        · exact ceE_mem h y hy
      · cases h
end Go.Proofs.Ythoofboegchodaa
