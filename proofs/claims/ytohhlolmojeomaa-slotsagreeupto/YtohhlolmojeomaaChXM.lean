/- What a quorum committed is picked again, as a matter of lists. No walk here. -/
import Derived.Test.YtohhlolmojeomaaKh1
import Derived.Test.YtohhlolmojeomaaKb1
namespace Go.Proofs.Ytohhlolmojeomaa
open Go.RowKit

section
variable {ep : Int} {m : List Int} {bad : List Int} {V : Int} {r : Rq} {q : Nat} {lies : List Ct}
/-- A certificate of the first q members. -/
def mkC (ep : Int) (m : List Int) (q : Nat) (v : Int) (r : Rq) : Ct := (v, 4 * ep + 2, r, (m.take q).map fun x => (x, prT ep v (4 * ep + 2) r))
/-- What bad ones tell. -/
def lieC (ep : Int) (m : List Int) (q : Nat) (V : Int) (lies : List Ct) : List Ct := match lies with | [] => [] | z :: _ => if 0 ≤ z.1 ∧ z.1 < V then [mkC ep m q z.1 z.2.2.1] else []
def tellC (ep : Int) (m bad : List Int) (V : Int) (r : Rq) (q : Nat) (lies : List Ct) (i : Nat) : List Ct := if hasM bad (m.getD i 0) = true then lieC ep m q V lies else if i < q then [mkC ep m q V r] else []
def chgC (ep : Int) (m bad : List Int) (V : Int) (r : Rq) (q : Nat) (lies : List Ct) (i : Nat) : Cg := (m.getD i 0, V + 1, tellC ep m bad V r q lies i, (m.getD i 0, chT ep (m.getD i 0, V + 1, tellC ep m bad V r q lies i, sg0)))
theorem quo_facts (n : Nat) (h : 4 ≤ n ∧ n ≤ 10) : ∃ q f : Nat, quoZ (n : Int) = (q : Int) ∧ fltZ (n : Int) = (f : Int) ∧ q ≤ n ∧ n + f < 2 * q ∧ 3 ≤ q := by
  have h1 : ¬ ((n : Int) < 1) := by omega
  rw [quoZ_hi h1, fltZ_hi h1]
  refine ⟨(((n : Int) + ((n : Int) - 1) / 3) / 2 + 1).toNat, (((n : Int) - 1) / 3).toNat, ?_, ?_, ?_, ?_, ?_⟩ <;> omega
theorem countP_or_le {α : Type} (p s : α → Bool) : ∀ l : List α, l.countP (fun x => p x || s x) ≤ l.countP p + l.countP s
  | [] => by simp
  | x :: l => by
    have := countP_or_le p s l
    simp only [List.countP_cons]
    cases p x <;> cases s x <;> simp <;> omega
theorem count_ge (q : Nat) : ∀ n : Nat, (List.range n).countP (fun i => decide (q ≤ i)) ≤ n - q
  | 0 => by simp
  | n + 1 => by
    have := count_ge q n
    rw [List.range_succ, List.countP_append]
    simp only [List.countP_cons, List.countP_nil]
    by_cases h : q ≤ n
    · simp [h]; omega
    · simp [h]; omega
theorem range_bad (bad m : List Int) : (List.range m.length).countP (fun i => hasM bad (m.getD i 0)) = m.countP (fun x => hasM bad x) := by
  have h : (List.range m.length).map (fun i => m.getD i 0) = m := by
    apply List.ext_getElem
    · simp
    · intro i h1 h2
      simp at h1
      simp [List.getD, h1]
  conv => rhs; rw [← h, List.countP_map]
  rfl
/-- Among a quorum of told ones stands an honest one of the first q. -/
theorem honest_told {f : Nat} {T : List Nat} (hT : T.Sublist (List.range m.length)) (hq : q ≤ T.length) (hqm : q ≤ m.length) (hb : m.countP (fun x => hasM bad x) ≤ f) (hm : m.length + f < 2 * q) : ∃ i ∈ T, i < q ∧ hasM bad (m.getD i 0) = false := by
  by_cases h : ∃ i ∈ T, i < q ∧ hasM bad (m.getD i 0) = false
  · exact h
  · exfalso
    have hall : T.countP (fun i => decide (q ≤ i) || hasM bad (m.getD i 0)) = T.length := by
      rw [List.countP_eq_length]
      intro i hi
      by_cases h1 : q ≤ i
      · simp [h1]
      · cases h2 : hasM bad (m.getD i 0) with
        | true => simp
        | false => exact absurd ⟨i, hi, by omega, h2⟩ h
    have h1 := hT.countP_le (p := fun i => decide (q ≤ i) || hasM bad (m.getD i 0))
    have h2 := countP_or_le (fun i => decide (q ≤ i)) (fun i => hasM bad (m.getD i 0)) (List.range m.length)
    have h3 := count_ge q m.length
    rw [range_bad] at h2
    omega
theorem len_rqT (r : Rq) : (rqT r).size ≤ 40 := by
  unfold rqT
  split
  · decide
  · split
    · rename_i h1 h2
      have h3 := (right_fields h2).2.2.2.1
      show (rqL r).length ≤ 40
      rw [rqL]
      simp only [List.length_append, be_len, Array.length_toList]
      have : r.key.data.size = r.key.size := rfl
      omega
    · decide
theorem len_prT (r : Rq) (v s : Int) : (prT ep v s r).size ≤ 60 := by
  have hr := len_rqT r
  unfold prT
  split
  · split
    · show (prL ep v s ++ (rqT r).data.toList).length ≤ 60
      rw [prL]
      simp only [List.length_append, be_len, Array.length_toList]
      have : (rqT r).data.size = (rqT r).size := rfl
      omega
    · decide
  · decide
theorem len_flat {α β : Type} (f : α → List β) (b : Nat) : ∀ l : List α, (∀ x, x ∈ l → (f x).length ≤ b) → (l.flatMap f).length ≤ l.length * b
  | [], _ => by simp
  | x :: l, h => by
    have h1 := h x (List.mem_cons_self ..)
    have h2 := len_flat f b l (fun y hy => h y (List.mem_cons_of_mem _ hy))
    rw [List.flatMap_cons, List.length_append, List.length_cons, Nat.succ_mul]
    omega
theorem len_txL (t : ByteArray) : (txL t).length = 2 + t.size := by
  rw [txL]
  simp only [List.length_append, be_len, Array.length_toList]
  rfl
theorem len_ct (v : Int) (r : Rq) (hm : m.length ≤ 10) : (ctL (mkC ep m q v r)).length ≤ 700 := by
  have h1 := len_rqT r
  have h2 := len_flat sigL 63 ((m.take q).map fun x => (x, prT ep v (4 * ep + 2) r)) (fun x hx => by
    obtain ⟨y, _, rfl⟩ := List.mem_map.1 hx
    rw [sigL, List.length_append, be_len, len_txL]
    have := len_prT (ep := ep) r v (4 * ep + 2)
    simp only
    omega)
  have h3 : ((m.take q).map fun x => (x, prT ep v (4 * ep + 2) r)).length ≤ 10 := by rw [List.length_map, List.length_take]; omega
  rw [ctL, mkC]
  simp only [rqX, sgsL, lsL, List.length_append, be_len, len_txL]
  have h4 := Nat.mul_le_mul_right 63 h3
  omega
theorem ct_fits (v : Int) (r : Rq) (hv : 0 ≤ v ∧ v ≤ 15) (hm : m.length ≤ 10) (hi : ∀ x, x ∈ m → 0 ≤ x ∧ x < 16) : ctB ep (mkC ep m q v r) = askB r := by
  have h1 : sigsB (mkC ep m q v r).2.2.2 = true := by
    have hl : ((m.take q).map fun x => (x, prT ep v (4 * ep + 2) r)).length ≤ 10 := by rw [List.length_map, List.length_take]; omega
    show (decide (((m.take q).map fun x => (x, prT ep v (4 * ep + 2) r)).length ≤ 16) && allTo (fun i => sigB (((m.take q).map fun x => (x, prT ep v (4 * ep + 2) r)).getD i sg0)) ((m.take q).map fun x => (x, prT ep v (4 * ep + 2) r)).length) = true
    rw [decide_eq_true (Nat.le_trans hl (by decide)), Bool.true_and]
    refine allTo_of (fun i hil => ?_)
    have hmem := List.getElem_mem hil
    obtain ⟨y, hy, e⟩ := List.mem_map.1 hmem
    have hy2 := hi y (List.mem_of_mem_take hy)
    rw [List.getD_eq_getElem?_getD, List.getElem?_eq_getElem hil, Option.getD_some, ← e, sigB, inB]
    simp
    omega
  have h2 : inB (mkC ep m q v r).1 0 15 = true := by simp [inB, mkC]; omega
  have h3 : ofB ep (mkC ep m q v r).2.1 = true := by simp [ofB, mkC]; omega
  rw [ctB, h1, h2, h3, Bool.true_and, Bool.true_and, Bool.and_true]
  rfl
/-- Does a change of at most one such certificate fit? -/
theorem che_nil (f : Int) (s : Sg) (he : 0 ≤ ep ∧ ep ≤ 60) (hf : 0 ≤ f ∧ f < 16) (hV : 0 ≤ V ∧ V < 15) : chE ep (f, V + 1, [], s) = 0 := by
  refine chE_yes ?_ ?_
  · simp [fiB, inB, ctsB, allTo]; omega
  · rw [chL]; simp [lsL, be_len]
theorem che_one (f v : Int) (r : Rq) (s : Sg) (he : 0 ≤ ep ∧ ep ≤ 60) (hf : 0 ≤ f ∧ f < 16) (hV : 0 ≤ V ∧ V < 15) (hv : 0 ≤ v ∧ v ≤ 15) (hm : m.length ≤ 10) (hi : ∀ x, x ∈ m → 0 ≤ x ∧ x < 16) : chE ep (f, V + 1, [mkC ep m q v r], s) = if askB r = true then 0 else 1 := by
  have hc := ct_fits (q := q) (ep := ep) v r hv hm hi
  have hts : ctsB ep [mkC ep m q v r] = askB r := by
    rw [← hc]
    simp [ctsB, allTo, ctAt]
  have hfi : fiB ep (f, V + 1, [mkC ep m q v r], s) = askB r := by
    rw [fiB, hts]
    have h1 : inB ep 0 60 = true := by simp [inB]; omega
    have h2 : inB f 0 15 = true := by simp [inB]; omega
    have h3 : inB (V + 1) 1 15 = true := by simp [inB]; omega
    rw [h1]
    show (true && (inB f 0 15 && inB (V + 1) 1 15 && askB r)) = askB r
    rw [h2, h3]
    rfl
  cases ha : askB r with
  | true =>
    rw [if_pos rfl]
    refine chE_yes (by rw [hfi, ha]) ?_
    have := len_ct (q := q) (ep := ep) v r hm
    rw [chL]
    simp only [lsL, List.flatMap_cons, List.flatMap_nil, List.length_append, be_len, List.length_nil]
    omega
  | false =>
    rw [if_neg (by decide)]
    exact chE_no (by rw [hfi, ha])
theorem ok_allX (l : List Int) (t : ByteArray) (ss : List (Int × ByteArray)) : ∀ n, (∀ i, i < n → okT l t ss i = true) → okTTo l t ss n = true
  | 0, _ => rfl
  | n + 1, h => by rw [okTTo_succ, ok_allX l t ss n (fun i hi => h i (by omega)), h n (by omega)]; rfl
theorem map_idX (t : ByteArray) (l : List Int) (i : Nat) (hi : i < l.length) : idOf (l.map fun x => (x, t)) i = l[i] ∧ rtOf (l.map fun x => (x, t)) i = t := by
  simp [idOf, rtOf, List.getD, hi]
theorem proves_ofX {l : List Int} (hr : rightC ep l = true) (t : ByteArray) (m : List Int) (hm : Inc m) (hs : ∀ x, x ∈ m → x ∈ l) (hq : quoZ (l.length : Int) ≤ (m.length : Int)) (h16 : m.length ≤ 16) : provesB ep l t (m.map fun x => (x, t)) = true := by
  rw [provesB, hr, List.length_map, decide_eq_true hq, decide_eq_true h16, ok_allX]
  · rfl
  · intro i hi
    obtain ⟨h1, h2⟩ := map_idX t m i hi
    rw [okT, h1, h2, decide_eq_true rfl, Bool.true_and, show hasM l m[i] = true from decide_eq_true (hs _ (List.getElem_mem hi)), Bool.true_and]
    by_cases h0 : i = 0
    · rw [decide_eq_true h0]; rfl
    · obtain ⟨h3, _⟩ := map_idX t m (i - 1) (by omega)
      rw [decide_eq_false h0, h3, Bool.false_or]
      refine decide_eq_true ?_
      exact List.pairwise_iff_getElem.1 hm (i - 1) i (by omega) hi (by omega)
theorem mk_proves (hr : rightC ep m = true) (hq : quoZ (m.length : Int) = (q : Int)) (hqm : q ≤ m.length) (v : Int) (r : Rq) : provesB ep m (prT ep v (4 * ep + 2) r) (mkC ep m q v r).2.2.2 = true := by
  have hl := mem_len (rightC_ep hr).2
  have ht : (m.take q).length = q := by rw [List.length_take]; omega
  exact proves_ofX hr _ (m.take q) ((mem_inc (rightC_ep hr).2).sublist (List.take_sublist _ _)) (fun x hx => List.mem_of_mem_take hx) (by rw [hq, ht]; exact Int.le_refl _) (by omega)
theorem riE_yes {x : Cg} (h1 : rightC ep m = true) (h2 : chE ep x = 0) (h3 : hasM m x.1 = true) (h4 : ceE ep m x.2.1 x.2.2.1 = 0) (h5 : x.2.2.2 = (x.1, chT ep x)) : riE ep m x = 0 := by
  rw [riE, if_pos h1, if_pos h2, if_pos h3, if_pos h4, if_pos h5]
/-- Every change that is told is right, or it is a lie that does not fit. -/
theorem chg_right (hr : rightC ep m = true) (hq : quoZ (m.length : Int) = (q : Int)) (hqm : q ≤ m.length) (hV : 0 ≤ V ∧ V < 15) (hR : rightB r = true) (i : Nat) (hi : i < m.length) : riE ep m (chgC ep m bad V r q lies i) = 0 ∨ (riE ep m (chgC ep m bad V r q lies i) = 1 ∧ lies ≠ []) := by
  have hl := mem_len (rightC_ep hr).2
  have hin := mem_in (rightC_ep hr).2
  have hep := (rightC_ep hr).1
  have hmem : m.getD i 0 ∈ m := by rw [List.getD_eq_getElem?_getD, List.getElem?_eq_getElem hi, Option.getD_some]; exact List.getElem_mem hi
  have hf := hin _ hmem
  have hhas : hasM m (m.getD i 0) = true := decide_eq_true hmem
  obtain ⟨f, ef⟩ : ∃ f, f = m.getD i 0 := ⟨_, rfl⟩
  rw [← ef] at hf hhas hmem
  have key : ∀ cs : List Ct, (cs = [] ∨ ∃ v r', cs = [mkC ep m q v r'] ∧ (0 ≤ v ∧ v ≤ V) ∧ (askB r' = true ∨ lies ≠ [])) → riE ep m (f, V + 1, cs, (f, chT ep (f, V + 1, cs, sg0))) = 0 ∨ (riE ep m (f, V + 1, cs, (f, chT ep (f, V + 1, cs, sg0))) = 1 ∧ lies ≠ []) := by
    intro cs hcs
    rcases hcs with rfl | ⟨v, r', rfl, hv, ha⟩
    · left
      exact riE_yes hr (che_nil f _ hep hf hV) hhas rfl rfl
    · have hc := che_one (ep := ep) (m := m) (q := q) (V := V) f v r' (f, chT ep (f, V + 1, [mkC ep m q v r'], sg0)) hep hf hV ⟨hv.1, by omega⟩ hl.2 hin
      have hce : ceE ep m (V + 1) [mkC ep m q v r'] = 0 := by
        rw [ceE, if_neg (by show ¬ (V + 1 ≤ v); omega), if_pos (show provesB ep m (prT ep (mkC ep m q v r').1 (mkC ep m q v r').2.1 (mkC ep m q v r').2.2.1) (mkC ep m q v r').2.2.2 = true from mk_proves hr hq hqm v r')]
        rfl
      by_cases hb : askB r' = true
      · left
        rw [if_pos hb] at hc
        exact riE_yes hr hc hhas hce rfl
      · right
        rw [if_neg hb] at hc
        refine ⟨?_, ha.resolve_left hb⟩
        rw [riE, if_pos hr, if_neg (by rw [hc]; decide), hc]
  unfold chgC
  rw [← ef]
  refine key _ ?_
  unfold tellC
  split
  · unfold lieC
    cases lies with
    | nil => exact .inl rfl
    | cons z zs =>
      simp only
      split
      · rename_i h1
        exact .inr ⟨z.1, z.2.2.1, rfl, ⟨h1.1, by omega⟩, .inr (by simp)⟩
      · exact .inl rfl
  · split
    · exact .inr ⟨V, r, rfl, ⟨hV.1, Int.le_refl _⟩, .inl (by rw [askB, hR]; rfl)⟩
    · exact .inl rfl
theorem chg_all (hr : rightC ep m = true) (hq : quoZ (m.length : Int) = (q : Int)) (hqm : q ≤ m.length) (hV : 0 ≤ V ∧ V < 15) (hR : rightB r = true) : ∀ T : List Nat, (∀ i ∈ T, i < m.length) → riA ep m (T.map (chgC ep m bad V r q lies)) = 0 ∨ (riA ep m (T.map (chgC ep m bad V r q lies)) = 1 ∧ lies ≠ [])
  | [], _ => .inl rfl
  | i :: T, h => by
    have h1 := chg_right (bad := bad) (lies := lies) hr hq hqm hV hR i (h i (List.mem_cons_self ..))
    have h2 := chg_all hr hq hqm hV hR T (fun j hj => h j (List.mem_cons_of_mem _ hj))
    simp only [List.map_cons, riA]
    rcases h1 with h1 | ⟨h1, h3⟩
    · rw [if_pos h1]; exact h2
    · rw [if_neg (by rw [h1]; decide), h1]; exact .inr ⟨rfl, h3⟩
/-- The certificate of the greatest view. -/
theorem bst_top (slot : Int) (o : Ct) (ho : o.2.1 = slot) : ∀ (cs : List Ct) (a : Option Ct), (∀ y ∈ cs, y.2.1 = slot ∧ (y = o ∨ y.1 < o.1)) → (a = none ∨ ∃ z, a = some z ∧ (z = o ∨ z.1 < o.1)) → (o ∈ cs ∨ a = some o) → bst slot cs a = some o
  | [], a, _, _, h => by
    rcases h with h | h
    · cases h
    · exact h
  | y :: cs, a, hc, ha, h => by
    have hy := hc y (List.mem_cons_self ..)
    have hcs : ∀ z ∈ cs, z.2.1 = slot ∧ (z = o ∨ z.1 < o.1) := fun z hz => hc z (List.mem_cons_of_mem _ hz)
    unfold bst
    rw [if_pos hy.1]
    rcases ha with rfl | ⟨z, rfl, hz⟩
    · refine bst_top slot o ho cs _ hcs (.inr ⟨y, rfl, hy.2⟩) ?_
      rcases h with h | h
      · rcases List.mem_cons.1 h with rfl | h
        · exact .inr rfl
        · exact .inl h
      · cases h
    · simp only
      by_cases hlt : z.1 < y.1
      · rw [if_pos hlt]
        refine bst_top slot o ho cs _ hcs (.inr ⟨y, rfl, hy.2⟩) ?_
        rcases h with h | h
        · rcases List.mem_cons.1 h with rfl | h
          · exact .inr rfl
          · exact .inl h
        · cases h
          rcases hy.2 with rfl | hy2
          · omega
          · omega
      · rw [if_neg hlt]
        refine bst_top slot o ho cs _ hcs (.inr ⟨z, rfl, hz⟩) ?_
        rcases h with h | h
        · rcases List.mem_cons.1 h with rfl | h
          · rcases hz with rfl | hz2
            · exact .inr rfl
            · exact absurd hz2 hlt
          · exact .inl h
        · exact .inr h
theorem bst_none (slot s2 : Int) (hne : s2 ≠ slot) : ∀ (cs : List Ct), (∀ y ∈ cs, y.2.1 = slot) → bst s2 cs none = none
  | [], _ => rfl
  | y :: cs, h => by
    unfold bst
    rw [if_neg (by rw [h y (List.mem_cons_self ..)]; exact fun e => hne e.symm)]
    exact bst_none slot s2 hne cs (fun z hz => h z (List.mem_cons_of_mem _ hz))
theorem tell_ct {i : Nat} {y : Ct} (h : y ∈ tellC ep m bad V r q lies i) : y.2.1 = 4 * ep + 2 ∧ (y = mkC ep m q V r ∨ y.1 < (mkC ep m q V r).1) := by
  unfold tellC at h
  split at h
  · unfold lieC at h
    cases lies with
    | nil => cases h
    | cons z zs =>
      simp only at h
      split at h
      · rename_i h1
        rw [List.mem_singleton.1 h]
        exact ⟨rfl, .inr h1.2⟩
      · cases h
  · split at h
    · rw [List.mem_singleton.1 h]; exact ⟨rfl, .inl rfl⟩
    · cases h
theorem rise_at (hm : Inc m) {T : List Nat} (hT : T.Sublist (List.range m.length)) : rsgB (T.map (chgC ep m bad V r q lies)) = true := by
  have hp : T.Pairwise (· < ·) := List.Pairwise.sublist hT List.pairwise_lt_range
  have hlt : ∀ i ∈ T, i < m.length := fun i hi => List.mem_range.1 (hT.subset hi)
  refine allTo_of (fun i hi => ?_)
  rw [List.length_map] at hi
  by_cases h0 : i = 0
  · rw [decide_eq_true h0]; rfl
  · have h1 : i - 1 < T.length := by omega
    have hj := List.pairwise_iff_getElem.1 hp (i - 1) i h1 hi (by omega)
    have ha := hlt _ (List.getElem_mem h1)
    have hb := hlt _ (List.getElem_mem hi)
    rw [decide_eq_false h0, Bool.false_or]
    refine decide_eq_true ?_
    simp only [List.getD_eq_getElem?_getD, List.getElem?_map, List.getElem?_eq_getElem h1, List.getElem?_eq_getElem hi, Option.map_some, Option.getD_some, chgC]
    rw [List.getElem?_eq_getElem ha, List.getElem?_eq_getElem hb, Option.getD_some, Option.getD_some]
    exact List.pairwise_iff_getElem.1 hm _ _ ha hb hj
/-- What is picked of any quorum. -/
theorem keeps_pick {f : Nat} {T : List Nat} (hr : rightC ep m = true) (hq : quoZ (m.length : Int) = (q : Int)) (hqm : q ≤ m.length) (hV : 0 ≤ V ∧ V < 15) (hR : rightB r = true) (hT : T.Sublist (List.range m.length)) (hqT : q ≤ T.length) (hb : m.countP (fun x => hasM bad x) ≤ f) (hm2 : m.length + f < 2 * q) :
    (rfE ep m (V + 1) (T.map (chgC ep m bad V r q lies)) = 0 ∧ pkL ep (allC (T.map (chgC ep m bad V r q lies))) = [zeroQ, r]) ∨ (rfE ep m (V + 1) (T.map (chgC ep m bad V r q lies)) = 1 ∧ lies ≠ []) := by
  have hlt : ∀ i ∈ T, i < m.length := fun i hi => List.mem_range.1 (hT.subset hi)
  have hvw : vwB (V + 1) (T.map (chgC ep m bad V r q lies)) = true := by
    rw [vwB]
    have h1 : inB (V + 1) 1 15 = true := by simp [inB]; omega
    rw [h1, Bool.true_and, List.all_eq_true]
    intro x hx
    obtain ⟨i, _, rfl⟩ := List.mem_map.1 hx
    exact decide_eq_true rfl
  have hrs := rise_at (ep := ep) (bad := bad) (V := V) (r := r) (q := q) (lies := lies) (mem_inc (rightC_ep hr).2) hT
  have hA := chg_all (bad := bad) (lies := lies) hr hq hqm hV hR T hlt
  rcases hA with hA | ⟨hA, hl⟩
  · left
    refine ⟨?_, ?_⟩
    · rw [rfE, if_pos hr, if_pos hvw, if_pos hA, if_pos hrs, if_pos (by rw [List.length_map, hq]; omega)]
    · obtain ⟨i, hi, hiq, hib⟩ := honest_told hT hqT hqm hb hm2
      have hall : ∀ y ∈ allC (T.map (chgC ep m bad V r q lies)), y.2.1 = 4 * ep + 2 ∧ (y = mkC ep m q V r ∨ y.1 < (mkC ep m q V r).1) := by
        intro y hy
        obtain ⟨x, hx, hy2⟩ := List.mem_flatMap.1 hy
        obtain ⟨j, _, rfl⟩ := List.mem_map.1 hx
        exact tell_ct hy2
      have hown : mkC ep m q V r ∈ allC (T.map (chgC ep m bad V r q lies)) := by
        refine List.mem_flatMap.2 ⟨_, List.mem_map.2 ⟨i, hi, rfl⟩, ?_⟩
        show mkC ep m q V r ∈ tellC ep m bad V r q lies i
        rw [tellC, if_neg (by rw [hib]; decide), if_pos hiq]
        exact List.mem_singleton.2 rfl
      generalize allC (T.map (chgC ep m bad V r q lies)) = cs at hall hown
      have hsl : ∀ y ∈ cs, y.2.1 = 4 * ep + 2 := fun y hy => (hall y hy).1
      have b2 : bstOf (4 * ep + 2) cs = some (mkC ep m q V r) := bst_top _ _ rfl cs none hall (.inl rfl) (.inl hown)
      have b4 : bstOf (4 * ep + 4) cs = none := bst_none (4 * ep + 2) _ (by omega) cs hsl
      have b3 : bstOf (4 * ep + 3) cs = none := bst_none (4 * ep + 2) _ (by omega) cs hsl
      have b1 : bstOf (4 * ep + 1) cs = none := bst_none (4 * ep + 2) _ (by omega) cs hsl
      have hl : lstOf ep cs = 2 := by rw [lstOf, b4, b3, b2]; rfl
      rw [pkL, hl]
      have e0 : 4 * ep + 1 + ((0 : Nat) : Int) = 4 * ep + 1 := by omega
      have e1 : 4 * ep + 1 + ((1 : Nat) : Int) = 4 * ep + 2 := by omega
      show [rqOf (bstOf (4 * ep + 1 + ((0 : Nat) : Int)) cs), rqOf (bstOf (4 * ep + 1 + ((1 : Nat) : Int)) cs)] = _
      rw [e0, e1, b1, b2]
      rfl
  · right
    refine ⟨?_, hl⟩
    rw [rfE, if_pos hr, if_pos hvw, if_neg (by rw [hA]; decide), hA]
end
end Go.Proofs.Ytohhlolmojeomaa
