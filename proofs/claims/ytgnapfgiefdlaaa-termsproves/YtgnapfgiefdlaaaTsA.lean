/- Numbers sorted, each once; who signed a text. No walk here. -/
import Derived.Test.YtgnapfgiefdlaaaTeE
import Derived.Lib.SlicesCompact
import Derived.Lib.RowBridge
namespace Go.Proofs.Ytgnapfgiefdlaaa
open Go.RowKit

/-- Sorted, each once. -/
def risen (l : List Int) : List Int := Lib.compact (l.mergeSort fun x y => decide (x ≤ y))
theorem up_inc (d : Array Int) (hs : ∀ i j : Nat, i < j → j < d.size → d[i]! ≤ d[j]!) : ∀ m, m ≤ d.size → Inc (Lib.compactUpTo d m) ∧ ∀ z, z ∈ Lib.compactUpTo d m ↔ ∃ j, j < m ∧ d[j]! = z
  | 0, _ => ⟨List.Pairwise.nil, fun z => ⟨fun h => by simp [Lib.compactUpTo] at h, fun ⟨j, h, _⟩ => by omega⟩⟩
  | m + 1, hm => by
    obtain ⟨i1, i2⟩ := up_inc d hs m (by omega)
    rw [Lib.compactUpTo_succ]
    cases hk : Lib.keeps d m with
    | true =>
      rw [if_pos rfl]
      constructor
      · refine List.pairwise_append.2 ⟨i1, List.pairwise_singleton .., fun x hx y hy => ?_⟩
        rw [List.mem_singleton.1 hy]
        obtain ⟨j, hj, rfl⟩ := (i2 x).1 hx
        have h1 := of_decide_eq_true hk
        rcases h1 with h1 | h1
        · omega
        · have h3 := hs (m - 1) m (by omega) (by omega)
          by_cases e : j = m - 1
          · rw [e]; omega
          · have h2 := hs j (m - 1) (by omega) (by omega)
            omega
      · intro z
        rw [List.mem_append, i2, List.mem_singleton]
        constructor
        · rintro (⟨j, hj, h⟩ | h)
          · exact ⟨j, by omega, h⟩
          · exact ⟨m, by omega, h.symm⟩
        · rintro ⟨j, hj, h⟩
          by_cases e : j = m
          · subst e; exact .inr h.symm
          · exact .inl ⟨j, by omega, h⟩
    | false =>
      rw [if_neg (by decide), List.append_nil]
      refine ⟨i1, fun z => ?_⟩
      rw [i2]
      have h1 := of_decide_eq_false hk
      have hm0 : m ≠ 0 := fun e => h1 (.inl e)
      have he : d[m]! = d[m - 1]! := Classical.byContradiction fun e => h1 (.inr e)
      constructor
      · rintro ⟨j, hj, h⟩
        exact ⟨j, by omega, h⟩
      · rintro ⟨j, hj, h⟩
        by_cases e : j = m
        · subst e; exact ⟨j - 1, by omega, by rw [← he]; exact h⟩
        · exact ⟨j, by omega, h⟩
theorem risen_spec (l : List Int) : Inc (risen l) ∧ ∀ z, z ∈ risen l ↔ z ∈ l := by
  obtain ⟨S, eS⟩ : ∃ S, S = l.mergeSort (fun x y => decide (x ≤ y)) := ⟨_, rfl⟩
  have hp : S.Pairwise (fun a b => decide (a ≤ b) = true) := by rw [eS]; exact List.pairwise_mergeSort (fun a b c h1 h2 => by simp at *; omega) (fun a b => by simp; omega) _
  have hm : ∀ z, z ∈ S ↔ z ∈ l := fun z => by rw [eS, List.mem_mergeSort]
  rw [risen, ← eS, Lib.compact]
  have hg : ∀ (j : Nat) (hj : j < S.length), S.toArray[j]! = S[j] := fun j hj => by simp [hj]
  obtain ⟨h1, h2⟩ := up_inc S.toArray (fun i j hij hj => by
    have hj' : j < S.length := by simpa using hj
    rw [hg i (by omega), hg j hj']
    exact of_decide_eq_true (List.pairwise_iff_getElem.1 hp i j (by omega) hj' hij)) S.length (by simp)
  refine ⟨h1, fun z => ?_⟩
  rw [h2, ← hm, List.mem_iff_getElem]
  constructor
  · rintro ⟨j, hj, h⟩
    exact ⟨j, hj, by rw [← hg j hj]; exact h⟩
  · rintro ⟨j, hj, h⟩
    exact ⟨j, hj, by rw [hg j hj]; exact h⟩
theorem risen_len (l : List Int) : (risen l).length ≤ l.length := by
  have := Lib.compact_length_le (l.mergeSort fun x y => decide (x ≤ y))
  rw [List.length_mergeSort] at this
  exact this
theorem risen_has (l : List Int) (z : Int) : hasM (risen l) z = hasM l z := by
  unfold hasM
  rw [Bool.eq_iff_iff, decide_eq_true_iff, decide_eq_true_iff]
  exact (risen_spec l).2 z
/-- Who signed the text, as often and in the order as they stand in the list. -/
def sgn (t : ByteArray) (ss : List (Int × ByteArray)) : List Int := (ss.filter fun p => decide (p.2.data.toList = t.data.toList)).map (·.1)
theorem sgn_mem (t : ByteArray) (ss : List (Int × ByteArray)) (z : Int) : z ∈ sgn t ss ↔ (z, t) ∈ ss := by
  unfold sgn
  rw [List.mem_map]
  constructor
  · rintro ⟨p, hp, rfl⟩
    obtain ⟨h1, h2⟩ := List.mem_filter.1 hp
    have : p.2 = t := bytes_eq (of_decide_eq_true h2)
    rw [← this]
    exact h1
  · intro h
    exact ⟨(z, t), List.mem_filter.2 ⟨h, decide_eq_true rfl⟩, rfl⟩
theorem sgn_len (t : ByteArray) (ss : List (Int × ByteArray)) : (sgn t ss).length ≤ ss.length := by
  unfold sgn
  rw [List.length_map]
  exact List.length_filter_le ..
theorem sgn_yes {t : ByteArray} {ss : List (Int × ByteArray)} {j : Nat} (hj : j < ss.length) (h : rtOf ss j = t) : sgn t (ss.take (j + 1)) = sgn t (ss.take j) ++ [idOf ss j] := by
  unfold sgn
  rw [List.take_add_one, getP_some hj, List.filter_append, List.map_append, Option.toList_some, List.filter_cons, h, decide_eq_true rfl, if_pos rfl]
  rfl
theorem sgn_no {t : ByteArray} {ss : List (Int × ByteArray)} {j : Nat} (hj : j < ss.length) (h : (rtOf ss j).data.toList ≠ t.data.toList) : sgn t (ss.take (j + 1)) = sgn t (ss.take j) := by
  unfold sgn
  rw [List.take_add_one, getP_some hj, List.filter_append, List.map_append, Option.toList_some, List.filter_cons, decide_eq_false h]
  exact List.append_nil _
/-- Of the first j of G those that are members. -/
def among (l G : List Int) (j : Nat) : List Int := (G.take j).filter (hasM l)
theorem among_yes {l G : List Int} {j : Nat} (hj : j < G.length) (h : hasM l (G.getD j 0) = true) : among l G (j + 1) = among l G j ++ [G.getD j 0] := by
  unfold among
  rw [List.take_add_one, getD_some hj, List.filter_append, Option.toList_some, List.filter_cons, h, if_pos rfl]
  rfl
theorem among_no {l G : List Int} {j : Nat} (hj : j < G.length) (h : hasM l (G.getD j 0) = false) : among l G (j + 1) = among l G j := by
  unfold among
  rw [List.take_add_one, getD_some hj, List.filter_append, Option.toList_some, List.filter_cons, h]
  exact List.append_nil _
theorem among_len (l G : List Int) (j : Nat) : (among l G j).length ≤ j := by
  unfold among
  have h1 := List.length_filter_le (hasM l) (G.take j)
  rw [List.length_take] at h1
  omega
theorem among_all (l : List Int) (t : ByteArray) (ss : List (Int × ByteArray)) : among l (risen (sgn t ss)) (risen (sgn t ss)).length = gathL l t ss := by
  have hR := risen_spec (sgn t ss)
  unfold among
  rw [List.take_length]
  refine gathL_eq (hR.1.filter _) (fun z => ?_)
  rw [List.mem_filter, hR.2, sgn_mem, gOut_mem l t ss z l.length (Nat.le_refl _), List.take_length]
  constructor
  · rintro ⟨h1, h2⟩
    exact ⟨of_decide_eq_true h2, h1⟩
  · rintro ⟨h1, h2⟩
    exact ⟨h2, decide_eq_true h1⟩
end Go.Proofs.Ytgnapfgiefdlaaa
