/- Two tallies that hear one word of each who is not bad settle nothing unlike. No walk here. -/
import Derived.Test.YtkceihnjnjbceaaVoPM
import Derived.Test.YtkceihnjnjbceaaOpVM
namespace Go.Proofs.Ytkceihnjnjbceaa
open Go.RowKit

/-- What a vote is for. -/
def balO (ep : Int) (l : List Int) (o : VtA) : Bl := (o.2.1, voC ep l o.2.1 o.2.2.1)
/-- Who spoke first, and with which vote. -/
structure Fst (said : List Int) (first : List VtA) : Prop where
  len : said.length = first.length
  who : ∀ (i : Nat) (o : VtA), first[i]? = some o → said[i]? = some o.1
/-- A tally heard of those who are not bad their first vote alone. -/
def Heard1 (ep : Int) (l bad said : List Int) (first : List VtA) (s : Ta) : Prop := ∀ v ∈ s.vs, v.1 ∉ bad → v.1 ∈ said ∧ ∃ o, first[said.idxOf v.1]? = some o ∧ v.2 = balO ep l o
theorem Heard1.more {ep : Int} {l bad said : List Int} {first : List VtA} {s : Ta} (h : Heard1 ep l bad said first s) (f : Int) (o : VtA) : Heard1 ep l bad (said ++ [f]) (first ++ [o]) s := fun v hv hb => by
  obtain ⟨h1, o', h2, h3⟩ := h v hv hb
  refine ⟨List.mem_append_left _ h1, o', ?_, h3⟩
  rw [List.idxOf_append, if_pos h1, List.getElem?_append_left (List.getElem?_eq_some_iff.1 h2).1]
  exact h2
theorem Fst.more {said : List Int} {first : List VtA} (h : Fst said first) (o : VtA) : Fst (said ++ [o.1]) (first ++ [o]) := by
  refine ⟨by simp [h.len], fun i o' hi => ?_⟩
  by_cases hl : i < first.length
  · rw [List.getElem?_append_left hl] at hi
    rw [List.getElem?_append_left (by rw [h.len]; exact hl)]
    exact h.who i o' hi
  · rw [List.getElem?_append_right (by omega)] at hi
    rw [List.getElem?_append_right (by rw [h.len]; omega), h.len]
    generalize hd : i - first.length = d at hi ⊢
    cases d with
    | zero => cases hi; rfl
    | succ k => simp at hi
theorem Fst.at {said : List Int} {first : List VtA} (h : Fst said first) {f : Int} (hf : f ∈ said) : ∃ o, first[said.idxOf f]? = some o ∧ o.1 = f := by
  have h1 : said.idxOf f < said.length := List.idxOf_lt_length_of_mem hf
  have h2 : said.idxOf f < first.length := by rw [← h.len]; exact h1
  refine ⟨first[said.idxOf f], List.getElem?_eq_getElem h2, ?_⟩
  have h3 := h.who _ _ (List.getElem?_eq_getElem h2)
  rw [List.getElem?_eq_getElem h1, List.getElem_idxOf h1] at h3
  exact (Option.some.inj h3).symm
/-- A vote that is added: of somebody bad, or the first one. -/
theorem Heard1.add {ep : Int} {l bad said : List Int} {first : List VtA} {s : Ta} (h : Heard1 ep l bad said first s) (hep : s.ep = ep) (hml : s.mem = l) (o : VtA) (sg : List (Int × ByteArray)) (ho : o.1 ∈ bad ∨ (o.1 ∈ said ∧ first[said.idxOf o.1]? = some o)) : Heard1 ep l bad said first (added s o.1 o.2.1 o.2.2.1 sg) := by
  unfold added
  split
  · intro v hv hb
    rcases List.mem_append.1 hv with hv | hv
    · exact h v hv hb
    · rw [List.mem_singleton.1 hv] at hb ⊢
      rcases ho with ho | ⟨h1, h2⟩
      · exact absurd ho hb
      · exact ⟨h1, o, h2, by rw [hep, hml]; rfl⟩
  · exact h
theorem filter_two (A : List Int) (p : Int → Bool) : (A.filter p).length + (A.filter fun x => !p x).length = A.length := by
  induction A with
  | nil => rfl
  | cons x A ih =>
    cases h : p x <;> simp [h] <;> omega
theorem meet_len (A B l : List Int) (hA : A.Nodup) (hB : B.Nodup) (hAl : ∀ x, x ∈ A → x ∈ l) (hBl : ∀ x, x ∈ B → x ∈ l) : A.length + B.length ≤ l.length + (A.filter fun x => decide (x ∈ B)).length := by
  have h1 := nodup_len (B ++ A.filter (fun x => !decide (x ∈ B))) l (List.nodup_append.2 ⟨hB, hA.filter _, fun x hx y hy e => by
    subst e
    have := (List.mem_filter.1 hy).2
    simp [hx] at this⟩) (fun x hx => by
    rcases List.mem_append.1 hx with h | h
    · exact hBl x h
    · exact hAl x (List.mem_filter.1 h).1)
  rw [List.length_append] at h1
  have h2 : (A.filter fun x => decide (x ∈ B)).length + (A.filter fun x => !decide (x ∈ B)).length = A.length := by
    exact filter_two A _
  omega
def wildN (l bad : List Int) : Nat := (l.filter fun x => decide (x ∈ bad)).length
/-- No two tallies settle unlike things. -/
theorem agree_one {ep : Int} {l bad said : List Int} {first : List VtA} {s u : Ta} (hs : TOk s) (hu : TOk u) (es : s.mem = l) (eu : u.mem = l) (h1 : Heard1 ep l bad said first s) (h2 : Heard1 ep l bad said first u) (hw : (wildN l bad : Int) ≤ fltZ (l.length : Int)) (f1 : chF s = true) (f2 : chF u = true) : chB s = chB u := by
  by_cases e : chB s = chB u
  · exact e
  · exfalso
    have q1 := (chosen_some hs (chB_of f1)).1
    have q2 := (chosen_some hu (chB_of f2)).1
    have n1 := chB_not hs f1
    have n2 := chB_not hu f2
    have l1 := whoOf_len s.vs (chB s)
    have l2 := whoOf_len u.vs (chB u)
    have hm := meet_len (whoOf s.vs (chB s)) (whoOf u.vs (chB u)) l (whoOf_nodup hs.nod _) (whoOf_nodup hu.nod _) (fun x hx => by rw [← es]; exact ((mem_whoOf hs n1 x).1 hx).1) (fun x hx => by rw [← eu]; exact ((mem_whoOf hu n2 x).1 hx).1)
    have hsub : ((whoOf s.vs (chB s)).filter fun x => decide (x ∈ whoOf u.vs (chB u))).length ≤ wildN l bad := by
      refine nodup_len _ _ ((whoOf_nodup hs.nod _).filter _) (fun x hx => ?_)
      obtain ⟨hx1, hx2⟩ := List.mem_filter.1 hx
      have hx3 : x ∈ whoOf u.vs (chB u) := of_decide_eq_true hx2
      obtain ⟨m1, c1⟩ := (mem_whoOf hs n1 x).1 hx1
      obtain ⟨m2, c2⟩ := (mem_whoOf hu n2 x).1 hx3
      rw [List.mem_filter]
      refine ⟨by rw [← es]; exact m1, decide_eq_true ?_⟩
      by_cases hb : x ∈ bad
      · exact hb
      · exfalso
        obtain ⟨v, hv, hvx⟩ := List.mem_map.1 hx1
        obtain ⟨v', hv', hvx'⟩ := List.mem_map.1 hx3
        have hv1 := List.mem_filter.1 hv
        have hv2 := List.mem_filter.1 hv'
        have k1 := h1 v hv1.1 (by rw [hvx]; exact hb)
        have k2 := h2 v' hv2.1 (by rw [hvx']; exact hb)
        obtain ⟨_, o, p1, p2⟩ := k1
        obtain ⟨_, o', p3, p4⟩ := k2
        rw [hvx] at p1
        rw [hvx'] at p3
        rw [p1] at p3
        cases p3
        apply e
        rw [← of_decide_eq_true hv1.2, ← of_decide_eq_true hv2.2, p2, p4]
    have hl := hs.mlen
    rw [es] at hl
    rw [quoT, es, quoZ_hi (by omega)] at q1
    rw [quoT, eu, quoZ_hi (by omega)] at q2
    have hf := fltZ_le (n := (l.length : Int)) (by omega)
    omega
end Go.Proofs.Ytkceihnjnjbceaa
