/- The library's calls that the council makes: Contains, BinarySearch, Insert, Delete, at lists of numbers. -/
import Derived.Test.YtpgfdnmlkaoigabCx1
import Derived.Shelf.Slices.SearchI
import Derived.Shelf.Slices.Delete
import Derived.Shelf.Spec.SlicesInsert
import Derived.Lib.RowBridge
namespace Go.Proofs.Ytpgfdnmlkaoigab
open Go.RowKit

/-- How many of the members stand ahead of id. -/
def placeN (l : List Int) (id : Int) : Nat := l.countP (· < id)
theorem place_cut (id : Int) : ∀ {l : List Int}, Inc l → (∀ x ∈ l.take (placeN l id), x < id) ∧ (∀ x ∈ l.drop (placeN l id), id ≤ x)
  | [], _ => by simp
  | y :: l, h => by
    obtain ⟨hy, hl⟩ := List.pairwise_cons.1 h
    by_cases e : y < id
    · have hp : placeN (y :: l) id = placeN l id + 1 := by rw [placeN, List.countP_cons_of_pos (by simpa using e)]; rfl
      obtain ⟨h1, h2⟩ := place_cut id hl
      rw [hp, List.take_succ_cons, List.drop_succ_cons]
      refine ⟨fun x hx => ?_, h2⟩
      rcases List.mem_cons.1 hx with rfl | hx
      · exact e
      · exact h1 x hx
    · have hp : placeN (y :: l) id = 0 := by
        rw [placeN, List.countP_eq_zero]
        intro x hx
        rcases List.mem_cons.1 hx with rfl | hx
        · simpa using e
        · have := hy x hx
          simp
          omega
      rw [hp]
      refine ⟨by simp, fun x hx => ?_⟩
      rcases List.mem_cons.1 (by simpa using hx) with rfl | hx
      · omega
      · have := hy x hx
        omega
theorem place_le (l : List Int) (id : Int) : placeN l id ≤ l.length := List.countP_le_length
/-- Who joins stands at his place. -/
theorem join_put {l : List Int} {id : Int} (hb : memB l = true) (h0 : 0 ≤ id ∧ id < 16) (hh : hasM l id = false) : joinTo l id 16 = l.take (placeN l id) ++ [id] ++ l.drop (placeN l id) := by
  have hi := mem_inc hb
  obtain ⟨h1, h2⟩ := place_cut id hi
  have hno := of_decide_eq_false hh
  refine inc_eq _ _ (joinTo_inc l id 16) ?_ (fun x => ?_)
  · rw [List.append_assoc]
    refine List.pairwise_append.2 ⟨hi.sublist (List.take_sublist _ _), List.pairwise_append.2 ⟨by simp, hi.sublist (List.drop_sublist _ _), fun x hx y hy => ?_⟩, fun x hx y hy => ?_⟩
    · obtain rfl := List.mem_singleton.1 hx
      have := h2 y hy
      have hne : y ≠ x := fun e => hno (e ▸ List.mem_of_mem_drop hy)
      omega
    · have h3 := h1 x hx
      rcases List.mem_append.1 hy with hy | hy
      · obtain rfl := List.mem_singleton.1 hy
        exact h3
      · have := h2 y hy
        omega
  · rw [join_mem hb h0 x]
    have hs : x ∈ l ↔ x ∈ l.take (placeN l id) ∨ x ∈ l.drop (placeN l id) := by rw [← List.mem_append, List.take_append_drop]
    rw [hs]
    simp only [List.mem_append, List.mem_singleton]
    constructor
    · rintro (h | h | h)
      · exact .inl (.inr h)
      · exact .inl (.inl h)
      · exact .inr h
    · rintro ((h | h) | h)
      · exact .inr (.inl h)
      · exact .inl h
      · exact .inr (.inr h)
theorem leave_cut (id : Int) : ∀ {l : List Int}, Inc l → id ∈ l → placeN l id < l.length ∧ leaveF l id = l.take (placeN l id) ++ l.drop (placeN l id + 1)
  | [], _, h => by simp at h
  | y :: l, h, hm => by
    obtain ⟨hy, hl⟩ := List.pairwise_cons.1 h
    by_cases e : y < id
    · have hp : placeN (y :: l) id = placeN l id + 1 := by rw [placeN, List.countP_cons_of_pos (by simpa using e)]; rfl
      have hm2 : id ∈ l := by
        rcases List.mem_cons.1 hm with rfl | h
        · omega
        · exact h
      obtain ⟨h1, h2⟩ := leave_cut id hl hm2
      rw [hp, List.take_succ_cons, List.drop_succ_cons]
      refine ⟨by simp; omega, ?_⟩
      rw [leaveF, List.filter_cons, if_pos (by simp; omega)]
      rw [leaveF] at h2
      rw [h2]
      rfl
    · have hye : y = id := by
        rcases List.mem_cons.1 hm with rfl | h
        · rfl
        · have := hy id h
          omega
      subst hye
      have hp : placeN (y :: l) y = 0 := by
        rw [placeN, List.countP_eq_zero]
        intro x hx
        rcases List.mem_cons.1 hx with rfl | hx
        · simp
        · have := hy x hx
          simp
          omega
      rw [hp]
      refine ⟨by simp, ?_⟩
      rw [leaveF, List.filter_cons, if_neg (by simp), List.filter_eq_self.2 (fun x hx => by have := hy x hx; simp; omega)]
      simp
theorem sets_blk {g : Nat} {t : TypeId} : ∀ (vs : List Value) (o : Nat) (w : World) (L : List Value), w.heap[g]? = some (.cells L.toArray t (0, 0)) → o + vs.length ≤ L.length → (w.setCells g o vs).heap[g]? = some (.cells (L.take o ++ vs ++ L.drop (o + vs.length)).toArray t (0, 0))
  | [], o, w, L, h, _ => by rw [List.append_nil, List.length_nil, Nat.add_zero, List.take_append_drop]; exact h
  | v :: vs, o, w, L, h, hl => by
    rw [List.length_cons] at hl
    have h1 := blk_set h o v
    rw [List.setIfInBounds_toArray] at h1
    have h2 := sets_blk vs (o + 1) (w.setCell ⟨g, o, none⟩ v) (L.set o v) h1 (by rw [List.length_set]; omega)
    refine h2.trans ?_
    congr 3
    have hlen : (L.take o).length = o := by rw [List.length_take]; omega
    have e1 : (L.set o v).take (o + 1) = L.take o ++ [v] := by
      rw [List.set_eq_take_append_cons_drop, if_pos (by omega), List.take_append, hlen, List.take_of_length_le (by omega), show o + 1 - o = 1 by omega]
      rfl
    have e2 : (L.set o v).drop (o + 1 + vs.length) = L.drop (o + (vs.length + 1)) := by
      rw [List.drop_set_of_lt (by omega), show o + 1 + vs.length = o + (vs.length + 1) by omega]
    rw [e1, e2, List.length_cons]
    simp
end Go.Proofs.Ytpgfdnmlkaoigab
