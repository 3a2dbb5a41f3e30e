/- What is gathered is a proof just if a quorum signed; in whatever order they are heard. No walk here. -/
import Derived.Test.YtgnapfgiefdlaaaTeM
import Derived.Test.YtgnapfgiefdlaaaTeE
namespace Go.Proofs.Ytgnapfgiefdlaaa
open Go.RowKit

theorem gath_turned (l : List Int) (t : ByteArray) {ss ss' : List (Int × ByteArray)} (h : ∀ x, x ∈ ss' ↔ x ∈ ss) : gathL l t ss' = gathL l t ss :=
  inc_eq _ _ (gathL_inc l t ss') (gathL_inc l t ss) (fun z => by rw [gathL_mem, gathL_mem, h])
theorem gath_again (l : List Int) (t : ByteArray) (ss : List (Int × ByteArray)) (k : Nat) : gathL l t (ss.drop k ++ ss) = gathL l t ss :=
  gath_turned l t (fun x => by
    rw [List.mem_append]
    exact ⟨fun h => h.elim (fun h => List.mem_of_mem_drop h) id, .inr⟩)
theorem idOf_gP (t : ByteArray) (G : List Int) (j : Nat) (hj : j < G.length) : idOf (gP t G) j = G.getD j 0 ∧ rtOf (gP t G) j = t := by
  have h : (gP t G)[j]? = some (G[j], t) := by rw [gP, List.getElem?_map, List.getElem?_eq_getElem hj]; rfl
  constructor
  · rw [idOf, List.getD_eq_getElem?_getD, h, List.getD_eq_getElem?_getD, List.getElem?_eq_getElem hj]; rfl
  · rw [rtOf, List.getD_eq_getElem?_getD, h]; rfl
theorem inc_get {G : List Int} (h : Inc G) (i : Nat) (hi : i + 1 < G.length) : G.getD i 0 < G.getD (i + 1) 0 := by
  rw [List.getD_eq_getElem?_getD, List.getD_eq_getElem?_getD, List.getElem?_eq_getElem (by omega), List.getElem?_eq_getElem hi]
  exact List.pairwise_iff_getElem.1 h i (i + 1) (by omega) hi (by omega)
theorem gath_ok (l : List Int) (t : ByteArray) (G : List Int) (h1 : Inc G) (h2 : ∀ z, z ∈ G → z ∈ l) : ∀ n, n ≤ G.length → okTTo l t (gP t G) n = true
  | 0, _ => rfl
  | j + 1, hj => by
    obtain ⟨e1, e2⟩ := idOf_gP t G j (by omega)
    have hm : G.getD j 0 ∈ l := h2 _ (by rw [List.getD_eq_getElem?_getD, List.getElem?_eq_getElem (by omega)]; exact List.getElem_mem _)
    rw [okTTo_succ, gath_ok l t G h1 h2 j (by omega), okT, e1, e2, decide_eq_true rfl, hasM, decide_eq_true hm]
    cases j with
    | zero => rfl
    | succ i =>
      have := inc_get h1 i (by omega)
      rw [show i + 1 - 1 = i from rfl, (idOf_gP t G i (by omega)).1, decide_eq_true this]
      simp
theorem gath_few (ep : Int) (l : List Int) (t : ByteArray) (ss : List (Int × ByteArray)) (hr : rightC ep l = true) : (gathL l t ss).length ≤ 10 := by
  have h := nodup_len (gathL l t ss) l ((gathL_inc l t ss).imp (fun h => by omega)) (fun x hx => ((gathL_mem l t ss x).1 hx).1)
  have := (mem_len (right_mem hr).2).2
  omega
theorem gath_proves (ep : Int) (l : List Int) (t : ByteArray) (ss : List (Int × ByteArray)) (hr : rightC ep l = true) : provesB ep l t (gP t (gathL l t ss)) = decide (quoZ (l.length : Int) ≤ ((gathL l t ss).length : Int)) := by
  have h := gath_few ep l t ss hr
  rw [provesB, gP_len, gath_ok l t _ (gathL_inc l t ss) (fun z hz => ((gathL_mem l t ss z).1 hz).1) _ (Nat.le_refl _), hr, decide_eq_true (show (gathL l t ss).length ≤ 16 by omega)]
  simp
end Go.Proofs.Ytgnapfgiefdlaaa
