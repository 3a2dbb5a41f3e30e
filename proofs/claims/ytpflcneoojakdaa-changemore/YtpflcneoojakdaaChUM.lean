/- One change more: what is picked. No walk here. -/
import Derived.Test.YtpflcneoojakdaaChQM
import Derived.Test.YtpflcneoojakdaaChSM
namespace Go.Proofs.Ytpflcneoojakdaa
open Go.RowKit

theorem bst_grows (slot : Int) : ∀ (ys : List Ct) (o : Option Ct), o.isSome = true → (bst slot ys o).isSome = true
  | [], _, h => h
  | y :: ys, o, h => by
    refine bst_grows slot ys _ ?_
    split
    · cases o with
      | none => cases h
      | some z => simp only; split <;> rfl
    · exact h
theorem bst_skip (slot : Int) : ∀ (ys : List Ct) (o : Option Ct), (∀ y ∈ ys, y.2.1 ≠ slot) → bst slot ys o = o
  | [], _, _ => rfl
  | y :: ys, o, h => by
    have h1 : bst slot (y :: ys) o = bst slot ys o := by
      simp only [bst]
      rw [if_neg (h y (List.mem_cons_self ..))]
    rw [h1]
    exact bst_skip slot ys o (fun z hz => h z (List.mem_cons_of_mem _ hz))
theorem bstOf_app (slot : Int) (a b : List Ct) : bstOf slot (a ++ b) = bst slot b (bstOf slot a) := bst_app slot a b none
theorem lst_mono (ep : Int) (cs ys : List Ct) : lstOf ep cs ≤ lstOf ep (cs ++ ys) := by
  have h : ∀ s, (bstOf s cs).isSome = true → (bstOf s (cs ++ ys)).isSome = true := fun s hs => by rw [bstOf_app]; exact bst_grows s ys _ hs
  have h1 := h (4 * ep + 1)
  have h2 := h (4 * ep + 2)
  have h3 := h (4 * ep + 3)
  have h4 := h (4 * ep + 4)
  unfold lstOf
  revert h1 h2 h3 h4
  cases (bstOf (4 * ep + 4) cs).isSome <;> cases (bstOf (4 * ep + 3) cs).isSome <;> cases (bstOf (4 * ep + 2) cs).isSome <;> cases (bstOf (4 * ep + 1) cs).isSome <;> cases (bstOf (4 * ep + 4) (cs ++ ys)).isSome <;> cases (bstOf (4 * ep + 3) (cs ++ ys)).isSome <;> cases (bstOf (4 * ep + 2) (cs ++ ys)).isSome <;> cases (bstOf (4 * ep + 1) (cs ++ ys)).isSome <;> simp
theorem lst_beyond (ep : Int) (cs : List Ct) (i : Nat) (h : lstOf ep cs ≤ i) (h4 : i < 4) : bstOf (4 * ep + 1 + (i : Int)) cs = none := by
  have h1 : (bstOf (4 * ep + 1 + (i : Int)) cs).isSome = false := by
    unfold lstOf at h
    match i, h4 with
    | 0, _ =>
      rw [show 4 * ep + 1 + ((0 : Nat) : Int) = 4 * ep + 1 by omega]
      revert h
      cases (bstOf (4 * ep + 4) cs).isSome <;> cases (bstOf (4 * ep + 3) cs).isSome <;> cases (bstOf (4 * ep + 2) cs).isSome <;> cases (bstOf (4 * ep + 1) cs).isSome <;> simp
    | 1, _ =>
      rw [show 4 * ep + 1 + ((1 : Nat) : Int) = 4 * ep + 2 by omega]
      revert h
      cases (bstOf (4 * ep + 4) cs).isSome <;> cases (bstOf (4 * ep + 3) cs).isSome <;> cases (bstOf (4 * ep + 2) cs).isSome <;> cases (bstOf (4 * ep + 1) cs).isSome <;> simp
    | 2, _ =>
      rw [show 4 * ep + 1 + ((2 : Nat) : Int) = 4 * ep + 3 by omega]
      revert h
      cases (bstOf (4 * ep + 4) cs).isSome <;> cases (bstOf (4 * ep + 3) cs).isSome <;> cases (bstOf (4 * ep + 2) cs).isSome <;> cases (bstOf (4 * ep + 1) cs).isSome <;> simp
    | 3, _ =>
      rw [show 4 * ep + 1 + ((3 : Nat) : Int) = 4 * ep + 4 by omega]
      revert h
      cases (bstOf (4 * ep + 4) cs).isSome <;> cases (bstOf (4 * ep + 3) cs).isSome <;> cases (bstOf (4 * ep + 2) cs).isSome <;> cases (bstOf (4 * ep + 1) cs).isSome <;> simp
  cases hb : bstOf (4 * ep + 1 + (i : Int)) cs with
  | none => rfl
  | some y => rw [hb] at h1; cases h1
theorem pkL_get (ep : Int) (cs : List Ct) (i : Nat) (hi : i < lstOf ep cs) : (pkL ep cs).getD i q0R = rqOf (bstOf (4 * ep + 1 + (i : Int)) cs) := by
  rw [List.getD_eq_getElem?_getD, pkL, List.getElem?_map, List.getElem?_range hi]
  rfl
theorem lstOf_four (ep : Int) (cs : List Ct) : lstOf ep cs ≤ 4 := by
  unfold lstOf
  repeat' split
  all_goals omega
theorem map_getD (rs : List Rq) (i : Nat) : (rs.map normR).getD i q0R = if i < rs.length then normR (rs.getD i q0R) else q0R := by
  split
  · rename_i h
    rw [List.getD_eq_getElem?_getD, List.getD_eq_getElem?_getD, List.getElem?_map, List.getElem?_eq_getElem h]
    rfl
  · rename_i h
    rw [List.getD_eq_getElem?_getD, List.getElem?_eq_none (by rw [List.length_map]; omega)]
    rfl
theorem whole_self (r : Rq) : wholeB r r = true := (wholeB_iff r r).2 ⟨rfl, rfl, rfl, rfl, rfl, rfl⟩
/-- Where the change has no certificate, the same is picked as without it. -/
theorem pk_more (ep : Int) (cs ys : List Ct) (i : Nat) (hi : i < lstOf ep (cs ++ ys)) (hno : ∀ y ∈ ys, y.2.1 ≠ 4 * ep + 1 + (i : Int)) : wholeB (((pkL ep (cs ++ ys)).map normR).getD i q0R) (((pkL ep cs).map normR).getD i q0R) = true := by
  have hl : ∀ c, (pkL ep c).length = lstOf ep c := fun c => by rw [pkL, List.length_map, List.length_range]
  have hb : bstOf (4 * ep + 1 + (i : Int)) (cs ++ ys) = bstOf (4 * ep + 1 + (i : Int)) cs := by rw [bstOf_app, bst_skip _ _ _ hno]
  have h4 := lstOf_four ep (cs ++ ys)
  rw [map_getD, if_pos (by rw [hl]; exact hi), pkL_get _ _ _ hi, hb, map_getD, hl]
  split
  · rename_i h
    rw [pkL_get _ _ _ h]
    exact whole_self _
  · rename_i h
    rw [lst_beyond ep cs i (by omega) (by omega)]
    exact norm_whole zeroQ
theorem reads_take {F : Nat → Prop} {w : World} {a : Option Addr} {n cap sz : Nat} {es : List (List Dat)} (h : Reads F w (.slice a n cap) (.l sz es)) (k : Nat) (hk : k ≤ es.length) : Reads F w (.slice a k cap) (.l sz (es.take k)) := by
  cases h with
  | nil ad cap sz =>
    obtain rfl : k = 0 := by simpa using hk
    exact .nil a cap sz
  | l g off cap sz es c hF hg hs hc hr =>
    by_cases h0 : k = 0
    · subst h0
      exact .nil _ cap sz
    have hk2 : ∀ (j : Nat) (e : List Dat), (es.take k)[j]? = some e → es[j]? = some e := fun j e he => by
      rw [List.getElem?_take] at he
      split at he
      · exact he
      · cases he
    have := Reads.l (F := F) (w := w) g off cap sz (es.take k) c hF hg (fun j e he => hs j e (hk2 j e he)) (fun j e q d he hd => hc j e q d (hk2 j e he) hd) (fun j e q d he hd => hr j e q d (hk2 j e he) hd)
    rw [List.length_take, Nat.min_eq_left hk] at this
    exact this
end Go.Proofs.Ytpflcneoojakdaa
