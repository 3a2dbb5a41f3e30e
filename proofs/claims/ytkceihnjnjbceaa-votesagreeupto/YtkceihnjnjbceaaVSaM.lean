/- What is settled is shown by proofs. -/
import Derived.Test.YtkceihnjnjbceaaKh1
import Derived.Test.YtkceihnjnjbceaaVoPM
import Derived.Test.YtkceihnjnjbceaaLvAM
import Derived.Test.YtkceihnjnjbceaaTsDM
import Derived.Test.YtkceihnjnjbceaaWsDM
namespace Go.Proofs.Ytkceihnjnjbceaa
open Go.RowKit

theorem ok_all (l : List Int) (t : ByteArray) (ss : List (Int × ByteArray)) : ∀ n, (∀ i, i < n → okT l t ss i = true) → okTTo l t ss n = true
  | 0, _ => rfl
  | n + 1, h => by rw [okTTo_succ, ok_all l t ss n (fun i hi => h i (by omega)), h n (by omega)]; rfl
theorem map_id (t : ByteArray) (l : List Int) (i : Nat) (hi : i < l.length) : idOf (l.map fun x => (x, t)) i = l[i] ∧ rtOf (l.map fun x => (x, t)) i = t := by
  simp [idOf, rtOf, List.getD, hi]
/-- Rising members who sign a text, a quorum of them, prove it. -/
theorem proves_of {ep : Int} {l : List Int} (hr : rightC ep l = true) (t : ByteArray) (m : List Int) (hm : Inc m) (hs : ∀ x, x ∈ m → x ∈ l) (hq : quoZ (l.length : Int) ≤ (m.length : Int)) (h16 : m.length ≤ 16) : provesB ep l t (m.map fun x => (x, t)) = true := by
  rw [provesB, hr, List.length_map, decide_eq_true hq, decide_eq_true h16, ok_all]
  · rfl
  · intro i hi
    obtain ⟨h1, h2⟩ := map_id t m i hi
    rw [okT, h1, h2, decide_eq_true rfl, Bool.true_and, show hasM l m[i] = true from decide_eq_true (hs _ (List.getElem_mem hi)), Bool.true_and]
    by_cases h0 : i = 0
    · rw [decide_eq_true h0]; rfl
    · obtain ⟨h3, _⟩ := map_id t m (i - 1) (by omega)
      rw [decide_eq_false h0, h3, Bool.false_or]
      refine decide_eq_true ?_
      exact List.pairwise_iff_getElem.1 hm (i - 1) i (by omega) hi (by omega)
theorem whoM_inc {s : Ta} (h : TOk s) (b : Bl) : Inc (whoM s b) := List.Pairwise.filter _ (mem_inc (rightC_ep h.right).2)
theorem settled_proves {s : Ta} (h : TOk s) (hf : chF s = true) (t : ByteArray) : provesB s.ep s.mem t (signsOf s (chB s) t) = true := by
  have h1 := (chosen_some h (chB_of hf)).1
  have h2 := signs_cnt h (chB_not h hf) t
  rw [signs_who, List.length_map] at h2
  rw [signs_who]
  refine proves_of h.right t (whoM s (chB s)) (whoM_inc h _) (fun x hx => (List.mem_filter.1 hx).1) ?_ ?_
  · rw [h2]; exact h1
  · have := List.length_filter_le (fun id => decide (castOf s.vs id = chB s)) s.mem
    have := h.mlen
    show (List.filter _ s.mem).length ≤ 16
    omega
theorem settled_valid {s : Ta} (h : TOk s) (hf : chF s = true) : validE s.ep s.mem (s.ep + 1) (nxB s) (signsOf s (chB s) (chB s).2) = 0 := by
  obtain ⟨h1, _, _, h4, _, h6⟩ := chosen_is h (chB_of hf)
  have hC : textC (s.ep + 1) (nxB s) = (chB s).2 := by rw [← h4, voC, if_pos h1]
  rw [validE, if_neg (by rw [h.right]; decide), if_neg (by rw [h6]; decide), if_neg (by simp), hC, if_neg (by rw [settled_proves h hf]; decide)]
/-- The five cells of what is settled. -/
def SvC (w : World) (s : Ta) (x0 x1 x2 x3 x4 : Value) : Prop := SetAns w s (.tuple #[.agg #[x0, x1, x2, x3, x4], .bool (chF s)])
/-- What Settled answers, in parts. -/
theorem vsettled_parts (F : List Nat) (v : Value) (s : Ta) (w : World) (h : TlAt F w v s) (hf : chF s = true) :
    Calls Try.prog 18 #[v] w fun e w' => ∃ a1 c1 a2 c2 a3 c3, e = .returned (.tuple #[.agg #[.string (chB s).1, .slice a1 (signsOf s (chB s) (setS s)).length c1, .int .i64 (s.ep + 1), .slice a2 (nxB s).length c2, .slice a3 (signsOf s (chB s) (chB s).2).length c3], .bool true]) ∧ PairsIn w' a1 (signsOf s (chB s) (setS s)) ∧ IntsIn w' a2 (nxB s) ∧ PairsIn w' a3 (signsOf s (chB s) (chB s).2) ∧ Below w.heap.size w w' ∧ ∀ x, a2 = some x → w.heap.size < x.block := by
  obtain ⟨g, m, am, cm, rfl, rfl, h⟩ := h
  refine (vsettled_yes g m am cm s w h hf).mono fun e w' ⟨r, k1, k2, k3, k9⟩ => ?_
  obtain ⟨a1, c1, a2, c2, a3, c3, k4, k5, k6, k7⟩ := k2
  exact ⟨a1, c1, a2, c2, a3, c3, by rw [k1, k4], k5, k6, k7, k3, fun x hx => k9 _ _ _ a2 _ c2 _ _ k4 x hx⟩
theorem vsettled_none (F : List Nat) (v : Value) (s : Ta) (w : World) (h : TlAt F w v s) (hf : chF s = false) :
    Calls Try.prog 18 #[v] w fun e w' => e = .returned (.tuple #[.agg #[.string ⟨#[]⟩, .slice none 0 0, .int .i64 0, .slice none 0 0, .slice none 0 0], .bool false]) ∧ Below w.heap.size w w' := by
  refine (vsettled_at F v s w h).mono fun e w' ⟨r, k1, k2, k3⟩ => ?_
  rw [SetAns, hf] at k2
  exact ⟨by rw [k1, show r = NoSet from k2]; rfl, k3⟩
end Go.Proofs.Ytkceihnjnjbceaa
