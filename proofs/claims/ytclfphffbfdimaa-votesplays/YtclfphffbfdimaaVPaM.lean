/- The document's tally, as a list of votes: it settles what the program's does. No walk here. -/
import Derived.Test.YtclfphffbfdimaaVoPM
import Derived.Test.YtclfphffbfdimaaKg1
namespace Go.Proofs.Ytclfphffbfdimaa
open Go.RowKit

/-- A vote as the document keeps it: who, the state's bytes, the next members, the signatures. -/
abbrev Rv := Int × ByteArray × List Int × List (Int × ByteArray)
def voOf (ep : Int) (r : Rv) : Vo := (r.1, (r.2.1, textC (ep + 1) r.2.2.1))
/-- The document's votes beside the program's. -/
structure RvOk (s : Ta) (rs : List Rv) : Prop where
  ok : TOk s
  vs : s.vs = rs.map (voOf s.ep)
  nx : ∀ r ∈ rs, rightC (s.ep + 1) r.2.2.1 = true
  sg : ∀ r ∈ rs, r.2.2.2 = twoS r.1 (voS s.ep s.mem r.2.1 r.2.2.1) (voC s.ep s.mem r.2.1 r.2.2.1)
theorem RvOk.new {ep : Int} {l : List Int} (h : rightC ep l = true) : RvOk ⟨ep, l, []⟩ [] := ⟨TOk.new h, rfl, fun r hr => by simp at hr, fun r hr => by simp at hr⟩
theorem RvOk.add {s : Ta} {rs : List Rv} (h : RvOk s rs) {f : Int} {t : ByteArray} (ht : t.size ≤ 140737488355328) {nx : List Int} {sg : List (Int × ByteArray)} (he : addE s f t nx sg = 0) : RvOk (added s f t nx sg) (rs ++ [(f, t, nx, sg)]) := by
  obtain ⟨h1, _, h3, _⟩ := addE_ok he
  have hep := added_ep s f t nx sg
  refine ⟨h.ok.add ht, ?_, fun r hr => ?_, fun r hr => ?_⟩
  · rw [hep.1, List.map_append, ← h.vs, added, if_pos he]
    show s.vs ++ _ = s.vs ++ _
    rw [show voC s.ep s.mem t nx = textC (s.ep + 1) nx by rw [voC, if_pos h1]]
    rfl
  · rw [hep.1]
    rcases List.mem_append.1 hr with hr | hr
    · exact h.nx r hr
    · rw [List.mem_singleton.1 hr]; exact (voB_parts h1).2.2
  · rw [hep.1, hep.2]
    rcases List.mem_append.1 hr with hr | hr
    · exact h.sg r hr
    · rw [List.mem_singleton.1 hr]; exact h3
theorem RvOk.no {s : Ta} {rs : List Rv} (h : RvOk s rs) {f : Int} {t : ByteArray} {nx : List Int} {sg : List (Int × ByteArray)} (he : addE s f t nx sg ≠ 0) : RvOk (added s f t nx sg) rs := by
  rw [added, if_neg he]
  exact h
theorem RvOk.vb {s : Ta} {rs : List Rv} (h : RvOk s rs) {r : Rv} (hr : r ∈ rs) : voB s.ep s.mem r.2.1 r.2.2.1 = true := by
  have hv : voOf s.ep r ∈ s.vs := by rw [h.vs]; exact List.mem_map.2 ⟨r, hr, rfl⟩
  have hb : 0 < r.2.1.size := (h.ok.bal _ hv).1
  rw [voB, h.ok.right, h.nx r hr, decide_eq_true hb]
  rfl
/-- Votes are alike just if their ballots are. -/
theorem RvOk.alike {s : Ta} {rs : List Rv} (h : RvOk s rs) {r q : Rv} (hr : r ∈ rs) (hq : q ∈ rs) : (voOf s.ep r).2 = (voOf s.ep q).2 ↔ r.2.1 = q.2.1 ∧ r.2.2.1 = q.2.2.1 := by
  constructor
  · intro e
    have e1 := (Prod.mk.inj e).1
    have e2 := (Prod.mk.inj e).2
    exact ⟨e1, (text_inj _ _ _ _ (h.nx r hr) (h.nx q hq) e2).2⟩
  · rintro ⟨e1, e2⟩
    show (r.2.1, _) = (q.2.1, _)
    rw [e1, e2]
/-- The votes that are as this one, by members. -/
def likeOf (l : List Int) (rs : List Rv) (v : Rv) : List Rv := l.flatMap fun m => rs.filter fun r => decide (r.1 = m) && (decide (r.2.1 = v.2.1) && decide (r.2.2.1 = v.2.2.1))
theorem RvOk.nod {s : Ta} {rs : List Rv} (h : RvOk s rs) : (rs.map (·.1)).Nodup := by
  have := h.ok.nod
  rw [h.vs, List.map_map] at this
  exact this
theorem one_of {rs : List Rv} (hn : (rs.map (·.1)).Nodup) (p : Rv → Bool) (m : Int) : (rs.filter fun r => decide (r.1 = m) && p r) = match rs.find? (fun r => decide (r.1 = m)) with | some r => if p r then [r] else [] | none => [] := by
  induction rs with
  | nil => rfl
  | cons r rs ih =>
    have hn2 := List.nodup_cons.1 (show (r.1 :: rs.map (·.1)).Nodup from hn)
    by_cases e : r.1 = m
    · have hno : (rs.filter fun r => decide (r.1 = m) && p r) = [] := by
        rw [List.filter_eq_nil_iff]
        intro q hq h
        rw [Bool.and_eq_true, decide_eq_true_iff] at h
        exact hn2.1 (by rw [e, ← h.1]; exact List.mem_map.2 ⟨q, hq, rfl⟩)
      rw [List.find?_cons, decide_eq_true e]
      cases hp : p r with
      | true => rw [List.filter_cons_of_pos (by rw [decide_eq_true e, hp]; rfl), hno]; show [r] = if p r = true then [r] else []; rw [hp]; rfl
      | false => rw [List.filter_cons_of_neg (by rw [hp, Bool.and_false]; decide), hno]; show [] = if p r = true then [r] else []; rw [hp]; rfl
    · rw [List.filter_cons_of_neg (by rw [decide_eq_false e, Bool.false_and]; decide), List.find?_cons, decide_eq_false e]
      exact ih hn2.2
theorem find_vo (ep : Int) (rs : List Rv) (m : Int) : (rs.map (voOf ep)).find? (fun v => decide (v.1 = m)) = (rs.find? fun r => decide (r.1 = m)).map (voOf ep) := by
  induction rs with
  | nil => rfl
  | cons r rs ih =>
    rw [List.map_cons, List.find?_cons, List.find?_cons]
    by_cases e : r.1 = m
    · rw [show decide ((voOf ep r).1 = m) = true from decide_eq_true e, decide_eq_true e]; rfl
    · rw [show decide ((voOf ep r).1 = m) = false from decide_eq_false e, decide_eq_false e]; exact ih
/-- Who voted alike, by members: the same as of the program's tally. -/
theorem RvOk.like_who {s : Ta} {rs : List Rv} (h : RvOk s rs) {v : Rv} (hv : v ∈ rs) : ∀ (l : List Int), (likeOf l rs v).map (·.1) = l.filter fun id => decide (castOf s.vs id = (voOf s.ep v).2)
  | [] => rfl
  | m :: l => by
    have ih := h.like_who hv l
    have hnb : noB ≠ (voOf s.ep v).2 := fun e => by
      have hm : voOf s.ep v ∈ s.vs := by rw [h.vs]; exact List.mem_map.2 ⟨v, hv, rfl⟩
      exact noB_not h.ok hm e.symm
    rw [likeOf, List.flatMap_cons, List.map_append, List.filter_cons]
    rw [likeOf] at ih
    rw [ih, one_of h.nod _ m]
    have hc : castOf s.vs m = match rs.find? (fun r => decide (r.1 = m)) with | some r => (voOf s.ep r).2 | none => noB := by
      rw [castOf, h.vs, find_vo]
      cases rs.find? (fun r => decide (r.1 = m)) <;> rfl
    rw [hc]
    cases hf : rs.find? (fun r => decide (r.1 = m)) with
    | none => simp [hnb]
    | some r =>
      have hr := List.mem_of_find?_eq_some hf
      have hrm : r.1 = m := by have := List.find?_some hf; simpa using this
      have ha := h.alike hr hv
      by_cases e : r.2.1 = v.2.1 ∧ r.2.2.1 = v.2.2.1
      · simp [e.1, e.2, ha.2 e, hrm]
      · have hne : ¬ (voOf s.ep r).2 = (voOf s.ep v).2 := fun e2 => e (ha.1 e2)
        by_cases e1 : r.2.1 = v.2.1
        · have e2 : ¬ r.2.2.1 = v.2.2.1 := fun e2 => e ⟨e1, e2⟩
          simp [e2, hne]
        · simp [e1, hne]
theorem RvOk.like_len {s : Ta} {rs : List Rv} (h : RvOk s rs) {v : Rv} (hv : v ∈ rs) : (likeOf s.mem rs v).length = cntB s.vs (voOf s.ep v).2 := by
  have hm : voOf s.ep v ∈ s.vs := by rw [h.vs]; exact List.mem_map.2 ⟨v, hv, rfl⟩
  have h1 := signs_cnt h.ok (noB_not h.ok hm) noT
  have h2 := h.like_who hv s.mem
  rw [signs_who, List.length_map] at h1
  rw [← h1, whoM, ← h2, List.length_map]
theorem mem_like {l : List Int} {rs : List Rv} {v r : Rv} (h : r ∈ likeOf l rs v) : r ∈ rs ∧ r.2.1 = v.2.1 ∧ r.2.2.1 = v.2.2.1 := by
  rw [likeOf, List.mem_flatMap] at h
  obtain ⟨m, _, hr⟩ := h
  obtain ⟨h1, h2⟩ := List.mem_filter.1 hr
  simp at h2
  exact ⟨h1, h2.2.1, h2.2.2⟩
/-- No quorum for any vote of the document's: nothing is settled by the program either. -/
theorem RvOk.none {s : Ta} {rs : List Rv} (h : RvOk s rs) (hn : ∀ v ∈ rs, ¬ quoT s ≤ ((likeOf s.mem rs v).length : Int)) : chF s = false := by
  cases hf : chF s with
  | false => rfl
  | true =>
    obtain ⟨h1, x, hx, e⟩ := chosen_some h.ok (chB_of hf)
    rw [h.vs] at hx
    obtain ⟨v, hv, rfl⟩ := List.mem_map.1 hx
    refine absurd ?_ (hn v hv)
    rw [h.like_len hv, e]
    exact h1
/-- A quorum for a vote of the document's: it is what the program settles, and who signs is the same. -/
theorem RvOk.some {s : Ta} {rs : List Rv} (h : RvOk s rs) {v : Rv} (hv : v ∈ rs) (hq : quoT s ≤ ((likeOf s.mem rs v).length : Int)) : chF s = true ∧ (chB s).1 = v.2.1 ∧ nxB s = v.2.2.1 ∧ (∀ r ∈ likeOf s.mem rs v, r.2.2.2 = twoS r.1 (setS s) (chB s).2) ∧ signsOf s (chB s) (setS s) = (likeOf s.mem rs v).map (fun r => (r.1, setS s)) ∧ signsOf s (chB s) (chB s).2 = (likeOf s.mem rs v).map (fun r => (r.1, (chB s).2)) := by
  rw [h.like_len hv] at hq
  obtain ⟨hf, hb⟩ := chB_eq h.ok hq
  have hn : nxB s = v.2.2.1 := by rw [nxB, hb]; exact (read_text _ _ (h.nx v hv)).2.2
  have hw : ∀ t, signsOf s (chB s) t = (likeOf s.mem rs v).map (fun r => (r.1, t)) := fun t => by
    rw [signs_who, whoM, hb, ← h.like_who hv s.mem, List.map_map]
    rfl
  refine ⟨hf, by rw [hb]; rfl, hn, fun r hr => ?_, hw _, hw _⟩
  obtain ⟨h1, h2, h3⟩ := mem_like hr
  have hvb := h.vb h1
  rw [h.sg r h1, voS, if_pos hvb, voC, if_pos hvb, setS, hb, h2, h3]
  rfl
end Go.Proofs.Ytclfphffbfdimaa
