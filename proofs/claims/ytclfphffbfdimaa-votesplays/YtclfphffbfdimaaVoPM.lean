/- Votes counted: who signed what is settled, and that there is one such thing at most. -/
import Derived.Test.YtclfphffbfdimaaKg1
namespace Go.Proofs.Ytclfphffbfdimaa
open Go.RowKit

theorem mem_nodup {l : List Int} (h : memB l = true) : l.Nodup := (mem_inc h).imp fun h => by omega
theorem TOk.memN {s : Ta} (h : TOk s) : s.mem.Nodup := mem_nodup (rightC_ep h.right).2
def whoOf (vs : List Vo) (b : Bl) : List Int := (vs.filter fun v => decide (v.2 = b)).map (·.1)
theorem whoOf_len (vs : List Vo) (b : Bl) : (whoOf vs b).length = cntB vs b := by
  rw [whoOf, List.length_map, cntB, List.countP_eq_length_filter]
theorem whoOf_nodup {vs : List Vo} (h : (vs.map (·.1)).Nodup) (b : Bl) : (whoOf vs b).Nodup :=
  h.sublist (List.Sublist.map _ List.filter_sublist)
theorem mem_whoOf {s : Ta} (h : TOk s) {b : Bl} (hb : b ≠ noB) (i : Int) : i ∈ whoOf s.vs b ↔ i ∈ s.mem ∧ castOf s.vs i = b := by
  rw [whoOf, List.mem_map]
  constructor
  · rintro ⟨v, hv, rfl⟩
    rw [List.mem_filter] at hv
    exact ⟨h.mem v hv.1, (castOf_mem h.nod v hv.1).trans (of_decide_eq_true hv.2)⟩
  · rintro ⟨_, hc⟩
    cases hv : voted s.vs i with
    | false => rw [castOf_none hv] at hc; exact absurd hc.symm hb
    | true =>
      obtain ⟨v, hv2, e1, e2⟩ := voted_ex h.nod hv
      exact ⟨v, List.mem_filter.2 ⟨hv2, decide_eq_true (e2.symm.trans hc)⟩, e1⟩
def whoM (s : Ta) (b : Bl) : List Int := s.mem.filter fun id => decide (castOf s.vs id = b)
theorem signs_who (s : Ta) (b : Bl) (t : ByteArray) : signsOf s b t = (whoM s b).map fun id => (id, t) := rfl
theorem signs_cnt {s : Ta} (h : TOk s) {b : Bl} (hb : b ≠ noB) (t : ByteArray) : (signsOf s b t).length = cntB s.vs b := by
  have hm : ∀ i, i ∈ whoM s b ↔ i ∈ whoOf s.vs b := fun i => by
    rw [mem_whoOf h hb, whoM, List.mem_filter]
    simp
  rw [signs_who, List.length_map, ← whoOf_len]
  exact Nat.le_antisymm (nodup_len _ _ (h.memN.filter _) (fun i hi => (hm i).1 hi)) (nodup_len _ _ (whoOf_nodup h.nod b) (fun i hi => (hm i).2 hi))
theorem cnt_two {vs : List Vo} {b c : Bl} (h : b ≠ c) : cntB vs b + cntB vs c ≤ vs.length := by
  induction vs with
  | nil => exact Nat.le_refl _
  | cons v vs ih =>
    simp only [cntB, List.countP_cons, List.length_cons] at ih ⊢
    by_cases e1 : v.2 = b
    · have e2 : ¬ v.2 = c := fun e => h (e1.symm.trans e)
      simp only [e1, h, decide_true, decide_false, if_true]
      simp
      omega
    · by_cases e2 : v.2 = c
      · simp only [e2, decide_true, if_true]
        have : ¬ c = b := fun e => h e.symm
        simp [this]
        omega
      · simp [e1, e2]
        omega
theorem quo_half {s : Ta} (h : TOk s) : (s.mem.length : Int) < 2 * quoT s := by
  have := h.mlen
  rw [quoT, quoZ_hi (by omega), fltZ_hi (by omega)]
  omega
theorem chosen_uniq {s : Ta} (h : TOk s) {b c : Bl} (h1 : quoT s ≤ (cntB s.vs b : Int)) (h2 : quoT s ≤ (cntB s.vs c : Int)) : b = c := by
  by_cases e : b = c
  · exact e
  · have h3 := cnt_two (vs := s.vs) e
    have h4 := h.len
    have h5 := quo_half h
    omega
theorem chosen_eq {s : Ta} (h : TOk s) {b : Bl} (hb : quoT s ≤ (cntB s.vs b : Int)) : chosenOf s = some b := by
  obtain ⟨v, hv, e⟩ := cntB_pos (vs := s.vs) (b := b) (by have := quoT_pos h; omega)
  have hc : castOf s.vs v.1 = b := (castOf_mem h.nod v hv).trans e
  cases hf : s.mem.find? (chooser s) with
  | none =>
    rw [List.find?_eq_none] at hf
    have := hf v.1 (h.mem v hv)
    rw [chooser, hc, decide_eq_true hb] at this
    exact absurd rfl this
  | some i =>
    have h1 : quoT s ≤ (cntB s.vs (castOf s.vs i) : Int) := by
      have h0 := List.find?_some hf
      exact of_decide_eq_true h0
    rw [chosenOf, hf]
    exact congrArg some (chosen_uniq h h1 hb)
theorem chF_iff {s : Ta} (h : TOk s) : chF s = true ↔ ∃ b, quoT s ≤ (cntB s.vs b : Int) := by
  constructor
  · intro hf
    exact ⟨_, (chosen_some h (chB_of hf)).1⟩
  · rintro ⟨b, hb⟩
    rw [chF, chosen_eq h hb]
    rfl
theorem chB_eq {s : Ta} (h : TOk s) {b : Bl} (hb : quoT s ≤ (cntB s.vs b : Int)) : chF s = true ∧ chB s = b := by
  rw [chF, chB, chosen_eq h hb]
  exact ⟨rfl, rfl⟩
theorem cnt_grows (s : Ta) (f : Int) (t : ByteArray) (nx : List Int) (sg : List (Int × ByteArray)) (b : Bl) : cntB s.vs b ≤ cntB (added s f t nx sg).vs b := by
  unfold added
  split
  · show cntB s.vs b ≤ cntB (s.vs ++ _) b
    rw [cntB_add]
    omega
  · exact Nat.le_refl _
/-- What is settled stays. -/
theorem chosen_stays {s : Ta} (h : TOk s) {f : Int} {t : ByteArray} (ht : t.size ≤ 140737488355328) {nx : List Int} {sg : List (Int × ByteArray)} (hf : chF s = true) : chF (added s f t nx sg) = true ∧ chB (added s f t nx sg) = chB s := by
  have h1 := (chosen_some h (chB_of hf)).1
  have h2 := cnt_grows s f t nx sg (chB s)
  have h3 : quoT (added s f t nx sg) = quoT s := by rw [quoT, quoT, (added_ep s f t nx sg).2]
  exact chB_eq (h.add ht) (by rw [h3]; omega)
theorem chB_not {s : Ta} (h : TOk s) (hf : chF s = true) : chB s ≠ noB := by
  obtain ⟨_, v, hv, e⟩ := chosen_some h (chB_of hf)
  rw [← e]
  exact noB_not h hv
def whereI (l : List Int) (n : Int) : Int := if n ∈ l then (l.idxOf n : Int) else -1
set_option maxRecDepth 100000 in
set_option maxHeartbeats 1600000 in
theorem uwhere_any (a : Option Addr) (n cap : Nat) (l : List Int) (hn : l.length = n) (hm : n ≤ maxLen) (x : Int) (w : World) (hI : IntsIn w a l) :
    Calls Try.prog 26 #[.slice a n cap, .int .i64 x] w fun e w' => e = .returned (.int .i64 (whereI l x)) ∧ Below w.heap.size w w' := by
  have HI := hid hI
  have HN := hid hn
  have hm3 : (n : Int) ≤ 9223372036854775807 := by unfold maxLen at hm; omega
  clear hI hn hm
  go_enter Try.func26, Try.ntmps26
  go_wp2
  go_loopw [5] (fun i wr => ∃ j : Nat, j ≤ n ∧ i = .int .i64 (j : Int) ∧ wr = w ∧ x ∉ l.take j)
    (fun i _ => ((n : Int) - intOf i).toNat)
  case atStart => exact ⟨0, by omega, rfl, rfl, by simp⟩
  case round =>
    obtain ⟨j, hj, rfl, rfl, hno⟩ := hrel
    by_cases hjn : j = n
    · have hj1 : ¬ ((j : Int) < (n : Int)) := by omega
      have HF : Hid (whereI l x = -1) := hid (by rw [List.take_of_length_le (by have := HN.out; omega)] at hno; rw [whereI, if_neg hno])
      clear hno hj hjn
      go_wp2
      go_ret
      exact ⟨by rw [HF.out]; rfl, Below.refl _ _⟩
    · have hj1 : (j : Int) < (n : Int) := by omega
      have hj0 : (0 : Int) ≤ (j : Int) := Int.natCast_nonneg _
      have hjl : j < l.length := by have := HN.out; omega
      obtain ⟨g, off, rfl, hg, hcell⟩ := HI.out.at j _ (getD_some hjl)
      have HJ := hid (And.intro hj (And.intro hjn (And.intro hno hjl)))
      obtain ⟨y, ey⟩ : ∃ y, y = l.getD j 0 := ⟨_, rfl⟩
      rw [← ey] at hcell
      have HY := hid ey
      clear hj hjn hno hjl hg ey
      by_cases hxy : y = x
      · subst hxy
        have HF : Hid (whereI l y = (j : Int)) := hid (by
          have h1 : l[j]'HJ.out.2.2.2 = y := (getD_get l j HJ.out.2.2.2).symm.trans HY.out.symm
          have h2 : y ∈ l := h1 ▸ List.getElem_mem _
          have h3 : l.idxOf y = j := by
            have h4 := List.take_append_drop j l
            have h5 : l.drop j = y :: l.drop (j + 1) := by rw [List.drop_eq_getElem_cons HJ.out.2.2.2, h1]
            rw [← h4, h5, List.idxOf_append, if_neg HJ.out.2.2.1, List.idxOf_cons_self, List.length_take]
            have := HJ.out
            omega
          rw [whereI, if_pos h2, h3])
        go_wp2
        go_ret
        exact ⟨by rw [HF.out]; rfl, Below.refl _ _⟩
      · have hb : (y == x) = false := by simpa using hxy
        have hb2 : ¬ y = x := hxy
        go_wp2
        go_roundw
        case rel => exact ⟨j + 1, by have := HJ.out; omega, by go_num, trivial, not_mem_snoc HJ.out.2.2.1 (by rw [← HY.out]; exact hxy) HJ.out.2.2.2⟩
        case measure => simp [intOf]; omega
theorem where_neg (l : List Int) (n : Int) : (whereI l n < 0) ↔ n ∉ l := by
  rw [whereI]
  split
  · rename_i h; constructor
    · intro h2; omega
    · intro h2; exact absurd h h2
  · rename_i h; exact ⟨fun _ => h, fun _ => by decide⟩
end Go.Proofs.Ytclfphffbfdimaa
