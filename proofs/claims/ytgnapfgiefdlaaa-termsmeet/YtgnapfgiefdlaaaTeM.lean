/- Two proofs have signers in common. No walk here. -/
import Derived.Test.YtgnapfgiefdlaaaTeC
import Derived.Test.YtgnapfgiefdlaaaTeE
namespace Go.Proofs.Ytgnapfgiefdlaaa
open Go.RowKit

/-- Who signed. -/
def whoL (ss : List (Int × ByteArray)) : List Int := ss.map Prod.fst
theorem whoL_len (ss : List (Int × ByteArray)) : (whoL ss).length = ss.length := List.length_map ..
theorem whoL_at (ss : List (Int × ByteArray)) (j : Nat) : (whoL ss).getD j 0 = idOf ss j := by
  rw [whoL, idOf, List.getD_eq_getElem?_getD, List.getD_eq_getElem?_getD, List.getElem?_map]
  cases ss[j]? <;> rfl
theorem okTTo_at {l : List Int} {t : ByteArray} {ss : List (Int × ByteArray)} : ∀ {n : Nat}, okTTo l t ss n = true → ∀ j, j < n → okT l t ss j = true
  | 0, _, j, hj => by omega
  | n + 1, h, j, hj => by
    rw [okTTo_succ, Bool.and_eq_true] at h
    by_cases e : j = n
    · rw [e]; exact h.2
    · exact okTTo_at h.1 j (by omega)
theorem okT_mem {l : List Int} {t : ByteArray} {ss : List (Int × ByteArray)} {j : Nat} (h : okT l t ss j = true) : idOf ss j ∈ l := by
  simp only [okT, Bool.and_eq_true] at h
  exact of_decide_eq_true h.2.1
theorem okT_up {l : List Int} {t : ByteArray} {ss : List (Int × ByteArray)} {j : Nat} (h : okT l t ss (j + 1) = true) : idOf ss j < idOf ss (j + 1) := by
  simp only [okT, Bool.and_eq_true, Bool.or_eq_true, decide_eq_true_eq] at h
  rcases h.2.2 with h | h
  · omega
  · exact h
theorem proves_parts {ep : Int} {l : List Int} {t : ByteArray} {ss : List (Int × ByteArray)} (h : provesB ep l t ss = true) : (∀ x, x ∈ whoL ss → x ∈ l) ∧ (whoL ss).Nodup ∧ rightC ep l = true ∧ quoZ (l.length : Int) ≤ (ss.length : Int) ∧ ss.length ≤ 16 := by
  simp only [provesB, Bool.and_eq_true, decide_eq_true_eq] at h
  obtain ⟨h1, h2, h3, h4⟩ := h
  have hup : ∀ a b, a < b → b < ss.length → idOf ss a < idOf ss b := by
    intro a b hab
    induction b with
    | zero => omega
    | succ b ih =>
      intro hb
      have h5 := okT_up (okTTo_at h1 (b + 1) hb)
      by_cases e : a = b
      · rw [e]; exact h5
      · have := ih (by omega) (by omega); omega
  refine ⟨fun x hx => ?_, ?_, h2, h3, h4⟩
  · obtain ⟨j, hj, e⟩ := List.getElem_of_mem hx
    rw [whoL_len] at hj
    have := okT_mem (okTTo_at h1 j hj)
    rw [← whoL_at, getD_get _ _ (by rw [whoL_len]; exact hj), e] at this
    exact this
  · refine List.pairwise_iff_getElem.2 (fun a b ha hb hab e => ?_)
    rw [whoL_len] at hb
    have := hup a b hab hb
    rw [← whoL_at, ← whoL_at, getD_get _ _ ha, getD_get _ _ (by rw [whoL_len]; exact hb), e] at this
    omega
/-- How often one is the other. -/
def cntL (B : List Int) : List Int → Nat
  | [] => 0
  | x :: A => B.count x + cntL B A
theorem cntL_app (B A C : List Int) : cntL B (A ++ C) = cntL B A + cntL B C := by
  induction A with
  | nil => simp [cntL]
  | cons x A ih => simp [cntL, ih]; omega
theorem cntL_snoc (B A : List Int) (x : Int) : cntL B (A ++ [x]) = cntL B A + B.count x := by rw [cntL_app]; simp [cntL]
theorem cntL_le (B A : List Int) : cntL B A ≤ A.length * B.length := by
  induction A with
  | nil => simp [cntL]
  | cons x A ih =>
    have := List.count_le_length (a := x) (l := B)
    rw [cntL, List.length_cons, Nat.succ_mul]
    omega
theorem cntL_in (B A : List Int) : (A.filter (fun x => decide (x ∈ B))).length ≤ cntL B A := by
  induction A with
  | nil => simp [cntL]
  | cons x A ih =>
    rw [cntL, List.filter_cons]
    split
    · next h =>
      have := List.count_pos_iff.2 (of_decide_eq_true h)
      rw [List.length_cons]
      omega
    · omega
theorem part_len (A : List Int) (p : Int → Bool) : A.length = (A.filter p).length + (A.filter (fun x => !p x)).length := by
  induction A with
  | nil => rfl
  | cons x A ih =>
    rw [List.filter_cons, List.filter_cons]
    cases p x <;> simp <;> omega
theorem meet_len {l A B : List Int} (hA : A.Nodup) (hB : B.Nodup) (h1 : ∀ x, x ∈ A → x ∈ l) (h2 : ∀ x, x ∈ B → x ∈ l) : A.length + B.length ≤ l.length + cntL B A := by
  have h3 := nodup_len (B ++ A.filter (fun x => !decide (x ∈ B))) l (List.nodup_append.2 ⟨hB, hA.filter _, fun x hx y hy e => by
    have := (List.mem_filter.1 hy).2
    rw [← e] at this
    simp [hx] at this⟩) (fun x hx => by
    rcases List.mem_append.1 hx with h | h
    · exact h2 x h
    · exact h1 x (List.mem_filter.1 h).1)
  have h4 := cntL_in B A
  have h5 := part_len A (fun x => decide (x ∈ B))
  rw [List.length_append] at h3
  omega
theorem meet_num {n a b c : Nat} (h : a + b ≤ n + c) (ha : quoZ (n : Int) ≤ (a : Int)) (hb : quoZ (n : Int) ≤ (b : Int)) (hn : 1 ≤ n) : wekZ (n : Int) ≤ (c : Int) ∧ fltZ (n : Int) < (c : Int) := by
  unfold quoZ at ha hb
  unfold wekZ
  rw [if_neg (by omega)] at ha hb
  unfold fltZ at *
  split at * <;> omega
end Go.Proofs.Ytgnapfgiefdlaaa
