/- What is read is bounded; what two messages' bytes say of both. No walk here. -/
import Derived.Test.YtfjcpghepkmbfaaGb4
import Derived.Test.YtfjcpghepkmbfaaWvA0M
namespace Go.Proofs.Ytfjcpghepkmbfaa
open Go.RowKit

theorem iV_r {n : Nat} {z : Int} (h : iV n z) (hn : n ≤ 2) : iR z := by
  obtain ⟨h0, h1⟩ := h
  have : 256 ^ n ≤ 256 ^ 2 := Nat.pow_le_pow_right (by decide) hn
  have h2 : z.toNat < 65536 := by omega
  exact ⟨by omega, by omega⟩
theorem rqV_r {r : Rq} (h : rqV r) : rqR r := by
  obtain ⟨h1, _, h3⟩ := h
  rcases h1 with h1 | h1
  · obtain ⟨q1, q2, q3, q4, q5⟩ := right_fields h1
    exact ⟨⟨⟨by omega, by omega⟩, ⟨by omega, by omega⟩⟩, ⟨⟨by omega, by omega⟩, ⟨by omega, by omega⟩⟩, by unfold maxLen; omega, h3⟩
  · rw [h1]
    exact ⟨⟨⟨by decide, by decide⟩, ⟨by decide, by decide⟩⟩, ⟨⟨by decide, by decide⟩, ⟨by decide, by decide⟩⟩, by unfold maxLen; decide, by decide⟩
theorem sgV_r {p : Sg} (h : sgV p) : iR p.1 ∧ p.2.size ≤ maxLen := ⟨iV_r (n := 1) h.1 (by decide), by have := h.2; unfold maxLen; omega⟩
theorem sgsV_r {l : List Sg} (h : sgsV l) : sgsR l := ⟨by have := h.1; unfold maxLen; omega, fun p hp => sgV_r (h.2 p hp)⟩
theorem ctV_r {c : Ct} (h : ctV c) : ctR c := ⟨⟨iV_r h.1 (by decide), iV_r h.2.1 (by decide)⟩, rqV_r h.2.2.1, sgsV_r h.2.2.2⟩
theorem cgV_r {c : Cg} (h : cgV c) : cgR c := ⟨⟨iV_r h.1 (by decide), iV_r h.2.1 (by decide)⟩, ⟨by have := h.2.2.1.1; unfold maxLen; omega, fun x hx => ctV_r (h.2.2.1.2 x hx)⟩, sgV_r h.2.2.2⟩
theorem lnV_r {k : Ln} (h : lnV k) : lnR k := by
  obtain ⟨he, hm⟩ := rightC_ep h.1
  have hl := mem_len hm
  exact ⟨⟨by omega, by omega⟩, ⟨by unfold maxLen; omega, fun x hx => by have := mem_in hm x hx; exact ⟨by omega, by omega⟩⟩, sgsV_r h.2⟩
theorem MsV.b {m : Ms} (h : MsV m) : MsB m where
  k := iV_r h.k (by decide)
  ep := iV_r h.ep (by decide)
  v := iV_r h.v (by decide)
  sl := iV_r h.sl (by decide)
  rq := rqV_r h.rq
  rc := by have := h.rs.1; rw [rsB, Bool.and_eq_true, decide_eq_true_eq, decide_eq_true_eq] at this; exact ⟨by omega, by omega⟩
  rf := h.rs.2.2
  tx := by have := h.tx; unfold maxLen; omega
  nx := ⟨by have := h.nx.1; unfold maxLen; omega, fun x hx => iV_r (h.nx.2 x hx) (by decide)⟩
  sg := sgsV_r h.sg
  cg := ⟨by have := h.cg.1; unfold maxLen; omega, fun x hx => cgV_r (h.cg.2 x hx)⟩
  ln := ⟨by have := h.ln.1; unfold maxLen; omega, fun x hx => lnV_r (h.ln.2 x hx)⟩
theorem zero_b : MsB zeroM where
  k := ⟨by decide, by decide⟩
  ep := ⟨by decide, by decide⟩
  v := ⟨by decide, by decide⟩
  sl := ⟨by decide, by decide⟩
  rq := ⟨⟨⟨by decide, by decide⟩, ⟨by decide, by decide⟩⟩, ⟨⟨by decide, by decide⟩, ⟨by decide, by decide⟩⟩, by unfold maxLen; decide, by decide⟩
  rc := ⟨by decide, by decide⟩
  rf := by decide
  tx := by unfold maxLen; decide
  nx := ⟨by unfold maxLen; decide, fun x hx => by cases hx⟩
  sg := ⟨by unfold maxLen; decide, fun x hx => by cases hx⟩
  cg := ⟨by unfold maxLen; decide, fun x hx => by cases hx⟩
  ln := ⟨by unfold maxLen; decide, fun x hx => by cases hx⟩
/-- What Read answers is bounded, whatever the text. -/
theorem rd_b (t : ByteArray) : MsB (rdMs t) := by
  unfold rdMs
  split
  · exact zero_b
  · cases h : pWhole t with
    | none => exact zero_b
    | some m => exact (whole_back h).2.2.b
theorem rd_ok {t : ByteArray} (h : rdEr t = 0) : ¬ 65536 < t.size ∧ pWhole t = some (rdMs t) := by
  have hs : ¬ 65536 < t.size := fun e => by rw [rdEr, if_pos e] at h; cases h
  refine ⟨hs, ?_⟩
  rw [rdEr, if_neg hs] at h
  rw [rdMs, if_neg hs]
  cases hw : pWhole t with
  | none => rw [hw, if_pos rfl] at h; cases h
  | some m => rfl
theorem rd_no {t : ByteArray} (h : rdEr t ≠ 0) : rdMs t = zeroM := by
  unfold rdMs
  split
  · rfl
  · rename_i hs
    rw [rdEr, if_neg hs] at h
    cases hw : pWhole t with
    | none => rfl
    | some m => rw [hw, if_neg (by simp)] at h; exact absurd rfl h
theorem by_fit {m : Ms} (h : byE m = 0) : fitB m = true ∧ (msL m).length ≤ 65536 := by
  unfold byE at h
  split at h
  · cases h
  · split at h
    · cases h
    · rename_i hf
      split at h
      · cases h
      · exact ⟨by simpa using hf, by omega⟩
/-- What is read is told as just these bytes. -/
theorem rd_told {t : ByteArray} (h : rdEr t = 0) : byE (rdMs t) = 0 ∧ byT (rdMs t) = t := by
  obtain ⟨hs, hw⟩ := rd_ok h
  obtain ⟨hf, ht, _⟩ := whole_back hw
  have hl : (msL (rdMs t)).length ≤ 65536 := by rw [← ht, data_len]; omega
  obtain ⟨e1, e2⟩ := byE_ok hf hl
  exact ⟨e1, by rw [e2]; exact bytes_eq (by simp [ht])⟩
theorem normR_idem (r : Rq) : normR (normR r) = normR r := by cases r; simp [normR, canW_idem]
theorem map_idem {α : Type} {f : α → α} (h : ∀ x, f (f x) = f x) (l : List α) : (l.map f).map f = l.map f := by rw [List.map_map]; congr 1; funext x; exact h x
theorem normM_idem (m : Ms) : normM (normM m) = normM m := by
  have h1 : ∀ c, nCt (nCt c) = nCt c := fun c => by obtain ⟨a, b, c, d⟩ := c; simp [nCt, normR_idem]
  have h2 : ∀ c, nCg (nCg c) = nCg c := fun c => by obtain ⟨a, b, c, d⟩ := c; simp only [nCg, map_idem h1]
  cases m
  simp only [normM, normR_idem, canW_idem, map_idem h2]
/-- Told and read it is the same. -/
theorem told_same {m : Ms} (hB : MsB m) (h : byE m = 0) : rdEr (byT m) = 0 ∧ sameMs m (rdMs (byT m)) = true := by
  obtain ⟨hf, hl⟩ := by_fit h
  rw [byT, if_pos h]
  obtain ⟨h1, h2⟩ := told_read hf hB hl
  exact ⟨h1, by rw [h2]; exact (sameMs_iff _ _).2 (normM_idem m).symm⟩
theorem told_eq {m n : Ms} (hB : MsB m) (hC : MsB n) (h : byE m = 0) (k : byE n = 0) : byT m = byT n ↔ sameMs m n = true := by
  obtain ⟨hf, hl⟩ := by_fit h
  obtain ⟨kf, kl⟩ := by_fit k
  rw [byT, if_pos h, byT, if_pos k, sameMs_iff, ← msL_inj hf hB.r hl kf hC.r kl]
  constructor
  · intro e
    have := congrArg (fun b : ByteArray => b.data.toList) e
    simpa using this
  · intro e; rw [e]
theorem zero_same : sameMs zeroM zeroM = true := (sameMs_iff _ _).2 rfl
end Go.Proofs.Ytfjcpghepkmbfaa
