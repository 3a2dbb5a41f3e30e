/- What is told comes back, what is read is told: in the words of the contracts. -/
import Derived.Test.YtpgfdnmlkaoigaaDsI
namespace Go.Proofs.Ytpgfdnmlkaoigaa

theorem nul_read {t : ByteArray} (h : t.data.toList = [0]) : rdR t = zeroQ ∧ rdE t = 0 := by
  have : isNul t = true := by rw [isNul, h]; rfl
  rw [rdR, rdE, this]
  exact ⟨rfl, rfl⟩
theorem zero_text : rqT zeroQ = ⟨#[0]⟩ ∧ rqE zeroQ = 0 := by
  rw [rqT, rqE, zero_null]
  exact ⟨rfl, rfl⟩
theorem same_of {x y : Rq} (hx : rqE x = 0) (hy : rqE y = 0) (h : rqT x = rqT y) : sameB x y = true := by
  rw [sameB, hx, hy, h]
  simp
theorem back_facts {a : Rq} (h : rqE a = 0) (hb : a.b < 18446744073709551616) : rdE (rqT a) = 0 ∧ sameB a (rdR (rqT a)) = true ∧ rightB (rdR (rqT a)) = rightB a ∧ (rdR (rqT a)).b < 18446744073709551616 := by
  by_cases hR : rightB a = true
  · obtain ⟨h1, h2, h3⟩ := read_back hR hb
    have h4 : rdR (rqT a) = rdq (rqT a) := by
      rw [rdR, h3, h1]
      rfl
    have hw : wholeB a (rdR (rqT a)) = true := by
      rw [h4, h2]
      exact (wholeB_iff _ _).2 ⟨rfl, rfl, rfl, rfl, rfl, (canW_idem _).symm⟩
    obtain ⟨_, e2, e3, e4⟩ := whole_alike hw
    refine ⟨?_, same_of h (e4 ▸ h) e3, e2.symm, h4 ▸ (told_back h1).2.2⟩
    rw [rdE, h3, h1]
    rfl
  · have hN : nullB a = true := by
      rcases (rqE_iff a).1 h with h | h
      · exact h
      · exact absurd h hR
    have e1 : rqT a = ⟨#[0]⟩ := by rw [rqT, if_pos hN]
    obtain ⟨r1, r2⟩ := nul_read (nul_text hN).1
    rw [r1, r2]
    refine ⟨rfl, same_of h zero_text.2 (e1.trans zero_text.1.symm), ?_, by decide⟩
    rw [Bool.eq_false_iff.2 hR]
    decide
theorem told_facts {t : ByteArray} (h : rdE t = 0) : rqE (rdR t) = 0 ∧ rqT (rdR t) = t ∧ (rdR t).b < 18446744073709551616 := by
  by_cases hN : isNul t = true
  · have e1 : t.data.toList = [0] := of_decide_eq_true hN
    rw [(nul_read e1).1]
    refine ⟨zero_text.2, ?_, by decide⟩
    rw [zero_text.1]
    apply ByteArray.ext
    apply Array.ext'
    rw [e1]
  · have hN' := Bool.eq_false_iff.2 hN
    by_cases ho : okq t = true
    · have e1 : rdR t = rdq t := by
        rw [rdR, hN', ho]
        rfl
      obtain ⟨h1, h2, h3⟩ := told_back ho
      rw [e1]
      exact ⟨(rqE_iff _).2 (Or.inr h1), h2, h3⟩
    · rw [rdE, hN', Bool.eq_false_iff.2 ho] at h
      exact absurd h (by decide)
theorem read_codes (t : ByteArray) : rdE t = 0 ∨ rdE t = 5 := by
  unfold rdE
  split
  · exact Or.inl rfl
  · split
    · exact Or.inl rfl
    · exact Or.inr rfl
theorem text_codes (r : Rq) : rqE r = 0 ∨ rqE r = 1 := by
  unfold rqE
  split
  · exact Or.inl rfl
  · split
    · exact Or.inl rfl
    · exact Or.inr rfl
end Go.Proofs.Ytpgfdnmlkaoigaa
