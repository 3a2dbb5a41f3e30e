/- The document's: are two results one; what is prepared. -/
import Derived.Test.YtpgfdnmlkaoigabDsG
namespace Go.Proofs.Ytpgfdnmlkaoigab
open Go.RowKit

/-- The bytes ahead of a request that is prepared. -/
theorem pr_head {e v s : Int} (h : spB e v s = true) : ∃ E V S : Nat, e = (E : Int) ∧ v = (V : Int) ∧ s = (S : Int) ∧ E < 256 ^ 4 ∧ V < 256 ^ 4 ∧ S < 256 ^ 4 := by
  rw [spB, Bool.and_eq_true_iff, Bool.and_eq_true_iff] at h
  have h1 := inR4 h.1.1
  have h2 := inR4 h.1.2
  have h3 := inR4 h.2
  exact ⟨e.toNat, v.toNat, s.toNat, by omega, by omega, by omega, by omega, by omega, by omega⟩
theorem rqT_size (r : Rq) : (rqT r).size ≤ 34 := by
  unfold rqT
  split
  · decide
  · split
    · next h =>
      have h1 := (right_fields h).2.2.2.1
      have h2 := rqL_len r
      show (rqL r).toArray.size ≤ 34
      simp
      omega
    · decide
end Go.Proofs.Ytpgfdnmlkaoigab
