/- The document's: what any bytes are read as, as a result; what is prepared, a state. -/
import Derived.Test.YtpgfdnmlkaoigabDsF
namespace Go.Proofs.Ytpgfdnmlkaoigab
open Go.RowKit

theorem adm_zero' {lim : Int} {n : Nat} {er : Int} {r : Bool} {size : Int} (h : adm lim n er r size = 0) : er = 0 ∧ r = true := by
  unfold adm at h
  split at h
  · next h1 =>
    split at h
    · next h2 => exact ⟨h1, h2⟩
    · cases h
  · next h1 => exact absurd h h1
theorem add_texts (a b : ByteArray) : (a ++ b).data.toList = a.data.toList ++ b.data.toList := by simp [ByteArray.data_append]
end Go.Proofs.Ytpgfdnmlkaoigab
