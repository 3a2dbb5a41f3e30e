/- What is told is read. No walk here. -/
import Derived.Test.YtfjcpghepkmbfaaWiZdM
namespace Go.Proofs.Ytfjcpghepkmbfaa
open Go.RowKit

theorem byE_ok {m : Ms} (h : fitB m = true) (hl : (msL m).length ≤ 65536) : byE m = 0 ∧ byT m = ⟨(msL m).toArray⟩ := by
  have he : byE m = 0 := by rw [byE, if_neg (by rw [fit_kind h]; decide), if_neg (by rw [h]; decide), if_neg (by omega)]
  exact ⟨he, by rw [byT, if_pos he]⟩
theorem told_size (m : Ms) : (⟨(msL m).toArray⟩ : ByteArray).size = (msL m).length := by simp [ByteArray.size]
/-- What was told is read. -/
theorem told_read {m : Ms} (h : fitB m = true) (hb : MsB m) (hl : (msL m).length ≤ 65536) : rdEr ⟨(msL m).toArray⟩ = 0 ∧ rdMs ⟨(msL m).toArray⟩ = normM m := by
  have hs : ¬ 65536 < (⟨(msL m).toArray⟩ : ByteArray).size := by rw [told_size]; omega
  have hw := whole_good h hb.r hl
  exact ⟨by rw [rdEr, if_neg hs, if_neg (by rw [hw]; simp)], by rw [rdMs, if_neg hs, hw]; rfl⟩
end Go.Proofs.Ytfjcpghepkmbfaa
