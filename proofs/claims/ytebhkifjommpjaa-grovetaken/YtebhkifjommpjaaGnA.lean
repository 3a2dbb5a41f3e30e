/- What serves in every later layer: texts out of rows, sums of two parts, regions that draw walked once in a class of worlds, two rows of one's own. -/
import Derived.Test.YtebhkifjommpjaaShQ
import Derived.BigQuiet
namespace Go.Proofs.Ytebhkifjommpjaa
open Go.RowKit

theorem joinB_two (s t : ByteArray) : joinB [s, t] = s.data.toList ++ t.data.toList := by simp [joinB]
theorem sum_two (s t : ByteArray) (hs : s.size ≤ 2000000) (ht : t.size ≤ 2000000) (u : World) (g : Nat) (hg : g = u.heap.size) :
    Calls Try.prog 41 #[.slice (some ⟨g, 0, none⟩) 2 2] (u.alloc (.cells #[.string s, .string t] 9)) fun e w' => e = .returned (.string ⟨(shaB (s.data.toList ++ t.data.toList)).toArray⟩) ∧ Below u.heap.size u w' := by
  subst hg
  have := ssum_new [s, t] #[.string s, .string t] 2 2 u rfl rfl (by rw [joinB_two, List.length_append, data_len, data_len]; omega) (by decide)
  rwa [joinB_two] at this
end Go.Proofs.Ytebhkifjommpjaa
