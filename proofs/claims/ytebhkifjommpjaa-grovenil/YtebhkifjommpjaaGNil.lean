/- GroveNil: the walk. -/
import Derived.Test.YtebhkifjommpjaaGrJ
namespace Go.Proofs.Ytebhkifjommpjaa
open Go.RowKit

set_option maxRecDepth 100000 in
set_option maxHeartbeats 1600000 in
theorem groveNil_walk (t : ByteArray) (w : World) :
    Calls Try.prog 8 #[.string t] w fun e w' => e = .returned (.bool true) ∧ Below w.heap.size w w' := by
  go_enter Try.func8, Try.ntmps8
  go_wp2_with (first
    | (go_at_call 9; refine (glives_any _).mono ?_; rintro e w1 ⟨rfl, hb1⟩; have H1 := hid hb1; clear hb1)
    | (go_at_call 18; refine (ssign_nil _ _).mono ?_; rintro e wx ⟨rfl, rfl⟩)
    | (go_at_call 16; refine (sroot_nil _).mono ?_; rintro e wx ⟨rfl, rfl⟩)
    | (go_at_call 17; refine (sleft_nil _).mono ?_; rintro e wx ⟨rfl, rfl⟩))
  go_ret
  exact ⟨rfl, H1.out⟩
end Go.Proofs.Ytebhkifjommpjaa
