/- A timer that is not there. -/
import Derived.Test.YtoepmpjncddnlaaPtD
namespace Go.Proofs.Ytoepmpjncddnlaa
open Go.RowKit

set_option maxHeartbeats 800000 in
theorem patienceNil_walk (k n : Int) (w : World) : Calls Try.prog 6 #[.agg #[.int .i64 k, .int .i64 n]] w fun e w' => e = .returned (.bool true) ∧ Below w.heap.size w w' := by
  have H0 : Hid (OpAt (w.alloc (.cells #[.int .i64 k, .int .i64 n] 30)) w.heap.size k n ∧ Below w.heap.size w (w.alloc (.cells #[.int .i64 k, .int .i64 n] 30))) := hid ⟨heap_alloc_last w _, (Below.refl _ _).alloc (Nat.le_refl _) _⟩
  go_enter Try.func6, Try.ntmps6
  go_wp2_with (first
    | (go_at_call 7; go_must (refine (plives_any _).mono ?_); rintro e w1 ⟨rfl, hb1⟩; have H1 : Hid (OpAt w1 w.heap.size k n ∧ Below w.heap.size w w1) := hid ⟨H0.out.1.keep hb1, H0.out.2.trans (hb1.mono H0.out.2.size)⟩; clear hb1; obtain ⟨x0, x1⟩ := H1.out.1.cells)
    | (go_at_call 10; go_must (refine (call_nil _ _ _).mono ?_); rintro e w2 ⟨rfl, hb2⟩; have H2 : Hid (OpAt w2 w.heap.size k n ∧ Below w.heap.size w w2) := hid ⟨H1.out.1.keep hb2, H1.out.2.trans (hb2.mono H1.out.2.size)⟩; clear hb2 x0 x1; obtain ⟨x0, x1⟩ := H2.out.1.cells)
    | (go_at_call 15; go_must (refine (pdue_nil _ _).mono ?_); rintro e w3 ⟨rfl, hb3⟩; have H3 := hid (H2.out.2.trans (hb3.mono H2.out.2.size)); clear hb3 x0 x1)
    | (go_at_call 17; go_must (refine (prun_nil _).mono ?_); rintro e w4 ⟨rfl, hw4⟩; replace hw4 := hw4.symm; subst hw4)
    | (go_at_call 18; go_must (refine (pwait_nil _).mono ?_); rintro e w4 ⟨rfl, hw4⟩; replace hw4 := hw4.symm; subst hw4))
  go_ret
  exact ⟨rfl, H3.out⟩
end Go.Proofs.Ytoepmpjncddnlaa
