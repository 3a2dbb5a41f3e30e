/- The contract of the statements' own 'lives': a number is written and read. -/
import Derived.Test.YthhgpfcbhaoeiaaPkC
import Derived.Test.YthhgpfcbhaoeiaaPkN
namespace Go.Proofs.Ythhgpfcbhaoeiaa
open Go.RowKit

theorem livesE : wE 2 [] 0 2 515 = 0 := by decide
theorem livesL : wL 2 [] 0 2 515 = [2, 3] := by decide
theorem livesS : scE ⟨#[98, 98]⟩ ⟨#[2, 3]⟩ = 0 := by kernel_rfl
theorem livesV : scV ⟨#[98, 98]⟩ ⟨#[2, 3]⟩ = [(2, 0, ⟨#[]⟩), (3, 0, ⟨#[]⟩)] := by kernel_rfl

set_option maxRecDepth 100000 in
set_option maxHeartbeats 1600000 in
theorem lives_any (w : World) : Calls Try.prog 9 #[] w fun e w' => e = .returned (.bool true) ∧ Below w.heap.size w w' := by
  go_enter Try.func9, Try.ntmps9
  go_wp2_with fail
  refine (new_any 2 w).mono ?_
  rintro e w1 ⟨rfl, hw1⟩
  have hr1 : WrAt w1 w.heap.size (.slice none 0 0) 2 [] 0 := by rw [hw1]; exact new_wr 2 w
  have hb1 : Below w.heap.size w w1 := by rw [hw1]; exact (Below.refl _ _).alloc (Nat.le_refl _) _
  have H1 := hid (And.intro hr1 hb1)
  clear hw1 hr1 hb1
  go_wp2_with fail
  refine (wword_any w.heap.size (.slice none 0 0) 2 [] 0 515 w1 H1.out.1 (by omega) (by omega) (by simp) (by omega)).mono ?_
  rintro e w2 ⟨rfl, v2, hr2, hk2, -⟩
  rw [livesE, livesL] at hr2
  have hb2 : Below w.heap.size w w2 := H1.out.2.trans (hk2.below (by have := H1.out.2.size; omega) (Nat.le_refl _) (by simp [Value.ownBlock]))
  have H2 := hid (And.intro hr2 hb2)
  clear hr2 hk2 hb2
  go_wp2_with fail
  refine (done_ok w.heap.size v2 2 [2, 3] w2 H2.out.1).mono ?_
  rintro e w3 ⟨rfl, rfl⟩
  go_wp2_with fail
  refine (scan_any ⟨#[98, 98]⟩ ⟨#[2, 3]⟩ w3 (by decide)).mono ?_
  rintro e w4 ⟨v4, rfl, ho4, hb4⟩
  rw [livesS]
  rw [livesV] at ho4
  have hb5 : Below w.heap.size w w4 := H2.out.2.trans (hb4.mono H2.out.2.size)
  obtain ⟨g, cap, hv4, -, -⟩ := ho4.form (by simp)
  have c0 := ho4.cells (g := g) (by rw [hv4]; rfl) 0 _ rfl
  have c3 := ho4.cells (g := g) (by rw [hv4]; rfl) 3 _ rfl
  rw [hv4]
  have H4 := hid hb5
  clear hb4 hb5 ho4 hv4
  simp [Addr.add] at c0 c3
  go_wp2
  go_ret
  exact ⟨rfl, H4.out⟩

end Go.Proofs.Ythhgpfcbhaoeiaa
