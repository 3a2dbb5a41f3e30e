/- What a change signs, by both. -/
import Derived.Test.YtpflcneoojakdaaChLM
import Derived.Test.YtpflcneoojakdaaChHM
namespace Go.Proofs.Ytpflcneoojakdaa
open Go.RowKit

set_option maxRecDepth 100000 in
set_option maxHeartbeats 1600000 in
theorem changeTexts_walk {F : Nat → Prop} (ep : Int) (z : Cg) (a : Option Addr) (n cap : Nat) (hz : cgR z) (w : World) (hR : Reads F w (.slice a n cap) (dCts z.2.2.1)) :
    Calls Try.prog 3 #[.int .i64 ep, .agg #[.int .i64 z.1, .int .i64 z.2.1, .slice a n cap, .int .i64 z.2.2.2.1, .string z.2.2.2.2]] w fun e w' => e = .returned (.bool true) ∧ Below w.heap.size w w' := by
  have HX : Hid (∀ u : World, Below w.heap.size w u → Calls Try.prog 10 #[.int .i64 ep, .agg #[.int .i64 z.1, .int .i64 z.2.1, .slice a n cap, .int .i64 z.2.2.2.1, .string z.2.2.2.2]] u fun e w' => e = .returned (.tuple #[.string (chT ep z), .int .i64 (chE ep z)]) ∧ Below u.heap.size u w') := hid (fun u hu => ztext_any ep z a n cap hz.2.1.1 hz.2.1.2 u (hR.under hu (Nat.le_refl _)))
  have HY : Hid (∀ u : World, Below w.heap.size w u → Calls Try.prog 11 #[.int .i64 ep, .agg #[.int .i64 z.1, .int .i64 z.2.1, .slice a n cap, .int .i64 z.2.2.2.1, .string z.2.2.2.2]] u fun e w' => e = .returned (.tuple #[.string (chT ep z), .int .i64 (chE ep z)]) ∧ Below u.heap.size u w') := hid (fun u hu => wtext16_any ep z a n cap hz.2.1.1 hz.2.1.2 u (hR.under hu (Nat.le_refl _)))
  have HL : Hid (∀ u : World, Calls Try.prog 9 #[] u fun e w' => e = .returned (.bool true) ∧ Below u.heap.size u w') := hid ulives_any
  generalize chT ep z = tx at HX HY
  generalize chE ep z = er at HX HY
  have H0 : Hid (BxAt (w.alloc (.cells #[.int .i64 z.1, .int .i64 z.2.1, .slice a n cap, .int .i64 z.2.2.2.1, .string z.2.2.2.2] 26)) w.heap.size [.int .i64 z.1, .int .i64 z.2.1, .slice a n cap, .int .i64 z.2.2.2.1, .string z.2.2.2.2] 26 ∧ Below w.heap.size w (w.alloc (.cells #[.int .i64 z.1, .int .i64 z.2.1, .slice a n cap, .int .i64 z.2.2.2.1, .string z.2.2.2.2] 26))) := hid ⟨heap_alloc_last w _, (Below.refl w.heap.size w).alloc (Nat.le_refl _) _⟩
  clear hz hR
  have y0 := H0.out.1.cell 0 _ rfl; have y1 := H0.out.1.cell 1 _ rfl; have y2 := H0.out.1.cell 2 _ rfl; have y3 := H0.out.1.cell 3 _ rfl; have y4 := H0.out.1.cell 4 _ rfl
  go_enter Try.func3, Try.ntmps3
  go_wp2_with (first
    | (have := H2; go_at_call 11; go_must (refine (HY.out _ H2.out.2).mono ?_); rintro e w3 ⟨rfl, hb⟩; have H3 := hid (H2.out.2.trans (hb.mono H2.out.2.size)); clear hb y0 y1 y2 y3 y4)
    | (have := H1; go_at_call 10; go_must (refine (HX.out _ H1.out.2).mono ?_); rintro e w2 ⟨rfl, hb⟩; have H2 : Hid (BxAt w2 w.heap.size [.int .i64 z.1, .int .i64 z.2.1, .slice a n cap, .int .i64 z.2.2.2.1, .string z.2.2.2.2] 26 ∧ Below w.heap.size w w2) := hid ⟨H1.out.1.keep hb, H1.out.2.trans (hb.mono H1.out.2.size)⟩; clear hb y0 y1 y2 y3 y4; have y0 := H2.out.1.cell 0 _ rfl; have y1 := H2.out.1.cell 1 _ rfl; have y2 := H2.out.1.cell 2 _ rfl; have y3 := H2.out.1.cell 3 _ rfl; have y4 := H2.out.1.cell 4 _ rfl)
    | (go_at_call 9; go_must (refine (HL.out _).mono ?_); rintro e w1 ⟨rfl, hb⟩; have H1 : Hid (BxAt w1 w.heap.size [.int .i64 z.1, .int .i64 z.2.1, .slice a n cap, .int .i64 z.2.2.2.1, .string z.2.2.2.2] 26 ∧ Below w.heap.size w w1) := hid ⟨H0.out.1.keep hb, H0.out.2.trans (hb.mono H0.out.2.size)⟩; clear hb y0 y1 y2 y3 y4; have y0 := H1.out.1.cell 0 _ rfl; have y1 := H1.out.1.cell 1 _ rfl; have y2 := H1.out.1.cell 2 _ rfl; have y3 := H1.out.1.cell 3 _ rfl; have y4 := H1.out.1.cell 4 _ rfl))
  go_ret
  exact ⟨by simp, H3.out⟩
end Go.Proofs.Ytpflcneoojakdaa
