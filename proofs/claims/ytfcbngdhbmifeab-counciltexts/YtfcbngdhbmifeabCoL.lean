/- A council of four, and bits that two numbers share. -/
import Derived.Test.YtfcbngdhbmifeabCoP
import Derived.Test.YtfcbngdhbmifeabCoI
namespace Go.Proofs.Ytfcbngdhbmifeab
open Go.RowKit

/-- A configuration that lies in memory stays there. -/
theorem conf_stay {w w1 : World} {B b : Nat} {x y : Value} {T : TypeId} {fr : Nat × Nat} (h : w.heap[b]? = some (.cells #[x, y] T fr)) (hb : Below B w w1) (hB : b < B) : w1.cell? ⟨b, 0, none⟩ = some x ∧ w1.cell? ⟨b, 1, none⟩ = some y := by
  have hk : w1.heap[b]? = some (.cells #[x, y] T fr) := (hb.block b hB).trans h
  exact ⟨cell_at (L := [x, y]) hk 0 _ rfl, cell_at (L := [x, y]) hk 1 _ rfl⟩
def four : List Int := [1, 2, 3, 4]
theorem four_right : rightC 0 four = true := by decide
theorem four_led : leads 0 four 5 = true := by decide
theorem four_lead : leadZ 0 four 5 = 2 := by decide
theorem four_quo : quoZ 4 = 3 := by decide
set_option maxRecDepth 100000 in
set_option maxHeartbeats 1600000 in
theorem clives_any (w : World) : Calls Try.prog 5 #[] w fun e w' => e = .returned (.bool true) ∧ Below w.heap.size w w' := by
  have HI : Hid (IntsIn ((w.alloc (.cells #[.int .i64 1, .int .i64 2, .int .i64 3, .int .i64 4] 3)).alloc (.cells #[.int .i64 0, .slice (some ⟨w.heap.size, 0, none⟩) 4 4] 24)) (some ⟨w.heap.size, 0, none⟩) four) := hid (by
    refine IntsIn.alloc (.inr ⟨_, _, rfl, by simp, fun j s hj => ?_⟩) _
    have hc : (w.alloc (.cells #[.int .i64 1, .int .i64 2, .int .i64 3, .int .i64 4] 3)).heap[w.heap.size]? = some (.cells [.int .i64 1, .int .i64 2, .int .i64 3, .int .i64 4].toArray 3 (0, 0)) := heap_alloc_last w _
    match j, hj with
    | 0, hj => cases hj; exact heap_cells hc _ _ rfl
    | 1, hj => cases hj; exact heap_cells hc _ _ rfl
    | 2, hj => cases hj; exact heap_cells hc _ _ rfl
    | 3, hj => cases hj; exact heap_cells hc _ _ rfl
    | j + 4, hj => cases hj)
  have H0 : Hid (Below w.heap.size w ((w.alloc (.cells #[.int .i64 1, .int .i64 2, .int .i64 3, .int .i64 4] 3)).alloc (.cells #[.int .i64 0, .slice (some ⟨w.heap.size, 0, none⟩) 4 4] 24))) := hid
    (((Below.refl w.heap.size w).alloc (Nat.le_refl _) _).alloc (by simp) _)
  have HF : Hid (((w.alloc (.cells #[.int .i64 1, .int .i64 2, .int .i64 3, .int .i64 4] 3)).alloc (.cells #[.int .i64 0, .slice (some ⟨w.heap.size, 0, none⟩) 4 4] 24)).heap[w.heap.size + 1]? = some (.cells #[.int .i64 0, .slice (some ⟨w.heap.size, 0, none⟩) 4 4] 24 (0, 0))) := hid
    (by have := heap_alloc_last (w.alloc (.cells #[.int .i64 1, .int .i64 2, .int .i64 3, .int .i64 4] 3)) (.cells #[.int .i64 0, .slice (some ⟨w.heap.size, 0, none⟩) 4 4] 24); simpa using this)
  go_enter Try.func5, Try.ntmps5
  go_wp2_with (first
    | (go_at_call 13; refine (cprimary_any 0 _ 4 4 four rfl (by decide) 5 _ HI.out).mono ?_; rintro e w1 ⟨rfl, hb1⟩; rw [four_led, four_lead]; have H1 := hid hb1; clear hb1; obtain ⟨c1, c2⟩ := conf_stay HF.out H1.out (by simp))
    | (go_at_call 11; refine (cright_any 0 _ 4 4 four rfl (by decide) _ (HI.out.keep H1.out (Nat.le_refl _))).mono ?_; rintro e w2 ⟨rfl, hb2⟩; rw [four_right]; have H2 := hid (H1.out.trans (hb2.mono H1.out.size)); clear hb2 c1 c2)
    | (go_at_call 14; refine (cquorum_any 4 (by decide) _).mono ?_; rintro e w3 ⟨rfl, hb3⟩; rw [four_quo]; have H3 := hid (H2.out.trans (hb3.mono H2.out.size)); clear hb3))
  go_ret
  exact ⟨rfl, H0.out.trans (H3.out.mono (by simp; omega))⟩
/-- The i-th bit of both. -/
def bitB (a b : Int) (i : Nat) : Bool := decide ((a / 2 ^ i).tmod 2 = 1) && decide ((b / 2 ^ i).tmod 2 = 1)
def pickN (a b : Int) : Nat → Nat
  | 0 => 0
  | i + 1 => pickN a b i + (if bitB a b i then 1 else 0)
theorem pick_le (a b : Int) : ∀ n, pickN a b n ≤ n
  | 0 => Nat.le_refl _
  | n + 1 => by
    have := pick_le a b n
    rw [pickN]
    split <;> omega
theorem pick_meet (a b : Int) : ∀ n, pickN a a n + pickN b b n ≤ n + pickN a b n
  | 0 => Nat.le_refl _
  | n + 1 => by
    have := pick_meet a b n
    rw [pickN, pickN, pickN]
    unfold bitB
    by_cases h1 : (a / 2 ^ n).tmod 2 = 1 <;> by_cases h2 : (b / 2 ^ n).tmod 2 = 1 <;> simp [h1, h2] <;> omega
end Go.Proofs.Ytfcbngdhbmifeab
