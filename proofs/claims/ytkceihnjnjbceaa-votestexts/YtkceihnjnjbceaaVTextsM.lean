/- What is signed of a vote, by both. -/
import Derived.Test.YtkceihnjnjbceaaKh1
namespace Go.Proofs.Ytkceihnjnjbceaa
open Go.RowKit

set_option maxRecDepth 100000 in
set_option maxHeartbeats 3200000 in
theorem votesTexts_walk (ep : Int) (a : Option Addr) (n cap : Nat) (l : List Int) (hn : l.length = n) (hm : n ≤ maxLen) (t : ByteArray) (ht : t.size ≤ 140737488355328) (b : Option Addr) (k cp : Nat) (nx : List Int) (hk : nx.length = k) (hkm : k ≤ maxLen) (w : World) (hI : IntsIn w a l) (hN : IntsIn w b nx) :
    Calls Try.prog 3 #[.agg #[.int .i64 ep, .slice a n cap], .string t, .slice b k cp] w fun e w' => e = .returned (.bool true) ∧ Below w.heap.size w w' := by
  have HX : Hid (∀ u : World, Below w.heap.size w u → Calls Try.prog 10 #[.agg #[.int .i64 ep, .slice a n cap], .string t, .slice b k cp] u fun e w' => e = .returned (.tuple #[.string (voS ep l t nx), .string (voC ep l t nx), .int .i64 (voE ep l t nx)]) ∧ Below u.heap.size u w') := hid (fun u hu => vtexts_any ep a n cap l hn hm t ht b k cp nx hk hkm u (hI.keep hu (Nat.le_refl _)) (hN.keep hu (Nat.le_refl _)))
  have HY : Hid (∀ u : World, Below w.heap.size w u → Calls Try.prog 11 #[.agg #[.int .i64 ep, .slice a n cap], .string t, .slice b k cp] u fun e w' => e = .returned (.tuple #[.string (voS ep l t nx), .string (voC ep l t nx), .int .i64 (voE ep l t nx)]) ∧ Below u.heap.size u w') := hid (fun u hu => wtexts_any ep a n cap l hn hm t ht b k cp nx hk hkm u (hI.keep hu (Nat.le_refl _)) (hN.keep hu (Nat.le_refl _)))
  have HL : Hid (∀ u : World, Calls Try.prog 9 #[] u fun e w' => e = .returned (.bool true) ∧ Below u.heap.size u w') := hid ulives_any
  have H0 : Hid (CvAt (w.alloc (.cells #[.int .i64 ep, .slice a n cap] 24)) w.heap.size ep (.slice a n cap) ∧ Below w.heap.size w (w.alloc (.cells #[.int .i64 ep, .slice a n cap] 24))) := hid ⟨heap_alloc_last w _, (Below.refl _ _).alloc (Nat.le_refl _) _⟩
  clear hI hN
  go_enter Try.func3, Try.ntmps3
  go_wp2_with (first
    | (go_at_call 9; refine (HL.out _).mono ?_; rintro e w1 ⟨rfl, hb1⟩; have H1 : Hid (CvAt w1 w.heap.size ep (.slice a n cap) ∧ Below w.heap.size w w1) := hid ⟨H0.out.1.keep hb1, H0.out.2.trans (hb1.mono H0.out.2.size)⟩; obtain ⟨x0, x1⟩ := H1.out.1.cells; clear hb1)
    | (go_at_call 10; refine (HX.out _ H1.out.2).mono ?_; rintro e w2 ⟨rfl, hb2⟩; have H2 : Hid (CvAt w2 w.heap.size ep (.slice a n cap) ∧ Below w.heap.size w w2) := hid ⟨H1.out.1.keep hb2, H1.out.2.trans (hb2.mono H1.out.2.size)⟩; clear hb2 x0 x1; obtain ⟨x0, x1⟩ := H2.out.1.cells)
    | (go_at_call 11; refine (HY.out _ H2.out.2).mono ?_; rintro e w3 ⟨rfl, hb3⟩; have H3 := hid (H2.out.2.trans (hb3.mono H2.out.2.size)); clear hb3))
  go_ret
  exact ⟨rfl, H3.out⟩
end Go.Proofs.Ytkceihnjnjbceaa
