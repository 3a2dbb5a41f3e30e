/- The key of two nodes is what the document says: the walk. -/
import Derived.Test.YtnlmjclloaholaaMaH
namespace Go.Proofs.Ytnlmjclloaholaa
open Go.RowKit

set_option maxRecDepth 100000 in
set_option maxHeartbeats 1600000 in
theorem pairs_at (s : ByteArray) (a b : Int) (hl : s.size ≤ 4096) (K : ByteArray) (n : Int)
    (HM : Hid (∀ u : World, Calls Try.prog 13 #[.string s, .int .i64 a, .int .i64 b] u fun e w' => e = .returned (.tuple #[.string K, .int .i64 n]) ∧ Below u.heap.size u w'))
    (HN : Hid (∀ u : World, Calls Try.prog 14 #[.string s, .int .i64 a, .int .i64 b] u fun e w' => e = .returned (.tuple #[.string K, .int .i64 n]) ∧ Below u.heap.size u w'))
    (HV : Hid (∀ u : World, Calls Try.prog 13 #[.string s, .int .i64 b, .int .i64 a] u fun e w' => e = .returned (.tuple #[.string K, .int .i64 n]) ∧ Below u.heap.size u w')) (w : World) :
    Calls Try.prog 4 #[.string s, .int .i64 a, .int .i64 b] w fun e w' => e = .returned (.bool true) ∧ Below w.heap.size w w' := by
  have HS := hid (show decide (s.size ≤ 4096 ∧ (⟨#[]⟩ : ByteArray).size ≤ 4096) = true from decide_eq_true ⟨hl, by decide⟩)
  clear hl
  go_enter Try.func4, Try.ntmps4
  go_wp2_with (first
    | (go_at_call 9; refine (mlives_any _).mono ?_; rintro e w1 ⟨rfl, hb1⟩; have H1 := hid hb1; clear hb1)
    | (go_at_call 10; refine (mshort_any _ _ _ (by exact HS.out) _).mono ?_; rintro e wx ⟨rfl, rfl⟩)
    | (go_at_call 13; have := H3; refine (HV.out _).mono ?_; rintro e w4 ⟨rfl, hb4⟩; have H4 := hid (H3.out.trans (hb4.mono H3.out.size)); clear hb4)
    | (go_at_call 13; refine (HM.out _).mono ?_; rintro e w2 ⟨rfl, hb2⟩; have H2 := hid (H1.out.trans (hb2.mono H1.out.size)); clear hb2)
    | (go_at_call 14; refine (HN.out _).mono ?_; rintro e w3 ⟨rfl, hb3⟩; have H3 := hid (H2.out.trans (hb3.mono H2.out.size)); clear hb3))
  go_ret
  exact ⟨rfl, H4.out⟩
theorem of_same {P : Program} {f : FuncId} {args : Array Value} {v : Value} (h : ∀ w : World, Calls P f args w fun e w' => e = .returned v ∧ w' = w) (u : World) :
    Calls P f args u fun e w' => e = .returned v ∧ Below u.heap.size u w' :=
  (h u).mono fun _ _ ⟨he, hw⟩ => ⟨he, hw ▸ Below.refl _ _⟩
theorem node_nat {a : Int} (h : nodeB a = true) : ∃ n : Nat, a = (n : Int) ∧ n < 200 := by
  obtain ⟨h0, h1⟩ := of_decide_eq_true h
  exact ⟨a.toNat, by omega, by omega⟩
theorem and_swap (a b : Bool) (h : (a && b) = false) : (b && a) = false := by rw [Bool.and_comm]; exact h

set_option maxRecDepth 100000 in
set_option maxHeartbeats 1600000 in
theorem macPairs_walk (s : ByteArray) (a b : Int) (w : World) :
    Calls Try.prog 4 #[.string s, .int .i64 a, .int .i64 b] w fun e w' => e = .returned (.bool true) ∧ Below w.heap.size w w' := by
  by_cases hl : s.size ≤ 4096
  · cases hn : nodeB a && nodeB b with
    | true =>
      obtain ⟨h1, h2⟩ := Bool.and_eq_true_iff.1 hn
      obtain ⟨a, rfl, ha⟩ := node_nat h1
      obtain ⟨b, rfl, hb⟩ := node_nat h2
      exact pairs_at s a b hl _ 0 (hid (pair_yes s (by omega) a b ha hb)) (hid (npair_yes s (by omega) a b ha hb)) (hid (by rw [pairB_comm]; exact pair_yes s (by omega) b a hb ha)) w
    | false =>
      exact pairs_at s a b hl _ 1 (hid (of_same (pair_no s a b hn))) (hid (of_same (npair_no s a b hn))) (hid (of_same (pair_no s b a (and_swap _ _ hn)))) w
  · have HS := hid (show decide (s.size ≤ 4096 ∧ (⟨#[]⟩ : ByteArray).size ≤ 4096) = false from decide_eq_false fun h => hl h.1)
    clear hl
    go_enter Try.func4, Try.ntmps4
    go_wp2_with (first
      | (go_at_call 9; have := H1; refine (mlives_any _).mono ?_; rintro e w2 ⟨rfl, hb2⟩; have H2 := hid (H1.out.trans (hb2.mono H1.out.size)); clear hb2)
      | (go_at_call 9; refine (mlives_any _).mono ?_; rintro e w1 ⟨rfl, hb1⟩; have H1 := hid hb1; clear hb1)
      | (go_at_call 10; refine (mshort_any _ _ _ (by exact HS.out) _).mono ?_; rintro e wx ⟨rfl, rfl⟩))
    go_ret
    exact ⟨rfl, H2.out⟩
end Go.Proofs.Ytnlmjclloaholaa
