/- What lives; what is short. -/
import Derived.Test.YtcofadhflbiahabOtD
namespace Go.Proofs.Ytcofadhflbiahab
open Go.RowKit

def abcS : ByteArray := ⟨#[97, 98, 99]⟩
def xS : ByteArray := ⟨#[120]⟩
set_option maxRecDepth 100000 in
theorem abc_digits : (txtN abcS).take 3 = [11, 10, 7] := by decide +kernel
theorem getD_take {α : Type} (l : List α) (n j : Nat) (d : α) (h : j < n) : l.getD j d = (l.take n).getD j d := by
  rw [List.getD_eq_getElem?_getD, List.getD_eq_getElem?_getD, List.getElem?_take_of_lt h]
theorem abc0 : (txtN abcS).getD 0 0 = 11 := by rw [getD_take _ 3 0 _ (by decide), abc_digits]; rfl
theorem abc1 : (txtN abcS).getD 1 0 = 10 := by rw [getD_take _ 3 1 _ (by decide), abc_digits]; rfl
theorem abc2 : (txtN abcS).getD 2 0 = 7 := by rw [getD_take _ 3 2 _ (by decide), abc_digits]; rfl
theorem digits_abc (u : World) : Calls Try.prog 6 #[.string ⟨#[97, 98, 99]⟩] u fun e w' => ∃ g cap, e = .returned (.slice (some ⟨g, 0, none⟩) 35 cap) ∧ w'.cell? ⟨g, 0, none⟩ = some (.int .i64 11) ∧ w'.cell? ⟨g, 1, none⟩ = some (.int .i64 10) ∧ w'.cell? ⟨g, 2, none⟩ = some (.int .i64 7) ∧ Below u.heap.size u w' :=
  (odigits_le abcS (by decide) u).mono fun e w' ⟨g, cap, he, _, _, hi, hb⟩ => by
    have h0 := (dig_cell hi 0 (by decide)).2
    have h1 := (dig_cell hi 1 (by decide)).2
    have h2 := (dig_cell hi 2 (by decide)).2
    rw [abc0] at h0
    rw [abc1] at h1
    rw [abc2] at h2
    exact ⟨g, cap, he, h0, h1, h2, hb⟩
theorem step_x (u : World) : Calls Try.prog 8 #[.string ⟨#[120]⟩, .int .i64 0] u fun e w' => e = .returned (.string ⟨#[120]⟩) ∧ Below u.heap.size u w' := by
  have := ostep_le xS (by decide) 0 u
  exact this
set_option maxRecDepth 100000 in
set_option maxHeartbeats 1600000 in
theorem olives_any (w : World) : Calls Try.prog 4 #[] w fun e w' => e = .returned (.bool true) ∧ Below w.heap.size w w' := by
  have HD := hid digits_abc
  have HX := hid step_x
  go_enter Try.func4, Try.ntmps4
  go_wp2_with (first
    | (go_at_call 6; refine (HD.out _).mono ?_; rintro e w1 ⟨g, cap, rfl, c0, c1, c2, hb1⟩; have H1 := hid hb1; clear hb1)
    | (go_at_call 8; refine (HX.out _).mono ?_; rintro e w2 ⟨rfl, hb2⟩; have H2 := hid (H1.out.trans (hb2.mono H1.out.size)); clear hb2))
  go_ret
  exact ⟨rfl, H2.out⟩
theorem oshort_any (s t : ByteArray) (b : Bool) (h : decide (s.size ≤ 4096 ∧ t.size ≤ 4096) = b) (w : World) : Calls Try.prog 5 #[.string s, .string t] w fun e w' => e = .returned (.bool b) ∧ w' = w := by
  subst h
  by_cases h1 : s.size ≤ 4096
  · have k1 : (s.size : Int) ≤ 4096 := by omega
    by_cases h2 : t.size ≤ 4096
    · have k2 : (t.size : Int) ≤ 4096 := by omega
      rw [decide_eq_true (And.intro h1 h2)]
      clear h1 h2
      go_enter Try.func5, Try.ntmps5
      go_wp2
      go_ret
      exact ⟨rfl, rfl⟩
    · have k2 : ¬ ((t.size : Int) ≤ 4096) := by omega
      rw [decide_eq_false (fun h => h2 h.2)]
      clear h1 h2
      go_enter Try.func5, Try.ntmps5
      go_wp2
      go_ret
      exact ⟨rfl, rfl⟩
  · have k1 : ¬ ((s.size : Int) ≤ 4096) := by omega
    rw [decide_eq_false (fun h => h1 h.1)]
    clear h1
    go_enter Try.func5, Try.ntmps5
    go_wp2
    go_ret
    exact ⟨rfl, rfl⟩
end Go.Proofs.Ytcofadhflbiahab
