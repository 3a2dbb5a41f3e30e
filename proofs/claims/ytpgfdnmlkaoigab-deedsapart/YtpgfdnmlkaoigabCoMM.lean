/- The program's: who may be a member, which members are right. -/
import Derived.Test.YtpgfdnmlkaoigabCx1
import Derived.Deep.QuietTactic
namespace Go.Proofs.Ytpgfdnmlkaoigab
open Go.RowKit

def isIdB (id : Int) : Bool := decide (0 ≤ id ∧ id < 16)
theorem cisID_any (id : Int) (w : World) : Calls Try.prog 47 #[.int .i64 id] w fun e w' => e = .returned (.bool (isIdB id)) ∧ w' = w := by
  by_cases h0 : 0 ≤ id
  · by_cases h1 : id < 16
    · have HF : Hid (isIdB id = true) := hid (decide_eq_true ⟨h0, h1⟩)
      rw [HF.out]
      go_enter Try.func47, Try.ntmps47
      go_wp2
      go_ret
      exact ⟨rfl, rfl⟩
    · have HF : Hid (isIdB id = false) := hid (decide_eq_false (fun h => h1 h.2))
      rw [HF.out]
      go_enter Try.func47, Try.ntmps47
      go_wp2
      go_ret
      exact ⟨rfl, rfl⟩
  · have HF : Hid (isIdB id = false) := hid (decide_eq_false (fun h => h0 h.1))
    rw [HF.out]
    go_enter Try.func47, Try.ntmps47
    go_wp2
    go_ret
    exact ⟨rfl, rfl⟩
set_option maxRecDepth 100000 in
set_option maxHeartbeats 3200000 in
theorem careRight_any (a : Option Addr) (n cap : Nat) (l : List Int) (hn : l.length = n) (hm : n ≤ maxLen) (w : World) (hI : IntsIn w a l) :
    Calls Try.prog 35 #[.slice a n cap] w fun e w' => e = .returned (.bool (memB l)) ∧ Below w.heap.size w w' := by
  have hm2 : (n : Int) ≤ 9223372036854775807 := by unfold maxLen at hm; omega
  have HI := hid hI
  have HN := hid hn
  clear hI hm hn
  by_cases h4 : n < 4
  · have k4 : (n : Int) < 4 := by omega
    have HF : Hid (memB l = false) := hid (by rw [memB, HN.out, decide_eq_false (fun h => by omega)]; simp)
    rw [HF.out]
    go_enter Try.func35, Try.ntmps35
    go_wp2
    go_ret
    exact ⟨rfl, Below.refl _ _⟩
  by_cases h10 : 10 < n
  · have k4 : ¬ ((n : Int) < 4) := by omega
    have k10 : (10 : Int) < (n : Int) := by omega
    have HF : Hid (memB l = false) := hid (by rw [memB, HN.out, decide_eq_false (fun h => by omega)]; simp)
    rw [HF.out]
    go_enter Try.func35, Try.ntmps35
    go_wp2
    go_ret
    exact ⟨rfl, Below.refl _ _⟩
  have k4 : ¬ ((n : Int) < 4) := by omega
  have k10 : ¬ ((10 : Int) < (n : Int)) := by omega
  have HQ := hid (And.intro h4 h10)
  clear h4 h10
  go_enter Try.func35, Try.ntmps35
  go_wp2
  go_loopw [15] (fun i wr => ∃ j : Nat, j ≤ n ∧ i = .int .i64 (j : Int) ∧ okTo l j = true ∧ wr = w)
    (fun i _ => ((n : Int) - intOf i).toNat)
  case atStart => exact ⟨0, by omega, rfl, rfl, rfl⟩
  case round =>
    obtain ⟨j, hj, rfl, hok, rfl⟩ := hrel
    by_cases hjn : j = n
    · have hj1 : ¬ ((j : Int) < (n : Int)) := by omega
      rw [hjn] at hok
      have HF : Hid (memB l = true) := hid (by have hq := HQ.out; rw [memB, HN.out, hok, decide_eq_true (And.intro (by omega) (by omega))]; rfl)
      clear hok hj hjn
      go_wp2
      go_ret
      exact ⟨by rw [HF.out]; rfl, Below.refl _ _⟩
    · have hj1 : (j : Int) < (n : Int) := by omega
      have hj0 : (0 : Int) ≤ (j : Int) := Int.natCast_nonneg _
      have hget : l[j]? = some (l.getD j 0) := by rw [List.getD_eq_getElem?_getD, List.getElem?_eq_getElem (by rw [HN.out]; omega)]; rfl
      obtain ⟨g, off, rfl, hg, hcell⟩ := HI.out.at j _ hget
      obtain ⟨x, ex⟩ : ∃ x, x = l.getD j 0 := ⟨_, rfl⟩
      rw [← ex] at hcell
      clear hget
      cases hx : isIdB x with
      | false =>
        have hx2 := of_decide_eq_false hx
        have HC : Hid (∀ u : World, Calls Try.prog 47 #[.int .i64 x] u fun e w' => e = .returned (.bool false) ∧ w' = u) := hid (fun u => by rw [← hx]; exact cisID_any x u)
        have HF : Hid (okTo l n = false) := hid (okTo_false l (j + 1) n (by rw [okTo_succ, okAt_no1 l j (by rw [← ex]; exact hx2)]; simp) (by omega))
        clear hok hj hjn ex hx hx2 hg
        go_wp2_with (go_at_call 47; refine (HC.out _).mono ?_; rintro e wx ⟨rfl, rfl⟩)
        go_ret
        exact ⟨by rw [memB, HN.out, HF.out]; rfl, Below.refl _ _⟩
      | true =>
        have hx2 := of_decide_eq_true hx
        have HC : Hid (∀ u : World, Calls Try.prog 47 #[.int .i64 x] u fun e w' => e = .returned (.bool true) ∧ w' = u) := hid (fun u => by rw [← hx]; exact cisID_any x u)
        by_cases hz : j = 0
        · have d4 : ¬ ((0 : Int) < (j : Int)) := by omega
          have HF : Hid (okTo l (j + 1) = true) := hid (by rw [okTo_succ, hok, show okAt l j = true by (have hx : l.getD 0 0 = x := by rw [ex, hz]); rw [hz]; exact okAt_yes0 l (by rw [hx]; exact hx2)]; rfl)
          have HJ := hid (And.intro hj hjn)
          clear hok hj hjn ex hz hx hx2 hg
          go_wp2_with (go_at_call 47; refine (HC.out _).mono ?_; rintro e wx ⟨rfl, rfl⟩)
          go_roundw
          case rel => exact ⟨j + 1, by have := HJ.out; omega, by go_num, HF.out, by first | exact rfl | exact trivial⟩
          case measure => simp [intOf]; omega
        · obtain ⟨i, rfl⟩ : ∃ i, j = i + 1 := ⟨j - 1, by omega⟩
          have hgetp : l[i]? = some (l.getD i 0) := by rw [List.getD_eq_getElem?_getD, List.getElem?_eq_getElem (by rw [HN.out]; omega)]; rfl
          obtain ⟨g', off', eg, hg', hcellp⟩ := HI.out.at i _ hgetp
          obtain ⟨rfl, rfl⟩ : g = g' ∧ off = off' := by simp at eg; exact eg
          obtain ⟨y, ey⟩ : ∃ y, y = l.getD i 0 := ⟨_, rfl⟩
          rw [← ey] at hcellp
          have hi0 : (0 : Int) < ((i + 1 : Nat) : Int) := by omega
          have hi1 : (i : Int) < (n : Int) := by omega
          have hi2 : (0 : Int) ≤ (i : Int) := by omega
          clear hgetp eg hz hg hg' hx
          by_cases hxy : x ≤ y
          · have HF : Hid (okTo l n = false) := hid (okTo_false l (i + 1 + 1) n (by rw [okTo_succ, okAt_no2 l (i + 1) (by omega) (by rw [← ex, show i + 1 - 1 = i from rfl, ← ey]; omega)]; simp) (by omega))
            clear hok hj hjn ex ey hx2
            go_wp2_with (go_at_call 47; refine (HC.out _).mono ?_; rintro e wx ⟨rfl, rfl⟩)
            go_ret
            exact ⟨by rw [memB, HN.out, HF.out]; rfl, Below.refl _ _⟩
          · have HF : Hid (okTo l (i + 1 + 1) = true) := hid (by rw [okTo_succ, hok, okAt_yes l (i + 1) (by rw [← ex]; exact hx2) (by rw [← ex, show i + 1 - 1 = i from rfl, ← ey]; omega)]; rfl)
            have HJ := hid (And.intro hj hjn)
            clear hok hj hjn ex ey hx2
            go_wp2_with (go_at_call 47; refine (HC.out _).mono ?_; rintro e wx ⟨rfl, rfl⟩)
            go_roundw
            case rel => exact ⟨i + 1 + 1, by have := HJ.out; omega, by go_num, HF.out, by first | exact rfl | exact trivial⟩
            case measure => simp [intOf]; omega
end Go.Proofs.Ytpgfdnmlkaoigab
