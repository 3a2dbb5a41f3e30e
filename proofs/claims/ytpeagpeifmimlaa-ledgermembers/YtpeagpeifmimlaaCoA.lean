/- Members, quorums, configurations, as functions. No walk here. -/
import Derived.Test.YtpeagpeifmimlaaBaC
namespace Go.Proofs.Ytpeagpeifmimlaa
open Go.RowKit

def fltZ (n : Int) : Int := if n < 1 then 0 else (n - 1) / 3
def quoZ (n : Int) : Int := if n < 1 then 0 else (n + fltZ n) / 2 + 1
def wekZ (n : Int) : Int := if n < 1 then 0 else fltZ n + 1
theorem fltZ_lo {n : Int} (h : n < 1) : fltZ n = 0 := if_pos h
theorem quoZ_lo {n : Int} (h : n < 1) : quoZ n = 0 := if_pos h
theorem wekZ_lo {n : Int} (h : n < 1) : wekZ n = 0 := if_pos h
theorem fltZ_hi {n : Int} (h : ¬ n < 1) : fltZ n = (n - 1) / 3 := if_neg h
theorem quoZ_hi {n : Int} (h : ¬ n < 1) : quoZ n = (n + fltZ n) / 2 + 1 := if_neg h
theorem wekZ_hi {n : Int} (h : ¬ n < 1) : wekZ n = fltZ n + 1 := if_neg h
theorem fltZ_le {n : Int} (h : ¬ n < 1) : 0 ≤ fltZ n ∧ 3 * fltZ n ≤ n - 1 := by rw [fltZ_hi h]; omega
/-- The i-th of the members is one, and stands behind the one ahead of it. -/
def okAt (l : List Int) (i : Nat) : Bool := decide (0 ≤ l.getD i 0 ∧ l.getD i 0 < 16) && (decide (i = 0) || decide (l.getD (i - 1) 0 < l.getD i 0))
def okTo (l : List Int) : Nat → Bool
  | 0 => true
  | j + 1 => okTo l j && okAt l j
theorem okTo_succ (l : List Int) (j : Nat) : okTo l (j + 1) = (okTo l j && okAt l j) := rfl
theorem okTo_false (l : List Int) (j n : Nat) (h : okTo l j = false) (hn : j ≤ n) : okTo l n = false := by
  induction n with
  | zero =>
    obtain rfl : j = 0 := by omega
    exact h
  | succ n ih =>
    by_cases e : j = n + 1
    · rw [← e]; exact h
    · rw [okTo_succ, ih (by omega)]; rfl
theorem okAt_no1 (l : List Int) (i : Nat) (h : ¬ (0 ≤ l.getD i 0 ∧ l.getD i 0 < 16)) : okAt l i = false := by rw [okAt, decide_eq_false h]; rfl
theorem okAt_no2 (l : List Int) (i : Nat) (h0 : i ≠ 0) (h : ¬ (l.getD (i - 1) 0 < l.getD i 0)) : okAt l i = false := by rw [okAt, decide_eq_false h, decide_eq_false h0]; simp
theorem okAt_yes0 (l : List Int) (h : 0 ≤ l.getD 0 0 ∧ l.getD 0 0 < 16) : okAt l 0 = true := by rw [okAt, decide_eq_true h]; rfl
theorem okAt_yes (l : List Int) (i : Nat) (h : 0 ≤ l.getD i 0 ∧ l.getD i 0 < 16) (h1 : l.getD (i - 1) 0 < l.getD i 0) : okAt l i = true := by rw [okAt, decide_eq_true h, decide_eq_true h1]; simp
/-- Are the members right? -/
def memB (l : List Int) : Bool := okTo l l.length && decide (4 ≤ l.length ∧ l.length ≤ 10)
/-- Is the configuration right? -/
def rightC (ep : Int) (l : List Int) : Bool := decide (0 ≤ ep ∧ ep ≤ 60) && memB l
def hasM (l : List Int) (id : Int) : Bool := decide (id ∈ l)
theorem okTo_at (l : List Int) : ∀ n, okTo l n = true → ∀ i, i < n → okAt l i = true
  | 0, _, i, hi => by omega
  | n + 1, h, i, hi => by
    rw [okTo_succ, Bool.and_eq_true_iff] at h
    by_cases e : i = n
    · rw [e]; exact h.2
    · exact okTo_at l n h.1 i (by omega)
theorem mem_len {l : List Int} (h : memB l = true) : 4 ≤ l.length ∧ l.length ≤ 10 := of_decide_eq_true (Bool.and_eq_true_iff.1 h).2
theorem mem_at {l : List Int} (h : memB l = true) (i : Nat) (hi : i < l.length) : okAt l i = true := okTo_at l _ (Bool.and_eq_true_iff.1 h).1 i hi
theorem mem_range {l : List Int} (h : memB l = true) (i : Nat) (hi : i < l.length) : 0 ≤ l.getD i 0 ∧ l.getD i 0 < 16 := of_decide_eq_true (Bool.and_eq_true_iff.1 (mem_at h i hi)).1
theorem mem_rise {l : List Int} (h : memB l = true) (i : Nat) (hi : i + 1 < l.length) : l.getD i 0 < l.getD (i + 1) 0 := by
  have := (Bool.and_eq_true_iff.1 (mem_at h (i + 1) hi)).2
  simpa using this
/-- Who leads. -/
def leadN (l : List Int) (view : Int) : Nat := (view % (l.length : Int)).toNat
def leads (ep : Int) (l : List Int) (view : Int) : Bool := rightC ep l && decide (0 ≤ view)
def leadZ (ep : Int) (l : List Int) (view : Int) : Int := if leads ep l view then l.getD (leadN l view) 0 else 0
end Go.Proofs.Ytpeagpeifmimlaa
