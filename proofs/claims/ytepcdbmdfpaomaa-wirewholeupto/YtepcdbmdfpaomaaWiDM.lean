/- The program's small tests of a message's parts. -/
import Derived.Test.YtepcdbmdfpaomaaGa3
import Derived.Test.YtepcdbmdfpaomaaGa5
import Derived.Test.YtepcdbmdfpaomaaGa4
namespace Go.Proofs.Ytepcdbmdfpaomaa
open Go.RowKit

set_option maxRecDepth 100000 in
theorem iwithin_any (n a b : Int) (w : World) : Calls Try.prog 26 #[.int .i64 n, .int .i64 a, .int .i64 b] w fun e w' => e = .returned (.bool (inB n a b)) ∧ w' = w := by
  unfold inB
  by_cases h1 : a ≤ n
  · rw [decide_eq_true h1]
    by_cases h2 : n ≤ b
    · rw [decide_eq_true h2]
      go_enter Try.func26, Try.ntmps26
      go_wp2
      go_ret
      exact ⟨by simp, rfl⟩
    · rw [decide_eq_false h2]
      go_enter Try.func26, Try.ntmps26
      go_wp2
      go_ret
      exact ⟨by simp <;> omega, rfl⟩
  · rw [decide_eq_false h1]
    have hd : decide (a ≤ n) = false := decide_eq_false h1
    go_enter Try.func26, Try.ntmps26
    go_wp2
    go_ret
    exact ⟨by simp, rfl⟩
set_option maxRecDepth 100000 in
theorem ikind_any (n : Int) (w : World) : Calls Try.prog 14 #[.int .i64 n] w fun e w' => e = .returned (.bool (inB n 1 10)) ∧ w' = w := by
  unfold inB
  by_cases h1 : 1 ≤ n
  · rw [decide_eq_true h1]
    by_cases h2 : n ≤ 10
    · rw [decide_eq_true h2]
      go_enter Try.func14, Try.ntmps14
      go_wp2
      go_ret
      exact ⟨by simp, rfl⟩
    · rw [decide_eq_false h2]
      go_enter Try.func14, Try.ntmps14
      go_wp2
      go_ret
      exact ⟨by simp <;> omega, rfl⟩
  · rw [decide_eq_false h1]
    have hd : decide (1 ≤ n) = false := decide_eq_false h1
    go_enter Try.func14, Try.ntmps14
    go_wp2
    go_ret
    exact ⟨by simp, rfl⟩
set_option maxRecDepth 100000 in
theorem iend_any (e : Int) (h0 : -1 ≤ e) (h1 : e ≤ 60) (w : World) : Calls Try.prog 33 #[.int .i64 e] w fun r w' => r = .returned (.int .i64 (4 * (e + 1))) ∧ w' = w := by
  go_enter Try.func33, Try.ntmps33
  go_wp2
  go_ret
  exact ⟨rfl, rfl⟩
set_option maxRecDepth 100000 in
theorem iview_any (v : Int) (w : World) : Calls Try.prog 57 #[.int .i64 v] w fun r w' => r = .returned (.bool (inB v 0 15)) ∧ w' = w := by
  go_enter Try.func57, Try.ntmps57
  go_wp2_with (go_at_call 26; refine (iwithin_any _ _ _ _).mono ?_; rintro e w1 ⟨rfl, hw⟩; replace hw := hw.symm; subst hw)
  go_ret
  exact ⟨rfl, rfl⟩
set_option maxRecDepth 100000 in
set_option maxHeartbeats 1600000 in
theorem iof_any (e s : Int) (h0 : 0 ≤ e) (h1 : e ≤ 60) (w : World) : Calls Try.prog 58 #[.int .i64 e, .int .i64 s] w fun r w' => r = .returned (.bool (ofB e s)) ∧ w' = w := by
  unfold ofB
  have HA : Hid (∀ u : World, Calls Try.prog 33 #[.int .i64 (e - 1)] u fun r w' => r = .returned (.int .i64 (4 * e)) ∧ w' = u) := hid (fun u => by have := iend_any (e - 1) (by omega) (by omega) u; rw [show e - 1 + 1 = e by omega] at this; exact this)
  have HB : Hid (∀ u : World, Calls Try.prog 33 #[.int .i64 e] u fun r w' => r = .returned (.int .i64 (4 * (e + 1))) ∧ w' = u) := hid (fun u => iend_any e (by omega) h1 u)
  by_cases h2 : 4 * e < s
  · rw [decide_eq_true h2]
    go_enter Try.func58, Try.ntmps58
    go_wp2_with (first
      | (have := H1; go_at_call 33; refine (HB.out _).mono ?_; rintro e w2 ⟨rfl, hw⟩; replace hw := hw.symm; subst hw)
      | (go_at_call 33; refine (HA.out _).mono ?_; rintro e w1 ⟨rfl, hw⟩; replace hw := hw.symm; subst hw; have H1 := hid trivial))
    go_ret
    exact ⟨by simp, rfl⟩
  · rw [decide_eq_false h2]
    have hd : decide (4 * e < s) = false := decide_eq_false h2
    go_enter Try.func58, Try.ntmps58
    go_wp2_with (first
      | (go_at_call 33; refine (HA.out _).mono ?_; rintro e w1 ⟨rfl, hw⟩; replace hw := hw.symm; subst hw; have H1 := hid trivial))
    go_ret
    exact ⟨by simp, rfl⟩
set_option maxRecDepth 100000 in
theorem isig_any (p : Sg) (w : World) : Calls Try.prog 61 #[.agg #[.int .i64 p.1, .string p.2]] w fun r w' => r = .returned (.bool (sigB p)) ∧ Below w.heap.size w w' := by
  go_enter Try.func61, Try.ntmps61
  go_wp2_with (go_at_call 26; refine (iwithin_any _ _ _ _).mono ?_; rintro e w1 ⟨rfl, hw⟩; replace hw := hw.symm; subst hw)
  go_ret
  exact ⟨rfl, (Below.refl w.heap.size w).alloc (Nat.le_refl _) _⟩
set_option maxRecDepth 100000 in
set_option maxHeartbeats 1600000 in
theorem ideed_any (r : Rq) (w : World) : Calls Try.prog 31 #[.agg #[.int .i64 r.c, .int .i64 r.st, .int .i64 r.k, .string r.key, .float .f64 r.b, .int .i64 r.id]] w fun e w' => e = .returned (.bool (askB r)) ∧ Below w.heap.size w w' := by
  have H0 : Hid (RqAt (w.alloc (.cells #[.int .i64 r.c, .int .i64 r.st, .int .i64 r.k, .string r.key, .float .f64 r.b, .int .i64 r.id] 26)) w.heap.size r ∧ Below w.heap.size w (w.alloc (.cells #[.int .i64 r.c, .int .i64 r.st, .int .i64 r.k, .string r.key, .float .f64 r.b, .int .i64 r.id] 26))) := hid ⟨heap_alloc_last w _, (Below.refl w.heap.size w).alloc (Nat.le_refl _) _⟩
  obtain ⟨⟨y0, y1⟩, y2, y3, y4, y5⟩ := H0.out.1.cells
  have HR : Hid (∀ u : World, Calls Try.prog 28 #[.agg #[.int .i64 r.c, .int .i64 r.st, .int .i64 r.k, .string r.key, .float .f64 r.b, .int .i64 r.id]] u fun e w' => e = .returned (.bool (rightB r)) ∧ Below u.heap.size u w') := hid (fun u => dright_any r u)
  have HN : Hid (∀ u : World, Calls Try.prog 54 #[.agg #[.int .i64 r.c, .int .i64 r.st, .int .i64 r.k, .string r.key, .float .f64 r.b, .int .i64 r.id]] u fun e w' => e = .returned (.bool (nullB r)) ∧ Below u.heap.size u w') := hid (fun u => dnull_any r u)
  rw [askB]
  cases hr : rightB r with
  | true =>
    rw [hr] at HR
    clear hr
    go_enter Try.func31, Try.ntmps31
    go_wp2_with (first
      | (go_at_call 28; refine (HR.out _).mono ?_; rintro e w1 ⟨rfl, hb⟩; have H1 := hid (H0.out.2.trans (hb.mono H0.out.2.size)); clear hb))
    go_ret
    exact ⟨by simp, H1.out⟩
  | false =>
    rw [hr] at HR
    clear hr
    go_enter Try.func31, Try.ntmps31
    go_wp2_with (first
      | (go_at_call 54; refine (HN.out _).mono ?_; rintro e w2 ⟨rfl, hb⟩; have H2 := hid (H1.out.2.trans (hb.mono H1.out.2.size)); clear hb)
      | (go_at_call 28; refine (HR.out _).mono ?_; rintro e w1 ⟨rfl, hb⟩; have H1 := hid (And.intro (H0.out.1.keep hb) (H0.out.2.trans (hb.mono H0.out.2.size))); clear hb y0 y1 y2 y3 y4 y5; obtain ⟨⟨y0, y1⟩, y2, y3, y4, y5⟩ := H1.out.1.cells))
    go_ret
    exact ⟨by simp, H2.out⟩
set_option maxRecDepth 100000 in
theorem iaskers_any (r : Rq) (w : World) : Calls Try.prog 32 #[.agg #[.int .i64 r.c, .int .i64 r.st, .int .i64 r.k, .string r.key, .float .f64 r.b, .int .i64 r.id]] w fun e w' => e = .returned (.int .i64 ((if nullB r then 0 else 1 : Nat) : Int)) ∧ Below w.heap.size w w' := by
  have H0 : Hid (RqAt (w.alloc (.cells #[.int .i64 r.c, .int .i64 r.st, .int .i64 r.k, .string r.key, .float .f64 r.b, .int .i64 r.id] 26)) w.heap.size r ∧ Below w.heap.size w (w.alloc (.cells #[.int .i64 r.c, .int .i64 r.st, .int .i64 r.k, .string r.key, .float .f64 r.b, .int .i64 r.id] 26))) := hid ⟨heap_alloc_last w _, (Below.refl w.heap.size w).alloc (Nat.le_refl _) _⟩
  obtain ⟨⟨y0, y1⟩, y2, y3, y4, y5⟩ := H0.out.1.cells
  have HN : Hid (∀ u : World, Calls Try.prog 54 #[.agg #[.int .i64 r.c, .int .i64 r.st, .int .i64 r.k, .string r.key, .float .f64 r.b, .int .i64 r.id]] u fun e w' => e = .returned (.bool (nullB r)) ∧ Below u.heap.size u w') := hid (fun u => dnull_any r u)
  cases hr : nullB r with
  | true =>
    rw [hr] at HN
    clear hr
    go_enter Try.func32, Try.ntmps32
    go_wp2_with (go_at_call 54; refine (HN.out _).mono ?_; rintro e w1 ⟨rfl, hb⟩; have H1 := hid (H0.out.2.trans (hb.mono H0.out.2.size)); clear hb)
    go_ret
    exact ⟨rfl, H1.out⟩
  | false =>
    rw [hr] at HN
    clear hr
    go_enter Try.func32, Try.ntmps32
    go_wp2_with (go_at_call 54; refine (HN.out _).mono ?_; rintro e w1 ⟨rfl, hb⟩; have H1 := hid (H0.out.2.trans (hb.mono H0.out.2.size)); clear hb)
    go_ret
    exact ⟨rfl, H1.out⟩
set_option maxRecDepth 100000 in
theorem imembers_any (a : Option Addr) (n cap : Nat) (l : List Int) (hn : l.length = n) (hm : n ≤ maxLen) (w : World) (hI : IntsIn w a l) : Calls Try.prog 34 #[.slice a n cap] w fun e w' => e = .returned (.bool (memB l)) ∧ Below w.heap.size w w' := by
  have HC : Hid (Calls Try.prog 59 #[.agg #[.int .i64 0, .slice a n cap]] w fun e w' => e = .returned (.bool (memB l)) ∧ Below w.heap.size w w') := hid (by
    have := cright_any 0 a n cap l hn hm w hI
    rw [show rightC 0 l = memB l by simp [rightC]] at this
    exact this)
  clear hn hm hI
  go_enter Try.func34, Try.ntmps34
  go_wp2_with (go_at_call 59; refine (HC.out).mono ?_; rintro e w1 ⟨rfl, hb⟩; have H1 := hid hb; clear hb)
  go_ret
  exact ⟨rfl, H1.out⟩
set_option maxRecDepth 100000 in
theorem iresult_any (c : Int) (f : Nat) (hf : f < 18446744073709551616) (w : World) : Calls Try.prog 36 #[.agg #[.int .i64 c, .float .f64 f]] w fun e w' => e = .returned (.bool (rsB c)) ∧ Below w.heap.size w w' := by
  have H0 : Hid (RsAt (w.alloc (.cells #[.int .i64 c, .float .f64 f] 28)) w.heap.size c f ∧ Below w.heap.size w (w.alloc (.cells #[.int .i64 c, .float .f64 f] 28))) := hid ⟨heap_alloc_last w _, (Below.refl w.heap.size w).alloc (Nat.le_refl _) _⟩
  obtain ⟨y0, y1⟩ := H0.out.1.cells
  have HT : Hid (∀ u : World, Calls Try.prog 39 #[.agg #[.int .i64 c, .float .f64 f]] u fun e w' => e = .returned (.tuple #[.string (rsT c f), .int .i64 (rsE c)]) ∧ Below u.heap.size u w') := hid (fun u => dresultText_any c f hf u)
  clear hf
  cases hr : rsB c with
  | true =>
    rw [show rsE c = 0 by rw [rsE, hr]; rfl] at HT
    clear hr
    go_enter Try.func36, Try.ntmps36
    go_wp2_with (go_at_call 39; refine (HT.out _).mono ?_; rintro e w1 ⟨rfl, hb⟩; have H1 := hid (H0.out.2.trans (hb.mono H0.out.2.size)); clear hb)
    go_ret
    exact ⟨by simp, H1.out⟩
  | false =>
    rw [show rsE c = 1 by rw [rsE, hr]; rfl] at HT
    clear hr
    go_enter Try.func36, Try.ntmps36
    go_wp2_with (go_at_call 39; refine (HT.out _).mono ?_; rintro e w1 ⟨rfl, hb⟩; have H1 := hid (H0.out.2.trans (hb.mono H0.out.2.size)); clear hb)
    go_ret
    exact ⟨by simp, H1.out⟩
end Go.Proofs.Ytepcdbmdfpaomaa
