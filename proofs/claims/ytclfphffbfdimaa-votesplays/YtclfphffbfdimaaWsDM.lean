/- The document's test of two configurations, whatever they are. -/
import Derived.Test.YtclfphffbfdimaaKf1
import Derived.Test.YtclfphffbfdimaaKb1
namespace Go.Proofs.Ytclfphffbfdimaa
open Go.RowKit

set_option maxRecDepth 100000 in
set_option maxHeartbeats 1600000 in
theorem vsame_dec (e1 e2 : Int) (a1 a2 : Option Addr) (n1 n2 c1 c2 : Nat) (l1 l2 : List Int) (hn1 : l1.length = n1) (hn2 : l2.length = n2) (hm1 : n1 ≤ maxLen) (hm2 : n2 ≤ maxLen) (w : World) (h1 : IntsIn w a1 l1) (h2 : IntsIn w a2 l2) :
    Calls Try.prog 21 #[.agg #[.int .i64 e1, .slice a1 n1 c1], .agg #[.int .i64 e2, .slice a2 n2 c2]] w fun e w' => e = .returned (.bool (decide (e1 = e2) && decide (l1 = l2))) ∧ Below w.heap.size w w' := by
  have HC : Hid (∀ u : World, IntsIn u a1 l1 → IntsIn u a2 l2 → Calls Try.prog 46 #[.slice a1 n1 c1, .slice a2 n2 c2] u fun e w' => e = .returned (.bool (decide (l1 = l2))) ∧ Below u.heap.size u w') := hid (fun u k1 k2 => sameInts_dec a1 a2 n1 n2 c1 c2 l1 l2 hn1 hn2 hm1 hm2 u k1 k2)
  have HI := hid (And.intro h1 h2)
  clear h1 h2 hn1 hn2 hm1 hm2
  by_cases he : e1 = e2
  · have hb : (e1 == e2) = true := by simpa using he
    rw [decide_eq_true he, Bool.true_and]
    clear he
    generalize decide (l1 = l2) = B at HC
    go_enter Try.func21, Try.ntmps21
    go_wp2_with (go_at_call 46; refine (HC.out _ (by exact (HI.out.1.alloc _).alloc _) (by exact (HI.out.2.alloc _).alloc _)).mono ?_; rintro e w1 ⟨rfl, hb1⟩; have H1 := hid ((((Below.refl w.heap.size w).alloc (Nat.le_refl _) _).alloc (by simp) _).trans (hb1.mono (by simp; omega))); clear hb1)
    go_ret
    exact ⟨rfl, H1.out⟩
  · have hb : (e1 == e2) = false := by simpa using he
    rw [decide_eq_false he, Bool.false_and]
    go_enter Try.func21, Try.ntmps21
    go_wp2
    go_ret
    exact ⟨by simp, ((Below.refl w.heap.size w).alloc (Nat.le_refl _) _).alloc (by simp) _⟩
end Go.Proofs.Ytclfphffbfdimaa
