/- The document's counts, members and leaders. -/
import Derived.Test.YtgnapfgiefdlaaaCoA
namespace Go.Proofs.Ytgnapfgiefdlaaa
open Go.RowKit

theorem vfaults_any (n : Int) (hn : n ≤ 9223372036854775807) (w : World) : Calls Try.prog 38 #[.int .i64 n] w fun e w' => e = .returned (.int .i64 (fltZ n)) ∧ w' = w := by
  by_cases h : n < 1
  · rw [fltZ_lo h]
    go_enter Try.func38, Try.ntmps38
    go_wp2
    go_ret
    exact ⟨rfl, rfl⟩
  · have HF : Hid (fltZ n = (n - 1) / 3) := hid (fltZ_hi h)
    rw [HF.out]
    go_enter Try.func38, Try.ntmps38
    go_wp2
    go_ret
    exact ⟨rfl, rfl⟩
theorem vquorum_any (n : Int) (hn : n ≤ 9223372036854775807) (w : World) : Calls Try.prog 31 #[.int .i64 n] w fun e w' => e = .returned (.int .i64 (quoZ n)) ∧ w' = w := by
  have HC : Hid (∀ u : World, Calls Try.prog 38 #[.int .i64 n] u fun e w' => e = .returned (.int .i64 (fltZ n)) ∧ w' = u) := hid (vfaults_any n hn)
  by_cases h : n < 1
  · rw [quoZ_lo h]
    go_enter Try.func31, Try.ntmps31
    go_wp2
    go_ret
    exact ⟨rfl, rfl⟩
  · rw [quoZ_hi h]
    have hf := fltZ_le h
    generalize fltZ n = f at HC hf ⊢
    have h1 : 0 ≤ f := hf.1
    have h2 : f ≤ 4000000000000000000 := by omega
    have HQ : Hid ((n + f) / 2 + 1 = n / 2 + (n % 2 + f % 2) / 2 + f / 2 + 1) := hid (by omega)
    rw [HQ.out]
    clear hf
    go_enter Try.func31, Try.ntmps31
    go_wp2_with (go_at_call 38; refine (HC.out _).mono ?_; rintro e wx ⟨rfl, rfl⟩)
    go_ret
    exact ⟨rfl, rfl⟩
end Go.Proofs.Ytgnapfgiefdlaaa
