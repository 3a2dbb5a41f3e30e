/- The program's counts. -/
import Derived.Test.YtgnapfgiefdlaaaCoB
namespace Go.Proofs.Ytgnapfgiefdlaaa
open Go.RowKit

theorem cfaults_same (n : Int) (hn : n ≤ 9223372036854775807) (w : World) : Calls Try.prog 19 #[.int .i64 n] w fun e w' => e = .returned (.int .i64 (fltZ n)) ∧ w' = w := by
  by_cases h : n < 1
  · rw [fltZ_lo h]
    go_enter Try.func19, Try.ntmps19
    go_wp2
    go_ret
    exact ⟨rfl, rfl⟩
  · have HF : Hid (fltZ n = (n - 1) / 3) := hid (fltZ_hi h)
    rw [HF.out]
    go_enter Try.func19, Try.ntmps19
    go_wp2
    go_ret
    exact ⟨rfl, rfl⟩
theorem cfaults_any (n : Int) (hn : n ≤ 9223372036854775807) (w : World) : Calls Try.prog 19 #[.int .i64 n] w fun e w' => e = .returned (.int .i64 (fltZ n)) ∧ Below w.heap.size w w' :=
  (cfaults_same n hn w).mono fun _ _ ⟨h1, h2⟩ => ⟨h1, by rw [h2]; exact Below.refl _ _⟩
theorem cweak_any (n : Int) (hn : n ≤ 9223372036854775807) (w : World) : Calls Try.prog 18 #[.int .i64 n] w fun e w' => e = .returned (.int .i64 (wekZ n)) ∧ Below w.heap.size w w' := by
  have HC : Hid (∀ u : World, Calls Try.prog 19 #[.int .i64 n] u fun e w' => e = .returned (.int .i64 (fltZ n)) ∧ w' = u) := hid (cfaults_same n hn)
  by_cases h : n < 1
  · rw [wekZ_lo h]
    go_enter Try.func18, Try.ntmps18
    go_wp2
    go_ret
    exact ⟨rfl, Below.refl _ _⟩
  · rw [wekZ_hi h]
    have hf := fltZ_le h
    generalize fltZ n = f at HC hf ⊢
    have h1 : 0 ≤ f := hf.1
    have h2 : f ≤ 4000000000000000000 := by omega
    clear hf
    go_enter Try.func18, Try.ntmps18
    go_wp2_with (go_at_call 19; refine (HC.out _).mono ?_; rintro e wx ⟨rfl, rfl⟩)
    go_ret
    exact ⟨rfl, Below.refl _ _⟩
theorem cquorum_any (n : Int) (hn : n ≤ 9223372036854775807) (w : World) : Calls Try.prog 17 #[.int .i64 n] w fun e w' => e = .returned (.int .i64 (quoZ n)) ∧ Below w.heap.size w w' := by
  have HC : Hid (∀ u : World, Calls Try.prog 19 #[.int .i64 n] u fun e w' => e = .returned (.int .i64 (fltZ n)) ∧ w' = u) := hid (cfaults_same n hn)
  by_cases h : n < 1
  · rw [quoZ_lo h]
    go_enter Try.func17, Try.ntmps17
    go_wp2
    go_ret
    exact ⟨rfl, Below.refl _ _⟩
  · rw [quoZ_hi h]
    have hf := fltZ_le h
    generalize fltZ n = f at HC hf ⊢
    have h1 : 0 ≤ f := hf.1
    have h2 : f ≤ 4000000000000000000 := by omega
    have h3 : f ≤ n := by omega
    have HQ : Hid ((n + f) / 2 + 1 = f + (n - f) / 2 + 1) := hid (by omega)
    rw [HQ.out]
    clear hf
    go_enter Try.func17, Try.ntmps17
    go_wp2_with (go_at_call 19; refine (HC.out _).mono ?_; rintro e wx ⟨rfl, rfl⟩)
    go_ret
    exact ⟨rfl, Below.refl _ _⟩
end Go.Proofs.Ytgnapfgiefdlaaa
