/- Steps. -/
import Derived.Test.YtebhkifjommpjaaOtA
namespace Go.Proofs.Ytebhkifjommpjaa
open Go.RowKit

theorem shaS_16 (s : ByteArray) : (shaS s).extract 0 16 = st16 s := by rw [shaS, ext_take]; rfl
theorem sum_one (s : ByteArray) (hs : s.size ≤ 2000000) (u : World) (g : Nat) (hg : g = u.heap.size) :
    Calls Try.prog 41 #[.slice (some ⟨g, 0, none⟩) 1 1] (u.alloc (.cells #[.string s] 9)) fun e w' => e = .returned (.string (shaS s)) ∧ Below u.heap.size u w' := by
  subst hg
  have := ssum_new [s] #[.string s] 1 1 u rfl rfl (by rw [joinB_one, data_len]; omega) (by decide)
  rwa [joinB_one] at this
/-- How many steps are gone. -/
def clampN (n : Int) : Nat := (min (max n 0) 15).toNat
theorem clampN_le (n : Int) : clampN n ≤ 15 := by unfold clampN; omega
theorem clampN_of (k : Nat) (h : k ≤ 15) : clampN (k : Int) = k := by unfold clampN; omega

set_option maxRecDepth 100000 in
set_option maxHeartbeats 1600000 in
theorem ostep_le (x : ByteArray) (hx : x.size ≤ 1000000) (n : Int) (w : World) :
    Calls Try.prog 57 #[.string x, .int .i64 n] w fun e w' => e = .returned (.string (stepN (clampN n) x)) ∧ Below w.heap.size w w' := by
  have HX := hid hx
  clear hx
  by_cases h0 : n < 0
  · rw [show clampN n = 0 by unfold clampN; omega]
    go_enter Try.func57, Try.ntmps57
    go_wp2
    refine wp_loop_rounds 1 ?_
    rw [rounds_succ]
    go_wp2
    go_ret
    exact ⟨rfl, Below.refl _ _⟩
  by_cases h1 : 15 < n
  · rw [show clampN n = 15 by unfold clampN; omega]
    have h0 : 0 ≤ n := by omega
    go_enter Try.func57, Try.ntmps57
    go_wp2
    go_loopw [0, 8] (fun v i wr => ∃ j : Nat, j ≤ 15 ∧ i = .int .i64 (j : Int) ∧ v = .string (stepN j x) ∧ Below w.heap.size w wr)
      (fun _ i _ => ((15 : Int) - intOf i).toNat)
    case atStart => exact ⟨0, by omega, rfl, rfl, Below.refl _ _⟩
    case round =>
      obtain ⟨j, hj, rfl, rfl, hbel⟩ := hrel
      have HB := hid hbel
      clear hbel
      by_cases hjn : j = 15
      · have hj1 : ¬ ((j : Int) < (15 : Int)) := by omega
        have HJ := hid hjn
        clear hj hjn
        go_wp2
        go_ret
        exact ⟨by rw [HJ.out]; rfl, HB.out⟩
      · have hj1 : (j : Int) < (15 : Int) := by omega
        have hj0 : (0 : Int) ≤ (j : Int) := Int.natCast_nonneg _
        have hj15 : (j : Int) < 15 := by omega
        obtain ⟨y, ey⟩ : ∃ y, y = stepN j x := ⟨_, rfl⟩
        obtain ⟨T, eT⟩ : ∃ T, T = shaS y := ⟨_, rfl⟩
        have HS : Hid (∀ (u : World) (g : Nat), g = u.heap.size → Calls Try.prog 41 #[.slice (some ⟨g, 0, none⟩) 1 1] (u.alloc (.cells #[.string y] 9)) fun e w' => e = .returned (.string T) ∧ Below u.heap.size u w') :=
          hid (fun u g hg => by rw [eT]; exact sum_one y (by rw [ey]; exact Nat.le_trans (stepN_le j x 1000000 HX.out (by decide)) (by decide)) u g hg)
        have hT : (16 : Int) ≤ (T.size : Int) := by rw [eT, shaS_size]; decide
        have HT : Hid (T.extract 0 16 = stepN (j + 1) x) := hid (by rw [eT, shaS_16, ey, stepN_succ])
        rw [← ey]
        clear ey eT
        go_wp2_with (go_at_call 41; refine (HS.out _ _ (by simp)).mono ?_; rintro e w1 ⟨rfl, hb1⟩; have H1 := hid (HB.out.trans (hb1.mono HB.out.size)); clear hb1)
        go_roundw
        case rel => exact ⟨j + 1, by omega, by go_num, by rw [← HT.out], H1.out⟩
        case measure => simp [intOf]; omega
  · obtain ⟨k, rfl⟩ : ∃ k : Nat, n = (k : Int) := ⟨n.toNat, by omega⟩
    rw [show clampN (k : Int) = k by unfold clampN; omega]
    have hk : (k : Int) ≤ 15 := by omega
    clear h0 h1
    have h0 : (0 : Int) ≤ (k : Int) := by omega
    go_enter Try.func57, Try.ntmps57
    go_wp2
    go_loopw [0, 8] (fun v i wr => ∃ j : Nat, j ≤ k ∧ i = .int .i64 (j : Int) ∧ v = .string (stepN j x) ∧ Below w.heap.size w wr)
      (fun _ i _ => ((k : Int) - intOf i).toNat)
    case atStart => exact ⟨0, by omega, rfl, rfl, Below.refl _ _⟩
    case round =>
      obtain ⟨j, hj, rfl, rfl, hbel⟩ := hrel
      have HB := hid hbel
      clear hbel
      by_cases hjn : j = k
      · have hj1 : ¬ ((j : Int) < (k : Int)) := by omega
        have HJ := hid hjn
        clear hj hjn
        go_wp2
        go_ret
        exact ⟨by rw [HJ.out]; rfl, HB.out⟩
      · have hj1 : (j : Int) < (k : Int) := by omega
        have hj0 : (0 : Int) ≤ (j : Int) := Int.natCast_nonneg _
        have hj15 : (j : Int) < 15 := by omega
        obtain ⟨y, ey⟩ : ∃ y, y = stepN j x := ⟨_, rfl⟩
        obtain ⟨T, eT⟩ : ∃ T, T = shaS y := ⟨_, rfl⟩
        have HS : Hid (∀ (u : World) (g : Nat), g = u.heap.size → Calls Try.prog 41 #[.slice (some ⟨g, 0, none⟩) 1 1] (u.alloc (.cells #[.string y] 9)) fun e w' => e = .returned (.string T) ∧ Below u.heap.size u w') :=
          hid (fun u g hg => by rw [eT]; exact sum_one y (by rw [ey]; exact Nat.le_trans (stepN_le j x 1000000 HX.out (by decide)) (by decide)) u g hg)
        have hT : (16 : Int) ≤ (T.size : Int) := by rw [eT, shaS_size]; decide
        have HT : Hid (T.extract 0 16 = stepN (j + 1) x) := hid (by rw [eT, shaS_16, ey, stepN_succ])
        rw [← ey]
        clear ey eT
        go_wp2_with (go_at_call 41; refine (HS.out _ _ (by simp)).mono ?_; rintro e w1 ⟨rfl, hb1⟩; have H1 := hid (HB.out.trans (hb1.mono HB.out.size)); clear hb1)
        go_roundw
        case rel => exact ⟨j + 1, by omega, by go_num, by rw [← HT.out], H1.out⟩
        case measure => simp [intOf]; omega

end Go.Proofs.Ytebhkifjommpjaa
