/- A timer is due from its end on, and not ahead of it. -/
import Derived.Test.YtoepmpjncddnlaaPtD
namespace Go.Proofs.Ytoepmpjncddnlaa
open Go.RowKit

theorem due_law {A m z : Int} (hA : 0 ≤ A) (hm : 0 ≤ m) (hz : 0 ≤ A + z) (hl : A + z ≤ 1099511627776) : duB (A + (8 + m)) (A + z) = decide (8 + m ≤ z) := by
  have h1 : tmO (A + z) = A + z := by unfold tmO; omega
  have h2 : (A + (8 + m) != 0) = true := by simp; omega
  rw [duB, h1, h2, Bool.true_and]
  exact decide_eq_decide.2 (by omega)
set_option maxRecDepth 100000 in
set_option maxHeartbeats 3200000 in
theorem patienceDue_walk (f a l : Int) (w : World) : Calls Try.prog 4 #[.int .i64 f, .int .i64 a, .int .i64 l] w fun e w' => e = .returned (.bool true) ∧ Below w.heap.size w w' := by
  obtain ⟨F, hF, hF2⟩ := md_nat f 12 (by decide) (by decide)
  obtain ⟨A, hA, hA2⟩ := md_nat a 1099511627776 (by decide) (by decide)
  obtain ⟨L, hL, hL2⟩ := md_nat l 1000 (by decide) (by decide)
  have HA := hid hA2
  have HL := hid hL2
  clear hA2 hL2
  replace hF : wrap64 ((IntKind.u64.wrap f).tmod 12) = (F : Int) := hF
  replace hA : wrap64 ((IntKind.u64.wrap a).tmod 1099511627776) = (A : Int) := hA
  replace hL : wrap64 ((IntKind.u64.wrap l).tmod 1000) = (L : Int) := hL
  go_enter Try.func4, Try.ntmps4
  go_wp2_with (first
    | (go_at_call 7; go_must (refine (plives_any _).mono ?_); rintro e w1 ⟨rfl, hb1⟩; have H1 := hid hb1; clear hb1)
    | (go_at_call 8; go_must (refine (pnew_any _).mono ?_); rintro e w2 ⟨rfl, ht2, hb2⟩; have H2 : Hid (PwSt w w2 w1.heap.size 0 0) := hid ⟨ht2, H1.out.trans (hb2.mono H1.out.size), H1.out.size, by omega⟩; clear ht2 hb2))
  generalize w1.heap.size = b at H2 ⊢
  clear H1
  go_loopw [8] (fun i wr => ∃ (j : Nat) (m : Int), j ≤ F ∧ i = .int .i64 (j : Int) ∧ PwSt w wr b m 0) (fun i _ => ((F : Int) - intOf i).toNat)
  case atStart => exact ⟨0, 0, by omega, rfl, H2.out⟩
  case round =>
    obtain ⟨j, m, hj, rfl, hst⟩ := hrel
    by_cases hjn : j = F
    · have hj1 : ¬ ((j : Int) < (F : Int)) := by omega
      have HS := hid hst
      have hm := hst.hm
      clear hst hj hjn H2
      obtain ⟨e1, he1⟩ : ∃ e1, e1 = (A : Int) + (8 + m) := ⟨_, rfl⟩
      have hA3 := HA.out
      have hL3 := HL.out
      have hs1 : stE m 0 (A : Int) = e1 := by rw [he1]; unfold stE tmO; simp; omega
      have hs2 : ∀ x, stE m e1 x = e1 := fun x => by unfold stE; rw [if_neg (by omega)]
      have HW := hid (pwait_any b m 0 hm wr HS.out.tm)
      have HS1 : Hid (Calls Try.prog 20 #[.pointer (some ⟨b, 0, none⟩), .int .i64 (A : Int)] wr fun x w' => x = .returned (.tuple #[]) ∧ PwSt w w' b m e1) := hid ((pstart_any b m 0 hm (A : Int) wr HS.out.tm).mono fun _ _ ⟨k1, k2, k3⟩ => ⟨k1, by rw [hs1] at k2; exact HS.out.but k3 k2 hm⟩)
      have HS2 : Hid (∀ (u : World) (x : Int), PwSt w u b m e1 → Calls Try.prog 20 #[.pointer (some ⟨b, 0, none⟩), .int .i64 x] u fun x w' => x = .returned (.tuple #[]) ∧ PwSt w w' b m e1) := hid (fun u x hu => (pstart_any b m e1 hm x u hu.tm).mono fun _ _ ⟨k1, k2, k3⟩ => ⟨k1, by rw [hs2] at k2; exact hu.but k3 k2 hm⟩)
      have hw1 : IntKind.i64.wrap ((A : Int) + (L : Int)) = (A : Int) + (L : Int) := wrap_up _ (by omega) (by omega)
      have hw2 : IntKind.i64.wrap (8 + m - 3) = 5 + m := (wrap_up _ (by omega) (by omega)).trans (by omega)
      have hmx : (0 : Int) ≤ 5 + m := by omega
      have HM := hid (And.intro hm he1)
      clear hs1 hs2 he1 hA3 hL3 HL
      go_wp2_with (first
        | (go_at_call 18; go_must (refine HW.out.mono ?_); rintro e w4 ⟨rfl, hw4⟩; replace hw4 := hw4.symm; subst hw4)
        | (have := H5; go_at_call 20; go_must (refine (HS2.out _ _ H5.out).mono ?_); rintro e w6 ⟨rfl, ht6⟩; have H6 := hid ht6; clear ht6)
        | (go_at_call 20; go_must (refine HS1.out.mono ?_); rintro e w5 ⟨rfl, ht5⟩; have H5 := hid ht5; clear ht5))
      have hw3 : IntKind.i64.wrap (8 + m + 3) = 11 + m := (wrap_up _ (by omega) (by omega)).trans (by omega)
      clear HS HW HS1 HS2 hw1 hw2 hmx H5
      rename World => w7
      go_loopw [10] (fun i wr => ∃ z : Int, i = .int .i64 z ∧ 5 + m ≤ z ∧ z ≤ 11 + m ∧ PwSt w wr b m e1) (fun i _ => ((11 + m) - intOf i).toNat)
      case atStart => exact ⟨5 + m, rfl, by omega, by omega, H6.out⟩
      case round =>
        obtain ⟨z, rfl, hz1, hz2, hst⟩ := hrel
        have HS := hid hst
        clear hst
        have hm1 := HM.out.1
        have he1 := HM.out.2
        have hA3 := HA.out
        by_cases hzn : z = 11 + m
        · have hj2 : ¬ (z < 11 + m) := by omega
          have hw4 : IntKind.i64.wrap ((A : Int) + (8 + m)) = (A : Int) + (8 + m) := wrap_up _ (by omega) (by omega)
          have HP : Hid (Calls Try.prog 21 #[.pointer (some ⟨b, 0, none⟩)] wr fun x w' => x = .returned (.tuple #[]) ∧ PwSt w w' b m 0) := hid ((pstop_any b m e1 wr HS.out.tm).mono fun _ _ ⟨k1, k2, k3⟩ => ⟨k1, HS.out.but k3 k2 hm1⟩)
          have HD : Hid (∀ (u : World) (x : Int), PwSt w u b m 0 → Calls Try.prog 15 #[.pointer (some ⟨b, 0, none⟩), .int .i64 x] u fun e w' => e = .returned (.bool false) ∧ PwSt w w' b m 0) := hid (fun u x hu => (pdue_any b m 0 x u hu.tm).mono fun _ _ ⟨k1, k2⟩ => ⟨k1, hu.but (But.of k2) (hu.tm.keep k2) hu.hm⟩)
          have HR : Hid (∀ (u : World), PwSt w u b m 0 → Calls Try.prog 17 #[.pointer (some ⟨b, 0, none⟩)] u fun e w' => e = .returned (.bool false) ∧ w' = u) := hid (fun u hu => prun_any b m 0 u hu.tm)
          clear hz1 hz2 hm1 he1 hA3 hzn HM HA
          go_wp2_with (first
            | (go_at_call 21; go_must (refine HP.out.mono ?_); rintro e w8 ⟨rfl, ht8⟩; have H8 := hid ht8; clear ht8)
            | (go_at_call 15; go_must (refine (HD.out _ _ H8.out).mono ?_); rintro e w9 ⟨rfl, ht9⟩; have H9 := hid ht9; clear ht9)
            | (go_at_call 17; go_must (refine (HR.out _ H9.out).mono ?_); rintro e w10 ⟨rfl, hw10⟩; replace hw10 := hw10.symm; subst hw10))
          go_ret
          exact ⟨rfl, H9.out.bel⟩
        · have hj2 : z < 11 + m := by omega
          have hw4 : IntKind.i64.wrap ((A : Int) + z) = (A : Int) + z := wrap_up _ (by omega) (by omega)
          have hw5 : IntKind.i64.wrap (z + 1) = z + 1 := wrap_up _ (by omega) (by omega)
          have hrep : ∀ u : World, PwSt w u b m e1 → (∃ z2 : Int, Value.int IntKind.i64 (z + 1) = .int .i64 z2 ∧ 5 + m ≤ z2 ∧ z2 ≤ 11 + m ∧ PwSt w u b m e1) ∧ ((11 + m) - intOf (Value.int IntKind.i64 (z + 1))).toNat < ((11 + m) - intOf (Value.int IntKind.i64 z)).toNat := fun u hu => ⟨⟨z + 1, rfl, by omega, by omega, hu⟩, by simp only [intOf]; omega⟩
          have HRp := hid hrep
          clear hrep
          by_cases hle : (A : Int) + z ≤ 1099511627776
          · have hdu : duB e1 ((A : Int) + z) = decide (8 + m ≤ z) := by rw [he1]; exact due_law (by omega) (by omega) (by omega) hle
            have HD : Hid (∀ (u : World), PwSt w u b m e1 → Calls Try.prog 15 #[.pointer (some ⟨b, 0, none⟩), .int .i64 ((A : Int) + z)] u fun e w' => e = .returned (.bool (decide (8 + m ≤ z))) ∧ PwSt w w' b m e1) := hid (fun u hu => by
              have := pdue_any b m e1 ((A : Int) + z) u hu.tm
              rw [hdu] at this
              exact this.mono fun _ _ ⟨k1, k2⟩ => ⟨k1, hu.but (But.of k2) (hu.tm.keep k2) hu.hm⟩)
            have hd : decide ((A : Int) + z ≤ 1099511627776) = true := decide_eq_true hle
            cases hq : decide (8 + m ≤ z)
            all_goals
              rw [hq] at HD
              clear hz1 hz2 hm1 he1 hA3 hzn HM HA hdu hle
              go_wp2_with (first
                | (go_at_call 15; go_must (refine (HD.out _ HS.out).mono ?_); rintro e w9 ⟨rfl, ht9⟩; have H9 := hid ht9; clear ht9))
              exact HRp.out _ H9.out
          · have hd : decide ((A : Int) + z ≤ 1099511627776) = false := decide_eq_false hle
            clear hz1 hz2 hm1 he1 hA3 hzn HM HA hle
            go_wp2
            exact HRp.out _ HS.out
    · have hj1 : (j : Int) < (F : Int) := by omega
      have hj0 : (0 : Int) ≤ (j : Int) := Int.natCast_nonneg _
      have hj3 : IntKind.i64.wrap ((j : Int) + 1) = (j : Int) + 1 := wrap_up _ (by omega) (by omega)
      have HFl : Hid (Calls Try.prog 19 #[.pointer (some ⟨b, 0, none⟩)] wr fun x w' => x = .returned (.tuple #[]) ∧ PwSt w w' b (flM m) 0) := hid ((pfail_any b m 0 hst.hm wr hst.tm).mono fun _ _ ⟨k1, k2, k3⟩ => ⟨k1, hst.but k3 k2 (flM_bounds hst.hm)⟩)
      have hrep : ∀ u : World, PwSt w u b (flM m) 0 → (∃ (j' : Nat) (m : Int), j' ≤ F ∧ Value.int IntKind.i64 ((j : Int) + 1) = .int .i64 (j' : Int) ∧ PwSt w u b m 0) ∧ ((F : Int) - intOf (Value.int IntKind.i64 ((j : Int) + 1))).toNat < ((F : Int) - intOf (Value.int IntKind.i64 (j : Int))).toNat := fun u hu => ⟨⟨j + 1, flM m, by omega, by simp, hu⟩, by simp only [intOf]; omega⟩
      have HRp := hid hrep
      clear hrep hst hj hjn
      go_wp2_with (first
        | (go_at_call 19; go_must (refine HFl.out.mono ?_); rintro e w9 ⟨rfl, ht9⟩; have H9 := hid ht9; clear ht9))
      exact HRp.out _ H9.out
end Go.Proofs.Ytoepmpjncddnlaa
