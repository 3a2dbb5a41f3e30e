/- Waits never fall but by Calm. -/
import Derived.Test.YtoepmpjncddnlaaPtD
namespace Go.Proofs.Ytoepmpjncddnlaa
open Go.RowKit

/-- What a step makes of a wait, as the law asks. -/
theorem wait_law {m z : Int} : (z = 3 → spM z m = 0) ∧ (z = 2 → 8 + spM z m = min (2 * (8 + m)) 512) ∧ (z ≠ 3 → z ≠ 2 → spM z m = m) := by
  refine ⟨fun h => ?_, fun h => ?_, fun h3 h2 => ?_⟩
  · subst h; rfl
  · subst h; simp [spM, flM]; omega
  · simp [spM, h2, h3]
set_option maxRecDepth 100000 in
set_option maxHeartbeats 3200000 in
theorem patienceWaits_walk (a : Option Addr) (n cap : Nat) (xs : List (Int × Int)) (hn : xs.length = n) (hmx : n ≤ maxLen) (w : World) (hS : TwosIn w a xs) : Calls Try.prog 5 #[.slice a n cap] w fun e w' => e = .returned (.bool true) ∧ Below w.heap.size w w' := by
  have HI := hid (And.intro hS hn)
  have hn3 : (n : Int) ≤ 9223372036854775807 := by unfold maxLen at hmx; omega
  clear hS hn hmx
  go_enter Try.func5, Try.ntmps5
  go_wp2_with (first
    | (go_at_call 7; go_must (refine (plives_any _).mono ?_); rintro e w1 ⟨rfl, hb1⟩; have H1 := hid hb1; clear hb1)
    | (go_at_call 8; go_must (refine (pnew_any _).mono ?_); rintro e w2 ⟨rfl, ht2, hb2⟩; have H2 : Hid (PwSt w w2 w1.heap.size 0 0) := hid ⟨ht2, H1.out.trans (hb2.mono H1.out.size), H1.out.size, by omega⟩; clear ht2 hb2))
  generalize w1.heap.size = b at H2 ⊢
  clear H1
  go_loopw [4] (fun i wr => ∃ (j : Nat) (m e : Int), j ≤ n ∧ i = .int .i64 (j : Int) ∧ PwSt w wr b m e) (fun i _ => ((n : Int) - intOf i).toNat)
  case atStart => exact ⟨0, 0, 0, by omega, rfl, H2.out⟩
  case round =>
    obtain ⟨j, m, e, hj, rfl, hst⟩ := hrel
    by_cases hjn : j = n
    · have hj1 : ¬ ((j : Int) < (n : Int)) := by omega
      have HS := hid hst
      clear hst hj hjn
      go_wp2
      go_ret
      exact ⟨rfl, HS.out.bel⟩
    · have hj1 : (j : Int) < (n : Int) := by omega
      have hj0 : (0 : Int) ≤ (j : Int) := Int.natCast_nonneg _
      have hjl : j < xs.length := by have := HI.out.2; omega
      obtain ⟨⟨k, t⟩, hx⟩ : ∃ x, xs[j]? = some x := ⟨_, List.getElem?_eq_getElem hjl⟩
      obtain ⟨ga, off, rfl, hc⟩ := HI.out.1.at j _ hx
      have HC := hid hc
      obtain ⟨x0, x1⟩ := hc wr hst.bel
      have HW := hid (pwait_any b m e hst.hm wr hst.tm)
      have HCl := hid (call_any b m e hst.hm k t wr hst.tm)
      have hb2 := spM_bounds hst.hm (kdO k)
      have hl := wait_law (m := m) (z := kdO k)
      have hm := hst.hm
      have hk5 := kdO_cases k
      obtain ⟨e2, ee⟩ : ∃ e2, e2 = spE (kdO k) m e t := ⟨_, rfl⟩
      obtain ⟨m2, em⟩ : ∃ m2, m2 = spM (kdO k) m := ⟨_, rfl⟩
      rw [← em] at HCl hb2 hl
      rw [← ee] at HCl
      have HW2 : Hid (∀ u : World, TmAt u b m2 e2 → Calls Try.prog 18 #[.pointer (some ⟨b, 0, none⟩)] u fun x w' => x = .returned (.int .i64 (8 + m2)) ∧ w' = u) := hid (fun u hu => pwait_any b m2 e2 hb2 u hu)
      have HS := hid hst
      have HB2 := hid hb2
      clear hst hc em ee hx hjl
      simp only at x0 x1 HC
      have hrep : ∀ u : World, PwSt w u b m2 e2 → ∃ (j' : Nat) (m e : Int), j' ≤ n ∧ Value.int IntKind.i64 ((j : Int) + 1) = .int .i64 (j' : Int) ∧ PwSt w u b m e := fun u hu => ⟨j + 1, m2, e2, by omega, by simp, hu⟩
      have HR := hid hrep
      clear hrep hj hjn HI H2
      have HM : Hid (((n : Int) - intOf (Value.int IntKind.i64 ((j : Int) + 1))).toNat < ((n : Int) - intOf (Value.int IntKind.i64 (j : Int))).toNat) := hid (by simp only [intOf]; omega)
      have d1 : decide (8 + m2 < 8) = false := decide_eq_false (by omega)
      have d2 : decide (512 < 8 + m2) = false := decide_eq_false (by omega)
      have hj3 : IntKind.i64.wrap ((j : Int) + 1) = (j : Int) + 1 := wrap_up _ (by omega) (by omega)
      rcases hk5 with hz | hz | hz | hz | hz
      all_goals
        have hq := kd_is hz
        rw [hz] at hl
        clear hz
        obtain ⟨q0, q1, q2, q3⟩ := hq
        simp only [Int.reduceBEq] at q0 q1 q2 q3
        have p2 := (congrArg (!·) q2)
        have p3 := (congrArg (!·) q3)
        simp only [Bool.not_true, Bool.not_false] at p2 p3
        change (wrap64 ((IntKind.u64.wrap k).tmod 5) != 2) = _ at p2
        change (wrap64 ((IntKind.u64.wrap k).tmod 5) != 3) = _ at p3
        simp at hl
      · obtain rfl := hl
        go_wp2_with (first
          | (have := H3; go_at_call 18; go_must (refine (HW2.out _ H3.out.tm).mono ?_); rintro e w4 ⟨rfl, hw4⟩; replace hw4 := hw4.symm; subst hw4)
          | (go_at_call 18; go_must (refine HW.out.mono ?_); rintro e w4 ⟨rfl, hw4⟩; replace hw4 := hw4.symm; subst hw4)
          | (go_at_call 10; go_must (refine HCl.out.mono ?_); rintro e w3 ⟨rfl, ht3, hb3⟩; have H3 := hid (HS.out.but hb3 ht3 HB2.out); clear ht3 hb3 x0 x1; obtain ⟨x0, x1⟩ := HC.out w3 H3.out.bel))
        exact ⟨HR.out _ H3.out, HM.out⟩
      · obtain rfl := hl
        go_wp2_with (first
          | (have := H3; go_at_call 18; go_must (refine (HW2.out _ H3.out.tm).mono ?_); rintro e w4 ⟨rfl, hw4⟩; replace hw4 := hw4.symm; subst hw4)
          | (go_at_call 18; go_must (refine HW.out.mono ?_); rintro e w4 ⟨rfl, hw4⟩; replace hw4 := hw4.symm; subst hw4)
          | (go_at_call 10; go_must (refine HCl.out.mono ?_); rintro e w3 ⟨rfl, ht3, hb3⟩; have H3 := hid (HS.out.but hb3 ht3 HB2.out); clear ht3 hb3 x0 x1; obtain ⟨x0, x1⟩ := HC.out w3 H3.out.bel))
        exact ⟨HR.out _ H3.out, HM.out⟩
      · have HL := hid hl
        have h2w : IntKind.i64.wrap (2 * (8 + m)) = 2 * (8 + m) := wrap_up _ (by omega) (by omega)
        clear hl
        go_wp2_with (first
          | (have := H3; go_at_call 18; go_must (refine (HW2.out _ H3.out.tm).mono ?_); rintro e w4 ⟨rfl, hw4⟩; replace hw4 := hw4.symm; subst hw4)
          | (go_at_call 18; go_must (refine HW.out.mono ?_); rintro e w4 ⟨rfl, hw4⟩; replace hw4 := hw4.symm; subst hw4)
          | (go_at_call 10; go_must (refine HCl.out.mono ?_); rintro e w3 ⟨rfl, ht3, hb3⟩; have H3 := hid (HS.out.but hb3 ht3 HB2.out); clear ht3 hb3 x0 x1; obtain ⟨x0, x1⟩ := HC.out w3 H3.out.bel))
        all_goals first
          | exact ⟨HR.out _ H3.out, HM.out⟩
          | (exfalso; have := HL.out; omega)
      · obtain rfl := hl
        go_wp2_with (first
          | (have := H3; go_at_call 18; go_must (refine (HW2.out _ H3.out.tm).mono ?_); rintro e w4 ⟨rfl, hw4⟩; replace hw4 := hw4.symm; subst hw4)
          | (go_at_call 18; go_must (refine HW.out.mono ?_); rintro e w4 ⟨rfl, hw4⟩; replace hw4 := hw4.symm; subst hw4)
          | (go_at_call 10; go_must (refine HCl.out.mono ?_); rintro e w3 ⟨rfl, ht3, hb3⟩; have H3 := hid (HS.out.but hb3 ht3 HB2.out); clear ht3 hb3 x0 x1; obtain ⟨x0, x1⟩ := HC.out w3 H3.out.bel))
        exact ⟨HR.out _ H3.out, HM.out⟩
      · obtain rfl := hl
        go_wp2_with (first
          | (have := H3; go_at_call 18; go_must (refine (HW2.out _ H3.out.tm).mono ?_); rintro e w4 ⟨rfl, hw4⟩; replace hw4 := hw4.symm; subst hw4)
          | (go_at_call 18; go_must (refine HW.out.mono ?_); rintro e w4 ⟨rfl, hw4⟩; replace hw4 := hw4.symm; subst hw4)
          | (go_at_call 10; go_must (refine HCl.out.mono ?_); rintro e w3 ⟨rfl, ht3, hb3⟩; have H3 := hid (HS.out.but hb3 ht3 HB2.out); clear ht3 hb3 x0 x1; obtain ⟨x0, x1⟩ := HC.out w3 H3.out.bel))
        exact ⟨HR.out _ H3.out, HM.out⟩
end Go.Proofs.Ytoepmpjncddnlaa
