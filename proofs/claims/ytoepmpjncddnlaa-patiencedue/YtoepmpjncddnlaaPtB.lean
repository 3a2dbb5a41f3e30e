/- The laws' own step of a timer, and their beginning. -/
import Derived.Test.YtoepmpjncddnlaaPtA
import Derived.Deep.RegionWith
namespace Go.Proofs.Ytoepmpjncddnlaa
open Go.RowKit

/-- The kind of a step. -/
def kdO (k : Int) : Int := wrap64 ((IntKind.u64.wrap k).tmod 5)
theorem kdO_cases (k : Int) : kdO k = 0 ∨ kdO k = 1 ∨ kdO k = 2 ∨ kdO k = 3 ∨ kdO k = 4 := by
  have h1 : IntKind.u64.wrap k = k % 18446744073709551616 := by simp [IntKind.wrap, IntKind.bits, IntKind.signed]
  have h2 : (k % 18446744073709551616).tmod 5 = k % 18446744073709551616 % 5 := Int.tmod_eq_emod_of_nonneg (by omega)
  have h3 : kdO k = k % 18446744073709551616 % 5 := by
    unfold kdO
    rw [h1, h2]
    unfold wrap64
    omega
  omega
/-- The four tests of a kind, as Bools. -/
def KdIs (k : Int) (a b c d : Bool) : Prop := (wrap64 ((IntKind.u64.wrap k).tmod 5) == 0) = a ∧ (wrap64 ((IntKind.u64.wrap k).tmod 5) == 1) = b ∧ (wrap64 ((IntKind.u64.wrap k).tmod 5) == 2) = c ∧ (wrap64 ((IntKind.u64.wrap k).tmod 5) == 3) = d
theorem kd_is {k z : Int} (h : kdO k = z) : KdIs k (z == 0) (z == 1) (z == 2) (z == 3) := by
  have h : wrap64 ((IntKind.u64.wrap k).tmod 5) = z := h
  unfold KdIs
  rw [h]
  exact ⟨rfl, rfl, rfl, rfl⟩
/-- A step: how much longer it waits, and its end. -/
def spM (z m : Int) : Int := if z = 2 then flM m else if z = 3 then 0 else m
def spE (z m e n : Int) : Int := if z = 0 then stE m e n else if z = 1 then 0 else e
theorem spM_bounds {m : Int} (h : 0 ≤ m ∧ m ≤ 504) (z : Int) : 0 ≤ spM z m ∧ spM z m ≤ 504 := by
  have := flM_bounds h
  unfold spM
  split
  · exact this
  · split <;> omega
theorem spE_bounds {m e : Int} (hm : 0 ≤ m ∧ m ≤ 504) (he : 0 ≤ e ∧ e ≤ 1099511628288) (z n : Int) : 0 ≤ spE z m e n ∧ spE z m e n ≤ 1099511628288 := by
  have := stE_bounds hm he n
  unfold spE
  split
  · exact this
  · split <;> omega
theorem call_nil (k n : Int) (w : World) : Calls Try.prog 10 #[.pointer none, .agg #[.int .i64 k, .int .i64 n]] w fun e w' => e = .returned (.tuple #[]) ∧ Below w.heap.size w w' := by
  have H0 := hid ((Below.refl w.heap.size w).alloc (Nat.le_refl _) (.cells #[.int .i64 k, .int .i64 n] 30))
  go_enter Try.func10, Try.ntmps10
  go_wp2_with (first
    | (go_at_call 20; go_must (refine (pstart_nil _ _).mono ?_); rintro x w1 ⟨rfl, hw1⟩; subst hw1)
    | (go_at_call 21; go_must (refine (pstop_nil _).mono ?_); rintro x w1 ⟨rfl, hw1⟩; subst hw1)
    | (go_at_call 19; go_must (refine (pfail_nil _).mono ?_); rintro x w1 ⟨rfl, hw1⟩; subst hw1)
    | (go_at_call 22; go_must (refine (pcalm_nil _).mono ?_); rintro x w1 ⟨rfl, hw1⟩; subst hw1))
  all_goals go_end0
  all_goals exact ⟨rfl, H0.out⟩
theorem call_any (b : Nat) (m e : Int) (hm : 0 ≤ m ∧ m ≤ 504) (k n : Int) (w : World) (h : TmAt w b m e) : Calls Try.prog 10 #[.pointer (some ⟨b, 0, none⟩), .agg #[.int .i64 k, .int .i64 n]] w fun x w' => x = .returned (.tuple #[]) ∧ TmAt w' b (spM (kdO k) m) (spE (kdO k) m e n) ∧ But b w w' := by
  have hb0 : Below w.heap.size w (w.alloc (.cells #[.int .i64 k, .int .i64 n] 30)) := (Below.refl w.heap.size w).alloc (Nat.le_refl _) _
  have HT := hid (h.keep hb0)
  have HB : Hid (But b w (w.alloc (.cells #[.int .i64 k, .int .i64 n] 30))) := hid (But.of hb0)
  have HS := hid (pstart_any b m e hm n _ HT.out)
  have HF := hid (pfail_any b m e hm _ HT.out)
  have HP := hid (pstop_any b m e _ HT.out)
  have HC := hid (pcalm_any b m e _ HT.out)
  clear h hm hb0
  rcases kdO_cases k with hz | hz | hz | hz | hz
  all_goals
    have hk := kd_is hz
    rw [hz]
    clear hz
    obtain ⟨h0, h1, h2, h3⟩ := hk
    simp only [Int.reduceBEq] at h0 h1 h2 h3
    simp only [spM, spE, Int.reduceEq, if_true, if_false]
    go_enter Try.func10, Try.ntmps10
    go_wp2_with (first
      | (go_at_call 20; go_must (refine HS.out.mono ?_); rintro x w1 ⟨rfl, hh1, hb1⟩; have H1 := hid hh1; have HB1 := hid (HB.out.trans hb1); clear hh1 hb1)
      | (go_at_call 21; go_must (refine HP.out.mono ?_); rintro x w1 ⟨rfl, hh1, hb1⟩; have H1 := hid hh1; have HB1 := hid (HB.out.trans hb1); clear hh1 hb1)
      | (go_at_call 19; go_must (refine HF.out.mono ?_); rintro x w1 ⟨rfl, hh1, hb1⟩; have H1 := hid hh1; have HB1 := hid (HB.out.trans hb1); clear hh1 hb1)
      | (go_at_call 22; go_must (refine HC.out.mono ?_); rintro x w1 ⟨rfl, hh1, hb1⟩; have H1 := hid hh1; have HB1 := hid (HB.out.trans hb1); clear hh1 hb1))
    go_end0
    first
      | exact ⟨rfl, H1.out, HB1.out⟩
      | exact ⟨rfl, HT.out, HB.out⟩
theorem plives_any (w : World) : Calls Try.prog 7 #[] w fun e w' => e = .returned (.bool true) ∧ Below w.heap.size w w' := by
  have e1 : duB (stE 0 0 5) 13 = true := by decide
  have e2 : duB (stE 0 0 5) 12 = false := by decide
  have e3 : (stE 0 0 5 != 0) = true := by decide
  have HD1 : Hid (∀ (u : World) (b : Nat), TmAt u b 0 (stE 0 0 5) → Calls Try.prog 15 #[.pointer (some ⟨b, 0, none⟩), .int .i64 13] u fun x w' => x = .returned (.bool true) ∧ Below u.heap.size u w') := hid (fun u b h => by have := pdue_any b 0 _ 13 u h; rw [e1] at this; exact this)
  have HD2 : Hid (∀ (u : World) (b : Nat), TmAt u b 0 (stE 0 0 5) → Calls Try.prog 15 #[.pointer (some ⟨b, 0, none⟩), .int .i64 12] u fun x w' => x = .returned (.bool false) ∧ Below u.heap.size u w') := hid (fun u b h => by have := pdue_any b 0 _ 12 u h; rw [e2] at this; exact this)
  have HR : Hid (∀ (u : World) (b : Nat), TmAt u b 0 (stE 0 0 5) → Calls Try.prog 17 #[.pointer (some ⟨b, 0, none⟩)] u fun x w' => x = .returned (.bool true) ∧ w' = u) := hid (fun u b h => by have := prun_any b 0 _ u h; rw [e3] at this; exact this)
  have HW : Hid (∀ (u : World) (b : Nat), TmAt u b 0 (stE 0 0 5) → Calls Try.prog 18 #[.pointer (some ⟨b, 0, none⟩)] u fun x w' => x = .returned (.int .i64 8) ∧ w' = u) := hid (fun u b h => pwait_any b 0 _ (by omega) u h)
  clear e1 e2 e3
  go_enter Try.func7, Try.ntmps7
  go_wp2_with (first
    | (go_at_call 8; go_must (refine (pnew_any _).mono ?_); rintro x w1 ⟨rfl, h1, hb1⟩; have H1 := hid h1; have HB1 := hid hb1; clear h1 hb1)
    | (go_at_call 20; go_must (refine (pstart_any _ 0 0 (by omega) _ _ H1.out).mono ?_); rintro x w2 ⟨rfl, h2, hb2⟩; have H2 := hid h2; have HB2 := hid (HB1.out.trans (hb2.below HB1.out.size (Nat.le_refl _))); clear h2 hb2)
    | (go_at_call_of 15 (Value.int IntKind.i64 13); go_must (refine (HD1.out _ _ H2.out).mono ?_); rintro x w3 ⟨rfl, hb3⟩; have H3 := hid (H2.out.keep hb3); have HB3 := hid (HB2.out.trans (hb3.mono HB2.out.size)); clear hb3)
    | (go_at_call_of 15 (Value.int IntKind.i64 12); go_must (refine (HD2.out _ _ H3.out).mono ?_); rintro x w4 ⟨rfl, hb4⟩; have H4 := hid (H3.out.keep hb4); have HB4 := hid (HB3.out.trans (hb4.mono HB3.out.size)); clear hb4)
    | (go_at_call 17; go_must (refine (HR.out _ _ H4.out).mono ?_); rintro x w5 ⟨rfl, hw5⟩; replace hw5 := hw5.symm; subst hw5)
    | (go_at_call 18; go_must (refine (HW.out _ _ H4.out).mono ?_); rintro x w5 ⟨rfl, hw5⟩; replace hw5 := hw5.symm; subst hw5))
  go_ret
  exact ⟨rfl, HB4.out⟩
end Go.Proofs.Ytoepmpjncddnlaa
