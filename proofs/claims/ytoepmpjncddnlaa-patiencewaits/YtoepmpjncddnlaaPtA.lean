/- The program's timers, call by call. -/
import Derived.Test.YtoepmpjncddnlaaBuA
import Derived.Deep.DeepMust
namespace Go.Proofs.Ytoepmpjncddnlaa
open Go.RowKit

theorem wrap_room (x : Int) (h0 : -1152921504606846976 ≤ x) (h1 : x < 1152921504606846976) : IntKind.i64.wrap x = x := by
  simp [IntKind.wrap, IntKind.bits, IntKind.signed]
  omega
/-- The time as which a number counts. -/
def tmO (n : Int) : Int := min (max n 0) 1099511627776
theorem tmO_bounds (n : Int) : 0 ≤ tmO n ∧ tmO n ≤ 1099511627776 := by unfold tmO; omega
theorem tm_eq {x n : Int} (h : x = tmO n) : Ending.returned (.int .i64 x) = .returned (.int .i64 (tmO n)) := by rw [h]
/-- A timer of the program in block b: how much longer than 8 it waits, and its end. -/
def TmAt (w : World) (b : Nat) (m e : Int) : Prop := w.heap[b]? = some (.cells #[.int .i64 m, .int .i64 e] 40 (0, 0))
theorem TmAt.lt {w : World} {b : Nat} {m e : Int} (h : TmAt w b m e) : b < w.heap.size := lt_of_blk h
theorem TmAt.c0 {w : World} {b : Nat} {m e : Int} (h : TmAt w b m e) : w.cell? ⟨b, 0, none⟩ = some (.int .i64 m) := cell_at (L := [_, _]) h 0 _ rfl
theorem TmAt.c1 {w : World} {b : Nat} {m e : Int} (h : TmAt w b m e) : w.cell? ⟨b, 1, none⟩ = some (.int .i64 e) := cell_at (L := [_, _]) h 1 _ rfl
theorem TmAt.fr {w : World} {b : Nat} {m e : Int} (h : TmAt w b m e) (j : Nat) : w.frozen? ⟨b, j, none⟩ = false := free_at h j
theorem TmAt.keep {w w' : World} {b : Nat} {m e : Int} (h : TmAt w b m e) (hb : Below w.heap.size w w') : TmAt w' b m e := (hb.block b h.lt).trans h
theorem TmAt.but {w w' : World} {b c : Nat} {m e : Int} (h : TmAt w b m e) (hb : But c w w') (hne : b ≠ c) : TmAt w' b m e := (hb.block b h.lt hne).trans h
theorem TmAt.set0 {w : World} {b : Nat} {m e : Int} (h : TmAt w b m e) (x : Int) : TmAt (w.setCell ⟨b, 0, none⟩ (.int .i64 x)) b x e := (blk_set h 0 _).trans rfl
theorem TmAt.set1 {w : World} {b : Nat} {m e : Int} (h : TmAt w b m e) (x : Int) : TmAt (w.setCell ⟨b, 1, none⟩ (.int .i64 x)) b m x := (blk_set h 1 _).trans rfl

theorem ptime_any (n : Int) (w : World) : Calls Try.prog 24 #[.int .i64 n] w fun e w' => e = .returned (.int .i64 (tmO n)) ∧ w' = w := by
  go_enter Try.func24, Try.ntmps24
  go_wp2
  all_goals (go_ret; refine ⟨tm_eq ?_, rfl⟩; unfold tmO; split at * <;> omega)
theorem prun_nil (w : World) : Calls Try.prog 17 #[.pointer none] w fun e w' => e = .returned (.bool false) ∧ w' = w := by
  go_enter Try.func17, Try.ntmps17
  go_wp2
  go_ret
  exact ⟨rfl, rfl⟩
theorem prun_any (b : Nat) (m e : Int) (w : World) (h : TmAt w b m e) : Calls Try.prog 17 #[.pointer (some ⟨b, 0, none⟩)] w fun x w' => x = .returned (.bool (e != 0)) ∧ w' = w := by
  have c1 := h.c1
  clear h
  go_enter Try.func17, Try.ntmps17
  go_wp2
  go_ret
  exact ⟨rfl, rfl⟩
theorem pwait_nil (w : World) : Calls Try.prog 18 #[.pointer none] w fun e w' => e = .returned (.int .i64 0) ∧ w' = w := by
  go_enter Try.func18, Try.ntmps18
  go_wp2
  go_ret
  exact ⟨rfl, rfl⟩
theorem pwait_any (b : Nat) (m e : Int) (hm : 0 ≤ m ∧ m ≤ 504) (w : World) (h : TmAt w b m e) : Calls Try.prog 18 #[.pointer (some ⟨b, 0, none⟩)] w fun x w' => x = .returned (.int .i64 (8 + m)) ∧ w' = w := by
  have c0 := h.c0
  have hw : IntKind.i64.wrap (8 + m) = 8 + m := wrap_small _ (by omega) (by omega)
  clear h
  go_enter Try.func18, Try.ntmps18
  go_wp2
  go_ret
  exact ⟨rfl, rfl⟩
theorem pnew_any (w : World) : Calls Try.prog 8 #[] w fun e w' => e = .returned (.pointer (some ⟨w.heap.size, 0, none⟩)) ∧ TmAt w' w.heap.size 0 0 ∧ Below w.heap.size w w' := by
  go_enter Try.func8, Try.ntmps8
  go_wp2
  go_ret
  exact ⟨rfl, heap_alloc_last _ _, (Below.refl _ _).alloc (Nat.le_refl _) _⟩
theorem pstart_nil (n : Int) (w : World) : Calls Try.prog 20 #[.pointer none, .int .i64 n] w fun e w' => e = .returned (.tuple #[]) ∧ w' = w := by
  go_enter Try.func20, Try.ntmps20
  go_wp2
  refine bodyPost_ret (results_none rfl _ _ _) rfl ?_
  exact ⟨rfl, rfl⟩
theorem pstop_nil (w : World) : Calls Try.prog 21 #[.pointer none] w fun e w' => e = .returned (.tuple #[]) ∧ w' = w := by
  go_enter Try.func21, Try.ntmps21
  go_wp2
  go_end0
  exact ⟨rfl, rfl⟩
theorem pfail_nil (w : World) : Calls Try.prog 19 #[.pointer none] w fun e w' => e = .returned (.tuple #[]) ∧ w' = w := by
  go_enter Try.func19, Try.ntmps19
  go_wp2
  go_end0
  exact ⟨rfl, rfl⟩
theorem pcalm_nil (w : World) : Calls Try.prog 22 #[.pointer none] w fun e w' => e = .returned (.tuple #[]) ∧ w' = w := by
  go_enter Try.func22, Try.ntmps22
  go_wp2
  go_end0
  exact ⟨rfl, rfl⟩
theorem pstop_any (b : Nat) (m e : Int) (w : World) (h : TmAt w b m e) : Calls Try.prog 21 #[.pointer (some ⟨b, 0, none⟩)] w fun x w' => x = .returned (.tuple #[]) ∧ TmAt w' b m 0 ∧ But b w w' := by
  have HT := hid h
  have c1 := h.c1
  have f1 := h.fr 1
  clear h
  go_enter Try.func21, Try.ntmps21
  go_wp2
  go_end0
  exact ⟨rfl, HT.out.set1 0, (But.refl _ _).setCell _ _⟩
theorem pcalm_any (b : Nat) (m e : Int) (w : World) (h : TmAt w b m e) : Calls Try.prog 22 #[.pointer (some ⟨b, 0, none⟩)] w fun x w' => x = .returned (.tuple #[]) ∧ TmAt w' b 0 e ∧ But b w w' := by
  have HT := hid h
  have c0 := h.c0
  have f0 := h.fr 0
  clear h
  go_enter Try.func22, Try.ntmps22
  go_wp2
  go_end0
  exact ⟨rfl, HT.out.set0 0, (But.refl _ _).setCell _ _⟩
/-- How much longer behind a Fail. -/
def flM (m : Int) : Int := min (2 * (8 + m)) 512 - 8
theorem flM_bounds {m : Int} (h : 0 ≤ m ∧ m ≤ 504) : 0 ≤ flM m ∧ flM m ≤ 504 := by unfold flM; omega
theorem tm_set0 {w w' : World} {b : Nat} {m e x y : Int} (h : TmAt w b m e) (hx : x = y) (hw : w' = w.setCell ⟨b, 0, none⟩ (.int .i64 x)) : TmAt w' b y e ∧ But b w w' := by
  subst hx hw
  exact ⟨h.set0 _, (But.refl _ _).setCell _ _⟩
theorem pfail_any (b : Nat) (m e : Int) (hm : 0 ≤ m ∧ m ≤ 504) (w : World) (h : TmAt w b m e) : Calls Try.prog 19 #[.pointer (some ⟨b, 0, none⟩)] w fun x w' => x = .returned (.tuple #[]) ∧ TmAt w' b (flM m) e ∧ But b w w' := by
  have HT := hid h
  have HW := hid (pwait_any b m e hm w h)
  have c0 := h.c0
  have f0 := h.fr 0
  obtain ⟨k, rfl⟩ : ∃ k : Nat, m = (k : Int) := ⟨m.toNat, by omega⟩
  have hk : k ≤ 504 := by omega
  have h1 : IntKind.i64.wrap (2 * (8 + (k : Int))) = 2 * (8 + (k : Int)) := wrap_room _ (by omega) (by omega)
  have h2 : IntKind.i64.wrap (2 * (8 + (k : Int)) - 8) = 2 * (8 + (k : Int)) - 8 := wrap_room _ (by omega) (by omega)
  clear h hm
  go_enter Try.func19, Try.ntmps19
  go_wp2_with (go_at_call 18; go_must (refine HW.out.mono ?_); rintro x w1 ⟨rfl, hw1⟩; replace hw1 := hw1.symm; subst hw1)
  all_goals go_end0
  all_goals exact ⟨rfl, tm_set0 HT.out (by unfold flM; omega) rfl⟩
theorem tm_set1 {w w' : World} {b : Nat} {m e x y : Int} (h : TmAt w b m e) (hx : x = y) (hw : w' = w.setCell ⟨b, 1, none⟩ (.int .i64 x)) : TmAt w' b m y ∧ But b w w' := by
  subst hx hw
  exact ⟨h.set1 _, (But.refl _ _).setCell _ _⟩
/-- The end behind a Start. -/
def stE (m e n : Int) : Int := if e = 0 then tmO n + (8 + m) else e
theorem stE_bounds {m e : Int} (hm : 0 ≤ m ∧ m ≤ 504) (he : 0 ≤ e ∧ e ≤ 1099511628288) (n : Int) : 0 ≤ stE m e n ∧ stE m e n ≤ 1099511628288 := by
  have := tmO_bounds n
  unfold stE
  split <;> omega
theorem pstart_any (b : Nat) (m e : Int) (hm : 0 ≤ m ∧ m ≤ 504) (n : Int) (w : World) (h : TmAt w b m e) : Calls Try.prog 20 #[.pointer (some ⟨b, 0, none⟩), .int .i64 n] w fun x w' => x = .returned (.tuple #[]) ∧ TmAt w' b m (stE m e n) ∧ But b w w' := by
  have HT := hid h
  have HW := hid (pwait_any b m e hm w h)
  have HR := hid (prun_any b m e w h)
  have HO := hid (ptime_any n w)
  have hb := tmO_bounds n
  have c1 := h.c1
  have f1 := h.fr 1
  have h1 : IntKind.i64.wrap (tmO n + (8 + m)) = tmO n + (8 + m) := wrap_room _ (by omega) (by omega)
  by_cases he : e = 0
  · have hs : stE m e n = tmO n + (8 + m) := if_pos he
    rw [hs]
    have hr : (e != 0) = false := by simp [he]
    rw [hr] at HR
    clear h hm hs hr he hb
    generalize tmO n = T at *
    go_enter Try.func20, Try.ntmps20
    go_wp2_with (first
      | (go_at_call 18; go_must (refine HW.out.mono ?_); rintro x w1 ⟨rfl, hw1⟩; replace hw1 := hw1.symm; subst hw1)
      | (go_at_call 17; go_must (refine HR.out.mono ?_); rintro x w1 ⟨rfl, hw1⟩; replace hw1 := hw1.symm; subst hw1)
      | (go_at_call 24; go_must (refine HO.out.mono ?_); rintro x w1 ⟨rfl, hw1⟩; replace hw1 := hw1.symm; subst hw1))
    go_end0
    exact ⟨rfl, tm_set1 HT.out rfl rfl⟩
  · have hs : stE m e n = e := if_neg he
    rw [hs]
    have hr : (e != 0) = true := by simp [he]
    rw [hr] at HR
    clear h hm hs hr he hb h1
    go_enter Try.func20, Try.ntmps20
    go_wp2_with (first
      | (go_at_call 17; go_must (refine HR.out.mono ?_); rintro x w1 ⟨rfl, hw1⟩; replace hw1 := hw1.symm; subst hw1))
    refine bodyPost_ret (results_none rfl _ _ _) rfl ?_
    exact ⟨rfl, HT.out, But.refl _ _⟩
/-- Whether it is due. -/
def duB (e n : Int) : Bool := (e != 0) && decide (e ≤ tmO n)
theorem pdue_nil (n : Int) (w : World) : Calls Try.prog 15 #[.pointer none, .int .i64 n] w fun x w' => x = .returned (.bool false) ∧ Below w.heap.size w w' := by
  go_enter Try.func15, Try.ntmps15
  go_wp2
  haveI := Cls.ne w
  refine wp_region_cls w (by kernel_rfl) (by kernel_rfl) ?_
  repeat (go_big_quiet_step ((go_at_call 17; exact Cls.of _ (fun u _ => of_same prun_nil u))))
  refine wpQuiet_nil ?_
  rintro _ ⟨x, rfl⟩
  go_wp2
  go_ret
  exact ⟨rfl, x.2⟩
theorem pdue_any (b : Nat) (m e : Int) (n : Int) (w : World) (h : TmAt w b m e) : Calls Try.prog 15 #[.pointer (some ⟨b, 0, none⟩), .int .i64 n] w fun x w' => x = .returned (.bool (duB e n)) ∧ Below w.heap.size w w' := by
  have HR : Hid (∀ u : World, Below w.heap.size w u → Calls Try.prog 17 #[.pointer (some ⟨b, 0, none⟩)] u fun x w' => x = .returned (.bool (e != 0)) ∧ Below u.heap.size u w') := hid (fun u hu => (prun_any b m e u (h.keep hu)).mono fun _ _ ⟨he, hw⟩ => ⟨he, hw ▸ Below.refl _ _⟩)
  have HO := hid (fun u : World => of_same (fun w => ptime_any n w) u)
  have c1 : ∀ x : Cls w, x.1.cell? ⟨b, 1, none⟩ = some (.int .i64 e) := fun x => (h.keep x.2).c1
  unfold duB
  clear h
  cases hr : (e != 0) with
  | false =>
    rw [hr] at HR
    clear hr
    go_enter Try.func15, Try.ntmps15
    go_wp2
    haveI := Cls.ne w
    refine wp_region_cls w (by kernel_rfl) (by kernel_rfl) ?_
    repeat (go_big_quiet_step ((go_at_call 17; exact Cls.of _ HR.out)))
    refine wpQuiet_nil ?_
    rintro _ ⟨x, rfl⟩
    go_wp2
    go_ret
    exact ⟨rfl, x.2⟩
  | true =>
    rw [hr] at HR
    clear hr
    generalize tmO n = T at HO ⊢
    go_enter Try.func15, Try.ntmps15
    go_wp2
    haveI := Cls.ne w
    refine wp_region_cls w (by kernel_rfl) (by kernel_rfl) ?_
    repeat (go_big_quiet_step (first | (go_at_call 17; exact Cls.of _ HR.out) | (go_at_call 24; exact Cls.of _ (fun u _ => HO.out u))))
    refine wpQuiet_nil ?_
    rintro _ ⟨x, rfl⟩
    go_wp2
    go_ret
    exact ⟨rfl, x.2⟩
end Go.Proofs.Ytoepmpjncddnlaa
