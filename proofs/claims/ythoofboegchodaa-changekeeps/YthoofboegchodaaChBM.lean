/- The program's test of what fits. -/
import Derived.Test.YthoofboegchodaaCgAM
import Derived.Test.YthoofboegchodaaChAM
import Derived.Test.YthoofboegchodaaKd1
import Derived.Test.YthoofboegchodaaHlAM
import Derived.Deep.DeepMust
import Derived.Deep.RegionWith
namespace Go.Proofs.Ythoofboegchodaa
open Go.RowKit

theorem wrap_any (x : Int) (h0 : 0 ≤ x) (h1 : x ≤ 9223372036854775807) : IntKind.i64.wrap x = x := by
  simp [IntKind.wrap, IntKind.bits, IntKind.signed]
  omega
set_option maxRecDepth 100000 in
theorem zwithin_any (n a b : Int) (w : World) : Calls Try.prog 56 #[.int .i64 n, .int .i64 a, .int .i64 b] w fun e w' => e = .returned (.bool (inB n a b)) ∧ w' = w := by
  unfold inB
  by_cases h1 : a ≤ n
  · rw [decide_eq_true h1]
    by_cases h2 : n ≤ b
    · rw [decide_eq_true h2]
      go_enter Try.func56, Try.ntmps56
      go_wp2
      go_ret
      exact ⟨by simp, rfl⟩
    · rw [decide_eq_false h2]
      go_enter Try.func56, Try.ntmps56
      go_wp2
      go_ret
      exact ⟨by simp <;> omega, rfl⟩
  · rw [decide_eq_false h1]
    have hd : decide (a ≤ n) = false := decide_eq_false h1
    go_enter Try.func56, Try.ntmps56
    go_wp2
    go_ret
    exact ⟨by simp, rfl⟩
set_option maxRecDepth 100000 in
theorem zwithin_up (n a b : Int) (w : World) : Calls Try.prog 56 #[.int .i64 n, .int .i64 a, .int .i64 b] w fun e w' => e = .returned (.bool (inB n a b)) ∧ Below w.heap.size w w' := (zwithin_any n a b w).mono fun e w' h => ⟨h.1, by rw [h.2]; exact Below.refl _ _⟩
set_option maxRecDepth 100000 in
theorem zlater_any (v : Int) (w : World) : Calls Try.prog 57 #[.int .i64 v] w fun r w' => r = .returned (.bool (inB v 1 15)) ∧ Below w.heap.size w w' := by
  go_enter Try.func57, Try.ntmps57
  go_wp2_with (go_at_call 56; refine (zwithin_any _ _ _ _).mono ?_; rintro e w1 ⟨rfl, hw⟩; replace hw := hw.symm; subst hw)
  go_ret
  exact ⟨rfl, Below.refl _ _⟩
set_option maxRecDepth 100000 in
theorem zfirst_any (e : Int) (h0 : 0 ≤ e) (h1 : e ≤ 61) (w : World) : Calls Try.prog 74 #[.int .i64 e] w fun r w' => r = .returned (.int .i64 (4 * e + 1)) ∧ Below w.heap.size w w' := by
  go_enter Try.func74, Try.ntmps74
  go_wp2
  go_ret
  exact ⟨rfl, Below.refl _ _⟩
set_option maxRecDepth 100000 in
set_option maxHeartbeats 3200000 in
theorem zfitSigs_any (a : Option Addr) (n cap : Nat) (l : List Sg) (hn : l.length = n) (hm : n ≤ maxLen) (w : World) (hP : PairsIn w a l) : Calls Try.prog 93 #[.slice a n cap] w fun e w' => e = .returned (.bool (sigsB l)) ∧ Below w.heap.size w w' := by
  obtain ⟨V, eV⟩ : ∃ V, V = sigsB l := ⟨_, rfl⟩
  rw [← eV]
  have hmi : (n : Int) ≤ 9223372036854775807 := by unfold maxLen at hm; omega
  by_cases h16 : 16 < n
  · have h16i : (16 : Int) < (n : Int) := by omega
    have hf : V = false := by rw [eV, sigsB, decide_eq_false (by omega)]; rfl
    subst hf
    clear eV hP hn hm h16
    go_enter Try.func93, Try.ntmps93
    go_wp2
    go_ret
    exact ⟨rfl, Below.refl _ _⟩
  · have h16i : ¬ ((16 : Int) < (n : Int)) := by omega
    have HV : Hid (V = allTo (fun i => sigB (l.getD i sg0)) n) := hid (by rw [eV, sigsB, decide_eq_true (by omega), hn]; rfl)
    have HP := hid hP
    have HN := hid hn
    have HL : Hid (n ≤ 16) := hid (by omega)
    clear eV hP hn hm h16
    go_enter Try.func93, Try.ntmps93
    go_wp2
    go_loopw [10] (fun i wr => ∃ j : Nat, j ≤ n ∧ i = .int .i64 (j : Int) ∧ allTo (fun i => sigB (l.getD i sg0)) j = true ∧ Below w.heap.size w wr)
      (fun i _ => ((n : Int) - intOf i).toNat)
    case atStart => exact ⟨0, Nat.zero_le _, rfl, rfl, Below.refl _ _⟩
    case round =>
      obtain ⟨j, hj, rfl, hok, hB⟩ := hrel
      have HB := hid hB
      have HOk := hid hok
      clear hok hB
      have hj0 : (0 : Int) ≤ (j : Int) := Int.natCast_nonneg _
      by_cases hjn : j = n
      · have hj1 : ¬ ((j : Int) < (n : Int)) := by omega
        have hv : Hid (V = true) := hid (by rw [HV.out, ← hjn]; exact HOk.out)
        clear hj hjn
        go_wp2
        go_ret
        exact ⟨by rw [hv.out]; rfl, HB.out⟩
      · have hj1 : (j : Int) < (n : Int) := by omega
        have hjl : j < l.length := by have := HN.out; omega
        obtain ⟨g, off, rfl, hc1, hc2⟩ : ∃ g off, a = some ⟨g, off, none⟩ ∧ wr.cell? ⟨g, off + j * 2, none⟩ = some (.int .i64 (l.getD j sg0).1) ∧ wr.cell? ⟨g, off + j * 2 + 1, none⟩ = some (.string (l.getD j sg0).2) := by
          rcases HP.out with e | ⟨g, off, ha, hg, hc⟩
          · rw [e] at hjl; simp at hjl
          · have hx : l[j]? = some (l.getD j sg0) := by simp [hjl]
            obtain ⟨k1, k2⟩ := hc j _ hx
            exact ⟨g, off, ha, (World.cell?_of_block (a := ⟨g, off + j * 2, none⟩) (HB.out.block g hg)).trans k1, (World.cell?_of_block (a := ⟨g, off + j * 2 + 1, none⟩) (HB.out.block g hg)).trans k2⟩
        have HJ := hid (And.intro hj hjn)
        have HS : Hid (∀ u : World, Calls Try.prog 56 #[.int .i64 (l.getD j sg0).1, .int .i64 0, .int .i64 199] u fun r w' => r = .returned (.bool (sigB (l.getD j sg0))) ∧ Below u.heap.size u w') := hid (fun u => zwithin_up _ _ _ u)
        have HFa : Hid (sigB (l.getD j sg0) = false → V = false) := hid (fun e => by rw [HV.out]; exact allTo_no j (by omega) e)
        have HTr : Hid (sigB (l.getD j sg0) = true → allTo (fun i => sigB (l.getD i sg0)) (j + 1) = true) := hid (fun e => by rw [allTo, HOk.out, e]; rfl)
        generalize l.getD j sg0 = p at hc1 hc2 HS HFa HTr
        clear hj hjn hjl
        cases hp : sigB p with
        | true =>
          rw [hp] at HS
          have HT := hid (HTr.out hp)
          clear hp
          go_wp2_with (go_at_call 56; refine (HS.out _).mono ?_; rintro e w2 ⟨rfl, hb⟩; have H2 := hid ((HB.out.alloc (HB.out.size) (.cells #[.int .i64 p.1, .string p.2] 24)).trans (hb.mono (by have := HB.out.size; simp; omega))); clear hb)
          go_roundw
          case rel => exact ⟨j + 1, by have := HJ.out; omega, by go_num, HT.out, H2.out⟩
          case measure => simp [intOf]; omega
        | false =>
          rw [hp] at HS
          have hf := hid (HFa.out hp)
          clear hp
          go_wp2_with (go_at_call 56; refine (HS.out _).mono ?_; rintro e w2 ⟨rfl, hb⟩; have H2 := hid ((HB.out.alloc (HB.out.size) (.cells #[.int .i64 p.1, .string p.2] 24)).trans (hb.mono (by have := HB.out.size; simp; omega))); clear hb)
          go_ret
          exact ⟨by rw [hf.out]; rfl, H2.out⟩
set_option maxRecDepth 100000 in
set_option maxHeartbeats 3200000 in
theorem zcert_any (ep : Int) (h0 : 0 ≤ ep) (h1 : ep ≤ 60) (c : Ct) (a : Option Addr) (n cap : Nat) (hn : c.2.2.2.length = n) (hm : n ≤ maxLen) (w : World) (hP : PairsIn w a c.2.2.2) :
    Calls Try.prog 82 #[.int .i64 ep, .agg #[.int .i64 c.1, .int .i64 c.2.1, .int .i64 c.2.2.1.c, .int .i64 c.2.2.1.st, .int .i64 c.2.2.1.k, .string c.2.2.1.key, .float .f64 c.2.2.1.b, .int .i64 c.2.2.1.id, .slice a n cap]] w fun e w' => e = .returned (.bool (ctB ep c)) ∧ Below w.heap.size w w' := by
  obtain ⟨wa, ea⟩ : ∃ wa, wa = w.alloc (.cells #[.int .i64 c.1, .int .i64 c.2.1, .int .i64 c.2.2.1.c, .int .i64 c.2.2.1.st, .int .i64 c.2.2.1.k, .string c.2.2.1.key, .float .f64 c.2.2.1.b, .int .i64 c.2.2.1.id, .slice a n cap] 52) := ⟨_, rfl⟩
  have HB : Hid (Below w.heap.size w wa) := hid (by rw [ea]; exact (Below.refl w.heap.size w).alloc (Nat.le_refl _) _)
  have HX : Hid (∀ x : Cls wa, BxAt x.1 w.heap.size [.int .i64 c.1, .int .i64 c.2.1, .int .i64 c.2.2.1.c, .int .i64 c.2.2.1.st, .int .i64 c.2.2.1.k, .string c.2.2.1.key, .float .f64 c.2.2.1.b, .int .i64 c.2.2.1.id, .slice a n cap] 52) := hid (fun x => BxAt.keep (by rw [ea]; exact heap_alloc_last w _) x.2)
  have HEa := hid ea
  obtain ⟨B1, e1⟩ : ∃ B, B = inB c.1 0 15 := ⟨_, rfl⟩
  have HT1 : Hid (∀ u : World, Below wa.heap.size wa u → Calls Try.prog 56 #[.int .i64 c.1, .int .i64 0, .int .i64 15] u fun e w' => e = .returned (.bool B1) ∧ Below u.heap.size u w') := hid (fun u hu => by rw [e1]; exact zwithin_up _ _ _ u)
  obtain ⟨B2, e2⟩ : ∃ B, B = inB c.2.1 (4 * ep + 1) (4 * (ep + 1)) := ⟨_, rfl⟩
  have HT2 : Hid (∀ u : World, Below wa.heap.size wa u → Calls Try.prog 56 #[.int .i64 c.2.1, .int .i64 (4 * ep + 1), .int .i64 (4 * (ep + 1))] u fun e w' => e = .returned (.bool B2) ∧ Below u.heap.size u w') := hid (fun u hu => by rw [e2]; exact zwithin_up _ _ _ u)
  have HF1 : Hid (∀ u : World, Below wa.heap.size wa u → Calls Try.prog 74 #[.int .i64 ep] u fun e w' => e = .returned (.int .i64 (4 * ep + 1)) ∧ Below u.heap.size u w') := hid (fun u hu => zfirst_any ep h0 (by omega) u)
  have HF2 : Hid (∀ u : World, Below wa.heap.size wa u → Calls Try.prog 74 #[.int .i64 (ep + 1)] u fun e w' => e = .returned (.int .i64 (4 * (ep + 1) + 1)) ∧ Below u.heap.size u w') := hid (fun u hu => zfirst_any (ep + 1) (by omega) (by omega) u)
  obtain ⟨B3, e3⟩ : ∃ B, B = rightB c.2.2.1 := ⟨_, rfl⟩
  have HT3 : Hid (∀ u : World, Below wa.heap.size wa u → Calls Try.prog 86 #[.agg #[.int .i64 c.2.2.1.c, .int .i64 c.2.2.1.st, .int .i64 c.2.2.1.k, .string c.2.2.1.key, .float .f64 c.2.2.1.b, .int .i64 c.2.2.1.id]] u fun e w' => e = .returned (.bool B3) ∧ Below u.heap.size u w') := hid (fun u hu => by rw [e3]; exact dright_any _ u)
  obtain ⟨B4, e4⟩ : ∃ B, B = nullB c.2.2.1 := ⟨_, rfl⟩
  have HT4 : Hid (∀ u : World, Below wa.heap.size wa u → Calls Try.prog 85 #[.agg #[.int .i64 c.2.2.1.c, .int .i64 c.2.2.1.st, .int .i64 c.2.2.1.k, .string c.2.2.1.key, .float .f64 c.2.2.1.b, .int .i64 c.2.2.1.id]] u fun e w' => e = .returned (.bool B4) ∧ Below u.heap.size u w') := hid (fun u hu => by rw [e4]; exact dnull_any _ u)
  obtain ⟨B5, e5⟩ : ∃ B, B = sigsB c.2.2.2 := ⟨_, rfl⟩
  have HT5 : Hid (∀ u : World, Below wa.heap.size wa u → Calls Try.prog 93 #[.slice a n cap] u fun e w' => e = .returned (.bool B5) ∧ Below u.heap.size u w') := hid (fun u hu => by rw [e5]; exact zfitSigs_any a n cap _ hn hm u ((hP.keep HB.out (Nat.le_refl _)).keep hu (Nat.le_refl _)))
  have hV : ctB ep c = ((B1 && B2) && ((B3 || B4) && B5)) := by
    rw [e1, e2, e3, e4, e5, ctB, askB, ofB, inB, inB, show decide (4 * ep < c.2.1) = decide (4 * ep + 1 ≤ c.2.1) from decide_eq_decide.2 (by omega)]
  rw [hV]
  clear e1 e2 e3 e4 e5 hP hn hm ea hV
  have y0 : ∀ x : Cls wa, x.1.cell? ⟨w.heap.size, 0, none⟩ = some (.int .i64 c.1) := fun x => (HX.out x).cell 0 _ rfl
  have y1 : ∀ x : Cls wa, x.1.cell? ⟨w.heap.size, 1, none⟩ = some (.int .i64 c.2.1) := fun x => (HX.out x).cell 1 _ rfl
  have y2 : ∀ x : Cls wa, x.1.cell? ⟨w.heap.size, 2, none⟩ = some (.int .i64 c.2.2.1.c) := fun x => (HX.out x).cell 2 _ rfl
  have y3 : ∀ x : Cls wa, x.1.cell? ⟨w.heap.size, 3, none⟩ = some (.int .i64 c.2.2.1.st) := fun x => (HX.out x).cell 3 _ rfl
  have y4 : ∀ x : Cls wa, x.1.cell? ⟨w.heap.size, 4, none⟩ = some (.int .i64 c.2.2.1.k) := fun x => (HX.out x).cell 4 _ rfl
  have y5 : ∀ x : Cls wa, x.1.cell? ⟨w.heap.size, 5, none⟩ = some (.string c.2.2.1.key) := fun x => (HX.out x).cell 5 _ rfl
  have y6 : ∀ x : Cls wa, x.1.cell? ⟨w.heap.size, 6, none⟩ = some (.float .f64 c.2.2.1.b) := fun x => (HX.out x).cell 6 _ rfl
  have y7 : ∀ x : Cls wa, x.1.cell? ⟨w.heap.size, 7, none⟩ = some (.int .i64 c.2.2.1.id) := fun x => (HX.out x).cell 7 _ rfl
  have y8 : ∀ x : Cls wa, x.1.cell? ⟨w.heap.size, 8, none⟩ = some (.slice a n cap) := fun x => (HX.out x).cell 8 _ rfl
  haveI := Cls.ne wa
  have hw1 : IntKind.i64.wrap (ep + 1) = ep + 1 := wrap_small _ (by omega) (by omega)
  have hw2 : IntKind.i64.wrap (4 * (ep + 1) + 1 - 1) = 4 * (ep + 1) := by rw [show 4 * (ep + 1) + 1 - 1 = 4 * (ep + 1) by omega]; exact wrap_small _ (by omega) (by omega)
  cases B1 with
  | false =>
    go_enter Try.func82, Try.ntmps82
    go_wp2
    rw [← HEa.out]
    refine wp_region_cls wa (by kernel_rfl) (by kernel_rfl) ?_
    repeat (go_big_quiet_step ((first
      | (go_at_call_of 56 (Value.int IntKind.i64 15); exact Cls.of _ (fun u hu => HT1.out u hu))
      | (go_at_call 56; exact Cls.of _ (fun u hu => HT2.out u hu))
      | (go_at_call_of 74 (Value.int IntKind.i64 ep); exact Cls.of _ (fun u hu => HF1.out u hu))
      | (go_at_call 74; exact Cls.of _ (fun u hu => HF2.out u hu))
      | (go_at_call 86; exact Cls.of _ (fun u hu => HT3.out u hu))
      | (go_at_call 85; exact Cls.of _ (fun u hu => HT4.out u hu))
      | (go_at_call 93; exact Cls.of _ (fun u hu => HT5.out u hu)))))
    refine wpQuiet_nil ?_
    rintro _ ⟨x, rfl⟩
    go_wp2
    go_ret
    exact ⟨by simp, HB.out.trans (x.2.mono HB.out.size)⟩
  | true =>
    cases B2 with
    | false =>
      go_enter Try.func82, Try.ntmps82
      go_wp2
      rw [← HEa.out]
      refine wp_region_cls wa (by kernel_rfl) (by kernel_rfl) ?_
      repeat (go_big_quiet_step ((first
        | (go_at_call_of 56 (Value.int IntKind.i64 15); exact Cls.of _ (fun u hu => HT1.out u hu))
        | (go_at_call 56; exact Cls.of _ (fun u hu => HT2.out u hu))
        | (go_at_call_of 74 (Value.int IntKind.i64 ep); exact Cls.of _ (fun u hu => HF1.out u hu))
        | (go_at_call 74; exact Cls.of _ (fun u hu => HF2.out u hu))
        | (go_at_call 86; exact Cls.of _ (fun u hu => HT3.out u hu))
        | (go_at_call 85; exact Cls.of _ (fun u hu => HT4.out u hu))
        | (go_at_call 93; exact Cls.of _ (fun u hu => HT5.out u hu)))))
      refine wpQuiet_nil ?_
      rintro _ ⟨x, rfl⟩
      go_wp2
      go_ret
      exact ⟨by simp, HB.out.trans (x.2.mono HB.out.size)⟩
    | true =>
      cases B3 with
      | true =>
        cases B5 with
        | true =>
          go_enter Try.func82, Try.ntmps82
          go_wp2
          rw [← HEa.out]
          refine wp_region_cls wa (by kernel_rfl) (by kernel_rfl) ?_
          repeat (go_big_quiet_step ((first
            | (go_at_call_of 56 (Value.int IntKind.i64 15); exact Cls.of _ (fun u hu => HT1.out u hu))
            | (go_at_call 56; exact Cls.of _ (fun u hu => HT2.out u hu))
            | (go_at_call_of 74 (Value.int IntKind.i64 ep); exact Cls.of _ (fun u hu => HF1.out u hu))
            | (go_at_call 74; exact Cls.of _ (fun u hu => HF2.out u hu))
            | (go_at_call 86; exact Cls.of _ (fun u hu => HT3.out u hu))
            | (go_at_call 85; exact Cls.of _ (fun u hu => HT4.out u hu))
            | (go_at_call 93; exact Cls.of _ (fun u hu => HT5.out u hu)))))
          refine wpQuiet_nil ?_
          rintro _ ⟨x, rfl⟩
          go_wp2
          go_ret
          exact ⟨by simp, HB.out.trans (x.2.mono HB.out.size)⟩
        | false =>
          go_enter Try.func82, Try.ntmps82
          go_wp2
          rw [← HEa.out]
          refine wp_region_cls wa (by kernel_rfl) (by kernel_rfl) ?_
          repeat (go_big_quiet_step ((first
            | (go_at_call_of 56 (Value.int IntKind.i64 15); exact Cls.of _ (fun u hu => HT1.out u hu))
            | (go_at_call 56; exact Cls.of _ (fun u hu => HT2.out u hu))
            | (go_at_call_of 74 (Value.int IntKind.i64 ep); exact Cls.of _ (fun u hu => HF1.out u hu))
            | (go_at_call 74; exact Cls.of _ (fun u hu => HF2.out u hu))
            | (go_at_call 86; exact Cls.of _ (fun u hu => HT3.out u hu))
            | (go_at_call 85; exact Cls.of _ (fun u hu => HT4.out u hu))
            | (go_at_call 93; exact Cls.of _ (fun u hu => HT5.out u hu)))))
          refine wpQuiet_nil ?_
          rintro _ ⟨x, rfl⟩
          go_wp2
          go_ret
          exact ⟨by simp, HB.out.trans (x.2.mono HB.out.size)⟩
      | false =>
        cases B4 with
        | false =>
          go_enter Try.func82, Try.ntmps82
          go_wp2
          rw [← HEa.out]
          refine wp_region_cls wa (by kernel_rfl) (by kernel_rfl) ?_
          repeat (go_big_quiet_step ((first
            | (go_at_call_of 56 (Value.int IntKind.i64 15); exact Cls.of _ (fun u hu => HT1.out u hu))
            | (go_at_call 56; exact Cls.of _ (fun u hu => HT2.out u hu))
            | (go_at_call_of 74 (Value.int IntKind.i64 ep); exact Cls.of _ (fun u hu => HF1.out u hu))
            | (go_at_call 74; exact Cls.of _ (fun u hu => HF2.out u hu))
            | (go_at_call 86; exact Cls.of _ (fun u hu => HT3.out u hu))
            | (go_at_call 85; exact Cls.of _ (fun u hu => HT4.out u hu))
            | (go_at_call 93; exact Cls.of _ (fun u hu => HT5.out u hu)))))
          refine wpQuiet_nil ?_
          rintro _ ⟨x, rfl⟩
          go_wp2
          go_ret
          exact ⟨by simp, HB.out.trans (x.2.mono HB.out.size)⟩
        | true =>
          cases B5 with
          | true =>
            go_enter Try.func82, Try.ntmps82
            go_wp2
            rw [← HEa.out]
            refine wp_region_cls wa (by kernel_rfl) (by kernel_rfl) ?_
            repeat (go_big_quiet_step ((first
              | (go_at_call_of 56 (Value.int IntKind.i64 15); exact Cls.of _ (fun u hu => HT1.out u hu))
              | (go_at_call 56; exact Cls.of _ (fun u hu => HT2.out u hu))
              | (go_at_call_of 74 (Value.int IntKind.i64 ep); exact Cls.of _ (fun u hu => HF1.out u hu))
              | (go_at_call 74; exact Cls.of _ (fun u hu => HF2.out u hu))
              | (go_at_call 86; exact Cls.of _ (fun u hu => HT3.out u hu))
              | (go_at_call 85; exact Cls.of _ (fun u hu => HT4.out u hu))
              | (go_at_call 93; exact Cls.of _ (fun u hu => HT5.out u hu)))))
            refine wpQuiet_nil ?_
            rintro _ ⟨x, rfl⟩
            go_wp2
            go_ret
            exact ⟨by simp, HB.out.trans (x.2.mono HB.out.size)⟩
          | false =>
            go_enter Try.func82, Try.ntmps82
            go_wp2
            rw [← HEa.out]
            refine wp_region_cls wa (by kernel_rfl) (by kernel_rfl) ?_
            repeat (go_big_quiet_step ((first
              | (go_at_call_of 56 (Value.int IntKind.i64 15); exact Cls.of _ (fun u hu => HT1.out u hu))
              | (go_at_call 56; exact Cls.of _ (fun u hu => HT2.out u hu))
              | (go_at_call_of 74 (Value.int IntKind.i64 ep); exact Cls.of _ (fun u hu => HF1.out u hu))
              | (go_at_call 74; exact Cls.of _ (fun u hu => HF2.out u hu))
              | (go_at_call 86; exact Cls.of _ (fun u hu => HT3.out u hu))
              | (go_at_call 85; exact Cls.of _ (fun u hu => HT4.out u hu))
              | (go_at_call 93; exact Cls.of _ (fun u hu => HT5.out u hu)))))
            refine wpQuiet_nil ?_
            rintro _ ⟨x, rfl⟩
            go_wp2
            go_ret
            exact ⟨by simp, HB.out.trans (x.2.mono HB.out.size)⟩
set_option maxRecDepth 100000 in
set_option maxHeartbeats 6400000 in
theorem zcerts_any {F : Nat → Prop} (ep : Int) (h0 : 0 ≤ ep) (h1 : ep ≤ 60) (v : Value) (l : List Ct) (hl : l.length ≤ maxLen) (hb : ∀ x, x ∈ l → ctR x) (w : World) (hR : Reads F w v (dCts l)) :
    Calls Try.prog 58 #[.int .i64 ep, v] w fun e w' => e = .returned (.bool (ctsB ep l)) ∧ Below w.heap.size w w' := by
  obtain ⟨V, eV⟩ : ∃ V, V = ctsB ep l := ⟨_, rfl⟩
  rw [← eV]
  obtain ⟨ad, cap, hv⟩ := hR.form
  rw [List.length_map] at hv
  subst hv
  obtain ⟨n, en⟩ : ∃ n, n = l.length := ⟨_, rfl⟩
  have HR := hid hR
  rw [← en] at hl HR
  have hmi : (n : Int) ≤ 9223372036854775807 := by unfold maxLen at hl; omega
  have HE := hid (And.intro h0 h1)
  clear hR h0 h1
  rw [← en]
  have HV : Hid (V = allTo (ctAt ep l) n) := hid (by rw [eV, ← cts_all, en])
  have HN := hid en
  have HBd := hid hb
  have HL := hid hl
  clear eV hl hb en
  go_enter Try.func58, Try.ntmps58
  go_wp2
  go_loopw [9] (fun i wr => ∃ j : Nat, j ≤ n ∧ i = .int .i64 (j : Int) ∧ allTo (ctAt ep l) j = true ∧ Below w.heap.size w wr)
    (fun i _ => ((n : Int) - intOf i).toNat)
  case atStart => exact ⟨0, Nat.zero_le _, rfl, rfl, Below.refl _ _⟩
  case round =>
    obtain ⟨j, hj, rfl, hok, hB⟩ := hrel
    have HB := hid hB
    have HOk := hid hok
    clear hok hB
    have hj0 : (0 : Int) ≤ (j : Int) := Int.natCast_nonneg _
    by_cases hjn : j = n
    · have hj1 : ¬ ((j : Int) < (n : Int)) := by omega
      have hv : Hid (V = true) := hid (by rw [HV.out, ← hjn]; exact HOk.out)
      clear hj hjn
      go_wp2
      go_ret
      exact ⟨by rw [hv.out]; rfl, HB.out⟩
    · have hj1 : (j : Int) < (n : Int) := by omega
      have hjl : j < l.length := by have := HN.out; omega
      have hR2 := HR.out
      rw [HN.out] at hR2
      obtain ⟨g, off, cp, a8, k8, hv, hp, hg, hc⟩ := ct_at (hR2.under HB.out (Nat.le_refl _)) j hjl
      cases hv
      have HP := hid hp
      have hprev : j ≠ 0 → wr.cell? ⟨g, off + (j - 1) * 9 + 1, none⟩ = some (.int .i64 (l.getD (j - 1) ct0).2.1) := fun hz => by
        obtain ⟨g2, o2, c2, a2, k2, hv2, _, _, hc2⟩ := ct_at (hR2.under HB.out (Nat.le_refl _)) (j - 1) (by omega)
        cases hv2
        exact hc2 1 _ rfl
      have HPr := hid (And.intro hprev hg)
      have HJ := hid (And.intro hj hjn)
      have HT : Hid (ctAt ep l j = (ctB ep (l.getD j ct0) && (decide (j = 0) || decide ((l.getD (j - 1) ct0).2.1 < (l.getD j ct0).2.1)))) := hid rfl
      have HFa : Hid (ctAt ep l j = false → V = false) := hid (fun e => by rw [HV.out]; exact allTo_no j (by omega) e)
      have HTr : Hid (ctAt ep l j = true → allTo (ctAt ep l) (j + 1) = true) := hid (fun e => by rw [allTo, HOk.out, e]; rfl)
      have HYb := hid (HBd.out (l.getD j ct0) (by rw [List.getD_eq_getElem?_getD, List.getElem?_eq_getElem hjl]; exact List.getElem_mem hjl))
      generalize l.getD j ct0 = y at hc HP HT HYb
      generalize (l.getD (j - 1) ct0).2.1 = ps at HPr HT
      have k0 : wr.cell? ⟨g, off + j * 9, none⟩ = some (.int .i64 y.1) := hc 0 _ rfl
      have k1 : wr.cell? ⟨g, off + j * 9 + 1, none⟩ = some (.int .i64 y.2.1) := hc 1 _ rfl
      have k2 : wr.cell? ⟨g, off + j * 9 + 2, none⟩ = some (.int .i64 y.2.2.1.c) := hc 2 _ rfl
      have k3 : wr.cell? ⟨g, off + j * 9 + 3, none⟩ = some (.int .i64 y.2.2.1.st) := hc 3 _ rfl
      have k4 : wr.cell? ⟨g, off + j * 9 + 4, none⟩ = some (.int .i64 y.2.2.1.k) := hc 4 _ rfl
      have k5 : wr.cell? ⟨g, off + j * 9 + 5, none⟩ = some (.string y.2.2.1.key) := hc 5 _ rfl
      have k6 : wr.cell? ⟨g, off + j * 9 + 6, none⟩ = some (.float .f64 y.2.2.1.b) := hc 6 _ rfl
      have k7 : wr.cell? ⟨g, off + j * 9 + 7, none⟩ = some (.int .i64 y.2.2.1.id) := hc 7 _ rfl
      have k8' : wr.cell? ⟨g, off + j * 9 + 8, none⟩ = some (.slice a8 y.2.2.2.length k8) := hc 8 _ rfl
      have hz : (j : Int) ≤ 9223372036854775806 := by have := hmi; omega
      clear hj hjn hjl hR2 hp hg hc hprev
      go_wp2_with (refine wl_store_blk rfl 52 _ _ rfl wr.heap.size 0 rfl #[.int .i64 y.1, .int .i64 y.2.1, .int .i64 y.2.2.1.c, .int .i64 y.2.2.1.st, .int .i64 y.2.2.1.k, .string y.2.2.1.key, .float .f64 y.2.2.1.b, .int .i64 y.2.2.1.id, .slice a8 y.2.2.2.length k8] rfl [.int .i64 0, .int .i64 0, .int .i64 0, .int .i64 0, .int .i64 0, .string ⟨#[]⟩, .float .f64 0, .int .i64 0, .slice none 0 0] 52 (heap_alloc_last wr _) (by simp) (by kernel_rfl) (by simp [Value.oneCell']) ?_; intro w1 Hz; have H1 : Hid (BxAt w1 wr.heap.size (ctC y (.slice a8 y.2.2.2.length k8)) 52 ∧ Below wr.heap.size wr w1) := hid ⟨Hz.out.1, Hz.out.2.below ((Below.refl wr.heap.size wr).alloc (Nat.le_refl _) _) (Nat.le_refl _)⟩; clear Hz)
      clear k0 k1 k2 k3 k4 k5 k6 k7 k8'
      go_simp
      have HBx : Hid (∀ x : Cls w1, BxAt x.1 wr.heap.size (ctC y (.slice a8 y.2.2.2.length k8)) 52) := hid (fun x => H1.out.1.keep x.2)
      have d0 : ∀ x : Cls w1, x.1.cell? ⟨wr.heap.size, 0, none⟩ = some (.int .i64 y.1) := fun x => (HBx.out x).cell 0 _ rfl
      have d1 : ∀ x : Cls w1, x.1.cell? ⟨wr.heap.size, 1, none⟩ = some (.int .i64 y.2.1) := fun x => (HBx.out x).cell 1 _ rfl
      have d2 : ∀ x : Cls w1, x.1.cell? ⟨wr.heap.size, 2, none⟩ = some (.int .i64 y.2.2.1.c) := fun x => (HBx.out x).cell 2 _ rfl
      have d3 : ∀ x : Cls w1, x.1.cell? ⟨wr.heap.size, 3, none⟩ = some (.int .i64 y.2.2.1.st) := fun x => (HBx.out x).cell 3 _ rfl
      have d4 : ∀ x : Cls w1, x.1.cell? ⟨wr.heap.size, 4, none⟩ = some (.int .i64 y.2.2.1.k) := fun x => (HBx.out x).cell 4 _ rfl
      have d5 : ∀ x : Cls w1, x.1.cell? ⟨wr.heap.size, 5, none⟩ = some (.string y.2.2.1.key) := fun x => (HBx.out x).cell 5 _ rfl
      have d6 : ∀ x : Cls w1, x.1.cell? ⟨wr.heap.size, 6, none⟩ = some (.float .f64 y.2.2.1.b) := fun x => (HBx.out x).cell 6 _ rfl
      have d7 : ∀ x : Cls w1, x.1.cell? ⟨wr.heap.size, 7, none⟩ = some (.int .i64 y.2.2.1.id) := fun x => (HBx.out x).cell 7 _ rfl
      have d8 : ∀ x : Cls w1, x.1.cell? ⟨wr.heap.size, 8, none⟩ = some (.slice a8 y.2.2.2.length k8) := fun x => (HBx.out x).cell 8 _ rfl
      have HCe : Hid (∀ u : World, Below w1.heap.size w1 u → Calls Try.prog 82 #[.int .i64 ep, .agg #[.int .i64 y.1, .int .i64 y.2.1, .int .i64 y.2.2.1.c, .int .i64 y.2.2.1.st, .int .i64 y.2.2.1.k, .string y.2.2.1.key, .float .f64 y.2.2.1.b, .int .i64 y.2.2.1.id, .slice a8 y.2.2.2.length k8]] u fun e w' => e = .returned (.bool (ctB ep y)) ∧ Below u.heap.size u w') := hid (fun u hu => zcert_any ep HE.out.1 HE.out.2 y a8 _ k8 rfl HYb.out.2.2.1 u ((HP.out.keep H1.out.2 (Nat.le_refl _)).keep hu (Nat.le_refl _)))
      haveI := Cls.ne w1
      cases hct : ctB ep y with
      | false =>
        rw [hct] at HCe HT
        have hf := hid (HFa.out HT.out)
        clear hct
        refine wp_region_cls w1 (by kernel_rfl) (by kernel_rfl) ?_
        repeat (go_big_quiet_step ((first
          | (go_at_call 82; exact Cls.of _ (fun u hu => HCe.out u hu)))))
        refine wpQuiet_nil ?_
        rintro _ ⟨x, rfl⟩
        go_wp2
        go_ret
        exact ⟨by rw [hf.out]; rfl, HB.out.trans ((H1.out.2.trans (x.2.mono H1.out.2.size)).mono HB.out.size)⟩
      | true =>
        rw [hct] at HCe HT
        clear hct
        by_cases hj00 : j = 0
        · have hp := hid (HTr.out (by rw [HT.out, decide_eq_true hj00]; rfl))
          have hd : decide ((0 : Int) < (j : Int)) = false := decide_eq_false (by omega)
          have hd2 : decide (0 < j) = false := decide_eq_false (by omega)
          clear hj00
          refine wp_region_cls w1 (by kernel_rfl) (by kernel_rfl) ?_
          repeat (go_big_quiet_step ((first
            | (go_at_call 82; exact Cls.of _ (fun u hu => HCe.out u hu)))))
          refine wpQuiet_nil ?_
          rintro _ ⟨x, rfl⟩
          go_wp2
          go_roundw
          case rel => exact ⟨j + 1, by have := HJ.out; omega, by go_num, hp.out, HB.out.trans ((H1.out.2.trans (x.2.mono H1.out.2.size)).mono HB.out.size)⟩
          case measure => simp [intOf]; omega
        · obtain ⟨jm, ejm⟩ : ∃ jm : Nat, jm = j - 1 := ⟨_, rfl⟩
          have dp : ∀ x : Cls w1, x.1.cell? ⟨g, off + jm * 9 + 1, none⟩ = some (.int .i64 ps) := fun x => (World.cell?_of_block (a := ⟨g, off + jm * 9 + 1, none⟩) ((x.2.block g (Nat.lt_of_lt_of_le HPr.out.2 H1.out.2.size)).trans (H1.out.2.block g HPr.out.2))).trans (by rw [ejm]; exact HPr.out.1 hj00)
          have hw : IntKind.i64.wrap ((j : Int) - 1) = (jm : Int) := by rw [show (j : Int) - 1 = (jm : Int) by omega]; exact wrap_any _ (by omega) (by omega)
          have hjm0 : (0 : Int) ≤ (jm : Int) := Int.natCast_nonneg _
          have hjm1 : (jm : Int) < (n : Int) := by omega
          have hd : decide ((0 : Int) < (j : Int)) = true := decide_eq_true (by omega)
          have hd2 : decide (0 < j) = true := decide_eq_true (by omega)
          have HT2 : Hid (ctAt ep l j = decide (ps < y.2.1)) := hid (by rw [HT.out, decide_eq_false hj00]; rfl)
          clear ejm hj00
          by_cases hlt : ps < y.2.1
          · have hp := hid (HTr.out (by rw [HT2.out, decide_eq_true hlt]))
            have hle : decide (y.2.1 ≤ ps) = false := decide_eq_false (by omega)
            have hle2 : ¬ (y.2.1 ≤ ps) := by omega
            refine wp_region_cls w1 (by kernel_rfl) (by kernel_rfl) ?_
            repeat (go_big_quiet_step ((first
              | (go_at_call 82; exact Cls.of _ (fun u hu => HCe.out u hu)))))
            refine wpQuiet_nil ?_
            rintro _ ⟨x, rfl⟩
            go_wp2
            go_roundw
            case rel => exact ⟨j + 1, by have := HJ.out; omega, by go_num, hp.out, HB.out.trans ((H1.out.2.trans (x.2.mono H1.out.2.size)).mono HB.out.size)⟩
            case measure => simp [intOf]; omega
          · have hf := hid (HFa.out (by rw [HT2.out, decide_eq_false hlt]))
            have hle : decide (y.2.1 ≤ ps) = true := decide_eq_true (by omega)
            have hle2 : y.2.1 ≤ ps := by omega
            refine wp_region_cls w1 (by kernel_rfl) (by kernel_rfl) ?_
            repeat (go_big_quiet_step ((first
              | (go_at_call 82; exact Cls.of _ (fun u hu => HCe.out u hu)))))
            refine wpQuiet_nil ?_
            rintro _ ⟨x, rfl⟩
            go_wp2
            go_ret
            exact ⟨by rw [hf.out]; rfl, HB.out.trans ((H1.out.2.trans (x.2.mono H1.out.2.size)).mono HB.out.size)⟩
set_option maxRecDepth 100000 in
set_option maxHeartbeats 3200000 in
theorem zfits_any {F : Nat → Prop} (ep : Int) (c : Cg) (a : Option Addr) (n cap : Nat) (hl : c.2.2.1.length ≤ maxLen) (hb : ∀ x, x ∈ c.2.2.1 → ctR x) (w : World) (hR : Reads F w (.slice a n cap) (dCts c.2.2.1)) :
    Calls Try.prog 29 #[.int .i64 ep, .agg #[.int .i64 c.1, .int .i64 c.2.1, .slice a n cap, .int .i64 c.2.2.2.1, .string c.2.2.2.2]] w fun e w' => e = .returned (.bool (fiB ep c)) ∧ Below w.heap.size w w' := by
  have H0 : Hid (BxAt (w.alloc (.cells #[.int .i64 c.1, .int .i64 c.2.1, .slice a n cap, .int .i64 c.2.2.2.1, .string c.2.2.2.2] 26)) w.heap.size [.int .i64 c.1, .int .i64 c.2.1, .slice a n cap, .int .i64 c.2.2.2.1, .string c.2.2.2.2] 26 ∧ Below w.heap.size w (w.alloc (.cells #[.int .i64 c.1, .int .i64 c.2.1, .slice a n cap, .int .i64 c.2.2.2.1, .string c.2.2.2.2] 26))) := hid ⟨heap_alloc_last w _, (Below.refl w.heap.size w).alloc (Nat.le_refl _) _⟩
  have y0 := H0.out.1.cell 0 _ rfl; have y1 := H0.out.1.cell 1 _ rfl; have y2 := H0.out.1.cell 2 _ rfl; have y3 := H0.out.1.cell 3 _ rfl; have y4 := H0.out.1.cell 4 _ rfl
  obtain ⟨B1, e1⟩ : ∃ B, B = inB ep 0 60 := ⟨_, rfl⟩
  have HT1 : Hid (∀ u : World, Below w.heap.size w u → Calls Try.prog 56 #[.int .i64 ep, .int .i64 0, .int .i64 60] u fun e w' => e = .returned (.bool B1) ∧ Below u.heap.size u w') := hid (fun u hu => by rw [e1]; exact zwithin_up _ _ _ u)
  obtain ⟨B2, e2⟩ : ∃ B, B = inB c.1 0 15 := ⟨_, rfl⟩
  have HT2 : Hid (∀ u : World, Below w.heap.size w u → Calls Try.prog 56 #[.int .i64 c.1, .int .i64 0, .int .i64 15] u fun e w' => e = .returned (.bool B2) ∧ Below u.heap.size u w') := hid (fun u hu => by rw [e2]; exact zwithin_up _ _ _ u)
  obtain ⟨B3, e3⟩ : ∃ B, B = inB c.2.1 1 15 := ⟨_, rfl⟩
  have HT3 : Hid (∀ u : World, Below w.heap.size w u → Calls Try.prog 57 #[.int .i64 c.2.1] u fun e w' => e = .returned (.bool B3) ∧ Below u.heap.size u w') := hid (fun u hu => by rw [e3]; exact zlater_any _ u)
  obtain ⟨B4, e4⟩ : ∃ B, B = ctsB ep c.2.2.1 := ⟨_, rfl⟩
  have HT4 : B1 = true → Hid (∀ u : World, Below w.heap.size w u → Calls Try.prog 58 #[.int .i64 ep, .slice a n cap] u fun e w' => e = .returned (.bool B4) ∧ Below u.heap.size u w') := fun hB => hid (fun u hu => by rw [e4]; rw [e1] at hB; exact zcerts_any ep (inB_iff hB).1 (inB_iff hB).2 _ _ hl hb u (hR.under hu (Nat.le_refl _)))
  rw [show fiB ep c = (B1 && ((B2 && B3) && B4)) by rw [e1, e2, e3, e4]; rfl]
  clear e1 e2 e3 e4 hR hl hb
  cases B1 with
  | false =>
    clear HT4
    go_enter Try.func29, Try.ntmps29
    go_wp2_with (first
      | (have := H0; go_at_call 56; go_must (refine (HT1.out _ H0.out.2).mono ?_); rintro e w1 ⟨rfl, hb⟩; have H1 := hid (And.intro (H0.out.1.keep hb) (H0.out.2.trans (hb.mono H0.out.2.size))); clear hb y0 y1 y2 y3 y4; have y0 := H1.out.1.cell 0 _ rfl; have y1 := H1.out.1.cell 1 _ rfl; have y2 := H1.out.1.cell 2 _ rfl; have y3 := H1.out.1.cell 3 _ rfl; have y4 := H1.out.1.cell 4 _ rfl))
    go_ret
    exact ⟨by simp, H1.out.2⟩
  | true =>
    replace HT4 := HT4 rfl
    cases B2 with
    | false =>
      go_enter Try.func29, Try.ntmps29
      go_wp2_with (first
        | (have := H1; go_at_call 56; go_must (refine (HT2.out _ H1.out.2).mono ?_); rintro e w2 ⟨rfl, hb⟩; have H2 := hid (And.intro (H1.out.1.keep hb) (H1.out.2.trans (hb.mono H1.out.2.size))); clear hb y0 y1 y2 y3 y4; have y0 := H2.out.1.cell 0 _ rfl; have y1 := H2.out.1.cell 1 _ rfl; have y2 := H2.out.1.cell 2 _ rfl; have y3 := H2.out.1.cell 3 _ rfl; have y4 := H2.out.1.cell 4 _ rfl)
        | (have := H0; go_at_call 56; go_must (refine (HT1.out _ H0.out.2).mono ?_); rintro e w1 ⟨rfl, hb⟩; have H1 := hid (And.intro (H0.out.1.keep hb) (H0.out.2.trans (hb.mono H0.out.2.size))); clear hb y0 y1 y2 y3 y4; have y0 := H1.out.1.cell 0 _ rfl; have y1 := H1.out.1.cell 1 _ rfl; have y2 := H1.out.1.cell 2 _ rfl; have y3 := H1.out.1.cell 3 _ rfl; have y4 := H1.out.1.cell 4 _ rfl))
      go_ret
      exact ⟨by simp, H2.out.2⟩
    | true =>
      cases B3 with
      | false =>
        go_enter Try.func29, Try.ntmps29
        go_wp2_with (first
          | (have := H2; go_at_call 57; go_must (refine (HT3.out _ H2.out.2).mono ?_); rintro e w3 ⟨rfl, hb⟩; have H3 := hid (And.intro (H2.out.1.keep hb) (H2.out.2.trans (hb.mono H2.out.2.size))); clear hb y0 y1 y2 y3 y4; have y0 := H3.out.1.cell 0 _ rfl; have y1 := H3.out.1.cell 1 _ rfl; have y2 := H3.out.1.cell 2 _ rfl; have y3 := H3.out.1.cell 3 _ rfl; have y4 := H3.out.1.cell 4 _ rfl)
          | (have := H1; go_at_call 56; go_must (refine (HT2.out _ H1.out.2).mono ?_); rintro e w2 ⟨rfl, hb⟩; have H2 := hid (And.intro (H1.out.1.keep hb) (H1.out.2.trans (hb.mono H1.out.2.size))); clear hb y0 y1 y2 y3 y4; have y0 := H2.out.1.cell 0 _ rfl; have y1 := H2.out.1.cell 1 _ rfl; have y2 := H2.out.1.cell 2 _ rfl; have y3 := H2.out.1.cell 3 _ rfl; have y4 := H2.out.1.cell 4 _ rfl)
          | (have := H0; go_at_call 56; go_must (refine (HT1.out _ H0.out.2).mono ?_); rintro e w1 ⟨rfl, hb⟩; have H1 := hid (And.intro (H0.out.1.keep hb) (H0.out.2.trans (hb.mono H0.out.2.size))); clear hb y0 y1 y2 y3 y4; have y0 := H1.out.1.cell 0 _ rfl; have y1 := H1.out.1.cell 1 _ rfl; have y2 := H1.out.1.cell 2 _ rfl; have y3 := H1.out.1.cell 3 _ rfl; have y4 := H1.out.1.cell 4 _ rfl))
        go_ret
        exact ⟨by simp, H3.out.2⟩
      | true =>
        cases B4 with
        | false =>
          go_enter Try.func29, Try.ntmps29
          go_wp2_with (first
            | (have := H3; go_at_call 58; go_must (refine (HT4.out _ H3.out.2).mono ?_); rintro e w4 ⟨rfl, hb⟩; have H4 := hid (And.intro (H3.out.1.keep hb) (H3.out.2.trans (hb.mono H3.out.2.size))); clear hb y0 y1 y2 y3 y4; have y0 := H4.out.1.cell 0 _ rfl; have y1 := H4.out.1.cell 1 _ rfl; have y2 := H4.out.1.cell 2 _ rfl; have y3 := H4.out.1.cell 3 _ rfl; have y4 := H4.out.1.cell 4 _ rfl)
            | (have := H2; go_at_call 57; go_must (refine (HT3.out _ H2.out.2).mono ?_); rintro e w3 ⟨rfl, hb⟩; have H3 := hid (And.intro (H2.out.1.keep hb) (H2.out.2.trans (hb.mono H2.out.2.size))); clear hb y0 y1 y2 y3 y4; have y0 := H3.out.1.cell 0 _ rfl; have y1 := H3.out.1.cell 1 _ rfl; have y2 := H3.out.1.cell 2 _ rfl; have y3 := H3.out.1.cell 3 _ rfl; have y4 := H3.out.1.cell 4 _ rfl)
            | (have := H1; go_at_call 56; go_must (refine (HT2.out _ H1.out.2).mono ?_); rintro e w2 ⟨rfl, hb⟩; have H2 := hid (And.intro (H1.out.1.keep hb) (H1.out.2.trans (hb.mono H1.out.2.size))); clear hb y0 y1 y2 y3 y4; have y0 := H2.out.1.cell 0 _ rfl; have y1 := H2.out.1.cell 1 _ rfl; have y2 := H2.out.1.cell 2 _ rfl; have y3 := H2.out.1.cell 3 _ rfl; have y4 := H2.out.1.cell 4 _ rfl)
            | (have := H0; go_at_call 56; go_must (refine (HT1.out _ H0.out.2).mono ?_); rintro e w1 ⟨rfl, hb⟩; have H1 := hid (And.intro (H0.out.1.keep hb) (H0.out.2.trans (hb.mono H0.out.2.size))); clear hb y0 y1 y2 y3 y4; have y0 := H1.out.1.cell 0 _ rfl; have y1 := H1.out.1.cell 1 _ rfl; have y2 := H1.out.1.cell 2 _ rfl; have y3 := H1.out.1.cell 3 _ rfl; have y4 := H1.out.1.cell 4 _ rfl))
          go_ret
          exact ⟨by simp, H4.out.2⟩
        | true =>
          go_enter Try.func29, Try.ntmps29
          go_wp2_with (first
            | (have := H3; go_at_call 58; go_must (refine (HT4.out _ H3.out.2).mono ?_); rintro e w4 ⟨rfl, hb⟩; have H4 := hid (And.intro (H3.out.1.keep hb) (H3.out.2.trans (hb.mono H3.out.2.size))); clear hb y0 y1 y2 y3 y4; have y0 := H4.out.1.cell 0 _ rfl; have y1 := H4.out.1.cell 1 _ rfl; have y2 := H4.out.1.cell 2 _ rfl; have y3 := H4.out.1.cell 3 _ rfl; have y4 := H4.out.1.cell 4 _ rfl)
            | (have := H2; go_at_call 57; go_must (refine (HT3.out _ H2.out.2).mono ?_); rintro e w3 ⟨rfl, hb⟩; have H3 := hid (And.intro (H2.out.1.keep hb) (H2.out.2.trans (hb.mono H2.out.2.size))); clear hb y0 y1 y2 y3 y4; have y0 := H3.out.1.cell 0 _ rfl; have y1 := H3.out.1.cell 1 _ rfl; have y2 := H3.out.1.cell 2 _ rfl; have y3 := H3.out.1.cell 3 _ rfl; have y4 := H3.out.1.cell 4 _ rfl)
            | (have := H1; go_at_call 56; go_must (refine (HT2.out _ H1.out.2).mono ?_); rintro e w2 ⟨rfl, hb⟩; have H2 := hid (And.intro (H1.out.1.keep hb) (H1.out.2.trans (hb.mono H1.out.2.size))); clear hb y0 y1 y2 y3 y4; have y0 := H2.out.1.cell 0 _ rfl; have y1 := H2.out.1.cell 1 _ rfl; have y2 := H2.out.1.cell 2 _ rfl; have y3 := H2.out.1.cell 3 _ rfl; have y4 := H2.out.1.cell 4 _ rfl)
            | (have := H0; go_at_call 56; go_must (refine (HT1.out _ H0.out.2).mono ?_); rintro e w1 ⟨rfl, hb⟩; have H1 := hid (And.intro (H0.out.1.keep hb) (H0.out.2.trans (hb.mono H0.out.2.size))); clear hb y0 y1 y2 y3 y4; have y0 := H1.out.1.cell 0 _ rfl; have y1 := H1.out.1.cell 1 _ rfl; have y2 := H1.out.1.cell 2 _ rfl; have y3 := H1.out.1.cell 3 _ rfl; have y4 := H1.out.1.cell 4 _ rfl))
          go_ret
          exact ⟨by simp, H4.out.2⟩
end Go.Proofs.Ythoofboegchodaa
