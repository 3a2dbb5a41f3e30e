/- The program's test of messages, kind by kind. -/
import Derived.Test.YtoepppkadpjonaaGreatNb12
namespace Go.Proofs.YtoepppkadpjonaaGreat
set_option maxRecDepth 100000
open Go.RowKit
set_option maxHeartbeats 6400000 in
theorem ifits_10_0 {F : Nat → Prop} {w : World} {m : Ms} {a13 a14 a15 a16 : Option Addr} {c13 c14 c15 c16 : Nat} (h : Fx F w m a13 a14 a15 a16 c13 c14 c15 c16) (hk : m.k = 10) (t1 : (onlyB m { s := true, t := true, g := true, l := true }) = false) : Fit w m a13 a14 a15 a16 c13 c14 c15 c16 false := by
 obtain ⟨wa, HA, hw0, hx⟩ := msA_new m a13 a14 a15 a16 c13 c14 c15 c16 48 w
 have H0 := hid (And.intro hx (Below.refl wa.heap.size wa))
 clear hx
 have HW : Hid (inB m.ep 0 60 = true) := hid (by rw [inB, decide_eq_true h.h0, decide_eq_true h.h1]; rfl)
 have q1 := q_no (n := 1) hk (by decide); have q2 := q_no (n := 2) hk (by decide); have q3 := q_no (n := 3) hk (by decide); have q4 := q_no (n := 4) hk (by decide); have q5 := q_no (n := 5) hk (by decide); have q6 := q_no (n := 6) hk (by decide); have q7 := q_no (n := 7) hk (by decide); have q8 := q_no (n := 8) hk (by decide); have q9 := q_no (n := 9) hk (by decide); have q10 := q_yes hk
 have HT1 := hid ((tOnly338 h t1).up hw0)
 have HW0 := hid hw0
 clear t1 h hk hw0
 unfold Fit msA
 simp only [msA] at HA
 replace HA := hid HA
 go_enter Tryz.func135, Tryz.ntmps135
 try simp only [List.append]
 go_upto_region 1 with fail
 rw [HA.out]
 obtain ⟨y0, y1, y2, y3, y4, y5, y6, y7, y8, y9, y10, y11, y12, y13, y14, y15, y16⟩ := msA_at H0.out.1
 go_wp2_with (go_at_call 160; refine (iwithin_any _ _ _ _).mono ?_; rintro e w1 ⟨rfl, hw⟩; rw [HW.out]; replace hw := hw.symm; subst hw)
 clear y0 y1 y2 y3 y4 y5 y6 y7 y8 y9 y10 y11 y12 y13 y14 y15 y16
 go_simp
 obtain ⟨d0, d1, d2, d3, d4, d5, d6, d7, d8, d9, d10, d11, d12, d13, d14, d15, d16⟩ := msA_all H0.out.1
 haveI := Cls.ne wa
 refine wp_region_cls wa (by kernel_rfl) (by kernel_rfl) ?_
 repeat (go_big_quiet_step ((first
   | (go_at_call 161; exact Cls.of _ (fun u hu => HT1.out u hu)))))
 refine wpQuiet_nil ?_
 rintro _ ⟨x, rfl⟩
 go_wp2
 go_ret
 exact ⟨by simp, HW0.out.trans (x.2.mono HW0.out.size)⟩
set_option maxHeartbeats 6400000 in
theorem ifits_10_1 {F : Nat → Prop} {w : World} {m : Ms} {a13 a14 a15 a16 : Option Addr} {c13 c14 c15 c16 : Nat} (h : Fx F w m a13 a14 a15 a16 c13 c14 c15 c16) (hk : m.k = 10) (t1 : (onlyB m { s := true, t := true, g := true, l := true }) = true) (t2 : (decide (1 ≤ m.ep)) = false) : Fit w m a13 a14 a15 a16 c13 c14 c15 c16 false := by
 obtain ⟨wa, HA, hw0, hx⟩ := msA_new m a13 a14 a15 a16 c13 c14 c15 c16 48 w
 have H0 := hid (And.intro hx (Below.refl wa.heap.size wa))
 clear hx
 have HW : Hid (inB m.ep 0 60 = true) := hid (by rw [inB, decide_eq_true h.h0, decide_eq_true h.h1]; rfl)
 have q1 := q_no (n := 1) hk (by decide); have q2 := q_no (n := 2) hk (by decide); have q3 := q_no (n := 3) hk (by decide); have q4 := q_no (n := 4) hk (by decide); have q5 := q_no (n := 5) hk (by decide); have q6 := q_no (n := 6) hk (by decide); have q7 := q_no (n := 7) hk (by decide); have q8 := q_no (n := 8) hk (by decide); have q9 := q_no (n := 9) hk (by decide); have q10 := q_yes hk
 have HT1 := hid ((tOnly338 h t1).up hw0)
 have h9 : ¬ 1 ≤ m.ep := of_decide_eq_false t2
 have b2 : decide (m.ep ≥ 1) = false := decide_eq_false h9
 have HW0 := hid hw0
 clear t1 t2 h hk hw0
 unfold Fit msA
 simp only [msA] at HA
 replace HA := hid HA
 go_enter Tryz.func135, Tryz.ntmps135
 try simp only [List.append]
 go_upto_region 1 with fail
 rw [HA.out]
 obtain ⟨y0, y1, y2, y3, y4, y5, y6, y7, y8, y9, y10, y11, y12, y13, y14, y15, y16⟩ := msA_at H0.out.1
 go_wp2_with (go_at_call 160; refine (iwithin_any _ _ _ _).mono ?_; rintro e w1 ⟨rfl, hw⟩; rw [HW.out]; replace hw := hw.symm; subst hw)
 clear y0 y1 y2 y3 y4 y5 y6 y7 y8 y9 y10 y11 y12 y13 y14 y15 y16
 go_simp
 obtain ⟨d0, d1, d2, d3, d4, d5, d6, d7, d8, d9, d10, d11, d12, d13, d14, d15, d16⟩ := msA_all H0.out.1
 haveI := Cls.ne wa
 refine wp_region_cls wa (by kernel_rfl) (by kernel_rfl) ?_
 repeat (go_big_quiet_step ((first
   | (go_at_call 161; exact Cls.of _ (fun u hu => HT1.out u hu)))))
 refine wpQuiet_nil ?_
 rintro _ ⟨x, rfl⟩
 go_wp2
 go_ret
 exact ⟨by simp, HW0.out.trans (x.2.mono HW0.out.size)⟩
set_option maxHeartbeats 6400000 in
theorem ifits_10_2 {F : Nat → Prop} {w : World} {m : Ms} {a13 a14 a15 a16 : Option Addr} {c13 c14 c15 c16 : Nat} (h : Fx F w m a13 a14 a15 a16 c13 c14 c15 c16) (hk : m.k = 10) (t1 : (onlyB m { s := true, t := true, g := true, l := true }) = true) (t2 : (decide (1 ≤ m.ep)) = true) (t3 : (decide (m.sl = 4 * m.ep)) = false) : Fit w m a13 a14 a15 a16 c13 c14 c15 c16 false := by
 obtain ⟨wa, HA, hw0, hx⟩ := msA_new m a13 a14 a15 a16 c13 c14 c15 c16 48 w
 have H0 := hid (And.intro hx (Below.refl wa.heap.size wa))
 clear hx
 have HW : Hid (inB m.ep 0 60 = true) := hid (by rw [inB, decide_eq_true h.h0, decide_eq_true h.h1]; rfl)
 have q1 := q_no (n := 1) hk (by decide); have q2 := q_no (n := 2) hk (by decide); have q3 := q_no (n := 3) hk (by decide); have q4 := q_no (n := 4) hk (by decide); have q5 := q_no (n := 5) hk (by decide); have q6 := q_no (n := 6) hk (by decide); have q7 := q_no (n := 7) hk (by decide); have q8 := q_no (n := 8) hk (by decide); have q9 := q_no (n := 9) hk (by decide); have q10 := q_yes hk
 have HT1 := hid ((tOnly338 h t1).up hw0)
 have h9 : 1 ≤ m.ep := of_decide_eq_true t2
 have b2 : decide (m.ep ≥ 1) = true := decide_eq_true h9
 have b3 : (m.sl == 4 * m.ep) = false := by rw [beq_eq_false_iff_ne]; exact of_decide_eq_false t3
 have HX := hid (show Tst wa 166 #[.int .i64 (m.ep - 1)] (.int .i64 (4 * m.ep)) by have := tEnd (m.ep - 1) (by omega) (by have := h.h1; omega) wa; rwa [show m.ep - 1 + 1 = m.ep by omega] at this)
 have hwp : IntKind.i64.wrap (m.ep - 1) = m.ep - 1 := by exact wrap_small (m.ep - 1) (by omega) (by have := h.h1; omega)
 have HW0 := hid hw0
 clear t1 t2 t3 h hk hw0
 unfold Fit msA
 simp only [msA] at HA
 replace HA := hid HA
 go_enter Tryz.func135, Tryz.ntmps135
 try simp only [List.append]
 go_upto_region 1 with fail
 rw [HA.out]
 obtain ⟨y0, y1, y2, y3, y4, y5, y6, y7, y8, y9, y10, y11, y12, y13, y14, y15, y16⟩ := msA_at H0.out.1
 go_wp2_with (go_at_call 160; refine (iwithin_any _ _ _ _).mono ?_; rintro e w1 ⟨rfl, hw⟩; rw [HW.out]; replace hw := hw.symm; subst hw)
 clear y0 y1 y2 y3 y4 y5 y6 y7 y8 y9 y10 y11 y12 y13 y14 y15 y16
 go_simp
 obtain ⟨d0, d1, d2, d3, d4, d5, d6, d7, d8, d9, d10, d11, d12, d13, d14, d15, d16⟩ := msA_all H0.out.1
 haveI := Cls.ne wa
 refine wp_region_cls wa (by kernel_rfl) (by kernel_rfl) ?_
 repeat (go_big_quiet_step ((first
   | (go_at_call 161; exact Cls.of _ (fun u hu => HT1.out u hu))
   | (go_at_call 166; exact Cls.of _ (fun u hu => HX.out u hu)))))
 refine wpQuiet_nil ?_
 rintro _ ⟨x, rfl⟩
 go_wp2
 go_ret
 exact ⟨by simp, HW0.out.trans (x.2.mono HW0.out.size)⟩
end Go.Proofs.YtoepppkadpjonaaGreat
