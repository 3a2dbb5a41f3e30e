/- The program's test of messages, kind by kind. -/
import Derived.Test.YtoepppkadpjonaaGreatNb12
namespace Go.Proofs.YtoepppkadpjonaaGreat
set_option maxRecDepth 100000
open Go.RowKit
set_option maxHeartbeats 6400000 in
theorem ifits_5_0 {F : Nat → Prop} {w : World} {m : Ms} {a13 a14 a15 a16 : Option Addr} {c13 c14 c15 c16 : Nat} (h : Fx F w m a13 a14 a15 a16 c13 c14 c15 c16) (hk : m.k = 5) (t1 : (onlyB m { s := true, t := true, n := true, g := true }) = false) : Fit w m a13 a14 a15 a16 c13 c14 c15 c16 false := by
 obtain ⟨wa, HA, hw0, hx⟩ := msA_new m a13 a14 a15 a16 c13 c14 c15 c16 48 w
 have H0 := hid (And.intro hx (Below.refl wa.heap.size wa))
 clear hx
 have HW : Hid (inB m.ep 0 60 = true) := hid (by rw [inB, decide_eq_true h.h0, decide_eq_true h.h1]; rfl)
 have q1 := q_no (n := 1) hk (by decide); have q2 := q_no (n := 2) hk (by decide); have q3 := q_no (n := 3) hk (by decide); have q4 := q_no (n := 4) hk (by decide); have q5 := q_yes hk
 have HT1 := hid ((tOnly114 h t1).up hw0)
 have HX := hid (tEnd m.ep h.h0 h.h1 wa)
 have HW0 := hid hw0
 clear t1 h hk hw0
 unfold Fit msA
 simp only [msA] at HA
 replace HA := hid HA
 go_enter Tryz.func135, Tryz.ntmps135
 try simp only [List.append]
 go_upto_region 1 with fail
 rw [HA.out]
 obtain ⟨y0, y1, y2, y3, y4, y5, y6, y7, y8, y9, y10, y11, y12, y13, y14, y15, y16⟩ := msA_at H0.out.1
 go_wp2_with (go_at_call 160; refine (iwithin_any _ _ _ _).mono ?_; rintro e w1 ⟨rfl, hw⟩; rw [HW.out]; replace hw := hw.symm; subst hw)
 clear y0 y1 y2 y3 y4 y5 y6 y7 y8 y9 y10 y11 y12 y13 y14 y15 y16
 go_simp
 obtain ⟨d0, d1, d2, d3, d4, d5, d6, d7, d8, d9, d10, d11, d12, d13, d14, d15, d16⟩ := msA_all H0.out.1
 haveI := Cls.ne wa
 refine wp_region_cls wa (by kernel_rfl) (by kernel_rfl) ?_
 repeat (go_big_quiet_step ((first
   | (go_at_call 161; exact Cls.of _ (fun u hu => HT1.out u hu))
   | (go_at_call 166; exact Cls.of _ (fun u hu => HX.out u hu)))))
 refine wpQuiet_nil ?_
 rintro _ ⟨x, rfl⟩
 go_wp2
 go_ret
 exact ⟨by simp, HW0.out.trans (x.2.mono HW0.out.size)⟩
set_option maxHeartbeats 6400000 in
theorem ifits_5_1 {F : Nat → Prop} {w : World} {m : Ms} {a13 a14 a15 a16 : Option Addr} {c13 c14 c15 c16 : Nat} (h : Fx F w m a13 a14 a15 a16 c13 c14 c15 c16) (hk : m.k = 5) (t1 : (onlyB m { s := true, t := true, n := true, g := true }) = true) (t2 : (decide (m.sl = 4 * (m.ep + 1))) = false) : Fit w m a13 a14 a15 a16 c13 c14 c15 c16 false := by
 obtain ⟨wa, HA, hw0, hx⟩ := msA_new m a13 a14 a15 a16 c13 c14 c15 c16 48 w
 have H0 := hid (And.intro hx (Below.refl wa.heap.size wa))
 clear hx
 have HW : Hid (inB m.ep 0 60 = true) := hid (by rw [inB, decide_eq_true h.h0, decide_eq_true h.h1]; rfl)
 have q1 := q_no (n := 1) hk (by decide); have q2 := q_no (n := 2) hk (by decide); have q3 := q_no (n := 3) hk (by decide); have q4 := q_no (n := 4) hk (by decide); have q5 := q_yes hk
 have HT1 := hid ((tOnly114 h t1).up hw0)
 have b2 : (m.sl == 4 * (m.ep + 1)) = false := by rw [beq_eq_false_iff_ne]; exact of_decide_eq_false t2
 have HX := hid (tEnd m.ep h.h0 h.h1 wa)
 have HW0 := hid hw0
 clear t1 t2 h hk hw0
 unfold Fit msA
 simp only [msA] at HA
 replace HA := hid HA
 go_enter Tryz.func135, Tryz.ntmps135
 try simp only [List.append]
 go_upto_region 1 with fail
 rw [HA.out]
 obtain ⟨y0, y1, y2, y3, y4, y5, y6, y7, y8, y9, y10, y11, y12, y13, y14, y15, y16⟩ := msA_at H0.out.1
 go_wp2_with (go_at_call 160; refine (iwithin_any _ _ _ _).mono ?_; rintro e w1 ⟨rfl, hw⟩; rw [HW.out]; replace hw := hw.symm; subst hw)
 clear y0 y1 y2 y3 y4 y5 y6 y7 y8 y9 y10 y11 y12 y13 y14 y15 y16
 go_simp
 obtain ⟨d0, d1, d2, d3, d4, d5, d6, d7, d8, d9, d10, d11, d12, d13, d14, d15, d16⟩ := msA_all H0.out.1
 haveI := Cls.ne wa
 refine wp_region_cls wa (by kernel_rfl) (by kernel_rfl) ?_
 repeat (go_big_quiet_step ((first
   | (go_at_call 161; exact Cls.of _ (fun u hu => HT1.out u hu))
   | (go_at_call 166; exact Cls.of _ (fun u hu => HX.out u hu)))))
 refine wpQuiet_nil ?_
 rintro _ ⟨x, rfl⟩
 go_wp2
 go_ret
 exact ⟨by simp, HW0.out.trans (x.2.mono HW0.out.size)⟩
set_option maxHeartbeats 6400000 in
theorem ifits_5_2 {F : Nat → Prop} {w : World} {m : Ms} {a13 a14 a15 a16 : Option Addr} {c13 c14 c15 c16 : Nat} (h : Fx F w m a13 a14 a15 a16 c13 c14 c15 c16) (hk : m.k = 5) (t1 : (onlyB m { s := true, t := true, n := true, g := true }) = true) (t2 : (decide (m.sl = 4 * (m.ep + 1))) = true) (t3 : (!decide (m.tx.size = 0)) = false) : Fit w m a13 a14 a15 a16 c13 c14 c15 c16 false := by
 obtain ⟨wa, HA, hw0, hx⟩ := msA_new m a13 a14 a15 a16 c13 c14 c15 c16 48 w
 have H0 := hid (And.intro hx (Below.refl wa.heap.size wa))
 clear hx
 have HW : Hid (inB m.ep 0 60 = true) := hid (by rw [inB, decide_eq_true h.h0, decide_eq_true h.h1]; rfl)
 have q1 := q_no (n := 1) hk (by decide); have q2 := q_no (n := 2) hk (by decide); have q3 := q_no (n := 3) hk (by decide); have q4 := q_no (n := 4) hk (by decide); have q5 := q_yes hk
 have HT1 := hid ((tOnly114 h t1).up hw0)
 have b2 : (m.sl == 4 * (m.ep + 1)) = true := by rw [beq_iff_eq]; exact of_decide_eq_true t2
 have ht := none_size m.tx
 rw [show decide (m.tx.size = 0) = true by simpa using t3] at ht
 have HX := hid (tEnd m.ep h.h0 h.h1 wa)
 have HW0 := hid hw0
 clear t1 t2 t3 h hk hw0
 unfold Fit msA
 simp only [msA] at HA
 replace HA := hid HA
 go_enter Tryz.func135, Tryz.ntmps135
 try simp only [List.append]
 go_upto_region 1 with fail
 rw [HA.out]
 obtain ⟨y0, y1, y2, y3, y4, y5, y6, y7, y8, y9, y10, y11, y12, y13, y14, y15, y16⟩ := msA_at H0.out.1
 go_wp2_with (go_at_call 160; refine (iwithin_any _ _ _ _).mono ?_; rintro e w1 ⟨rfl, hw⟩; rw [HW.out]; replace hw := hw.symm; subst hw)
 clear y0 y1 y2 y3 y4 y5 y6 y7 y8 y9 y10 y11 y12 y13 y14 y15 y16
 go_simp
 obtain ⟨d0, d1, d2, d3, d4, d5, d6, d7, d8, d9, d10, d11, d12, d13, d14, d15, d16⟩ := msA_all H0.out.1
 haveI := Cls.ne wa
 refine wp_region_cls wa (by kernel_rfl) (by kernel_rfl) ?_
 repeat (go_big_quiet_step ((first
   | (go_at_call 161; exact Cls.of _ (fun u hu => HT1.out u hu))
   | (go_at_call 166; exact Cls.of _ (fun u hu => HX.out u hu)))))
 refine wpQuiet_nil ?_
 rintro _ ⟨x, rfl⟩
 go_wp2
 go_ret
 exact ⟨by simp, HW0.out.trans (x.2.mono HW0.out.size)⟩
set_option maxHeartbeats 6400000 in
theorem ifits_5_3 {F : Nat → Prop} {w : World} {m : Ms} {a13 a14 a15 a16 : Option Addr} {c13 c14 c15 c16 : Nat} (h : Fx F w m a13 a14 a15 a16 c13 c14 c15 c16) (hk : m.k = 5) (t1 : (onlyB m { s := true, t := true, n := true, g := true }) = true) (t2 : (decide (m.sl = 4 * (m.ep + 1))) = true) (t3 : (!decide (m.tx.size = 0)) = true) (t4 : (memB m.nx) = false) : Fit w m a13 a14 a15 a16 c13 c14 c15 c16 false := by
 obtain ⟨wa, HA, hw0, hx⟩ := msA_new m a13 a14 a15 a16 c13 c14 c15 c16 48 w
 have H0 := hid (And.intro hx (Below.refl wa.heap.size wa))
 clear hx
 have HW : Hid (inB m.ep 0 60 = true) := hid (by rw [inB, decide_eq_true h.h0, decide_eq_true h.h1]; rfl)
 have q1 := q_no (n := 1) hk (by decide); have q2 := q_no (n := 2) hk (by decide); have q3 := q_no (n := 3) hk (by decide); have q4 := q_no (n := 4) hk (by decide); have q5 := q_yes hk
 have HT1 := hid ((tOnly114 h t1).up hw0)
 have b2 : (m.sl == 4 * (m.ep + 1)) = true := by rw [beq_iff_eq]; exact of_decide_eq_true t2
 have ht := none_size m.tx
 rw [show decide (m.tx.size = 0) = false by simpa using t3] at ht
 have HT4 := hid ((tMem h t4).up hw0)
 have HX := hid (tEnd m.ep h.h0 h.h1 wa)
 have HW0 := hid hw0
 clear t1 t2 t3 t4 h hk hw0
 unfold Fit msA
 simp only [msA] at HA
 replace HA := hid HA
 go_enter Tryz.func135, Tryz.ntmps135
 try simp only [List.append]
 go_upto_region 1 with fail
 rw [HA.out]
 obtain ⟨y0, y1, y2, y3, y4, y5, y6, y7, y8, y9, y10, y11, y12, y13, y14, y15, y16⟩ := msA_at H0.out.1
 go_wp2_with (go_at_call 160; refine (iwithin_any _ _ _ _).mono ?_; rintro e w1 ⟨rfl, hw⟩; rw [HW.out]; replace hw := hw.symm; subst hw)
 clear y0 y1 y2 y3 y4 y5 y6 y7 y8 y9 y10 y11 y12 y13 y14 y15 y16
 go_simp
 obtain ⟨d0, d1, d2, d3, d4, d5, d6, d7, d8, d9, d10, d11, d12, d13, d14, d15, d16⟩ := msA_all H0.out.1
 haveI := Cls.ne wa
 refine wp_region_cls wa (by kernel_rfl) (by kernel_rfl) ?_
 repeat (go_big_quiet_step ((first
   | (go_at_call 161; exact Cls.of _ (fun u hu => HT1.out u hu))
   | (go_at_call 167; exact Cls.of _ (fun u hu => HT4.out u hu))
   | (go_at_call 166; exact Cls.of _ (fun u hu => HX.out u hu)))))
 refine wpQuiet_nil ?_
 rintro _ ⟨x, rfl⟩
 go_wp2
 go_ret
 exact ⟨by simp, HW0.out.trans (x.2.mono HW0.out.size)⟩
set_option maxHeartbeats 6400000 in
theorem ifits_5_4 {F : Nat → Prop} {w : World} {m : Ms} {a13 a14 a15 a16 : Option Addr} {c13 c14 c15 c16 : Nat} (h : Fx F w m a13 a14 a15 a16 c13 c14 c15 c16) (hk : m.k = 5) (t1 : (onlyB m { s := true, t := true, n := true, g := true }) = true) (t2 : (decide (m.sl = 4 * (m.ep + 1))) = true) (t3 : (!decide (m.tx.size = 0)) = true) (t4 : (memB m.nx) = true) (t5 : (oneB m.sg 2) = false) : Fit w m a13 a14 a15 a16 c13 c14 c15 c16 false := by
 obtain ⟨wa, HA, hw0, hx⟩ := msA_new m a13 a14 a15 a16 c13 c14 c15 c16 48 w
 have H0 := hid (And.intro hx (Below.refl wa.heap.size wa))
 clear hx
 have HW : Hid (inB m.ep 0 60 = true) := hid (by rw [inB, decide_eq_true h.h0, decide_eq_true h.h1]; rfl)
 have q1 := q_no (n := 1) hk (by decide); have q2 := q_no (n := 2) hk (by decide); have q3 := q_no (n := 3) hk (by decide); have q4 := q_no (n := 4) hk (by decide); have q5 := q_yes hk
 have HT1 := hid ((tOnly114 h t1).up hw0)
 have b2 : (m.sl == 4 * (m.ep + 1)) = true := by rw [beq_iff_eq]; exact of_decide_eq_true t2
 have ht := none_size m.tx
 rw [show decide (m.tx.size = 0) = false by simpa using t3] at ht
 have HT4 := hid ((tMem h t4).up hw0)
 have HT5 := hid ((tSigs (k := 2) h t5).up hw0)
 have HX := hid (tEnd m.ep h.h0 h.h1 wa)
 have HW0 := hid hw0
 clear t1 t2 t3 t4 t5 h hk hw0
 unfold Fit msA
 simp only [msA] at HA
 replace HA := hid HA
 go_enter Tryz.func135, Tryz.ntmps135
 try simp only [List.append]
 go_upto_region 1 with fail
 rw [HA.out]
 obtain ⟨y0, y1, y2, y3, y4, y5, y6, y7, y8, y9, y10, y11, y12, y13, y14, y15, y16⟩ := msA_at H0.out.1
 go_wp2_with (go_at_call 160; refine (iwithin_any _ _ _ _).mono ?_; rintro e w1 ⟨rfl, hw⟩; rw [HW.out]; replace hw := hw.symm; subst hw)
 clear y0 y1 y2 y3 y4 y5 y6 y7 y8 y9 y10 y11 y12 y13 y14 y15 y16
 go_simp
 obtain ⟨d0, d1, d2, d3, d4, d5, d6, d7, d8, d9, d10, d11, d12, d13, d14, d15, d16⟩ := msA_all H0.out.1
 haveI := Cls.ne wa
 refine wp_region_cls wa (by kernel_rfl) (by kernel_rfl) ?_
 repeat (go_big_quiet_step ((first
   | (go_at_call 161; exact Cls.of _ (fun u hu => HT1.out u hu))
   | (go_at_call 167; exact Cls.of _ (fun u hu => HT4.out u hu))
   | (go_at_call 162; exact Cls.of _ (fun u hu => HT5.out u hu))
   | (go_at_call 166; exact Cls.of _ (fun u hu => HX.out u hu)))))
 refine wpQuiet_nil ?_
 rintro _ ⟨x, rfl⟩
 go_wp2
 go_ret
 exact ⟨by simp, HW0.out.trans (x.2.mono HW0.out.size)⟩
set_option maxHeartbeats 6400000 in
theorem ifits_5_5 {F : Nat → Prop} {w : World} {m : Ms} {a13 a14 a15 a16 : Option Addr} {c13 c14 c15 c16 : Nat} (h : Fx F w m a13 a14 a15 a16 c13 c14 c15 c16) (hk : m.k = 5) (t1 : (onlyB m { s := true, t := true, n := true, g := true }) = true) (t2 : (decide (m.sl = 4 * (m.ep + 1))) = true) (t3 : (!decide (m.tx.size = 0)) = true) (t4 : (memB m.nx) = true) (t5 : (oneB m.sg 2) = true) : Fit w m a13 a14 a15 a16 c13 c14 c15 c16 true := by
 obtain ⟨wa, HA, hw0, hx⟩ := msA_new m a13 a14 a15 a16 c13 c14 c15 c16 48 w
 have H0 := hid (And.intro hx (Below.refl wa.heap.size wa))
 clear hx
 have HW : Hid (inB m.ep 0 60 = true) := hid (by rw [inB, decide_eq_true h.h0, decide_eq_true h.h1]; rfl)
 have q1 := q_no (n := 1) hk (by decide); have q2 := q_no (n := 2) hk (by decide); have q3 := q_no (n := 3) hk (by decide); have q4 := q_no (n := 4) hk (by decide); have q5 := q_yes hk
 have HT1 := hid ((tOnly114 h t1).up hw0)
 have b2 : (m.sl == 4 * (m.ep + 1)) = true := by rw [beq_iff_eq]; exact of_decide_eq_true t2
 have ht := none_size m.tx
 rw [show decide (m.tx.size = 0) = false by simpa using t3] at ht
 have HT4 := hid ((tMem h t4).up hw0)
 have HT5 := hid ((tSigs (k := 2) h t5).up hw0)
 have HX := hid (tEnd m.ep h.h0 h.h1 wa)
 have HW0 := hid hw0
 clear t1 t2 t3 t4 t5 h hk hw0
 unfold Fit msA
 simp only [msA] at HA
 replace HA := hid HA
 go_enter Tryz.func135, Tryz.ntmps135
 try simp only [List.append]
 go_upto_region 1 with fail
 rw [HA.out]
 obtain ⟨y0, y1, y2, y3, y4, y5, y6, y7, y8, y9, y10, y11, y12, y13, y14, y15, y16⟩ := msA_at H0.out.1
 go_wp2_with (go_at_call 160; refine (iwithin_any _ _ _ _).mono ?_; rintro e w1 ⟨rfl, hw⟩; rw [HW.out]; replace hw := hw.symm; subst hw)
 clear y0 y1 y2 y3 y4 y5 y6 y7 y8 y9 y10 y11 y12 y13 y14 y15 y16
 go_simp
 obtain ⟨d0, d1, d2, d3, d4, d5, d6, d7, d8, d9, d10, d11, d12, d13, d14, d15, d16⟩ := msA_all H0.out.1
 haveI := Cls.ne wa
 refine wp_region_cls wa (by kernel_rfl) (by kernel_rfl) ?_
 repeat (go_big_quiet_step ((first
   | (go_at_call 161; exact Cls.of _ (fun u hu => HT1.out u hu))
   | (go_at_call 167; exact Cls.of _ (fun u hu => HT4.out u hu))
   | (go_at_call 162; exact Cls.of _ (fun u hu => HT5.out u hu))
   | (go_at_call 166; exact Cls.of _ (fun u hu => HX.out u hu)))))
 refine wpQuiet_nil ?_
 rintro _ ⟨x, rfl⟩
 go_wp2
 go_ret
 exact ⟨by simp, HW0.out.trans (x.2.mono HW0.out.size)⟩
theorem ifits_5 {F : Nat → Prop} {w : World} {m : Ms} {a13 a14 a15 a16 : Option Addr} {c13 c14 c15 c16 : Nat} (h : Fx F w m a13 a14 a15 a16 c13 c14 c15 c16) (hk : m.k = 5) : Fit w m a13 a14 a15 a16 c13 c14 c15 c16 (kindB m) := by
 have hV : kindB m = ((onlyB m { s := true, t := true, n := true, g := true }) && ((decide (m.sl = 4 * (m.ep + 1))) && ((!decide (m.tx.size = 0)) && ((memB m.nx) && ((oneB m.sg 2)))))) := by
   unfold kindB
   rw [if_neg (by rw [hk]; decide)]; rw [if_neg (by rw [hk]; decide)]; rw [if_neg (by rw [hk]; decide)]; rw [if_neg (by rw [hk]; decide)]; rw [if_pos hk]
 cases t1 : (onlyB m { s := true, t := true, n := true, g := true }) with
 | false =>
  rw [show kindB m = false by rw [hV, t1] <;> rfl]
  exact ifits_5_0 h hk t1
 | true =>
  cases t2 : (decide (m.sl = 4 * (m.ep + 1))) with
  | false =>
   rw [show kindB m = false by rw [hV, t1, t2] <;> rfl]
   exact ifits_5_1 h hk t1 t2
  | true =>
   cases t3 : (!decide (m.tx.size = 0)) with
   | false =>
    rw [show kindB m = false by rw [hV, t1, t2, t3] <;> rfl]
    exact ifits_5_2 h hk t1 t2 t3
   | true =>
    cases t4 : (memB m.nx) with
    | false =>
     rw [show kindB m = false by rw [hV, t1, t2, t3, t4] <;> rfl]
     exact ifits_5_3 h hk t1 t2 t3 t4
    | true =>
     cases t5 : (oneB m.sg 2) with
     | false =>
      rw [show kindB m = false by rw [hV, t1, t2, t3, t4, t5] <;> rfl]
      exact ifits_5_4 h hk t1 t2 t3 t4 t5
     | true =>
      rw [show kindB m = true by rw [hV, t1, t2, t3, t4, t5] <;> rfl]
      exact ifits_5_5 h hk t1 t2 t3 t4 t5
end Go.Proofs.YtoepppkadpjonaaGreat
