/- Texts laid together: WiNe WiNg WiNh. -/
import Derived.Test.YtgmekkgbobmplaaGreatNa13
/- The program's test of messages, kind by kind. -/
namespace Go.Proofs.YtgmekkgbobmplaaGreat
open Go.RowKit
set_option maxRecDepth 100000 in
set_option maxHeartbeats 6400000 in
theorem ifits_6_0 {F : Nat → Prop} {w : World} {m : Ms} {a13 a14 a15 a16 : Option Addr} {c13 c14 c15 c16 : Nat} (h : Fx F w m a13 a14 a15 a16 c13 c14 c15 c16) (hk : m.k = 6) (t1 : (onlyB m { v := true, c := true }) = false) : Fit w m a13 a14 a15 a16 c13 c14 c15 c16 false := by
  obtain ⟨wa, HA, hw0, hx⟩ := msA_new m a13 a14 a15 a16 c13 c14 c15 c16 48 w
  have H0 := hid (And.intro hx (Below.refl wa.heap.size wa))
  clear hx
  have HW : Hid (inB m.ep 0 60 = true) := hid (by rw [inB, decide_eq_true h.h0, decide_eq_true h.h1]; rfl)
  have q1 := q_no (n := 1) hk (by decide); have q2 := q_no (n := 2) hk (by decide); have q3 := q_no (n := 3) hk (by decide); have q4 := q_no (n := 4) hk (by decide); have q5 := q_no (n := 5) hk (by decide); have q6 := q_yes hk
  obtain ⟨A, eA⟩ : ∃ A, A = Value.agg (msA m a13 a14 a15 a16 c13 c14 c15 c16).toArray := ⟨_, rfl⟩
  have HT1 := hid ((tOnly129 h t1).up hw0)
  rw [← eA] at HT1
  have HAg := hid eA
  have HW0 := hid hw0
  clear t1 h hk hw0
  unfold Fit msA
  simp only [msA] at HA eA
  replace HA := hid HA
  go_enter Tryz.func65, Tryz.ntmps65
  try simp only [List.append]
  go_upto_region 1 with fail
  rw [HA.out]
  obtain ⟨y0, y1, y2, y3, y4, y5, y6, y7, y8, y9, y10, y11, y12, y13, y14, y15, y16⟩ := msA_at H0.out.1
  rw [← eA]
  clear eA
  go_wp2_with (first
    | (have := H0; go_at_call 101; refine (HT1.out _ H0.out.2).mono ?_; rintro e w1 ⟨rfl, hb⟩; have H1 := hid (bx_next H0.out hb); clear hb y0 y1 y2 y3 y4 y5 y6 y7 y8 y9 y10 y11 y12 y13 y14 y15 y16; obtain ⟨y0, y1, y2, y3, y4, y5, y6, y7, y8, y9, y10, y11, y12, y13, y14, y15, y16⟩ := msA_at H1.out.1)
    | (have := H0; refine wl_loadB rfl 48 _ rfl w.heap.size 0 rfl (msA m a13 a14 a15 a16 c13 c14 c15 c16) 48 H0.out.1 _ Tryz.underlying48 rfl (by kernel_rfl) A HAg.out rfl ?_)
    | (go_at_call 100; refine (iwithin_any _ _ _ _).mono ?_; rintro e w1 ⟨rfl, hw⟩; rw [HW.out]; replace hw := hw.symm; subst hw))
  go_ret
  exact ⟨by simp, HW0.out.trans (H1.out.2.mono HW0.out.size)⟩
set_option maxRecDepth 100000 in
set_option maxHeartbeats 6400000 in
theorem ifits_6_1 {F : Nat → Prop} {w : World} {m : Ms} {a13 a14 a15 a16 : Option Addr} {c13 c14 c15 c16 : Nat} (h : Fx F w m a13 a14 a15 a16 c13 c14 c15 c16) (hk : m.k = 6) (t1 : (onlyB m { v := true, c := true }) = true) (t2 : (cgsB m.ep m.v m.cg 1) = false) : Fit w m a13 a14 a15 a16 c13 c14 c15 c16 false := by
  obtain ⟨wa, HA, hw0, hx⟩ := msA_new m a13 a14 a15 a16 c13 c14 c15 c16 48 w
  have H0 := hid (And.intro hx (Below.refl wa.heap.size wa))
  clear hx
  have HW : Hid (inB m.ep 0 60 = true) := hid (by rw [inB, decide_eq_true h.h0, decide_eq_true h.h1]; rfl)
  have q1 := q_no (n := 1) hk (by decide); have q2 := q_no (n := 2) hk (by decide); have q3 := q_no (n := 3) hk (by decide); have q4 := q_no (n := 4) hk (by decide); have q5 := q_no (n := 5) hk (by decide); have q6 := q_yes hk
  obtain ⟨A, eA⟩ : ∃ A, A = Value.agg (msA m a13 a14 a15 a16 c13 c14 c15 c16).toArray := ⟨_, rfl⟩
  have HT1 := hid ((tOnly129 h t1).up hw0)
  rw [← eA] at HT1
  have HT2 := hid ((tChg1 h t2).up hw0)
  rw [← eA] at HT2
  have HAg := hid eA
  have HW0 := hid hw0
  clear t1 t2 h hk hw0
  unfold Fit msA
  simp only [msA] at HA eA
  replace HA := hid HA
  go_enter Tryz.func65, Tryz.ntmps65
  try simp only [List.append]
  go_upto_region 1 with fail
  rw [HA.out]
  obtain ⟨y0, y1, y2, y3, y4, y5, y6, y7, y8, y9, y10, y11, y12, y13, y14, y15, y16⟩ := msA_at H0.out.1
  rw [← eA]
  clear eA
  go_wp2_with (first
    | (have := H1; go_at_call 109; refine (HT2.out _ H1.out.2).mono ?_; rintro e w2 ⟨rfl, hb⟩; have H2 := hid (bx_next H1.out hb); clear hb y0 y1 y2 y3 y4 y5 y6 y7 y8 y9 y10 y11 y12 y13 y14 y15 y16; obtain ⟨y0, y1, y2, y3, y4, y5, y6, y7, y8, y9, y10, y11, y12, y13, y14, y15, y16⟩ := msA_at H2.out.1)
    | (have := H1; refine wl_loadB rfl 48 _ rfl w.heap.size 0 rfl (msA m a13 a14 a15 a16 c13 c14 c15 c16) 48 H1.out.1 _ Tryz.underlying48 rfl (by kernel_rfl) A HAg.out rfl ?_)
    | (have := H0; go_at_call 101; refine (HT1.out _ H0.out.2).mono ?_; rintro e w1 ⟨rfl, hb⟩; have H1 := hid (bx_next H0.out hb); clear hb y0 y1 y2 y3 y4 y5 y6 y7 y8 y9 y10 y11 y12 y13 y14 y15 y16; obtain ⟨y0, y1, y2, y3, y4, y5, y6, y7, y8, y9, y10, y11, y12, y13, y14, y15, y16⟩ := msA_at H1.out.1)
    | (have := H0; refine wl_loadB rfl 48 _ rfl w.heap.size 0 rfl (msA m a13 a14 a15 a16 c13 c14 c15 c16) 48 H0.out.1 _ Tryz.underlying48 rfl (by kernel_rfl) A HAg.out rfl ?_)
    | (go_at_call 100; refine (iwithin_any _ _ _ _).mono ?_; rintro e w1 ⟨rfl, hw⟩; rw [HW.out]; replace hw := hw.symm; subst hw))
  go_ret
  exact ⟨by simp, HW0.out.trans (H2.out.2.mono HW0.out.size)⟩
set_option maxRecDepth 100000 in
set_option maxHeartbeats 6400000 in
theorem ifits_6_2 {F : Nat → Prop} {w : World} {m : Ms} {a13 a14 a15 a16 : Option Addr} {c13 c14 c15 c16 : Nat} (h : Fx F w m a13 a14 a15 a16 c13 c14 c15 c16) (hk : m.k = 6) (t1 : (onlyB m { v := true, c := true }) = true) (t2 : (cgsB m.ep m.v m.cg 1) = true) : Fit w m a13 a14 a15 a16 c13 c14 c15 c16 true := by
  obtain ⟨wa, HA, hw0, hx⟩ := msA_new m a13 a14 a15 a16 c13 c14 c15 c16 48 w
  have H0 := hid (And.intro hx (Below.refl wa.heap.size wa))
  clear hx
  have HW : Hid (inB m.ep 0 60 = true) := hid (by rw [inB, decide_eq_true h.h0, decide_eq_true h.h1]; rfl)
  have q1 := q_no (n := 1) hk (by decide); have q2 := q_no (n := 2) hk (by decide); have q3 := q_no (n := 3) hk (by decide); have q4 := q_no (n := 4) hk (by decide); have q5 := q_no (n := 5) hk (by decide); have q6 := q_yes hk
  obtain ⟨A, eA⟩ : ∃ A, A = Value.agg (msA m a13 a14 a15 a16 c13 c14 c15 c16).toArray := ⟨_, rfl⟩
  have HT1 := hid ((tOnly129 h t1).up hw0)
  rw [← eA] at HT1
  have HT2 := hid ((tChg1 h t2).up hw0)
  rw [← eA] at HT2
  have HAg := hid eA
  have HW0 := hid hw0
  clear t1 t2 h hk hw0
  unfold Fit msA
  simp only [msA] at HA eA
  replace HA := hid HA
  go_enter Tryz.func65, Tryz.ntmps65
  try simp only [List.append]
  go_upto_region 1 with fail
  rw [HA.out]
  obtain ⟨y0, y1, y2, y3, y4, y5, y6, y7, y8, y9, y10, y11, y12, y13, y14, y15, y16⟩ := msA_at H0.out.1
  rw [← eA]
  clear eA
  go_wp2_with (first
    | (have := H1; go_at_call 109; refine (HT2.out _ H1.out.2).mono ?_; rintro e w2 ⟨rfl, hb⟩; have H2 := hid (bx_next H1.out hb); clear hb y0 y1 y2 y3 y4 y5 y6 y7 y8 y9 y10 y11 y12 y13 y14 y15 y16; obtain ⟨y0, y1, y2, y3, y4, y5, y6, y7, y8, y9, y10, y11, y12, y13, y14, y15, y16⟩ := msA_at H2.out.1)
    | (have := H1; refine wl_loadB rfl 48 _ rfl w.heap.size 0 rfl (msA m a13 a14 a15 a16 c13 c14 c15 c16) 48 H1.out.1 _ Tryz.underlying48 rfl (by kernel_rfl) A HAg.out rfl ?_)
    | (have := H0; go_at_call 101; refine (HT1.out _ H0.out.2).mono ?_; rintro e w1 ⟨rfl, hb⟩; have H1 := hid (bx_next H0.out hb); clear hb y0 y1 y2 y3 y4 y5 y6 y7 y8 y9 y10 y11 y12 y13 y14 y15 y16; obtain ⟨y0, y1, y2, y3, y4, y5, y6, y7, y8, y9, y10, y11, y12, y13, y14, y15, y16⟩ := msA_at H1.out.1)
    | (have := H0; refine wl_loadB rfl 48 _ rfl w.heap.size 0 rfl (msA m a13 a14 a15 a16 c13 c14 c15 c16) 48 H0.out.1 _ Tryz.underlying48 rfl (by kernel_rfl) A HAg.out rfl ?_)
    | (go_at_call 100; refine (iwithin_any _ _ _ _).mono ?_; rintro e w1 ⟨rfl, hw⟩; rw [HW.out]; replace hw := hw.symm; subst hw))
  go_ret
  exact ⟨by simp, HW0.out.trans (H2.out.2.mono HW0.out.size)⟩
theorem ifits_6 {F : Nat → Prop} {w : World} {m : Ms} {a13 a14 a15 a16 : Option Addr} {c13 c14 c15 c16 : Nat} (h : Fx F w m a13 a14 a15 a16 c13 c14 c15 c16) (hk : m.k = 6) : Fit w m a13 a14 a15 a16 c13 c14 c15 c16 (kindB m) := by
  have hV : kindB m = ((onlyB m { v := true, c := true }) && ((cgsB m.ep m.v m.cg 1))) := by
    unfold kindB
    rw [if_neg (by rw [hk]; decide)]; rw [if_neg (by rw [hk]; decide)]; rw [if_neg (by rw [hk]; decide)]; rw [if_neg (by rw [hk]; decide)]; rw [if_neg (by rw [hk]; decide)]; rw [if_pos hk]
  cases t1 : (onlyB m { v := true, c := true }) with
  | false =>
   rw [show kindB m = false by rw [hV, t1] <;> rfl]
   exact ifits_6_0 h hk t1
  | true =>
   cases t2 : (cgsB m.ep m.v m.cg 1) with
   | false =>
    rw [show kindB m = false by rw [hV, t1, t2] <;> rfl]
    exact ifits_6_1 h hk t1 t2
   | true =>
    rw [show kindB m = true by rw [hV, t1, t2] <;> rfl]
    exact ifits_6_2 h hk t1 t2
set_option maxRecDepth 100000 in
set_option maxHeartbeats 6400000 in
theorem ifits_7_0 {F : Nat → Prop} {w : World} {m : Ms} {a13 a14 a15 a16 : Option Addr} {c13 c14 c15 c16 : Nat} (h : Fx F w m a13 a14 a15 a16 c13 c14 c15 c16) (hk : m.k = 7) (t1 : (onlyB m { v := true, c := true }) = false) : Fit w m a13 a14 a15 a16 c13 c14 c15 c16 false := by
  obtain ⟨wa, HA, hw0, hx⟩ := msA_new m a13 a14 a15 a16 c13 c14 c15 c16 48 w
  have H0 := hid (And.intro hx (Below.refl wa.heap.size wa))
  clear hx
  have HW : Hid (inB m.ep 0 60 = true) := hid (by rw [inB, decide_eq_true h.h0, decide_eq_true h.h1]; rfl)
  have q1 := q_no (n := 1) hk (by decide); have q2 := q_no (n := 2) hk (by decide); have q3 := q_no (n := 3) hk (by decide); have q4 := q_no (n := 4) hk (by decide); have q5 := q_no (n := 5) hk (by decide); have q6 := q_no (n := 6) hk (by decide); have q7 := q_yes hk
  obtain ⟨A, eA⟩ : ∃ A, A = Value.agg (msA m a13 a14 a15 a16 c13 c14 c15 c16).toArray := ⟨_, rfl⟩
  have HT1 := hid ((tOnly129 h t1).up hw0)
  rw [← eA] at HT1
  have HAg := hid eA
  have HW0 := hid hw0
  clear t1 h hk hw0
  unfold Fit msA
  simp only [msA] at HA eA
  replace HA := hid HA
  go_enter Tryz.func65, Tryz.ntmps65
  try simp only [List.append]
  go_upto_region 1 with fail
  rw [HA.out]
  obtain ⟨y0, y1, y2, y3, y4, y5, y6, y7, y8, y9, y10, y11, y12, y13, y14, y15, y16⟩ := msA_at H0.out.1
  rw [← eA]
  clear eA
  go_wp2_with (first
    | (have := H0; go_at_call 101; refine (HT1.out _ H0.out.2).mono ?_; rintro e w1 ⟨rfl, hb⟩; have H1 := hid (bx_next H0.out hb); clear hb y0 y1 y2 y3 y4 y5 y6 y7 y8 y9 y10 y11 y12 y13 y14 y15 y16; obtain ⟨y0, y1, y2, y3, y4, y5, y6, y7, y8, y9, y10, y11, y12, y13, y14, y15, y16⟩ := msA_at H1.out.1)
    | (have := H0; refine wl_loadB rfl 48 _ rfl w.heap.size 0 rfl (msA m a13 a14 a15 a16 c13 c14 c15 c16) 48 H0.out.1 _ Tryz.underlying48 rfl (by kernel_rfl) A HAg.out rfl ?_)
    | (go_at_call 100; refine (iwithin_any _ _ _ _).mono ?_; rintro e w1 ⟨rfl, hw⟩; rw [HW.out]; replace hw := hw.symm; subst hw))
  go_ret
  exact ⟨by simp, HW0.out.trans (H1.out.2.mono HW0.out.size)⟩
set_option maxRecDepth 100000 in
set_option maxHeartbeats 6400000 in
theorem ifits_7_1 {F : Nat → Prop} {w : World} {m : Ms} {a13 a14 a15 a16 : Option Addr} {c13 c14 c15 c16 : Nat} (h : Fx F w m a13 a14 a15 a16 c13 c14 c15 c16) (hk : m.k = 7) (t1 : (onlyB m { v := true, c := true }) = true) (t2 : (cgsB m.ep m.v m.cg 10) = false) : Fit w m a13 a14 a15 a16 c13 c14 c15 c16 false := by
  obtain ⟨wa, HA, hw0, hx⟩ := msA_new m a13 a14 a15 a16 c13 c14 c15 c16 48 w
  have H0 := hid (And.intro hx (Below.refl wa.heap.size wa))
  clear hx
  have HW : Hid (inB m.ep 0 60 = true) := hid (by rw [inB, decide_eq_true h.h0, decide_eq_true h.h1]; rfl)
  have q1 := q_no (n := 1) hk (by decide); have q2 := q_no (n := 2) hk (by decide); have q3 := q_no (n := 3) hk (by decide); have q4 := q_no (n := 4) hk (by decide); have q5 := q_no (n := 5) hk (by decide); have q6 := q_no (n := 6) hk (by decide); have q7 := q_yes hk
  obtain ⟨A, eA⟩ : ∃ A, A = Value.agg (msA m a13 a14 a15 a16 c13 c14 c15 c16).toArray := ⟨_, rfl⟩
  have HT1 := hid ((tOnly129 h t1).up hw0)
  rw [← eA] at HT1
  have HT2 := hid ((tChg10 h t2).up hw0)
  rw [← eA] at HT2
  have HAg := hid eA
  have HW0 := hid hw0
  clear t1 t2 h hk hw0
  unfold Fit msA
  simp only [msA] at HA eA
  replace HA := hid HA
  go_enter Tryz.func65, Tryz.ntmps65
  try simp only [List.append]
  go_upto_region 1 with fail
  rw [HA.out]
  obtain ⟨y0, y1, y2, y3, y4, y5, y6, y7, y8, y9, y10, y11, y12, y13, y14, y15, y16⟩ := msA_at H0.out.1
  rw [← eA]
  clear eA
  go_wp2_with (first
    | (have := H1; go_at_call 109; refine (HT2.out _ H1.out.2).mono ?_; rintro e w2 ⟨rfl, hb⟩; have H2 := hid (bx_next H1.out hb); clear hb y0 y1 y2 y3 y4 y5 y6 y7 y8 y9 y10 y11 y12 y13 y14 y15 y16; obtain ⟨y0, y1, y2, y3, y4, y5, y6, y7, y8, y9, y10, y11, y12, y13, y14, y15, y16⟩ := msA_at H2.out.1)
    | (have := H1; refine wl_loadB rfl 48 _ rfl w.heap.size 0 rfl (msA m a13 a14 a15 a16 c13 c14 c15 c16) 48 H1.out.1 _ Tryz.underlying48 rfl (by kernel_rfl) A HAg.out rfl ?_)
    | (have := H0; go_at_call 101; refine (HT1.out _ H0.out.2).mono ?_; rintro e w1 ⟨rfl, hb⟩; have H1 := hid (bx_next H0.out hb); clear hb y0 y1 y2 y3 y4 y5 y6 y7 y8 y9 y10 y11 y12 y13 y14 y15 y16; obtain ⟨y0, y1, y2, y3, y4, y5, y6, y7, y8, y9, y10, y11, y12, y13, y14, y15, y16⟩ := msA_at H1.out.1)
    | (have := H0; refine wl_loadB rfl 48 _ rfl w.heap.size 0 rfl (msA m a13 a14 a15 a16 c13 c14 c15 c16) 48 H0.out.1 _ Tryz.underlying48 rfl (by kernel_rfl) A HAg.out rfl ?_)
    | (go_at_call 100; refine (iwithin_any _ _ _ _).mono ?_; rintro e w1 ⟨rfl, hw⟩; rw [HW.out]; replace hw := hw.symm; subst hw))
  go_ret
  exact ⟨by simp, HW0.out.trans (H2.out.2.mono HW0.out.size)⟩
set_option maxRecDepth 100000 in
set_option maxHeartbeats 6400000 in
theorem ifits_7_2 {F : Nat → Prop} {w : World} {m : Ms} {a13 a14 a15 a16 : Option Addr} {c13 c14 c15 c16 : Nat} (h : Fx F w m a13 a14 a15 a16 c13 c14 c15 c16) (hk : m.k = 7) (t1 : (onlyB m { v := true, c := true }) = true) (t2 : (cgsB m.ep m.v m.cg 10) = true) : Fit w m a13 a14 a15 a16 c13 c14 c15 c16 true := by
  obtain ⟨wa, HA, hw0, hx⟩ := msA_new m a13 a14 a15 a16 c13 c14 c15 c16 48 w
  have H0 := hid (And.intro hx (Below.refl wa.heap.size wa))
  clear hx
  have HW : Hid (inB m.ep 0 60 = true) := hid (by rw [inB, decide_eq_true h.h0, decide_eq_true h.h1]; rfl)
  have q1 := q_no (n := 1) hk (by decide); have q2 := q_no (n := 2) hk (by decide); have q3 := q_no (n := 3) hk (by decide); have q4 := q_no (n := 4) hk (by decide); have q5 := q_no (n := 5) hk (by decide); have q6 := q_no (n := 6) hk (by decide); have q7 := q_yes hk
  obtain ⟨A, eA⟩ : ∃ A, A = Value.agg (msA m a13 a14 a15 a16 c13 c14 c15 c16).toArray := ⟨_, rfl⟩
  have HT1 := hid ((tOnly129 h t1).up hw0)
  rw [← eA] at HT1
  have HT2 := hid ((tChg10 h t2).up hw0)
  rw [← eA] at HT2
  have HAg := hid eA
  have HW0 := hid hw0
  clear t1 t2 h hk hw0
  unfold Fit msA
  simp only [msA] at HA eA
  replace HA := hid HA
  go_enter Tryz.func65, Tryz.ntmps65
  try simp only [List.append]
  go_upto_region 1 with fail
  rw [HA.out]
  obtain ⟨y0, y1, y2, y3, y4, y5, y6, y7, y8, y9, y10, y11, y12, y13, y14, y15, y16⟩ := msA_at H0.out.1
  rw [← eA]
  clear eA
  go_wp2_with (first
    | (have := H1; go_at_call 109; refine (HT2.out _ H1.out.2).mono ?_; rintro e w2 ⟨rfl, hb⟩; have H2 := hid (bx_next H1.out hb); clear hb y0 y1 y2 y3 y4 y5 y6 y7 y8 y9 y10 y11 y12 y13 y14 y15 y16; obtain ⟨y0, y1, y2, y3, y4, y5, y6, y7, y8, y9, y10, y11, y12, y13, y14, y15, y16⟩ := msA_at H2.out.1)
    | (have := H1; refine wl_loadB rfl 48 _ rfl w.heap.size 0 rfl (msA m a13 a14 a15 a16 c13 c14 c15 c16) 48 H1.out.1 _ Tryz.underlying48 rfl (by kernel_rfl) A HAg.out rfl ?_)
    | (have := H0; go_at_call 101; refine (HT1.out _ H0.out.2).mono ?_; rintro e w1 ⟨rfl, hb⟩; have H1 := hid (bx_next H0.out hb); clear hb y0 y1 y2 y3 y4 y5 y6 y7 y8 y9 y10 y11 y12 y13 y14 y15 y16; obtain ⟨y0, y1, y2, y3, y4, y5, y6, y7, y8, y9, y10, y11, y12, y13, y14, y15, y16⟩ := msA_at H1.out.1)
    | (have := H0; refine wl_loadB rfl 48 _ rfl w.heap.size 0 rfl (msA m a13 a14 a15 a16 c13 c14 c15 c16) 48 H0.out.1 _ Tryz.underlying48 rfl (by kernel_rfl) A HAg.out rfl ?_)
    | (go_at_call 100; refine (iwithin_any _ _ _ _).mono ?_; rintro e w1 ⟨rfl, hw⟩; rw [HW.out]; replace hw := hw.symm; subst hw))
  go_ret
  exact ⟨by simp, HW0.out.trans (H2.out.2.mono HW0.out.size)⟩
theorem ifits_7 {F : Nat → Prop} {w : World} {m : Ms} {a13 a14 a15 a16 : Option Addr} {c13 c14 c15 c16 : Nat} (h : Fx F w m a13 a14 a15 a16 c13 c14 c15 c16) (hk : m.k = 7) : Fit w m a13 a14 a15 a16 c13 c14 c15 c16 (kindB m) := by
  have hV : kindB m = ((onlyB m { v := true, c := true }) && ((cgsB m.ep m.v m.cg 10))) := by
    unfold kindB
    rw [if_neg (by rw [hk]; decide)]; rw [if_neg (by rw [hk]; decide)]; rw [if_neg (by rw [hk]; decide)]; rw [if_neg (by rw [hk]; decide)]; rw [if_neg (by rw [hk]; decide)]; rw [if_neg (by rw [hk]; decide)]; rw [if_pos hk]
  cases t1 : (onlyB m { v := true, c := true }) with
  | false =>
   rw [show kindB m = false by rw [hV, t1] <;> rfl]
   exact ifits_7_0 h hk t1
  | true =>
   cases t2 : (cgsB m.ep m.v m.cg 10) with
   | false =>
    rw [show kindB m = false by rw [hV, t1, t2] <;> rfl]
    exact ifits_7_1 h hk t1 t2
   | true =>
    rw [show kindB m = true by rw [hV, t1, t2] <;> rfl]
    exact ifits_7_2 h hk t1 t2
set_option maxRecDepth 100000 in
set_option maxHeartbeats 6400000 in
theorem ifits_9_0 {F : Nat → Prop} {w : World} {m : Ms} {a13 a14 a15 a16 : Option Addr} {c13 c14 c15 c16 : Nat} (h : Fx F w m a13 a14 a15 a16 c13 c14 c15 c16) (hk : m.k = 9) (t1 : (onlyB m {}) = false) : Fit w m a13 a14 a15 a16 c13 c14 c15 c16 false := by
  obtain ⟨wa, HA, hw0, hx⟩ := msA_new m a13 a14 a15 a16 c13 c14 c15 c16 48 w
  have H0 := hid (And.intro hx (Below.refl wa.heap.size wa))
  clear hx
  have HW : Hid (inB m.ep 0 60 = true) := hid (by rw [inB, decide_eq_true h.h0, decide_eq_true h.h1]; rfl)
  have q1 := q_no (n := 1) hk (by decide); have q2 := q_no (n := 2) hk (by decide); have q3 := q_no (n := 3) hk (by decide); have q4 := q_no (n := 4) hk (by decide); have q5 := q_no (n := 5) hk (by decide); have q6 := q_no (n := 6) hk (by decide); have q7 := q_no (n := 7) hk (by decide); have q8 := q_no (n := 8) hk (by decide); have q9 := q_yes hk
  obtain ⟨A, eA⟩ : ∃ A, A = Value.agg (msA m a13 a14 a15 a16 c13 c14 c15 c16).toArray := ⟨_, rfl⟩
  have HT1 := hid ((tOnly0 h t1).up hw0)
  rw [← eA] at HT1
  have HAg := hid eA
  have HW0 := hid hw0
  clear t1 h hk hw0
  unfold Fit msA
  simp only [msA] at HA eA
  replace HA := hid HA
  go_enter Tryz.func65, Tryz.ntmps65
  try simp only [List.append]
  go_upto_region 1 with fail
  rw [HA.out]
  obtain ⟨y0, y1, y2, y3, y4, y5, y6, y7, y8, y9, y10, y11, y12, y13, y14, y15, y16⟩ := msA_at H0.out.1
  rw [← eA]
  clear eA
  go_wp2_with (first
    | (have := H0; go_at_call 101; refine (HT1.out _ H0.out.2).mono ?_; rintro e w1 ⟨rfl, hb⟩; have H1 := hid (bx_next H0.out hb); clear hb y0 y1 y2 y3 y4 y5 y6 y7 y8 y9 y10 y11 y12 y13 y14 y15 y16; obtain ⟨y0, y1, y2, y3, y4, y5, y6, y7, y8, y9, y10, y11, y12, y13, y14, y15, y16⟩ := msA_at H1.out.1)
    | (have := H0; refine wl_loadB rfl 48 _ rfl w.heap.size 0 rfl (msA m a13 a14 a15 a16 c13 c14 c15 c16) 48 H0.out.1 _ Tryz.underlying48 rfl (by kernel_rfl) A HAg.out rfl ?_)
    | (go_at_call 100; refine (iwithin_any _ _ _ _).mono ?_; rintro e w1 ⟨rfl, hw⟩; rw [HW.out]; replace hw := hw.symm; subst hw))
  go_ret
  exact ⟨by simp, HW0.out.trans (H1.out.2.mono HW0.out.size)⟩
set_option maxRecDepth 100000 in
set_option maxHeartbeats 6400000 in
theorem ifits_9_1 {F : Nat → Prop} {w : World} {m : Ms} {a13 a14 a15 a16 : Option Addr} {c13 c14 c15 c16 : Nat} (h : Fx F w m a13 a14 a15 a16 c13 c14 c15 c16) (hk : m.k = 9) (t1 : (onlyB m {}) = true) : Fit w m a13 a14 a15 a16 c13 c14 c15 c16 true := by
  obtain ⟨wa, HA, hw0, hx⟩ := msA_new m a13 a14 a15 a16 c13 c14 c15 c16 48 w
  have H0 := hid (And.intro hx (Below.refl wa.heap.size wa))
  clear hx
  have HW : Hid (inB m.ep 0 60 = true) := hid (by rw [inB, decide_eq_true h.h0, decide_eq_true h.h1]; rfl)
  have q1 := q_no (n := 1) hk (by decide); have q2 := q_no (n := 2) hk (by decide); have q3 := q_no (n := 3) hk (by decide); have q4 := q_no (n := 4) hk (by decide); have q5 := q_no (n := 5) hk (by decide); have q6 := q_no (n := 6) hk (by decide); have q7 := q_no (n := 7) hk (by decide); have q8 := q_no (n := 8) hk (by decide); have q9 := q_yes hk
  obtain ⟨A, eA⟩ : ∃ A, A = Value.agg (msA m a13 a14 a15 a16 c13 c14 c15 c16).toArray := ⟨_, rfl⟩
  have HT1 := hid ((tOnly0 h t1).up hw0)
  rw [← eA] at HT1
  have HAg := hid eA
  have HW0 := hid hw0
  clear t1 h hk hw0
  unfold Fit msA
  simp only [msA] at HA eA
  replace HA := hid HA
  go_enter Tryz.func65, Tryz.ntmps65
  try simp only [List.append]
  go_upto_region 1 with fail
  rw [HA.out]
  obtain ⟨y0, y1, y2, y3, y4, y5, y6, y7, y8, y9, y10, y11, y12, y13, y14, y15, y16⟩ := msA_at H0.out.1
  rw [← eA]
  clear eA
  go_wp2_with (first
    | (have := H0; go_at_call 101; refine (HT1.out _ H0.out.2).mono ?_; rintro e w1 ⟨rfl, hb⟩; have H1 := hid (bx_next H0.out hb); clear hb y0 y1 y2 y3 y4 y5 y6 y7 y8 y9 y10 y11 y12 y13 y14 y15 y16; obtain ⟨y0, y1, y2, y3, y4, y5, y6, y7, y8, y9, y10, y11, y12, y13, y14, y15, y16⟩ := msA_at H1.out.1)
    | (have := H0; refine wl_loadB rfl 48 _ rfl w.heap.size 0 rfl (msA m a13 a14 a15 a16 c13 c14 c15 c16) 48 H0.out.1 _ Tryz.underlying48 rfl (by kernel_rfl) A HAg.out rfl ?_)
    | (go_at_call 100; refine (iwithin_any _ _ _ _).mono ?_; rintro e w1 ⟨rfl, hw⟩; rw [HW.out]; replace hw := hw.symm; subst hw))
  go_ret
  exact ⟨by simp, HW0.out.trans (H1.out.2.mono HW0.out.size)⟩
theorem ifits_9 {F : Nat → Prop} {w : World} {m : Ms} {a13 a14 a15 a16 : Option Addr} {c13 c14 c15 c16 : Nat} (h : Fx F w m a13 a14 a15 a16 c13 c14 c15 c16) (hk : m.k = 9) : Fit w m a13 a14 a15 a16 c13 c14 c15 c16 (kindB m) := by
  have hV : kindB m = ((onlyB m {})) := by
    unfold kindB
    rw [if_neg (by rw [hk]; decide)]; rw [if_neg (by rw [hk]; decide)]; rw [if_neg (by rw [hk]; decide)]; rw [if_neg (by rw [hk]; decide)]; rw [if_neg (by rw [hk]; decide)]; rw [if_neg (by rw [hk]; decide)]; rw [if_neg (by rw [hk]; decide)]; rw [if_neg (by rw [hk]; decide)]; rw [if_pos hk]
  cases t1 : (onlyB m {}) with
  | false =>
   rw [show kindB m = false by rw [hV, t1] <;> rfl]
   exact ifits_9_0 h hk t1
  | true =>
   rw [show kindB m = true by rw [hV, t1] <;> rfl]
   exact ifits_9_1 h hk t1
end Go.Proofs.YtgmekkgbobmplaaGreat

/- The program's test of messages, kind by kind. -/
namespace Go.Proofs.YtgmekkgbobmplaaGreat
open Go.RowKit
set_option maxRecDepth 100000 in
set_option maxHeartbeats 6400000 in
theorem ifits_4_0 {F : Nat → Prop} {w : World} {m : Ms} {a13 a14 a15 a16 : Option Addr} {c13 c14 c15 c16 : Nat} (h : Fx F w m a13 a14 a15 a16 c13 c14 c15 c16) (hk : m.k = 4) (t1 : (onlyB m { v := true, s := true, r := true }) = false) : Fit w m a13 a14 a15 a16 c13 c14 c15 c16 false := by
  obtain ⟨wa, HA, hw0, hx⟩ := msA_new m a13 a14 a15 a16 c13 c14 c15 c16 48 w
  have H0 := hid (And.intro hx (Below.refl wa.heap.size wa))
  clear hx
  have HW : Hid (inB m.ep 0 60 = true) := hid (by rw [inB, decide_eq_true h.h0, decide_eq_true h.h1]; rfl)
  have q1 := q_no (n := 1) hk (by decide); have q2 := q_no (n := 2) hk (by decide); have q3 := q_no (n := 3) hk (by decide); have q4 := q_yes hk
  obtain ⟨A, eA⟩ : ∃ A, A = Value.agg (msA m a13 a14 a15 a16 c13 c14 c15 c16).toArray := ⟨_, rfl⟩
  have HT1 := hid ((tOnly7 h t1).up hw0)
  rw [← eA] at HT1
  have HAg := hid eA
  have HW0 := hid hw0
  clear t1 h hk hw0
  unfold Fit msA
  simp only [msA] at HA eA
  replace HA := hid HA
  go_enter Tryz.func65, Tryz.ntmps65
  try simp only [List.append]
  go_upto_region 1 with fail
  rw [HA.out]
  obtain ⟨y0, y1, y2, y3, y4, y5, y6, y7, y8, y9, y10, y11, y12, y13, y14, y15, y16⟩ := msA_at H0.out.1
  rw [← eA]
  clear eA
  go_wp2_with (first
    | (have := H0; go_at_call 101; refine (HT1.out _ H0.out.2).mono ?_; rintro e w1 ⟨rfl, hb⟩; have H1 := hid (bx_next H0.out hb); clear hb y0 y1 y2 y3 y4 y5 y6 y7 y8 y9 y10 y11 y12 y13 y14 y15 y16; obtain ⟨y0, y1, y2, y3, y4, y5, y6, y7, y8, y9, y10, y11, y12, y13, y14, y15, y16⟩ := msA_at H1.out.1)
    | (have := H0; refine wl_loadB rfl 48 _ rfl w.heap.size 0 rfl (msA m a13 a14 a15 a16 c13 c14 c15 c16) 48 H0.out.1 _ Tryz.underlying48 rfl (by kernel_rfl) A HAg.out rfl ?_)
    | (go_at_call 100; refine (iwithin_any _ _ _ _).mono ?_; rintro e w1 ⟨rfl, hw⟩; rw [HW.out]; replace hw := hw.symm; subst hw))
  go_ret
  exact ⟨by simp, HW0.out.trans (H1.out.2.mono HW0.out.size)⟩
set_option maxRecDepth 100000 in
set_option maxHeartbeats 6400000 in
theorem ifits_4_1 {F : Nat → Prop} {w : World} {m : Ms} {a13 a14 a15 a16 : Option Addr} {c13 c14 c15 c16 : Nat} (h : Fx F w m a13 a14 a15 a16 c13 c14 c15 c16) (hk : m.k = 4) (t1 : (onlyB m { v := true, s := true, r := true }) = true) (t2 : (placeB m) = false) : Fit w m a13 a14 a15 a16 c13 c14 c15 c16 false := by
  obtain ⟨wa, HA, hw0, hx⟩ := msA_new m a13 a14 a15 a16 c13 c14 c15 c16 48 w
  have H0 := hid (And.intro hx (Below.refl wa.heap.size wa))
  clear hx
  have HW : Hid (inB m.ep 0 60 = true) := hid (by rw [inB, decide_eq_true h.h0, decide_eq_true h.h1]; rfl)
  have q1 := q_no (n := 1) hk (by decide); have q2 := q_no (n := 2) hk (by decide); have q3 := q_no (n := 3) hk (by decide); have q4 := q_yes hk
  obtain ⟨A, eA⟩ : ∃ A, A = Value.agg (msA m a13 a14 a15 a16 c13 c14 c15 c16).toArray := ⟨_, rfl⟩
  have HT1 := hid ((tOnly7 h t1).up hw0)
  rw [← eA] at HT1
  have HT2 := hid ((tPlaced h t2).up hw0)
  rw [← eA] at HT2
  have HAg := hid eA
  have HW0 := hid hw0
  clear t1 t2 h hk hw0
  unfold Fit msA
  simp only [msA] at HA eA
  replace HA := hid HA
  go_enter Tryz.func65, Tryz.ntmps65
  try simp only [List.append]
  go_upto_region 1 with fail
  rw [HA.out]
  obtain ⟨y0, y1, y2, y3, y4, y5, y6, y7, y8, y9, y10, y11, y12, y13, y14, y15, y16⟩ := msA_at H0.out.1
  rw [← eA]
  clear eA
  go_wp2_with (first
    | (have := H1; go_at_call 104; refine (HT2.out _ H1.out.2).mono ?_; rintro e w2 ⟨rfl, hb⟩; have H2 := hid (bx_next H1.out hb); clear hb y0 y1 y2 y3 y4 y5 y6 y7 y8 y9 y10 y11 y12 y13 y14 y15 y16; obtain ⟨y0, y1, y2, y3, y4, y5, y6, y7, y8, y9, y10, y11, y12, y13, y14, y15, y16⟩ := msA_at H2.out.1)
    | (have := H1; refine wl_loadB rfl 48 _ rfl w.heap.size 0 rfl (msA m a13 a14 a15 a16 c13 c14 c15 c16) 48 H1.out.1 _ Tryz.underlying48 rfl (by kernel_rfl) A HAg.out rfl ?_)
    | (have := H0; go_at_call 101; refine (HT1.out _ H0.out.2).mono ?_; rintro e w1 ⟨rfl, hb⟩; have H1 := hid (bx_next H0.out hb); clear hb y0 y1 y2 y3 y4 y5 y6 y7 y8 y9 y10 y11 y12 y13 y14 y15 y16; obtain ⟨y0, y1, y2, y3, y4, y5, y6, y7, y8, y9, y10, y11, y12, y13, y14, y15, y16⟩ := msA_at H1.out.1)
    | (have := H0; refine wl_loadB rfl 48 _ rfl w.heap.size 0 rfl (msA m a13 a14 a15 a16 c13 c14 c15 c16) 48 H0.out.1 _ Tryz.underlying48 rfl (by kernel_rfl) A HAg.out rfl ?_)
    | (go_at_call 100; refine (iwithin_any _ _ _ _).mono ?_; rintro e w1 ⟨rfl, hw⟩; rw [HW.out]; replace hw := hw.symm; subst hw))
  go_ret
  exact ⟨by simp, HW0.out.trans (H2.out.2.mono HW0.out.size)⟩
set_option maxRecDepth 100000 in
set_option maxHeartbeats 6400000 in
theorem ifits_4_2 {F : Nat → Prop} {w : World} {m : Ms} {a13 a14 a15 a16 : Option Addr} {c13 c14 c15 c16 : Nat} (h : Fx F w m a13 a14 a15 a16 c13 c14 c15 c16) (hk : m.k = 4) (t1 : (onlyB m { v := true, s := true, r := true }) = true) (t2 : (placeB m) = true) (t3 : (askB m.rq) = false) : Fit w m a13 a14 a15 a16 c13 c14 c15 c16 false := by
  obtain ⟨wa, HA, hw0, hx⟩ := msA_new m a13 a14 a15 a16 c13 c14 c15 c16 48 w
  have H0 := hid (And.intro hx (Below.refl wa.heap.size wa))
  clear hx
  have HW : Hid (inB m.ep 0 60 = true) := hid (by rw [inB, decide_eq_true h.h0, decide_eq_true h.h1]; rfl)
  have q1 := q_no (n := 1) hk (by decide); have q2 := q_no (n := 2) hk (by decide); have q3 := q_no (n := 3) hk (by decide); have q4 := q_yes hk
  obtain ⟨A, eA⟩ : ∃ A, A = Value.agg (msA m a13 a14 a15 a16 c13 c14 c15 c16).toArray := ⟨_, rfl⟩
  have HT1 := hid ((tOnly7 h t1).up hw0)
  rw [← eA] at HT1
  have HT2 := hid ((tPlaced h t2).up hw0)
  rw [← eA] at HT2
  have HT3 := hid ((tDeed h t3).up hw0)
  have HAg := hid eA
  have HW0 := hid hw0
  clear t1 t2 t3 h hk hw0
  unfold Fit msA
  simp only [msA] at HA eA
  replace HA := hid HA
  go_enter Tryz.func65, Tryz.ntmps65
  try simp only [List.append]
  go_upto_region 1 with fail
  rw [HA.out]
  obtain ⟨y0, y1, y2, y3, y4, y5, y6, y7, y8, y9, y10, y11, y12, y13, y14, y15, y16⟩ := msA_at H0.out.1
  rw [← eA]
  clear eA
  go_wp2_with (first
    | (have := H2; go_at_call 105; refine (HT3.out _ H2.out.2).mono ?_; rintro e w3 ⟨rfl, hb⟩; have H3 := hid (bx_next H2.out hb); clear hb y0 y1 y2 y3 y4 y5 y6 y7 y8 y9 y10 y11 y12 y13 y14 y15 y16; obtain ⟨y0, y1, y2, y3, y4, y5, y6, y7, y8, y9, y10, y11, y12, y13, y14, y15, y16⟩ := msA_at H3.out.1)
    | (have := H1; go_at_call 104; refine (HT2.out _ H1.out.2).mono ?_; rintro e w2 ⟨rfl, hb⟩; have H2 := hid (bx_next H1.out hb); clear hb y0 y1 y2 y3 y4 y5 y6 y7 y8 y9 y10 y11 y12 y13 y14 y15 y16; obtain ⟨y0, y1, y2, y3, y4, y5, y6, y7, y8, y9, y10, y11, y12, y13, y14, y15, y16⟩ := msA_at H2.out.1)
    | (have := H1; refine wl_loadB rfl 48 _ rfl w.heap.size 0 rfl (msA m a13 a14 a15 a16 c13 c14 c15 c16) 48 H1.out.1 _ Tryz.underlying48 rfl (by kernel_rfl) A HAg.out rfl ?_)
    | (have := H0; go_at_call 101; refine (HT1.out _ H0.out.2).mono ?_; rintro e w1 ⟨rfl, hb⟩; have H1 := hid (bx_next H0.out hb); clear hb y0 y1 y2 y3 y4 y5 y6 y7 y8 y9 y10 y11 y12 y13 y14 y15 y16; obtain ⟨y0, y1, y2, y3, y4, y5, y6, y7, y8, y9, y10, y11, y12, y13, y14, y15, y16⟩ := msA_at H1.out.1)
    | (have := H0; refine wl_loadB rfl 48 _ rfl w.heap.size 0 rfl (msA m a13 a14 a15 a16 c13 c14 c15 c16) 48 H0.out.1 _ Tryz.underlying48 rfl (by kernel_rfl) A HAg.out rfl ?_)
    | (go_at_call 100; refine (iwithin_any _ _ _ _).mono ?_; rintro e w1 ⟨rfl, hw⟩; rw [HW.out]; replace hw := hw.symm; subst hw))
  go_ret
  exact ⟨by simp, HW0.out.trans (H3.out.2.mono HW0.out.size)⟩
set_option maxRecDepth 100000 in
set_option maxHeartbeats 6400000 in
theorem ifits_4_3 {F : Nat → Prop} {w : World} {m : Ms} {a13 a14 a15 a16 : Option Addr} {c13 c14 c15 c16 : Nat} (h : Fx F w m a13 a14 a15 a16 c13 c14 c15 c16) (hk : m.k = 4) (t1 : (onlyB m { v := true, s := true, r := true }) = true) (t2 : (placeB m) = true) (t3 : (askB m.rq) = true) : Fit w m a13 a14 a15 a16 c13 c14 c15 c16 true := by
  obtain ⟨wa, HA, hw0, hx⟩ := msA_new m a13 a14 a15 a16 c13 c14 c15 c16 48 w
  have H0 := hid (And.intro hx (Below.refl wa.heap.size wa))
  clear hx
  have HW : Hid (inB m.ep 0 60 = true) := hid (by rw [inB, decide_eq_true h.h0, decide_eq_true h.h1]; rfl)
  have q1 := q_no (n := 1) hk (by decide); have q2 := q_no (n := 2) hk (by decide); have q3 := q_no (n := 3) hk (by decide); have q4 := q_yes hk
  obtain ⟨A, eA⟩ : ∃ A, A = Value.agg (msA m a13 a14 a15 a16 c13 c14 c15 c16).toArray := ⟨_, rfl⟩
  have HT1 := hid ((tOnly7 h t1).up hw0)
  rw [← eA] at HT1
  have HT2 := hid ((tPlaced h t2).up hw0)
  rw [← eA] at HT2
  have HT3 := hid ((tDeed h t3).up hw0)
  have HAg := hid eA
  have HW0 := hid hw0
  clear t1 t2 t3 h hk hw0
  unfold Fit msA
  simp only [msA] at HA eA
  replace HA := hid HA
  go_enter Tryz.func65, Tryz.ntmps65
  try simp only [List.append]
  go_upto_region 1 with fail
  rw [HA.out]
  obtain ⟨y0, y1, y2, y3, y4, y5, y6, y7, y8, y9, y10, y11, y12, y13, y14, y15, y16⟩ := msA_at H0.out.1
  rw [← eA]
  clear eA
  go_wp2_with (first
    | (have := H2; go_at_call 105; refine (HT3.out _ H2.out.2).mono ?_; rintro e w3 ⟨rfl, hb⟩; have H3 := hid (bx_next H2.out hb); clear hb y0 y1 y2 y3 y4 y5 y6 y7 y8 y9 y10 y11 y12 y13 y14 y15 y16; obtain ⟨y0, y1, y2, y3, y4, y5, y6, y7, y8, y9, y10, y11, y12, y13, y14, y15, y16⟩ := msA_at H3.out.1)
    | (have := H1; go_at_call 104; refine (HT2.out _ H1.out.2).mono ?_; rintro e w2 ⟨rfl, hb⟩; have H2 := hid (bx_next H1.out hb); clear hb y0 y1 y2 y3 y4 y5 y6 y7 y8 y9 y10 y11 y12 y13 y14 y15 y16; obtain ⟨y0, y1, y2, y3, y4, y5, y6, y7, y8, y9, y10, y11, y12, y13, y14, y15, y16⟩ := msA_at H2.out.1)
    | (have := H1; refine wl_loadB rfl 48 _ rfl w.heap.size 0 rfl (msA m a13 a14 a15 a16 c13 c14 c15 c16) 48 H1.out.1 _ Tryz.underlying48 rfl (by kernel_rfl) A HAg.out rfl ?_)
    | (have := H0; go_at_call 101; refine (HT1.out _ H0.out.2).mono ?_; rintro e w1 ⟨rfl, hb⟩; have H1 := hid (bx_next H0.out hb); clear hb y0 y1 y2 y3 y4 y5 y6 y7 y8 y9 y10 y11 y12 y13 y14 y15 y16; obtain ⟨y0, y1, y2, y3, y4, y5, y6, y7, y8, y9, y10, y11, y12, y13, y14, y15, y16⟩ := msA_at H1.out.1)
    | (have := H0; refine wl_loadB rfl 48 _ rfl w.heap.size 0 rfl (msA m a13 a14 a15 a16 c13 c14 c15 c16) 48 H0.out.1 _ Tryz.underlying48 rfl (by kernel_rfl) A HAg.out rfl ?_)
    | (go_at_call 100; refine (iwithin_any _ _ _ _).mono ?_; rintro e w1 ⟨rfl, hw⟩; rw [HW.out]; replace hw := hw.symm; subst hw))
  go_ret
  exact ⟨by simp, HW0.out.trans (H3.out.2.mono HW0.out.size)⟩
theorem ifits_4 {F : Nat → Prop} {w : World} {m : Ms} {a13 a14 a15 a16 : Option Addr} {c13 c14 c15 c16 : Nat} (h : Fx F w m a13 a14 a15 a16 c13 c14 c15 c16) (hk : m.k = 4) : Fit w m a13 a14 a15 a16 c13 c14 c15 c16 (kindB m) := by
  have hV : kindB m = ((onlyB m { v := true, s := true, r := true }) && ((placeB m) && ((askB m.rq)))) := by
    unfold kindB
    rw [if_neg (by rw [hk]; decide)]; rw [if_neg (by rw [hk]; decide)]; rw [if_neg (by rw [hk]; decide)]; rw [if_pos hk]
  cases t1 : (onlyB m { v := true, s := true, r := true }) with
  | false =>
   rw [show kindB m = false by rw [hV, t1] <;> rfl]
   exact ifits_4_0 h hk t1
  | true =>
   cases t2 : (placeB m) with
   | false =>
    rw [show kindB m = false by rw [hV, t1, t2] <;> rfl]
    exact ifits_4_1 h hk t1 t2
   | true =>
    cases t3 : (askB m.rq) with
    | false =>
     rw [show kindB m = false by rw [hV, t1, t2, t3] <;> rfl]
     exact ifits_4_2 h hk t1 t2 t3
    | true =>
     rw [show kindB m = true by rw [hV, t1, t2, t3] <;> rfl]
     exact ifits_4_3 h hk t1 t2 t3
set_option maxRecDepth 100000 in
set_option maxHeartbeats 6400000 in
theorem ifits_8_0 {F : Nat → Prop} {w : World} {m : Ms} {a13 a14 a15 a16 : Option Addr} {c13 c14 c15 c16 : Nat} (h : Fx F w m a13 a14 a15 a16 c13 c14 c15 c16) (hk : m.k = 8) (t1 : (onlyB m { r := true, x := true }) = false) : Fit w m a13 a14 a15 a16 c13 c14 c15 c16 false := by
  obtain ⟨wa, HA, hw0, hx⟩ := msA_new m a13 a14 a15 a16 c13 c14 c15 c16 48 w
  have H0 := hid (And.intro hx (Below.refl wa.heap.size wa))
  clear hx
  have HW : Hid (inB m.ep 0 60 = true) := hid (by rw [inB, decide_eq_true h.h0, decide_eq_true h.h1]; rfl)
  have q1 := q_no (n := 1) hk (by decide); have q2 := q_no (n := 2) hk (by decide); have q3 := q_no (n := 3) hk (by decide); have q4 := q_no (n := 4) hk (by decide); have q5 := q_no (n := 5) hk (by decide); have q6 := q_no (n := 6) hk (by decide); have q7 := q_no (n := 7) hk (by decide); have q8 := q_yes hk
  obtain ⟨A, eA⟩ : ∃ A, A = Value.agg (msA m a13 a14 a15 a16 c13 c14 c15 c16).toArray := ⟨_, rfl⟩
  have HT1 := hid ((tOnly12 h t1).up hw0)
  rw [← eA] at HT1
  have HAg := hid eA
  have HW0 := hid hw0
  clear t1 h hk hw0
  unfold Fit msA
  simp only [msA] at HA eA
  replace HA := hid HA
  go_enter Tryz.func65, Tryz.ntmps65
  try simp only [List.append]
  go_upto_region 1 with fail
  rw [HA.out]
  obtain ⟨y0, y1, y2, y3, y4, y5, y6, y7, y8, y9, y10, y11, y12, y13, y14, y15, y16⟩ := msA_at H0.out.1
  rw [← eA]
  clear eA
  go_wp2_with (first
    | (have := H0; go_at_call 101; refine (HT1.out _ H0.out.2).mono ?_; rintro e w1 ⟨rfl, hb⟩; have H1 := hid (bx_next H0.out hb); clear hb y0 y1 y2 y3 y4 y5 y6 y7 y8 y9 y10 y11 y12 y13 y14 y15 y16; obtain ⟨y0, y1, y2, y3, y4, y5, y6, y7, y8, y9, y10, y11, y12, y13, y14, y15, y16⟩ := msA_at H1.out.1)
    | (have := H0; refine wl_loadB rfl 48 _ rfl w.heap.size 0 rfl (msA m a13 a14 a15 a16 c13 c14 c15 c16) 48 H0.out.1 _ Tryz.underlying48 rfl (by kernel_rfl) A HAg.out rfl ?_)
    | (go_at_call 100; refine (iwithin_any _ _ _ _).mono ?_; rintro e w1 ⟨rfl, hw⟩; rw [HW.out]; replace hw := hw.symm; subst hw))
  go_ret
  exact ⟨by simp, HW0.out.trans (H1.out.2.mono HW0.out.size)⟩
set_option maxRecDepth 100000 in
set_option maxHeartbeats 6400000 in
theorem ifits_8_1 {F : Nat → Prop} {w : World} {m : Ms} {a13 a14 a15 a16 : Option Addr} {c13 c14 c15 c16 : Nat} (h : Fx F w m a13 a14 a15 a16 c13 c14 c15 c16) (hk : m.k = 8) (t1 : (onlyB m { r := true, x := true }) = true) (t2 : (rightB m.rq) = false) : Fit w m a13 a14 a15 a16 c13 c14 c15 c16 false := by
  obtain ⟨wa, HA, hw0, hx⟩ := msA_new m a13 a14 a15 a16 c13 c14 c15 c16 48 w
  have H0 := hid (And.intro hx (Below.refl wa.heap.size wa))
  clear hx
  have HW : Hid (inB m.ep 0 60 = true) := hid (by rw [inB, decide_eq_true h.h0, decide_eq_true h.h1]; rfl)
  have q1 := q_no (n := 1) hk (by decide); have q2 := q_no (n := 2) hk (by decide); have q3 := q_no (n := 3) hk (by decide); have q4 := q_no (n := 4) hk (by decide); have q5 := q_no (n := 5) hk (by decide); have q6 := q_no (n := 6) hk (by decide); have q7 := q_no (n := 7) hk (by decide); have q8 := q_yes hk
  obtain ⟨A, eA⟩ : ∃ A, A = Value.agg (msA m a13 a14 a15 a16 c13 c14 c15 c16).toArray := ⟨_, rfl⟩
  have HT1 := hid ((tOnly12 h t1).up hw0)
  rw [← eA] at HT1
  have HT2 := hid ((tRight h t2).up hw0)
  have HAg := hid eA
  have HW0 := hid hw0
  clear t1 t2 h hk hw0
  unfold Fit msA
  simp only [msA] at HA eA
  replace HA := hid HA
  go_enter Tryz.func65, Tryz.ntmps65
  try simp only [List.append]
  go_upto_region 1 with fail
  rw [HA.out]
  obtain ⟨y0, y1, y2, y3, y4, y5, y6, y7, y8, y9, y10, y11, y12, y13, y14, y15, y16⟩ := msA_at H0.out.1
  rw [← eA]
  clear eA
  go_wp2_with (first
    | (have := H1; go_at_call 102; refine (HT2.out _ H1.out.2).mono ?_; rintro e w2 ⟨rfl, hb⟩; have H2 := hid (bx_next H1.out hb); clear hb y0 y1 y2 y3 y4 y5 y6 y7 y8 y9 y10 y11 y12 y13 y14 y15 y16; obtain ⟨y0, y1, y2, y3, y4, y5, y6, y7, y8, y9, y10, y11, y12, y13, y14, y15, y16⟩ := msA_at H2.out.1)
    | (have := H0; go_at_call 101; refine (HT1.out _ H0.out.2).mono ?_; rintro e w1 ⟨rfl, hb⟩; have H1 := hid (bx_next H0.out hb); clear hb y0 y1 y2 y3 y4 y5 y6 y7 y8 y9 y10 y11 y12 y13 y14 y15 y16; obtain ⟨y0, y1, y2, y3, y4, y5, y6, y7, y8, y9, y10, y11, y12, y13, y14, y15, y16⟩ := msA_at H1.out.1)
    | (have := H0; refine wl_loadB rfl 48 _ rfl w.heap.size 0 rfl (msA m a13 a14 a15 a16 c13 c14 c15 c16) 48 H0.out.1 _ Tryz.underlying48 rfl (by kernel_rfl) A HAg.out rfl ?_)
    | (go_at_call 100; refine (iwithin_any _ _ _ _).mono ?_; rintro e w1 ⟨rfl, hw⟩; rw [HW.out]; replace hw := hw.symm; subst hw))
  go_ret
  exact ⟨by simp, HW0.out.trans (H2.out.2.mono HW0.out.size)⟩
set_option maxRecDepth 100000 in
set_option maxHeartbeats 6400000 in
theorem ifits_8_2 {F : Nat → Prop} {w : World} {m : Ms} {a13 a14 a15 a16 : Option Addr} {c13 c14 c15 c16 : Nat} (h : Fx F w m a13 a14 a15 a16 c13 c14 c15 c16) (hk : m.k = 8) (t1 : (onlyB m { r := true, x := true }) = true) (t2 : (rightB m.rq) = true) (t3 : (rsB m.rs.1) = false) : Fit w m a13 a14 a15 a16 c13 c14 c15 c16 false := by
  obtain ⟨wa, HA, hw0, hx⟩ := msA_new m a13 a14 a15 a16 c13 c14 c15 c16 48 w
  have H0 := hid (And.intro hx (Below.refl wa.heap.size wa))
  clear hx
  have HW : Hid (inB m.ep 0 60 = true) := hid (by rw [inB, decide_eq_true h.h0, decide_eq_true h.h1]; rfl)
  have q1 := q_no (n := 1) hk (by decide); have q2 := q_no (n := 2) hk (by decide); have q3 := q_no (n := 3) hk (by decide); have q4 := q_no (n := 4) hk (by decide); have q5 := q_no (n := 5) hk (by decide); have q6 := q_no (n := 6) hk (by decide); have q7 := q_no (n := 7) hk (by decide); have q8 := q_yes hk
  obtain ⟨A, eA⟩ : ∃ A, A = Value.agg (msA m a13 a14 a15 a16 c13 c14 c15 c16).toArray := ⟨_, rfl⟩
  have HT1 := hid ((tOnly12 h t1).up hw0)
  rw [← eA] at HT1
  have HT2 := hid ((tRight h t2).up hw0)
  have HT3 := hid ((tRes h t3).up hw0)
  have HAg := hid eA
  have HW0 := hid hw0
  clear t1 t2 t3 h hk hw0
  unfold Fit msA
  simp only [msA] at HA eA
  replace HA := hid HA
  go_enter Tryz.func65, Tryz.ntmps65
  try simp only [List.append]
  go_upto_region 1 with fail
  rw [HA.out]
  obtain ⟨y0, y1, y2, y3, y4, y5, y6, y7, y8, y9, y10, y11, y12, y13, y14, y15, y16⟩ := msA_at H0.out.1
  rw [← eA]
  clear eA
  go_wp2_with (first
    | (have := H2; go_at_call 110; refine (HT3.out _ H2.out.2).mono ?_; rintro e w3 ⟨rfl, hb⟩; have H3 := hid (bx_next H2.out hb); clear hb y0 y1 y2 y3 y4 y5 y6 y7 y8 y9 y10 y11 y12 y13 y14 y15 y16; obtain ⟨y0, y1, y2, y3, y4, y5, y6, y7, y8, y9, y10, y11, y12, y13, y14, y15, y16⟩ := msA_at H3.out.1)
    | (have := H1; go_at_call 102; refine (HT2.out _ H1.out.2).mono ?_; rintro e w2 ⟨rfl, hb⟩; have H2 := hid (bx_next H1.out hb); clear hb y0 y1 y2 y3 y4 y5 y6 y7 y8 y9 y10 y11 y12 y13 y14 y15 y16; obtain ⟨y0, y1, y2, y3, y4, y5, y6, y7, y8, y9, y10, y11, y12, y13, y14, y15, y16⟩ := msA_at H2.out.1)
    | (have := H0; go_at_call 101; refine (HT1.out _ H0.out.2).mono ?_; rintro e w1 ⟨rfl, hb⟩; have H1 := hid (bx_next H0.out hb); clear hb y0 y1 y2 y3 y4 y5 y6 y7 y8 y9 y10 y11 y12 y13 y14 y15 y16; obtain ⟨y0, y1, y2, y3, y4, y5, y6, y7, y8, y9, y10, y11, y12, y13, y14, y15, y16⟩ := msA_at H1.out.1)
    | (have := H0; refine wl_loadB rfl 48 _ rfl w.heap.size 0 rfl (msA m a13 a14 a15 a16 c13 c14 c15 c16) 48 H0.out.1 _ Tryz.underlying48 rfl (by kernel_rfl) A HAg.out rfl ?_)
    | (go_at_call 100; refine (iwithin_any _ _ _ _).mono ?_; rintro e w1 ⟨rfl, hw⟩; rw [HW.out]; replace hw := hw.symm; subst hw))
  go_ret
  exact ⟨by simp, HW0.out.trans (H3.out.2.mono HW0.out.size)⟩
set_option maxRecDepth 100000 in
set_option maxHeartbeats 6400000 in
theorem ifits_8_3 {F : Nat → Prop} {w : World} {m : Ms} {a13 a14 a15 a16 : Option Addr} {c13 c14 c15 c16 : Nat} (h : Fx F w m a13 a14 a15 a16 c13 c14 c15 c16) (hk : m.k = 8) (t1 : (onlyB m { r := true, x := true }) = true) (t2 : (rightB m.rq) = true) (t3 : (rsB m.rs.1) = true) : Fit w m a13 a14 a15 a16 c13 c14 c15 c16 true := by
  obtain ⟨wa, HA, hw0, hx⟩ := msA_new m a13 a14 a15 a16 c13 c14 c15 c16 48 w
  have H0 := hid (And.intro hx (Below.refl wa.heap.size wa))
  clear hx
  have HW : Hid (inB m.ep 0 60 = true) := hid (by rw [inB, decide_eq_true h.h0, decide_eq_true h.h1]; rfl)
  have q1 := q_no (n := 1) hk (by decide); have q2 := q_no (n := 2) hk (by decide); have q3 := q_no (n := 3) hk (by decide); have q4 := q_no (n := 4) hk (by decide); have q5 := q_no (n := 5) hk (by decide); have q6 := q_no (n := 6) hk (by decide); have q7 := q_no (n := 7) hk (by decide); have q8 := q_yes hk
  obtain ⟨A, eA⟩ : ∃ A, A = Value.agg (msA m a13 a14 a15 a16 c13 c14 c15 c16).toArray := ⟨_, rfl⟩
  have HT1 := hid ((tOnly12 h t1).up hw0)
  rw [← eA] at HT1
  have HT2 := hid ((tRight h t2).up hw0)
  have HT3 := hid ((tRes h t3).up hw0)
  have HAg := hid eA
  have HW0 := hid hw0
  clear t1 t2 t3 h hk hw0
  unfold Fit msA
  simp only [msA] at HA eA
  replace HA := hid HA
  go_enter Tryz.func65, Tryz.ntmps65
  try simp only [List.append]
  go_upto_region 1 with fail
  rw [HA.out]
  obtain ⟨y0, y1, y2, y3, y4, y5, y6, y7, y8, y9, y10, y11, y12, y13, y14, y15, y16⟩ := msA_at H0.out.1
  rw [← eA]
  clear eA
  go_wp2_with (first
    | (have := H2; go_at_call 110; refine (HT3.out _ H2.out.2).mono ?_; rintro e w3 ⟨rfl, hb⟩; have H3 := hid (bx_next H2.out hb); clear hb y0 y1 y2 y3 y4 y5 y6 y7 y8 y9 y10 y11 y12 y13 y14 y15 y16; obtain ⟨y0, y1, y2, y3, y4, y5, y6, y7, y8, y9, y10, y11, y12, y13, y14, y15, y16⟩ := msA_at H3.out.1)
    | (have := H1; go_at_call 102; refine (HT2.out _ H1.out.2).mono ?_; rintro e w2 ⟨rfl, hb⟩; have H2 := hid (bx_next H1.out hb); clear hb y0 y1 y2 y3 y4 y5 y6 y7 y8 y9 y10 y11 y12 y13 y14 y15 y16; obtain ⟨y0, y1, y2, y3, y4, y5, y6, y7, y8, y9, y10, y11, y12, y13, y14, y15, y16⟩ := msA_at H2.out.1)
    | (have := H0; go_at_call 101; refine (HT1.out _ H0.out.2).mono ?_; rintro e w1 ⟨rfl, hb⟩; have H1 := hid (bx_next H0.out hb); clear hb y0 y1 y2 y3 y4 y5 y6 y7 y8 y9 y10 y11 y12 y13 y14 y15 y16; obtain ⟨y0, y1, y2, y3, y4, y5, y6, y7, y8, y9, y10, y11, y12, y13, y14, y15, y16⟩ := msA_at H1.out.1)
    | (have := H0; refine wl_loadB rfl 48 _ rfl w.heap.size 0 rfl (msA m a13 a14 a15 a16 c13 c14 c15 c16) 48 H0.out.1 _ Tryz.underlying48 rfl (by kernel_rfl) A HAg.out rfl ?_)
    | (go_at_call 100; refine (iwithin_any _ _ _ _).mono ?_; rintro e w1 ⟨rfl, hw⟩; rw [HW.out]; replace hw := hw.symm; subst hw))
  go_ret
  exact ⟨by simp, HW0.out.trans (H3.out.2.mono HW0.out.size)⟩
theorem ifits_8 {F : Nat → Prop} {w : World} {m : Ms} {a13 a14 a15 a16 : Option Addr} {c13 c14 c15 c16 : Nat} (h : Fx F w m a13 a14 a15 a16 c13 c14 c15 c16) (hk : m.k = 8) : Fit w m a13 a14 a15 a16 c13 c14 c15 c16 (kindB m) := by
  have hV : kindB m = ((onlyB m { r := true, x := true }) && ((rightB m.rq) && ((rsB m.rs.1)))) := by
    unfold kindB
    rw [if_neg (by rw [hk]; decide)]; rw [if_neg (by rw [hk]; decide)]; rw [if_neg (by rw [hk]; decide)]; rw [if_neg (by rw [hk]; decide)]; rw [if_neg (by rw [hk]; decide)]; rw [if_neg (by rw [hk]; decide)]; rw [if_neg (by rw [hk]; decide)]; rw [if_pos hk]
  cases t1 : (onlyB m { r := true, x := true }) with
  | false =>
   rw [show kindB m = false by rw [hV, t1] <;> rfl]
   exact ifits_8_0 h hk t1
  | true =>
   cases t2 : (rightB m.rq) with
   | false =>
    rw [show kindB m = false by rw [hV, t1, t2] <;> rfl]
    exact ifits_8_1 h hk t1 t2
   | true =>
    cases t3 : (rsB m.rs.1) with
    | false =>
     rw [show kindB m = false by rw [hV, t1, t2, t3] <;> rfl]
     exact ifits_8_2 h hk t1 t2 t3
    | true =>
     rw [show kindB m = true by rw [hV, t1, t2, t3] <;> rfl]
     exact ifits_8_3 h hk t1 t2 t3
end Go.Proofs.YtgmekkgbobmplaaGreat

/- The program's test of messages: those of no kind, of no epoch. -/
namespace Go.Proofs.YtgmekkgbobmplaaGreat
open Go.RowKit
set_option maxRecDepth 100000 in
theorem ifits_no (m : Ms) (h : inB m.ep 0 60 = false) (v13 v14 v15 v16 : Value) (w : World) :
    Calls Tryz.prog 65 #[.agg #[.int .i64 m.k, .int .i64 m.ep, .int .i64 m.v, .int .i64 m.sl, .int .i64 m.rq.c, .int .i64 m.rq.st, .int .i64 m.rq.k, .string m.rq.key, .float .f64 m.rq.b, .int .i64 m.rq.id, .int .i64 m.rs.1, .float .f64 m.rs.2, .string m.tx, v13, v14, v15, v16]] w fun e w' => e = .returned (.bool false) ∧ Below w.heap.size w w' := by
  have HW := hid h
  clear h
  have z1 : (w.alloc (.cells #[.int .i64 m.k, .int .i64 m.ep, .int .i64 m.v, .int .i64 m.sl, .int .i64 m.rq.c, .int .i64 m.rq.st, .int .i64 m.rq.k, .string m.rq.key, .float .f64 m.rq.b, .int .i64 m.rq.id, .int .i64 m.rs.1, .float .f64 m.rs.2, .string m.tx, v13, v14, v15, v16] 48)).cell? ⟨w.heap.size, 1, none⟩ = some (.int .i64 m.ep) := by
    exact BxAt.cell (L := [.int .i64 m.k, .int .i64 m.ep, .int .i64 m.v, .int .i64 m.sl, .int .i64 m.rq.c, .int .i64 m.rq.st, .int .i64 m.rq.k, .string m.rq.key, .float .f64 m.rq.b, .int .i64 m.rq.id, .int .i64 m.rs.1, .float .f64 m.rs.2, .string m.tx, v13, v14, v15, v16]) (heap_alloc_last w _) 1 _ rfl
  go_enter Tryz.func65, Tryz.ntmps65
  go_wp2_with (go_at_call 100; refine (iwithin_any _ _ _ _).mono ?_; rintro e w1 ⟨rfl, hw⟩; rw [HW.out]; replace hw := hw.symm; subst hw; clear z1)
  go_ret
  exact ⟨rfl, (Below.refl w.heap.size w).alloc (Nat.le_refl _) _⟩
set_option maxRecDepth 100000 in
set_option maxHeartbeats 1600000 in
theorem ifits_none (m : Ms) (h : inB m.ep 0 60 = true) (hk : inB m.k 1 10 = false) (v13 v14 v15 v16 : Value) (w : World) :
    Calls Tryz.prog 65 #[.agg #[.int .i64 m.k, .int .i64 m.ep, .int .i64 m.v, .int .i64 m.sl, .int .i64 m.rq.c, .int .i64 m.rq.st, .int .i64 m.rq.k, .string m.rq.key, .float .f64 m.rq.b, .int .i64 m.rq.id, .int .i64 m.rs.1, .float .f64 m.rs.2, .string m.tx, v13, v14, v15, v16]] w fun e w' => e = .returned (.bool false) ∧ Below w.heap.size w w' := by
  have HW := hid h
  have hn : ∀ z : Int, 1 ≤ z → z ≤ 10 → (m.k == z) = false := fun z h1 h2 => by
    rw [beq_eq_false_iff_ne]
    intro e
    rw [e, inB, decide_eq_true h1, decide_eq_true h2] at hk
    cases hk
  have q1 : (m.k == 1) = false := hn 1 (by decide) (by decide)
  have q2 : (m.k == 2) = false := hn 2 (by decide) (by decide)
  have q3 : (m.k == 3) = false := hn 3 (by decide) (by decide)
  have q4 : (m.k == 4) = false := hn 4 (by decide) (by decide)
  have q5 : (m.k == 5) = false := hn 5 (by decide) (by decide)
  have q6 : (m.k == 6) = false := hn 6 (by decide) (by decide)
  have q7 : (m.k == 7) = false := hn 7 (by decide) (by decide)
  have q8 : (m.k == 8) = false := hn 8 (by decide) (by decide)
  have q9 : (m.k == 9) = false := hn 9 (by decide) (by decide)
  have q10 : (m.k == 10) = false := hn 10 (by decide) (by decide)
  clear h hk hn
  have z1 : (w.alloc (.cells #[.int .i64 m.k, .int .i64 m.ep, .int .i64 m.v, .int .i64 m.sl, .int .i64 m.rq.c, .int .i64 m.rq.st, .int .i64 m.rq.k, .string m.rq.key, .float .f64 m.rq.b, .int .i64 m.rq.id, .int .i64 m.rs.1, .float .f64 m.rs.2, .string m.tx, v13, v14, v15, v16] 48)).cell? ⟨w.heap.size, 1, none⟩ = some (.int .i64 m.ep) := by
    exact BxAt.cell (L := [.int .i64 m.k, .int .i64 m.ep, .int .i64 m.v, .int .i64 m.sl, .int .i64 m.rq.c, .int .i64 m.rq.st, .int .i64 m.rq.k, .string m.rq.key, .float .f64 m.rq.b, .int .i64 m.rq.id, .int .i64 m.rs.1, .float .f64 m.rs.2, .string m.tx, v13, v14, v15, v16]) (heap_alloc_last w _) 1 _ rfl
  have z0 : (w.alloc (.cells #[.int .i64 m.k, .int .i64 m.ep, .int .i64 m.v, .int .i64 m.sl, .int .i64 m.rq.c, .int .i64 m.rq.st, .int .i64 m.rq.k, .string m.rq.key, .float .f64 m.rq.b, .int .i64 m.rq.id, .int .i64 m.rs.1, .float .f64 m.rs.2, .string m.tx, v13, v14, v15, v16] 48)).cell? ⟨w.heap.size, 0, none⟩ = some (.int .i64 m.k) := by
    exact BxAt.cell (L := [.int .i64 m.k, .int .i64 m.ep, .int .i64 m.v, .int .i64 m.sl, .int .i64 m.rq.c, .int .i64 m.rq.st, .int .i64 m.rq.k, .string m.rq.key, .float .f64 m.rq.b, .int .i64 m.rq.id, .int .i64 m.rs.1, .float .f64 m.rs.2, .string m.tx, v13, v14, v15, v16]) (heap_alloc_last w _) 0 _ rfl
  go_enter Tryz.func65, Tryz.ntmps65
  go_wp2_with (go_at_call 100; refine (iwithin_any _ _ _ _).mono ?_; rintro e w1 ⟨rfl, hw⟩; rw [HW.out]; replace hw := hw.symm; subst hw)
  go_ret
  exact ⟨rfl, (Below.refl w.heap.size w).alloc (Nat.le_refl _) _⟩
end Go.Proofs.YtgmekkgbobmplaaGreat
