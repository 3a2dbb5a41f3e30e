/- The program's test of messages, kind by kind. -/
import Derived.Test.YtfjcpghepkmbfaaWiNzM
namespace Go.Proofs.Ytfjcpghepkmbfaa
open Go.RowKit
set_option maxRecDepth 100000 in
set_option maxHeartbeats 6400000 in
theorem ifits_6_0 {F : Nat → Prop} {w : World} {m : Ms} {a13 a14 a15 a16 : Option Addr} {c13 c14 c15 c16 : Nat} (h : Fx F w m a13 a14 a15 a16 c13 c14 c15 c16) (hk : m.k = 6) (t1 : (onlyB m { v := true, c := true }) = false) : Fit w m a13 a14 a15 a16 c13 c14 c15 c16 false := by
  obtain ⟨wa, HA, hw0, hx⟩ := msA_new m a13 a14 a15 a16 c13 c14 c15 c16 34 w
  have H0 := hid (And.intro hx (Below.refl wa.heap.size wa))
  clear hx
  have HW : Hid (inB m.ep 0 60 = true) := hid (by rw [inB, decide_eq_true h.h0, decide_eq_true h.h1]; rfl)
  have q1 := q_no (n := 1) hk (by decide); have q2 := q_no (n := 2) hk (by decide); have q3 := q_no (n := 3) hk (by decide); have q4 := q_no (n := 4) hk (by decide); have q5 := q_no (n := 5) hk (by decide); have q6 := q_yes hk
  have HT1 := hid ((tOnly129 h t1).up hw0)
  have HW0 := hid hw0
  clear t1 h hk hw0
  unfold Fit msA
  simp only [msA] at HA
  replace HA := hid HA
  go_enter Try.func15, Try.ntmps15
  try simp only [List.append]
  go_upto_region 1 with fail
  rw [HA.out]
  obtain ⟨y0, y1, y2, y3, y4, y5, y6, y7, y8, y9, y10, y11, y12, y13, y14, y15, y16⟩ := msA_at H0.out.1
  go_wp2_with (first
    | (have := H0; go_at_call 27; refine (HT1.out _ H0.out.2).mono ?_; rintro e w1 ⟨rfl, hb⟩; have H1 := hid (bx_next H0.out hb); clear hb y0 y1 y2 y3 y4 y5 y6 y7 y8 y9 y10 y11 y12 y13 y14 y15 y16; obtain ⟨y0, y1, y2, y3, y4, y5, y6, y7, y8, y9, y10, y11, y12, y13, y14, y15, y16⟩ := msA_at H1.out.1)
    | (go_at_call 26; refine (iwithin_any _ _ _ _).mono ?_; rintro e w1 ⟨rfl, hw⟩; rw [HW.out]; replace hw := hw.symm; subst hw))
  go_ret
  exact ⟨by simp, HW0.out.trans (H1.out.2.mono HW0.out.size)⟩
set_option maxRecDepth 100000 in
set_option maxHeartbeats 6400000 in
theorem ifits_6_1 {F : Nat → Prop} {w : World} {m : Ms} {a13 a14 a15 a16 : Option Addr} {c13 c14 c15 c16 : Nat} (h : Fx F w m a13 a14 a15 a16 c13 c14 c15 c16) (hk : m.k = 6) (t1 : (onlyB m { v := true, c := true }) = true) (t2 : (cgsB m.ep m.v m.cg 1) = false) : Fit w m a13 a14 a15 a16 c13 c14 c15 c16 false := by
  obtain ⟨wa, HA, hw0, hx⟩ := msA_new m a13 a14 a15 a16 c13 c14 c15 c16 34 w
  have H0 := hid (And.intro hx (Below.refl wa.heap.size wa))
  clear hx
  have HW : Hid (inB m.ep 0 60 = true) := hid (by rw [inB, decide_eq_true h.h0, decide_eq_true h.h1]; rfl)
  have q1 := q_no (n := 1) hk (by decide); have q2 := q_no (n := 2) hk (by decide); have q3 := q_no (n := 3) hk (by decide); have q4 := q_no (n := 4) hk (by decide); have q5 := q_no (n := 5) hk (by decide); have q6 := q_yes hk
  have HT1 := hid ((tOnly129 h t1).up hw0)
  have HT2 := hid ((tChg1 h t2).up hw0)
  have HW0 := hid hw0
  clear t1 t2 h hk hw0
  unfold Fit msA
  simp only [msA] at HA
  replace HA := hid HA
  go_enter Try.func15, Try.ntmps15
  try simp only [List.append]
  go_upto_region 1 with fail
  rw [HA.out]
  obtain ⟨y0, y1, y2, y3, y4, y5, y6, y7, y8, y9, y10, y11, y12, y13, y14, y15, y16⟩ := msA_at H0.out.1
  go_wp2_with (first
    | (have := H1; go_at_call 35; refine (HT2.out _ H1.out.2).mono ?_; rintro e w2 ⟨rfl, hb⟩; have H2 := hid (bx_next H1.out hb); clear hb y0 y1 y2 y3 y4 y5 y6 y7 y8 y9 y10 y11 y12 y13 y14 y15 y16; obtain ⟨y0, y1, y2, y3, y4, y5, y6, y7, y8, y9, y10, y11, y12, y13, y14, y15, y16⟩ := msA_at H2.out.1)
    | (have := H0; go_at_call 27; refine (HT1.out _ H0.out.2).mono ?_; rintro e w1 ⟨rfl, hb⟩; have H1 := hid (bx_next H0.out hb); clear hb y0 y1 y2 y3 y4 y5 y6 y7 y8 y9 y10 y11 y12 y13 y14 y15 y16; obtain ⟨y0, y1, y2, y3, y4, y5, y6, y7, y8, y9, y10, y11, y12, y13, y14, y15, y16⟩ := msA_at H1.out.1)
    | (go_at_call 26; refine (iwithin_any _ _ _ _).mono ?_; rintro e w1 ⟨rfl, hw⟩; rw [HW.out]; replace hw := hw.symm; subst hw))
  go_ret
  exact ⟨by simp, HW0.out.trans (H2.out.2.mono HW0.out.size)⟩
set_option maxRecDepth 100000 in
set_option maxHeartbeats 6400000 in
theorem ifits_6_2 {F : Nat → Prop} {w : World} {m : Ms} {a13 a14 a15 a16 : Option Addr} {c13 c14 c15 c16 : Nat} (h : Fx F w m a13 a14 a15 a16 c13 c14 c15 c16) (hk : m.k = 6) (t1 : (onlyB m { v := true, c := true }) = true) (t2 : (cgsB m.ep m.v m.cg 1) = true) : Fit w m a13 a14 a15 a16 c13 c14 c15 c16 true := by
  obtain ⟨wa, HA, hw0, hx⟩ := msA_new m a13 a14 a15 a16 c13 c14 c15 c16 34 w
  have H0 := hid (And.intro hx (Below.refl wa.heap.size wa))
  clear hx
  have HW : Hid (inB m.ep 0 60 = true) := hid (by rw [inB, decide_eq_true h.h0, decide_eq_true h.h1]; rfl)
  have q1 := q_no (n := 1) hk (by decide); have q2 := q_no (n := 2) hk (by decide); have q3 := q_no (n := 3) hk (by decide); have q4 := q_no (n := 4) hk (by decide); have q5 := q_no (n := 5) hk (by decide); have q6 := q_yes hk
  have HT1 := hid ((tOnly129 h t1).up hw0)
  have HT2 := hid ((tChg1 h t2).up hw0)
  have HW0 := hid hw0
  clear t1 t2 h hk hw0
  unfold Fit msA
  simp only [msA] at HA
  replace HA := hid HA
  go_enter Try.func15, Try.ntmps15
  try simp only [List.append]
  go_upto_region 1 with fail
  rw [HA.out]
  obtain ⟨y0, y1, y2, y3, y4, y5, y6, y7, y8, y9, y10, y11, y12, y13, y14, y15, y16⟩ := msA_at H0.out.1
  go_wp2_with (first
    | (have := H1; go_at_call 35; refine (HT2.out _ H1.out.2).mono ?_; rintro e w2 ⟨rfl, hb⟩; have H2 := hid (bx_next H1.out hb); clear hb y0 y1 y2 y3 y4 y5 y6 y7 y8 y9 y10 y11 y12 y13 y14 y15 y16; obtain ⟨y0, y1, y2, y3, y4, y5, y6, y7, y8, y9, y10, y11, y12, y13, y14, y15, y16⟩ := msA_at H2.out.1)
    | (have := H0; go_at_call 27; refine (HT1.out _ H0.out.2).mono ?_; rintro e w1 ⟨rfl, hb⟩; have H1 := hid (bx_next H0.out hb); clear hb y0 y1 y2 y3 y4 y5 y6 y7 y8 y9 y10 y11 y12 y13 y14 y15 y16; obtain ⟨y0, y1, y2, y3, y4, y5, y6, y7, y8, y9, y10, y11, y12, y13, y14, y15, y16⟩ := msA_at H1.out.1)
    | (go_at_call 26; refine (iwithin_any _ _ _ _).mono ?_; rintro e w1 ⟨rfl, hw⟩; rw [HW.out]; replace hw := hw.symm; subst hw))
  go_ret
  exact ⟨by simp, HW0.out.trans (H2.out.2.mono HW0.out.size)⟩
theorem ifits_6 {F : Nat → Prop} {w : World} {m : Ms} {a13 a14 a15 a16 : Option Addr} {c13 c14 c15 c16 : Nat} (h : Fx F w m a13 a14 a15 a16 c13 c14 c15 c16) (hk : m.k = 6) : Fit w m a13 a14 a15 a16 c13 c14 c15 c16 (kindB m) := by
  have hV : kindB m = ((onlyB m { v := true, c := true }) && ((cgsB m.ep m.v m.cg 1))) := by
    unfold kindB
    rw [if_neg (by rw [hk]; decide)]; rw [if_neg (by rw [hk]; decide)]; rw [if_neg (by rw [hk]; decide)]; rw [if_neg (by rw [hk]; decide)]; rw [if_neg (by rw [hk]; decide)]; rw [if_pos hk]
  cases t1 : (onlyB m { v := true, c := true }) with
  | false =>
   rw [show kindB m = false by rw [hV, t1] <;> rfl]
   exact ifits_6_0 h hk t1
  | true =>
   cases t2 : (cgsB m.ep m.v m.cg 1) with
   | false =>
    rw [show kindB m = false by rw [hV, t1, t2] <;> rfl]
    exact ifits_6_1 h hk t1 t2
   | true =>
    rw [show kindB m = true by rw [hV, t1, t2] <;> rfl]
    exact ifits_6_2 h hk t1 t2
set_option maxRecDepth 100000 in
set_option maxHeartbeats 6400000 in
theorem ifits_7_0 {F : Nat → Prop} {w : World} {m : Ms} {a13 a14 a15 a16 : Option Addr} {c13 c14 c15 c16 : Nat} (h : Fx F w m a13 a14 a15 a16 c13 c14 c15 c16) (hk : m.k = 7) (t1 : (onlyB m { v := true, c := true }) = false) : Fit w m a13 a14 a15 a16 c13 c14 c15 c16 false := by
  obtain ⟨wa, HA, hw0, hx⟩ := msA_new m a13 a14 a15 a16 c13 c14 c15 c16 34 w
  have H0 := hid (And.intro hx (Below.refl wa.heap.size wa))
  clear hx
  have HW : Hid (inB m.ep 0 60 = true) := hid (by rw [inB, decide_eq_true h.h0, decide_eq_true h.h1]; rfl)
  have q1 := q_no (n := 1) hk (by decide); have q2 := q_no (n := 2) hk (by decide); have q3 := q_no (n := 3) hk (by decide); have q4 := q_no (n := 4) hk (by decide); have q5 := q_no (n := 5) hk (by decide); have q6 := q_no (n := 6) hk (by decide); have q7 := q_yes hk
  have HT1 := hid ((tOnly129 h t1).up hw0)
  have HW0 := hid hw0
  clear t1 h hk hw0
  unfold Fit msA
  simp only [msA] at HA
  replace HA := hid HA
  go_enter Try.func15, Try.ntmps15
  try simp only [List.append]
  go_upto_region 1 with fail
  rw [HA.out]
  obtain ⟨y0, y1, y2, y3, y4, y5, y6, y7, y8, y9, y10, y11, y12, y13, y14, y15, y16⟩ := msA_at H0.out.1
  go_wp2_with (first
    | (have := H0; go_at_call 27; refine (HT1.out _ H0.out.2).mono ?_; rintro e w1 ⟨rfl, hb⟩; have H1 := hid (bx_next H0.out hb); clear hb y0 y1 y2 y3 y4 y5 y6 y7 y8 y9 y10 y11 y12 y13 y14 y15 y16; obtain ⟨y0, y1, y2, y3, y4, y5, y6, y7, y8, y9, y10, y11, y12, y13, y14, y15, y16⟩ := msA_at H1.out.1)
    | (go_at_call 26; refine (iwithin_any _ _ _ _).mono ?_; rintro e w1 ⟨rfl, hw⟩; rw [HW.out]; replace hw := hw.symm; subst hw))
  go_ret
  exact ⟨by simp, HW0.out.trans (H1.out.2.mono HW0.out.size)⟩
set_option maxRecDepth 100000 in
set_option maxHeartbeats 6400000 in
theorem ifits_7_1 {F : Nat → Prop} {w : World} {m : Ms} {a13 a14 a15 a16 : Option Addr} {c13 c14 c15 c16 : Nat} (h : Fx F w m a13 a14 a15 a16 c13 c14 c15 c16) (hk : m.k = 7) (t1 : (onlyB m { v := true, c := true }) = true) (t2 : (cgsB m.ep m.v m.cg 10) = false) : Fit w m a13 a14 a15 a16 c13 c14 c15 c16 false := by
  obtain ⟨wa, HA, hw0, hx⟩ := msA_new m a13 a14 a15 a16 c13 c14 c15 c16 34 w
  have H0 := hid (And.intro hx (Below.refl wa.heap.size wa))
  clear hx
  have HW : Hid (inB m.ep 0 60 = true) := hid (by rw [inB, decide_eq_true h.h0, decide_eq_true h.h1]; rfl)
  have q1 := q_no (n := 1) hk (by decide); have q2 := q_no (n := 2) hk (by decide); have q3 := q_no (n := 3) hk (by decide); have q4 := q_no (n := 4) hk (by decide); have q5 := q_no (n := 5) hk (by decide); have q6 := q_no (n := 6) hk (by decide); have q7 := q_yes hk
  have HT1 := hid ((tOnly129 h t1).up hw0)
  have HT2 := hid ((tChg10 h t2).up hw0)
  have HW0 := hid hw0
  clear t1 t2 h hk hw0
  unfold Fit msA
  simp only [msA] at HA
  replace HA := hid HA
  go_enter Try.func15, Try.ntmps15
  try simp only [List.append]
  go_upto_region 1 with fail
  rw [HA.out]
  obtain ⟨y0, y1, y2, y3, y4, y5, y6, y7, y8, y9, y10, y11, y12, y13, y14, y15, y16⟩ := msA_at H0.out.1
  go_wp2_with (first
    | (have := H1; go_at_call 35; refine (HT2.out _ H1.out.2).mono ?_; rintro e w2 ⟨rfl, hb⟩; have H2 := hid (bx_next H1.out hb); clear hb y0 y1 y2 y3 y4 y5 y6 y7 y8 y9 y10 y11 y12 y13 y14 y15 y16; obtain ⟨y0, y1, y2, y3, y4, y5, y6, y7, y8, y9, y10, y11, y12, y13, y14, y15, y16⟩ := msA_at H2.out.1)
    | (have := H0; go_at_call 27; refine (HT1.out _ H0.out.2).mono ?_; rintro e w1 ⟨rfl, hb⟩; have H1 := hid (bx_next H0.out hb); clear hb y0 y1 y2 y3 y4 y5 y6 y7 y8 y9 y10 y11 y12 y13 y14 y15 y16; obtain ⟨y0, y1, y2, y3, y4, y5, y6, y7, y8, y9, y10, y11, y12, y13, y14, y15, y16⟩ := msA_at H1.out.1)
    | (go_at_call 26; refine (iwithin_any _ _ _ _).mono ?_; rintro e w1 ⟨rfl, hw⟩; rw [HW.out]; replace hw := hw.symm; subst hw))
  go_ret
  exact ⟨by simp, HW0.out.trans (H2.out.2.mono HW0.out.size)⟩
set_option maxRecDepth 100000 in
set_option maxHeartbeats 6400000 in
theorem ifits_7_2 {F : Nat → Prop} {w : World} {m : Ms} {a13 a14 a15 a16 : Option Addr} {c13 c14 c15 c16 : Nat} (h : Fx F w m a13 a14 a15 a16 c13 c14 c15 c16) (hk : m.k = 7) (t1 : (onlyB m { v := true, c := true }) = true) (t2 : (cgsB m.ep m.v m.cg 10) = true) : Fit w m a13 a14 a15 a16 c13 c14 c15 c16 true := by
  obtain ⟨wa, HA, hw0, hx⟩ := msA_new m a13 a14 a15 a16 c13 c14 c15 c16 34 w
  have H0 := hid (And.intro hx (Below.refl wa.heap.size wa))
  clear hx
  have HW : Hid (inB m.ep 0 60 = true) := hid (by rw [inB, decide_eq_true h.h0, decide_eq_true h.h1]; rfl)
  have q1 := q_no (n := 1) hk (by decide); have q2 := q_no (n := 2) hk (by decide); have q3 := q_no (n := 3) hk (by decide); have q4 := q_no (n := 4) hk (by decide); have q5 := q_no (n := 5) hk (by decide); have q6 := q_no (n := 6) hk (by decide); have q7 := q_yes hk
  have HT1 := hid ((tOnly129 h t1).up hw0)
  have HT2 := hid ((tChg10 h t2).up hw0)
  have HW0 := hid hw0
  clear t1 t2 h hk hw0
  unfold Fit msA
  simp only [msA] at HA
  replace HA := hid HA
  go_enter Try.func15, Try.ntmps15
  try simp only [List.append]
  go_upto_region 1 with fail
  rw [HA.out]
  obtain ⟨y0, y1, y2, y3, y4, y5, y6, y7, y8, y9, y10, y11, y12, y13, y14, y15, y16⟩ := msA_at H0.out.1
  go_wp2_with (first
    | (have := H1; go_at_call 35; refine (HT2.out _ H1.out.2).mono ?_; rintro e w2 ⟨rfl, hb⟩; have H2 := hid (bx_next H1.out hb); clear hb y0 y1 y2 y3 y4 y5 y6 y7 y8 y9 y10 y11 y12 y13 y14 y15 y16; obtain ⟨y0, y1, y2, y3, y4, y5, y6, y7, y8, y9, y10, y11, y12, y13, y14, y15, y16⟩ := msA_at H2.out.1)
    | (have := H0; go_at_call 27; refine (HT1.out _ H0.out.2).mono ?_; rintro e w1 ⟨rfl, hb⟩; have H1 := hid (bx_next H0.out hb); clear hb y0 y1 y2 y3 y4 y5 y6 y7 y8 y9 y10 y11 y12 y13 y14 y15 y16; obtain ⟨y0, y1, y2, y3, y4, y5, y6, y7, y8, y9, y10, y11, y12, y13, y14, y15, y16⟩ := msA_at H1.out.1)
    | (go_at_call 26; refine (iwithin_any _ _ _ _).mono ?_; rintro e w1 ⟨rfl, hw⟩; rw [HW.out]; replace hw := hw.symm; subst hw))
  go_ret
  exact ⟨by simp, HW0.out.trans (H2.out.2.mono HW0.out.size)⟩
theorem ifits_7 {F : Nat → Prop} {w : World} {m : Ms} {a13 a14 a15 a16 : Option Addr} {c13 c14 c15 c16 : Nat} (h : Fx F w m a13 a14 a15 a16 c13 c14 c15 c16) (hk : m.k = 7) : Fit w m a13 a14 a15 a16 c13 c14 c15 c16 (kindB m) := by
  have hV : kindB m = ((onlyB m { v := true, c := true }) && ((cgsB m.ep m.v m.cg 10))) := by
    unfold kindB
    rw [if_neg (by rw [hk]; decide)]; rw [if_neg (by rw [hk]; decide)]; rw [if_neg (by rw [hk]; decide)]; rw [if_neg (by rw [hk]; decide)]; rw [if_neg (by rw [hk]; decide)]; rw [if_neg (by rw [hk]; decide)]; rw [if_pos hk]
  cases t1 : (onlyB m { v := true, c := true }) with
  | false =>
   rw [show kindB m = false by rw [hV, t1] <;> rfl]
   exact ifits_7_0 h hk t1
  | true =>
   cases t2 : (cgsB m.ep m.v m.cg 10) with
   | false =>
    rw [show kindB m = false by rw [hV, t1, t2] <;> rfl]
    exact ifits_7_1 h hk t1 t2
   | true =>
    rw [show kindB m = true by rw [hV, t1, t2] <;> rfl]
    exact ifits_7_2 h hk t1 t2
set_option maxRecDepth 100000 in
set_option maxHeartbeats 6400000 in
theorem ifits_9_0 {F : Nat → Prop} {w : World} {m : Ms} {a13 a14 a15 a16 : Option Addr} {c13 c14 c15 c16 : Nat} (h : Fx F w m a13 a14 a15 a16 c13 c14 c15 c16) (hk : m.k = 9) (t1 : (onlyB m {}) = false) : Fit w m a13 a14 a15 a16 c13 c14 c15 c16 false := by
  obtain ⟨wa, HA, hw0, hx⟩ := msA_new m a13 a14 a15 a16 c13 c14 c15 c16 34 w
  have H0 := hid (And.intro hx (Below.refl wa.heap.size wa))
  clear hx
  have HW : Hid (inB m.ep 0 60 = true) := hid (by rw [inB, decide_eq_true h.h0, decide_eq_true h.h1]; rfl)
  have q1 := q_no (n := 1) hk (by decide); have q2 := q_no (n := 2) hk (by decide); have q3 := q_no (n := 3) hk (by decide); have q4 := q_no (n := 4) hk (by decide); have q5 := q_no (n := 5) hk (by decide); have q6 := q_no (n := 6) hk (by decide); have q7 := q_no (n := 7) hk (by decide); have q8 := q_no (n := 8) hk (by decide); have q9 := q_yes hk
  have HT1 := hid ((tOnly0 h t1).up hw0)
  have HW0 := hid hw0
  clear t1 h hk hw0
  unfold Fit msA
  simp only [msA] at HA
  replace HA := hid HA
  go_enter Try.func15, Try.ntmps15
  try simp only [List.append]
  go_upto_region 1 with fail
  rw [HA.out]
  obtain ⟨y0, y1, y2, y3, y4, y5, y6, y7, y8, y9, y10, y11, y12, y13, y14, y15, y16⟩ := msA_at H0.out.1
  go_wp2_with (first
    | (have := H0; go_at_call 27; refine (HT1.out _ H0.out.2).mono ?_; rintro e w1 ⟨rfl, hb⟩; have H1 := hid (bx_next H0.out hb); clear hb y0 y1 y2 y3 y4 y5 y6 y7 y8 y9 y10 y11 y12 y13 y14 y15 y16; obtain ⟨y0, y1, y2, y3, y4, y5, y6, y7, y8, y9, y10, y11, y12, y13, y14, y15, y16⟩ := msA_at H1.out.1)
    | (go_at_call 26; refine (iwithin_any _ _ _ _).mono ?_; rintro e w1 ⟨rfl, hw⟩; rw [HW.out]; replace hw := hw.symm; subst hw))
  go_ret
  exact ⟨by simp, HW0.out.trans (H1.out.2.mono HW0.out.size)⟩
set_option maxRecDepth 100000 in
set_option maxHeartbeats 6400000 in
theorem ifits_9_1 {F : Nat → Prop} {w : World} {m : Ms} {a13 a14 a15 a16 : Option Addr} {c13 c14 c15 c16 : Nat} (h : Fx F w m a13 a14 a15 a16 c13 c14 c15 c16) (hk : m.k = 9) (t1 : (onlyB m {}) = true) : Fit w m a13 a14 a15 a16 c13 c14 c15 c16 true := by
  obtain ⟨wa, HA, hw0, hx⟩ := msA_new m a13 a14 a15 a16 c13 c14 c15 c16 34 w
  have H0 := hid (And.intro hx (Below.refl wa.heap.size wa))
  clear hx
  have HW : Hid (inB m.ep 0 60 = true) := hid (by rw [inB, decide_eq_true h.h0, decide_eq_true h.h1]; rfl)
  have q1 := q_no (n := 1) hk (by decide); have q2 := q_no (n := 2) hk (by decide); have q3 := q_no (n := 3) hk (by decide); have q4 := q_no (n := 4) hk (by decide); have q5 := q_no (n := 5) hk (by decide); have q6 := q_no (n := 6) hk (by decide); have q7 := q_no (n := 7) hk (by decide); have q8 := q_no (n := 8) hk (by decide); have q9 := q_yes hk
  have HT1 := hid ((tOnly0 h t1).up hw0)
  have HW0 := hid hw0
  clear t1 h hk hw0
  unfold Fit msA
  simp only [msA] at HA
  replace HA := hid HA
  go_enter Try.func15, Try.ntmps15
  try simp only [List.append]
  go_upto_region 1 with fail
  rw [HA.out]
  obtain ⟨y0, y1, y2, y3, y4, y5, y6, y7, y8, y9, y10, y11, y12, y13, y14, y15, y16⟩ := msA_at H0.out.1
  go_wp2_with (first
    | (have := H0; go_at_call 27; refine (HT1.out _ H0.out.2).mono ?_; rintro e w1 ⟨rfl, hb⟩; have H1 := hid (bx_next H0.out hb); clear hb y0 y1 y2 y3 y4 y5 y6 y7 y8 y9 y10 y11 y12 y13 y14 y15 y16; obtain ⟨y0, y1, y2, y3, y4, y5, y6, y7, y8, y9, y10, y11, y12, y13, y14, y15, y16⟩ := msA_at H1.out.1)
    | (go_at_call 26; refine (iwithin_any _ _ _ _).mono ?_; rintro e w1 ⟨rfl, hw⟩; rw [HW.out]; replace hw := hw.symm; subst hw))
  go_ret
  exact ⟨by simp, HW0.out.trans (H1.out.2.mono HW0.out.size)⟩
theorem ifits_9 {F : Nat → Prop} {w : World} {m : Ms} {a13 a14 a15 a16 : Option Addr} {c13 c14 c15 c16 : Nat} (h : Fx F w m a13 a14 a15 a16 c13 c14 c15 c16) (hk : m.k = 9) : Fit w m a13 a14 a15 a16 c13 c14 c15 c16 (kindB m) := by
  have hV : kindB m = ((onlyB m {})) := by
    unfold kindB
    rw [if_neg (by rw [hk]; decide)]; rw [if_neg (by rw [hk]; decide)]; rw [if_neg (by rw [hk]; decide)]; rw [if_neg (by rw [hk]; decide)]; rw [if_neg (by rw [hk]; decide)]; rw [if_neg (by rw [hk]; decide)]; rw [if_neg (by rw [hk]; decide)]; rw [if_neg (by rw [hk]; decide)]; rw [if_pos hk]
  cases t1 : (onlyB m {}) with
  | false =>
   rw [show kindB m = false by rw [hV, t1] <;> rfl]
   exact ifits_9_0 h hk t1
  | true =>
   rw [show kindB m = true by rw [hV, t1] <;> rfl]
   exact ifits_9_1 h hk t1
end Go.Proofs.Ytfjcpghepkmbfaa
