/- The program's test of messages, kind by kind. -/
import Derived.Test.YtfjcpghepkmbfaaWiNzM
namespace Go.Proofs.Ytfjcpghepkmbfaa
open Go.RowKit
set_option maxRecDepth 100000 in
set_option maxHeartbeats 6400000 in
theorem ifits_1_0 {F : Nat → Prop} {w : World} {m : Ms} {a13 a14 a15 a16 : Option Addr} {c13 c14 c15 c16 : Nat} (h : Fx F w m a13 a14 a15 a16 c13 c14 c15 c16) (hk : m.k = 1) (t1 : (onlyB m { r := true, g := true }) = false) : Fit w m a13 a14 a15 a16 c13 c14 c15 c16 false := by
  obtain ⟨wa, HA, hw0, hx⟩ := msA_new m a13 a14 a15 a16 c13 c14 c15 c16 34 w
  have H0 := hid (And.intro hx (Below.refl wa.heap.size wa))
  clear hx
  have HW : Hid (inB m.ep 0 60 = true) := hid (by rw [inB, decide_eq_true h.h0, decide_eq_true h.h1]; rfl)
  have q1 := q_yes hk
  have HT1 := hid ((tOnly68 h t1).up hw0)
  have HW0 := hid hw0
  clear t1 h hk hw0
  unfold Fit msA
  simp only [msA] at HA
  replace HA := hid HA
  go_enter Try.func15, Try.ntmps15
  try simp only [List.append]
  go_upto_region 1 with fail
  rw [HA.out]
  obtain ⟨y0, y1, y2, y3, y4, y5, y6, y7, y8, y9, y10, y11, y12, y13, y14, y15, y16⟩ := msA_at H0.out.1
  go_wp2_with (first
    | (have := H0; go_at_call 27; refine (HT1.out _ H0.out.2).mono ?_; rintro e w1 ⟨rfl, hb⟩; have H1 := hid (bx_next H0.out hb); clear hb y0 y1 y2 y3 y4 y5 y6 y7 y8 y9 y10 y11 y12 y13 y14 y15 y16; obtain ⟨y0, y1, y2, y3, y4, y5, y6, y7, y8, y9, y10, y11, y12, y13, y14, y15, y16⟩ := msA_at H1.out.1)
    | (go_at_call 26; refine (iwithin_any _ _ _ _).mono ?_; rintro e w1 ⟨rfl, hw⟩; rw [HW.out]; replace hw := hw.symm; subst hw))
  go_ret
  exact ⟨by simp, HW0.out.trans (H1.out.2.mono HW0.out.size)⟩
set_option maxRecDepth 100000 in
set_option maxHeartbeats 6400000 in
theorem ifits_1_1 {F : Nat → Prop} {w : World} {m : Ms} {a13 a14 a15 a16 : Option Addr} {c13 c14 c15 c16 : Nat} (h : Fx F w m a13 a14 a15 a16 c13 c14 c15 c16) (hk : m.k = 1) (t1 : (onlyB m { r := true, g := true }) = true) (t2 : (decide (m.ep = 0)) = false) : Fit w m a13 a14 a15 a16 c13 c14 c15 c16 false := by
  obtain ⟨wa, HA, hw0, hx⟩ := msA_new m a13 a14 a15 a16 c13 c14 c15 c16 34 w
  have H0 := hid (And.intro hx (Below.refl wa.heap.size wa))
  clear hx
  have HW : Hid (inB m.ep 0 60 = true) := hid (by rw [inB, decide_eq_true h.h0, decide_eq_true h.h1]; rfl)
  have q1 := q_yes hk
  have HT1 := hid ((tOnly68 h t1).up hw0)
  have b2 : (m.ep == 0) = false := by rw [beq_eq_false_iff_ne]; exact of_decide_eq_false t2
  have HW0 := hid hw0
  clear t1 t2 h hk hw0
  unfold Fit msA
  simp only [msA] at HA
  replace HA := hid HA
  go_enter Try.func15, Try.ntmps15
  try simp only [List.append]
  go_upto_region 1 with fail
  rw [HA.out]
  obtain ⟨y0, y1, y2, y3, y4, y5, y6, y7, y8, y9, y10, y11, y12, y13, y14, y15, y16⟩ := msA_at H0.out.1
  go_wp2_with (first
    | (have := H0; go_at_call 27; refine (HT1.out _ H0.out.2).mono ?_; rintro e w1 ⟨rfl, hb⟩; have H1 := hid (bx_next H0.out hb); clear hb y0 y1 y2 y3 y4 y5 y6 y7 y8 y9 y10 y11 y12 y13 y14 y15 y16; obtain ⟨y0, y1, y2, y3, y4, y5, y6, y7, y8, y9, y10, y11, y12, y13, y14, y15, y16⟩ := msA_at H1.out.1)
    | (go_at_call 26; refine (iwithin_any _ _ _ _).mono ?_; rintro e w1 ⟨rfl, hw⟩; rw [HW.out]; replace hw := hw.symm; subst hw))
  go_ret
  exact ⟨by simp, HW0.out.trans (H1.out.2.mono HW0.out.size)⟩
set_option maxRecDepth 100000 in
set_option maxHeartbeats 6400000 in
theorem ifits_1_2 {F : Nat → Prop} {w : World} {m : Ms} {a13 a14 a15 a16 : Option Addr} {c13 c14 c15 c16 : Nat} (h : Fx F w m a13 a14 a15 a16 c13 c14 c15 c16) (hk : m.k = 1) (t1 : (onlyB m { r := true, g := true }) = true) (t2 : (decide (m.ep = 0)) = true) (t3 : (rightB m.rq) = false) : Fit w m a13 a14 a15 a16 c13 c14 c15 c16 false := by
  obtain ⟨wa, HA, hw0, hx⟩ := msA_new m a13 a14 a15 a16 c13 c14 c15 c16 34 w
  have H0 := hid (And.intro hx (Below.refl wa.heap.size wa))
  clear hx
  have HW : Hid (inB m.ep 0 60 = true) := hid (by rw [inB, decide_eq_true h.h0, decide_eq_true h.h1]; rfl)
  have q1 := q_yes hk
  have HT1 := hid ((tOnly68 h t1).up hw0)
  have b2 : (m.ep == 0) = true := by rw [beq_iff_eq]; exact of_decide_eq_true t2
  have HT3 := hid ((tRight h t3).up hw0)
  have HW0 := hid hw0
  clear t1 t2 t3 h hk hw0
  unfold Fit msA
  simp only [msA] at HA
  replace HA := hid HA
  go_enter Try.func15, Try.ntmps15
  try simp only [List.append]
  go_upto_region 1 with fail
  rw [HA.out]
  obtain ⟨y0, y1, y2, y3, y4, y5, y6, y7, y8, y9, y10, y11, y12, y13, y14, y15, y16⟩ := msA_at H0.out.1
  go_wp2_with (first
    | (have := H1; go_at_call 28; refine (HT3.out _ H1.out.2).mono ?_; rintro e w2 ⟨rfl, hb⟩; have H2 := hid (bx_next H1.out hb); clear hb y0 y1 y2 y3 y4 y5 y6 y7 y8 y9 y10 y11 y12 y13 y14 y15 y16; obtain ⟨y0, y1, y2, y3, y4, y5, y6, y7, y8, y9, y10, y11, y12, y13, y14, y15, y16⟩ := msA_at H2.out.1)
    | (have := H0; go_at_call 27; refine (HT1.out _ H0.out.2).mono ?_; rintro e w1 ⟨rfl, hb⟩; have H1 := hid (bx_next H0.out hb); clear hb y0 y1 y2 y3 y4 y5 y6 y7 y8 y9 y10 y11 y12 y13 y14 y15 y16; obtain ⟨y0, y1, y2, y3, y4, y5, y6, y7, y8, y9, y10, y11, y12, y13, y14, y15, y16⟩ := msA_at H1.out.1)
    | (go_at_call 26; refine (iwithin_any _ _ _ _).mono ?_; rintro e w1 ⟨rfl, hw⟩; rw [HW.out]; replace hw := hw.symm; subst hw))
  go_ret
  exact ⟨by simp, HW0.out.trans (H2.out.2.mono HW0.out.size)⟩
set_option maxRecDepth 100000 in
set_option maxHeartbeats 6400000 in
theorem ifits_1_3 {F : Nat → Prop} {w : World} {m : Ms} {a13 a14 a15 a16 : Option Addr} {c13 c14 c15 c16 : Nat} (h : Fx F w m a13 a14 a15 a16 c13 c14 c15 c16) (hk : m.k = 1) (t1 : (onlyB m { r := true, g := true }) = true) (t2 : (decide (m.ep = 0)) = true) (t3 : (rightB m.rq) = true) (t4 : (oneB m.sg 1) = false) : Fit w m a13 a14 a15 a16 c13 c14 c15 c16 false := by
  obtain ⟨wa, HA, hw0, hx⟩ := msA_new m a13 a14 a15 a16 c13 c14 c15 c16 34 w
  have H0 := hid (And.intro hx (Below.refl wa.heap.size wa))
  clear hx
  have HW : Hid (inB m.ep 0 60 = true) := hid (by rw [inB, decide_eq_true h.h0, decide_eq_true h.h1]; rfl)
  have q1 := q_yes hk
  have HT1 := hid ((tOnly68 h t1).up hw0)
  have b2 : (m.ep == 0) = true := by rw [beq_iff_eq]; exact of_decide_eq_true t2
  have HT3 := hid ((tRight h t3).up hw0)
  have HT4 := hid ((tSigs (k := 1) h t4).up hw0)
  have HW0 := hid hw0
  clear t1 t2 t3 t4 h hk hw0
  unfold Fit msA
  simp only [msA] at HA
  replace HA := hid HA
  go_enter Try.func15, Try.ntmps15
  try simp only [List.append]
  go_upto_region 1 with fail
  rw [HA.out]
  obtain ⟨y0, y1, y2, y3, y4, y5, y6, y7, y8, y9, y10, y11, y12, y13, y14, y15, y16⟩ := msA_at H0.out.1
  go_wp2_with (first
    | (have := H2; go_at_call 29; refine (HT4.out _ H2.out.2).mono ?_; rintro e w3 ⟨rfl, hb⟩; have H3 := hid (bx_next H2.out hb); clear hb y0 y1 y2 y3 y4 y5 y6 y7 y8 y9 y10 y11 y12 y13 y14 y15 y16; obtain ⟨y0, y1, y2, y3, y4, y5, y6, y7, y8, y9, y10, y11, y12, y13, y14, y15, y16⟩ := msA_at H3.out.1)
    | (have := H1; go_at_call 28; refine (HT3.out _ H1.out.2).mono ?_; rintro e w2 ⟨rfl, hb⟩; have H2 := hid (bx_next H1.out hb); clear hb y0 y1 y2 y3 y4 y5 y6 y7 y8 y9 y10 y11 y12 y13 y14 y15 y16; obtain ⟨y0, y1, y2, y3, y4, y5, y6, y7, y8, y9, y10, y11, y12, y13, y14, y15, y16⟩ := msA_at H2.out.1)
    | (have := H0; go_at_call 27; refine (HT1.out _ H0.out.2).mono ?_; rintro e w1 ⟨rfl, hb⟩; have H1 := hid (bx_next H0.out hb); clear hb y0 y1 y2 y3 y4 y5 y6 y7 y8 y9 y10 y11 y12 y13 y14 y15 y16; obtain ⟨y0, y1, y2, y3, y4, y5, y6, y7, y8, y9, y10, y11, y12, y13, y14, y15, y16⟩ := msA_at H1.out.1)
    | (go_at_call 26; refine (iwithin_any _ _ _ _).mono ?_; rintro e w1 ⟨rfl, hw⟩; rw [HW.out]; replace hw := hw.symm; subst hw))
  go_ret
  exact ⟨by simp, HW0.out.trans (H3.out.2.mono HW0.out.size)⟩
set_option maxRecDepth 100000 in
set_option maxHeartbeats 6400000 in
theorem ifits_1_4 {F : Nat → Prop} {w : World} {m : Ms} {a13 a14 a15 a16 : Option Addr} {c13 c14 c15 c16 : Nat} (h : Fx F w m a13 a14 a15 a16 c13 c14 c15 c16) (hk : m.k = 1) (t1 : (onlyB m { r := true, g := true }) = true) (t2 : (decide (m.ep = 0)) = true) (t3 : (rightB m.rq) = true) (t4 : (oneB m.sg 1) = true) : Fit w m a13 a14 a15 a16 c13 c14 c15 c16 true := by
  obtain ⟨wa, HA, hw0, hx⟩ := msA_new m a13 a14 a15 a16 c13 c14 c15 c16 34 w
  have H0 := hid (And.intro hx (Below.refl wa.heap.size wa))
  clear hx
  have HW : Hid (inB m.ep 0 60 = true) := hid (by rw [inB, decide_eq_true h.h0, decide_eq_true h.h1]; rfl)
  have q1 := q_yes hk
  have HT1 := hid ((tOnly68 h t1).up hw0)
  have b2 : (m.ep == 0) = true := by rw [beq_iff_eq]; exact of_decide_eq_true t2
  have HT3 := hid ((tRight h t3).up hw0)
  have HT4 := hid ((tSigs (k := 1) h t4).up hw0)
  have HW0 := hid hw0
  clear t1 t2 t3 t4 h hk hw0
  unfold Fit msA
  simp only [msA] at HA
  replace HA := hid HA
  go_enter Try.func15, Try.ntmps15
  try simp only [List.append]
  go_upto_region 1 with fail
  rw [HA.out]
  obtain ⟨y0, y1, y2, y3, y4, y5, y6, y7, y8, y9, y10, y11, y12, y13, y14, y15, y16⟩ := msA_at H0.out.1
  go_wp2_with (first
    | (have := H2; go_at_call 29; refine (HT4.out _ H2.out.2).mono ?_; rintro e w3 ⟨rfl, hb⟩; have H3 := hid (bx_next H2.out hb); clear hb y0 y1 y2 y3 y4 y5 y6 y7 y8 y9 y10 y11 y12 y13 y14 y15 y16; obtain ⟨y0, y1, y2, y3, y4, y5, y6, y7, y8, y9, y10, y11, y12, y13, y14, y15, y16⟩ := msA_at H3.out.1)
    | (have := H1; go_at_call 28; refine (HT3.out _ H1.out.2).mono ?_; rintro e w2 ⟨rfl, hb⟩; have H2 := hid (bx_next H1.out hb); clear hb y0 y1 y2 y3 y4 y5 y6 y7 y8 y9 y10 y11 y12 y13 y14 y15 y16; obtain ⟨y0, y1, y2, y3, y4, y5, y6, y7, y8, y9, y10, y11, y12, y13, y14, y15, y16⟩ := msA_at H2.out.1)
    | (have := H0; go_at_call 27; refine (HT1.out _ H0.out.2).mono ?_; rintro e w1 ⟨rfl, hb⟩; have H1 := hid (bx_next H0.out hb); clear hb y0 y1 y2 y3 y4 y5 y6 y7 y8 y9 y10 y11 y12 y13 y14 y15 y16; obtain ⟨y0, y1, y2, y3, y4, y5, y6, y7, y8, y9, y10, y11, y12, y13, y14, y15, y16⟩ := msA_at H1.out.1)
    | (go_at_call 26; refine (iwithin_any _ _ _ _).mono ?_; rintro e w1 ⟨rfl, hw⟩; rw [HW.out]; replace hw := hw.symm; subst hw))
  go_ret
  exact ⟨by simp, HW0.out.trans (H3.out.2.mono HW0.out.size)⟩
theorem ifits_1 {F : Nat → Prop} {w : World} {m : Ms} {a13 a14 a15 a16 : Option Addr} {c13 c14 c15 c16 : Nat} (h : Fx F w m a13 a14 a15 a16 c13 c14 c15 c16) (hk : m.k = 1) : Fit w m a13 a14 a15 a16 c13 c14 c15 c16 (kindB m) := by
  have hV : kindB m = ((onlyB m { r := true, g := true }) && ((decide (m.ep = 0)) && ((rightB m.rq) && ((oneB m.sg 1))))) := by
    unfold kindB
    rw [if_pos hk]
  cases t1 : (onlyB m { r := true, g := true }) with
  | false =>
   rw [show kindB m = false by rw [hV, t1] <;> rfl]
   exact ifits_1_0 h hk t1
  | true =>
   cases t2 : (decide (m.ep = 0)) with
   | false =>
    rw [show kindB m = false by rw [hV, t1, t2] <;> rfl]
    exact ifits_1_1 h hk t1 t2
   | true =>
    cases t3 : (rightB m.rq) with
    | false =>
     rw [show kindB m = false by rw [hV, t1, t2, t3] <;> rfl]
     exact ifits_1_2 h hk t1 t2 t3
    | true =>
     cases t4 : (oneB m.sg 1) with
     | false =>
      rw [show kindB m = false by rw [hV, t1, t2, t3, t4] <;> rfl]
      exact ifits_1_3 h hk t1 t2 t3 t4
     | true =>
      rw [show kindB m = true by rw [hV, t1, t2, t3, t4] <;> rfl]
      exact ifits_1_4 h hk t1 t2 t3 t4
end Go.Proofs.Ytfjcpghepkmbfaa
