/- The program's test of messages, kind by kind. -/
import Derived.Test.YtfjcpghepkmbfaaWiNzM
namespace Go.Proofs.Ytfjcpghepkmbfaa
open Go.RowKit
set_option maxRecDepth 100000 in
set_option maxHeartbeats 6400000 in
theorem ifits_4_0 {F : Nat → Prop} {w : World} {m : Ms} {a13 a14 a15 a16 : Option Addr} {c13 c14 c15 c16 : Nat} (h : Fx F w m a13 a14 a15 a16 c13 c14 c15 c16) (hk : m.k = 4) (t1 : (onlyB m { v := true, s := true, r := true }) = false) : Fit w m a13 a14 a15 a16 c13 c14 c15 c16 false := by
  obtain ⟨wa, HA, hw0, hx⟩ := msA_new m a13 a14 a15 a16 c13 c14 c15 c16 34 w
  have H0 := hid (And.intro hx (Below.refl wa.heap.size wa))
  clear hx
  have HW : Hid (inB m.ep 0 60 = true) := hid (by rw [inB, decide_eq_true h.h0, decide_eq_true h.h1]; rfl)
  have q1 := q_no (n := 1) hk (by decide); have q2 := q_no (n := 2) hk (by decide); have q3 := q_no (n := 3) hk (by decide); have q4 := q_yes hk
  have HT1 := hid ((tOnly7 h t1).up hw0)
  have HW0 := hid hw0
  clear t1 h hk hw0
  unfold Fit msA
  simp only [msA] at HA
  replace HA := hid HA
  go_enter Try.func15, Try.ntmps15
  try simp only [List.append]
  go_upto_region 1 with fail
  rw [HA.out]
  obtain ⟨y0, y1, y2, y3, y4, y5, y6, y7, y8, y9, y10, y11, y12, y13, y14, y15, y16⟩ := msA_at H0.out.1
  go_wp2_with (first
    | (have := H0; go_at_call 27; refine (HT1.out _ H0.out.2).mono ?_; rintro e w1 ⟨rfl, hb⟩; have H1 := hid (bx_next H0.out hb); clear hb y0 y1 y2 y3 y4 y5 y6 y7 y8 y9 y10 y11 y12 y13 y14 y15 y16; obtain ⟨y0, y1, y2, y3, y4, y5, y6, y7, y8, y9, y10, y11, y12, y13, y14, y15, y16⟩ := msA_at H1.out.1)
    | (go_at_call 26; refine (iwithin_any _ _ _ _).mono ?_; rintro e w1 ⟨rfl, hw⟩; rw [HW.out]; replace hw := hw.symm; subst hw))
  go_ret
  exact ⟨by simp, HW0.out.trans (H1.out.2.mono HW0.out.size)⟩
set_option maxRecDepth 100000 in
set_option maxHeartbeats 6400000 in
theorem ifits_4_1 {F : Nat → Prop} {w : World} {m : Ms} {a13 a14 a15 a16 : Option Addr} {c13 c14 c15 c16 : Nat} (h : Fx F w m a13 a14 a15 a16 c13 c14 c15 c16) (hk : m.k = 4) (t1 : (onlyB m { v := true, s := true, r := true }) = true) (t2 : (placeB m) = false) : Fit w m a13 a14 a15 a16 c13 c14 c15 c16 false := by
  obtain ⟨wa, HA, hw0, hx⟩ := msA_new m a13 a14 a15 a16 c13 c14 c15 c16 34 w
  have H0 := hid (And.intro hx (Below.refl wa.heap.size wa))
  clear hx
  have HW : Hid (inB m.ep 0 60 = true) := hid (by rw [inB, decide_eq_true h.h0, decide_eq_true h.h1]; rfl)
  have q1 := q_no (n := 1) hk (by decide); have q2 := q_no (n := 2) hk (by decide); have q3 := q_no (n := 3) hk (by decide); have q4 := q_yes hk
  have HT1 := hid ((tOnly7 h t1).up hw0)
  have HT2 := hid ((tPlaced h t2).up hw0)
  have HW0 := hid hw0
  clear t1 t2 h hk hw0
  unfold Fit msA
  simp only [msA] at HA
  replace HA := hid HA
  go_enter Try.func15, Try.ntmps15
  try simp only [List.append]
  go_upto_region 1 with fail
  rw [HA.out]
  obtain ⟨y0, y1, y2, y3, y4, y5, y6, y7, y8, y9, y10, y11, y12, y13, y14, y15, y16⟩ := msA_at H0.out.1
  go_wp2_with (first
    | (have := H1; go_at_call 30; refine (HT2.out _ H1.out.2).mono ?_; rintro e w2 ⟨rfl, hb⟩; have H2 := hid (bx_next H1.out hb); clear hb y0 y1 y2 y3 y4 y5 y6 y7 y8 y9 y10 y11 y12 y13 y14 y15 y16; obtain ⟨y0, y1, y2, y3, y4, y5, y6, y7, y8, y9, y10, y11, y12, y13, y14, y15, y16⟩ := msA_at H2.out.1)
    | (have := H0; go_at_call 27; refine (HT1.out _ H0.out.2).mono ?_; rintro e w1 ⟨rfl, hb⟩; have H1 := hid (bx_next H0.out hb); clear hb y0 y1 y2 y3 y4 y5 y6 y7 y8 y9 y10 y11 y12 y13 y14 y15 y16; obtain ⟨y0, y1, y2, y3, y4, y5, y6, y7, y8, y9, y10, y11, y12, y13, y14, y15, y16⟩ := msA_at H1.out.1)
    | (go_at_call 26; refine (iwithin_any _ _ _ _).mono ?_; rintro e w1 ⟨rfl, hw⟩; rw [HW.out]; replace hw := hw.symm; subst hw))
  go_ret
  exact ⟨by simp, HW0.out.trans (H2.out.2.mono HW0.out.size)⟩
set_option maxRecDepth 100000 in
set_option maxHeartbeats 6400000 in
theorem ifits_4_2 {F : Nat → Prop} {w : World} {m : Ms} {a13 a14 a15 a16 : Option Addr} {c13 c14 c15 c16 : Nat} (h : Fx F w m a13 a14 a15 a16 c13 c14 c15 c16) (hk : m.k = 4) (t1 : (onlyB m { v := true, s := true, r := true }) = true) (t2 : (placeB m) = true) (t3 : (askB m.rq) = false) : Fit w m a13 a14 a15 a16 c13 c14 c15 c16 false := by
  obtain ⟨wa, HA, hw0, hx⟩ := msA_new m a13 a14 a15 a16 c13 c14 c15 c16 34 w
  have H0 := hid (And.intro hx (Below.refl wa.heap.size wa))
  clear hx
  have HW : Hid (inB m.ep 0 60 = true) := hid (by rw [inB, decide_eq_true h.h0, decide_eq_true h.h1]; rfl)
  have q1 := q_no (n := 1) hk (by decide); have q2 := q_no (n := 2) hk (by decide); have q3 := q_no (n := 3) hk (by decide); have q4 := q_yes hk
  have HT1 := hid ((tOnly7 h t1).up hw0)
  have HT2 := hid ((tPlaced h t2).up hw0)
  have HT3 := hid ((tDeed h t3).up hw0)
  have HW0 := hid hw0
  clear t1 t2 t3 h hk hw0
  unfold Fit msA
  simp only [msA] at HA
  replace HA := hid HA
  go_enter Try.func15, Try.ntmps15
  try simp only [List.append]
  go_upto_region 1 with fail
  rw [HA.out]
  obtain ⟨y0, y1, y2, y3, y4, y5, y6, y7, y8, y9, y10, y11, y12, y13, y14, y15, y16⟩ := msA_at H0.out.1
  go_wp2_with (first
    | (have := H2; go_at_call 31; refine (HT3.out _ H2.out.2).mono ?_; rintro e w3 ⟨rfl, hb⟩; have H3 := hid (bx_next H2.out hb); clear hb y0 y1 y2 y3 y4 y5 y6 y7 y8 y9 y10 y11 y12 y13 y14 y15 y16; obtain ⟨y0, y1, y2, y3, y4, y5, y6, y7, y8, y9, y10, y11, y12, y13, y14, y15, y16⟩ := msA_at H3.out.1)
    | (have := H1; go_at_call 30; refine (HT2.out _ H1.out.2).mono ?_; rintro e w2 ⟨rfl, hb⟩; have H2 := hid (bx_next H1.out hb); clear hb y0 y1 y2 y3 y4 y5 y6 y7 y8 y9 y10 y11 y12 y13 y14 y15 y16; obtain ⟨y0, y1, y2, y3, y4, y5, y6, y7, y8, y9, y10, y11, y12, y13, y14, y15, y16⟩ := msA_at H2.out.1)
    | (have := H0; go_at_call 27; refine (HT1.out _ H0.out.2).mono ?_; rintro e w1 ⟨rfl, hb⟩; have H1 := hid (bx_next H0.out hb); clear hb y0 y1 y2 y3 y4 y5 y6 y7 y8 y9 y10 y11 y12 y13 y14 y15 y16; obtain ⟨y0, y1, y2, y3, y4, y5, y6, y7, y8, y9, y10, y11, y12, y13, y14, y15, y16⟩ := msA_at H1.out.1)
    | (go_at_call 26; refine (iwithin_any _ _ _ _).mono ?_; rintro e w1 ⟨rfl, hw⟩; rw [HW.out]; replace hw := hw.symm; subst hw))
  go_ret
  exact ⟨by simp, HW0.out.trans (H3.out.2.mono HW0.out.size)⟩
set_option maxRecDepth 100000 in
set_option maxHeartbeats 6400000 in
theorem ifits_4_3 {F : Nat → Prop} {w : World} {m : Ms} {a13 a14 a15 a16 : Option Addr} {c13 c14 c15 c16 : Nat} (h : Fx F w m a13 a14 a15 a16 c13 c14 c15 c16) (hk : m.k = 4) (t1 : (onlyB m { v := true, s := true, r := true }) = true) (t2 : (placeB m) = true) (t3 : (askB m.rq) = true) : Fit w m a13 a14 a15 a16 c13 c14 c15 c16 true := by
  obtain ⟨wa, HA, hw0, hx⟩ := msA_new m a13 a14 a15 a16 c13 c14 c15 c16 34 w
  have H0 := hid (And.intro hx (Below.refl wa.heap.size wa))
  clear hx
  have HW : Hid (inB m.ep 0 60 = true) := hid (by rw [inB, decide_eq_true h.h0, decide_eq_true h.h1]; rfl)
  have q1 := q_no (n := 1) hk (by decide); have q2 := q_no (n := 2) hk (by decide); have q3 := q_no (n := 3) hk (by decide); have q4 := q_yes hk
  have HT1 := hid ((tOnly7 h t1).up hw0)
  have HT2 := hid ((tPlaced h t2).up hw0)
  have HT3 := hid ((tDeed h t3).up hw0)
  have HW0 := hid hw0
  clear t1 t2 t3 h hk hw0
  unfold Fit msA
  simp only [msA] at HA
  replace HA := hid HA
  go_enter Try.func15, Try.ntmps15
  try simp only [List.append]
  go_upto_region 1 with fail
  rw [HA.out]
  obtain ⟨y0, y1, y2, y3, y4, y5, y6, y7, y8, y9, y10, y11, y12, y13, y14, y15, y16⟩ := msA_at H0.out.1
  go_wp2_with (first
    | (have := H2; go_at_call 31; refine (HT3.out _ H2.out.2).mono ?_; rintro e w3 ⟨rfl, hb⟩; have H3 := hid (bx_next H2.out hb); clear hb y0 y1 y2 y3 y4 y5 y6 y7 y8 y9 y10 y11 y12 y13 y14 y15 y16; obtain ⟨y0, y1, y2, y3, y4, y5, y6, y7, y8, y9, y10, y11, y12, y13, y14, y15, y16⟩ := msA_at H3.out.1)
    | (have := H1; go_at_call 30; refine (HT2.out _ H1.out.2).mono ?_; rintro e w2 ⟨rfl, hb⟩; have H2 := hid (bx_next H1.out hb); clear hb y0 y1 y2 y3 y4 y5 y6 y7 y8 y9 y10 y11 y12 y13 y14 y15 y16; obtain ⟨y0, y1, y2, y3, y4, y5, y6, y7, y8, y9, y10, y11, y12, y13, y14, y15, y16⟩ := msA_at H2.out.1)
    | (have := H0; go_at_call 27; refine (HT1.out _ H0.out.2).mono ?_; rintro e w1 ⟨rfl, hb⟩; have H1 := hid (bx_next H0.out hb); clear hb y0 y1 y2 y3 y4 y5 y6 y7 y8 y9 y10 y11 y12 y13 y14 y15 y16; obtain ⟨y0, y1, y2, y3, y4, y5, y6, y7, y8, y9, y10, y11, y12, y13, y14, y15, y16⟩ := msA_at H1.out.1)
    | (go_at_call 26; refine (iwithin_any _ _ _ _).mono ?_; rintro e w1 ⟨rfl, hw⟩; rw [HW.out]; replace hw := hw.symm; subst hw))
  go_ret
  exact ⟨by simp, HW0.out.trans (H3.out.2.mono HW0.out.size)⟩
theorem ifits_4 {F : Nat → Prop} {w : World} {m : Ms} {a13 a14 a15 a16 : Option Addr} {c13 c14 c15 c16 : Nat} (h : Fx F w m a13 a14 a15 a16 c13 c14 c15 c16) (hk : m.k = 4) : Fit w m a13 a14 a15 a16 c13 c14 c15 c16 (kindB m) := by
  have hV : kindB m = ((onlyB m { v := true, s := true, r := true }) && ((placeB m) && ((askB m.rq)))) := by
    unfold kindB
    rw [if_neg (by rw [hk]; decide)]; rw [if_neg (by rw [hk]; decide)]; rw [if_neg (by rw [hk]; decide)]; rw [if_pos hk]
  cases t1 : (onlyB m { v := true, s := true, r := true }) with
  | false =>
   rw [show kindB m = false by rw [hV, t1] <;> rfl]
   exact ifits_4_0 h hk t1
  | true =>
   cases t2 : (placeB m) with
   | false =>
    rw [show kindB m = false by rw [hV, t1, t2] <;> rfl]
    exact ifits_4_1 h hk t1 t2
   | true =>
    cases t3 : (askB m.rq) with
    | false =>
     rw [show kindB m = false by rw [hV, t1, t2, t3] <;> rfl]
     exact ifits_4_2 h hk t1 t2 t3
    | true =>
     rw [show kindB m = true by rw [hV, t1, t2, t3] <;> rfl]
     exact ifits_4_3 h hk t1 t2 t3
set_option maxRecDepth 100000 in
set_option maxHeartbeats 6400000 in
theorem ifits_8_0 {F : Nat → Prop} {w : World} {m : Ms} {a13 a14 a15 a16 : Option Addr} {c13 c14 c15 c16 : Nat} (h : Fx F w m a13 a14 a15 a16 c13 c14 c15 c16) (hk : m.k = 8) (t1 : (onlyB m { r := true, x := true }) = false) : Fit w m a13 a14 a15 a16 c13 c14 c15 c16 false := by
  obtain ⟨wa, HA, hw0, hx⟩ := msA_new m a13 a14 a15 a16 c13 c14 c15 c16 34 w
  have H0 := hid (And.intro hx (Below.refl wa.heap.size wa))
  clear hx
  have HW : Hid (inB m.ep 0 60 = true) := hid (by rw [inB, decide_eq_true h.h0, decide_eq_true h.h1]; rfl)
  have q1 := q_no (n := 1) hk (by decide); have q2 := q_no (n := 2) hk (by decide); have q3 := q_no (n := 3) hk (by decide); have q4 := q_no (n := 4) hk (by decide); have q5 := q_no (n := 5) hk (by decide); have q6 := q_no (n := 6) hk (by decide); have q7 := q_no (n := 7) hk (by decide); have q8 := q_yes hk
  have HT1 := hid ((tOnly12 h t1).up hw0)
  have HW0 := hid hw0
  clear t1 h hk hw0
  unfold Fit msA
  simp only [msA] at HA
  replace HA := hid HA
  go_enter Try.func15, Try.ntmps15
  try simp only [List.append]
  go_upto_region 1 with fail
  rw [HA.out]
  obtain ⟨y0, y1, y2, y3, y4, y5, y6, y7, y8, y9, y10, y11, y12, y13, y14, y15, y16⟩ := msA_at H0.out.1
  go_wp2_with (first
    | (have := H0; go_at_call 27; refine (HT1.out _ H0.out.2).mono ?_; rintro e w1 ⟨rfl, hb⟩; have H1 := hid (bx_next H0.out hb); clear hb y0 y1 y2 y3 y4 y5 y6 y7 y8 y9 y10 y11 y12 y13 y14 y15 y16; obtain ⟨y0, y1, y2, y3, y4, y5, y6, y7, y8, y9, y10, y11, y12, y13, y14, y15, y16⟩ := msA_at H1.out.1)
    | (go_at_call 26; refine (iwithin_any _ _ _ _).mono ?_; rintro e w1 ⟨rfl, hw⟩; rw [HW.out]; replace hw := hw.symm; subst hw))
  go_ret
  exact ⟨by simp, HW0.out.trans (H1.out.2.mono HW0.out.size)⟩
set_option maxRecDepth 100000 in
set_option maxHeartbeats 6400000 in
theorem ifits_8_1 {F : Nat → Prop} {w : World} {m : Ms} {a13 a14 a15 a16 : Option Addr} {c13 c14 c15 c16 : Nat} (h : Fx F w m a13 a14 a15 a16 c13 c14 c15 c16) (hk : m.k = 8) (t1 : (onlyB m { r := true, x := true }) = true) (t2 : (rightB m.rq) = false) : Fit w m a13 a14 a15 a16 c13 c14 c15 c16 false := by
  obtain ⟨wa, HA, hw0, hx⟩ := msA_new m a13 a14 a15 a16 c13 c14 c15 c16 34 w
  have H0 := hid (And.intro hx (Below.refl wa.heap.size wa))
  clear hx
  have HW : Hid (inB m.ep 0 60 = true) := hid (by rw [inB, decide_eq_true h.h0, decide_eq_true h.h1]; rfl)
  have q1 := q_no (n := 1) hk (by decide); have q2 := q_no (n := 2) hk (by decide); have q3 := q_no (n := 3) hk (by decide); have q4 := q_no (n := 4) hk (by decide); have q5 := q_no (n := 5) hk (by decide); have q6 := q_no (n := 6) hk (by decide); have q7 := q_no (n := 7) hk (by decide); have q8 := q_yes hk
  have HT1 := hid ((tOnly12 h t1).up hw0)
  have HT2 := hid ((tRight h t2).up hw0)
  have HW0 := hid hw0
  clear t1 t2 h hk hw0
  unfold Fit msA
  simp only [msA] at HA
  replace HA := hid HA
  go_enter Try.func15, Try.ntmps15
  try simp only [List.append]
  go_upto_region 1 with fail
  rw [HA.out]
  obtain ⟨y0, y1, y2, y3, y4, y5, y6, y7, y8, y9, y10, y11, y12, y13, y14, y15, y16⟩ := msA_at H0.out.1
  go_wp2_with (first
    | (have := H1; go_at_call 28; refine (HT2.out _ H1.out.2).mono ?_; rintro e w2 ⟨rfl, hb⟩; have H2 := hid (bx_next H1.out hb); clear hb y0 y1 y2 y3 y4 y5 y6 y7 y8 y9 y10 y11 y12 y13 y14 y15 y16; obtain ⟨y0, y1, y2, y3, y4, y5, y6, y7, y8, y9, y10, y11, y12, y13, y14, y15, y16⟩ := msA_at H2.out.1)
    | (have := H0; go_at_call 27; refine (HT1.out _ H0.out.2).mono ?_; rintro e w1 ⟨rfl, hb⟩; have H1 := hid (bx_next H0.out hb); clear hb y0 y1 y2 y3 y4 y5 y6 y7 y8 y9 y10 y11 y12 y13 y14 y15 y16; obtain ⟨y0, y1, y2, y3, y4, y5, y6, y7, y8, y9, y10, y11, y12, y13, y14, y15, y16⟩ := msA_at H1.out.1)
    | (go_at_call 26; refine (iwithin_any _ _ _ _).mono ?_; rintro e w1 ⟨rfl, hw⟩; rw [HW.out]; replace hw := hw.symm; subst hw))
  go_ret
  exact ⟨by simp, HW0.out.trans (H2.out.2.mono HW0.out.size)⟩
set_option maxRecDepth 100000 in
set_option maxHeartbeats 6400000 in
theorem ifits_8_2 {F : Nat → Prop} {w : World} {m : Ms} {a13 a14 a15 a16 : Option Addr} {c13 c14 c15 c16 : Nat} (h : Fx F w m a13 a14 a15 a16 c13 c14 c15 c16) (hk : m.k = 8) (t1 : (onlyB m { r := true, x := true }) = true) (t2 : (rightB m.rq) = true) (t3 : (rsB m.rs.1) = false) : Fit w m a13 a14 a15 a16 c13 c14 c15 c16 false := by
  obtain ⟨wa, HA, hw0, hx⟩ := msA_new m a13 a14 a15 a16 c13 c14 c15 c16 34 w
  have H0 := hid (And.intro hx (Below.refl wa.heap.size wa))
  clear hx
  have HW : Hid (inB m.ep 0 60 = true) := hid (by rw [inB, decide_eq_true h.h0, decide_eq_true h.h1]; rfl)
  have q1 := q_no (n := 1) hk (by decide); have q2 := q_no (n := 2) hk (by decide); have q3 := q_no (n := 3) hk (by decide); have q4 := q_no (n := 4) hk (by decide); have q5 := q_no (n := 5) hk (by decide); have q6 := q_no (n := 6) hk (by decide); have q7 := q_no (n := 7) hk (by decide); have q8 := q_yes hk
  have HT1 := hid ((tOnly12 h t1).up hw0)
  have HT2 := hid ((tRight h t2).up hw0)
  have HT3 := hid ((tRes h t3).up hw0)
  have HW0 := hid hw0
  clear t1 t2 t3 h hk hw0
  unfold Fit msA
  simp only [msA] at HA
  replace HA := hid HA
  go_enter Try.func15, Try.ntmps15
  try simp only [List.append]
  go_upto_region 1 with fail
  rw [HA.out]
  obtain ⟨y0, y1, y2, y3, y4, y5, y6, y7, y8, y9, y10, y11, y12, y13, y14, y15, y16⟩ := msA_at H0.out.1
  go_wp2_with (first
    | (have := H2; go_at_call 36; refine (HT3.out _ H2.out.2).mono ?_; rintro e w3 ⟨rfl, hb⟩; have H3 := hid (bx_next H2.out hb); clear hb y0 y1 y2 y3 y4 y5 y6 y7 y8 y9 y10 y11 y12 y13 y14 y15 y16; obtain ⟨y0, y1, y2, y3, y4, y5, y6, y7, y8, y9, y10, y11, y12, y13, y14, y15, y16⟩ := msA_at H3.out.1)
    | (have := H1; go_at_call 28; refine (HT2.out _ H1.out.2).mono ?_; rintro e w2 ⟨rfl, hb⟩; have H2 := hid (bx_next H1.out hb); clear hb y0 y1 y2 y3 y4 y5 y6 y7 y8 y9 y10 y11 y12 y13 y14 y15 y16; obtain ⟨y0, y1, y2, y3, y4, y5, y6, y7, y8, y9, y10, y11, y12, y13, y14, y15, y16⟩ := msA_at H2.out.1)
    | (have := H0; go_at_call 27; refine (HT1.out _ H0.out.2).mono ?_; rintro e w1 ⟨rfl, hb⟩; have H1 := hid (bx_next H0.out hb); clear hb y0 y1 y2 y3 y4 y5 y6 y7 y8 y9 y10 y11 y12 y13 y14 y15 y16; obtain ⟨y0, y1, y2, y3, y4, y5, y6, y7, y8, y9, y10, y11, y12, y13, y14, y15, y16⟩ := msA_at H1.out.1)
    | (go_at_call 26; refine (iwithin_any _ _ _ _).mono ?_; rintro e w1 ⟨rfl, hw⟩; rw [HW.out]; replace hw := hw.symm; subst hw))
  go_ret
  exact ⟨by simp, HW0.out.trans (H3.out.2.mono HW0.out.size)⟩
set_option maxRecDepth 100000 in
set_option maxHeartbeats 6400000 in
theorem ifits_8_3 {F : Nat → Prop} {w : World} {m : Ms} {a13 a14 a15 a16 : Option Addr} {c13 c14 c15 c16 : Nat} (h : Fx F w m a13 a14 a15 a16 c13 c14 c15 c16) (hk : m.k = 8) (t1 : (onlyB m { r := true, x := true }) = true) (t2 : (rightB m.rq) = true) (t3 : (rsB m.rs.1) = true) : Fit w m a13 a14 a15 a16 c13 c14 c15 c16 true := by
  obtain ⟨wa, HA, hw0, hx⟩ := msA_new m a13 a14 a15 a16 c13 c14 c15 c16 34 w
  have H0 := hid (And.intro hx (Below.refl wa.heap.size wa))
  clear hx
  have HW : Hid (inB m.ep 0 60 = true) := hid (by rw [inB, decide_eq_true h.h0, decide_eq_true h.h1]; rfl)
  have q1 := q_no (n := 1) hk (by decide); have q2 := q_no (n := 2) hk (by decide); have q3 := q_no (n := 3) hk (by decide); have q4 := q_no (n := 4) hk (by decide); have q5 := q_no (n := 5) hk (by decide); have q6 := q_no (n := 6) hk (by decide); have q7 := q_no (n := 7) hk (by decide); have q8 := q_yes hk
  have HT1 := hid ((tOnly12 h t1).up hw0)
  have HT2 := hid ((tRight h t2).up hw0)
  have HT3 := hid ((tRes h t3).up hw0)
  have HW0 := hid hw0
  clear t1 t2 t3 h hk hw0
  unfold Fit msA
  simp only [msA] at HA
  replace HA := hid HA
  go_enter Try.func15, Try.ntmps15
  try simp only [List.append]
  go_upto_region 1 with fail
  rw [HA.out]
  obtain ⟨y0, y1, y2, y3, y4, y5, y6, y7, y8, y9, y10, y11, y12, y13, y14, y15, y16⟩ := msA_at H0.out.1
  go_wp2_with (first
    | (have := H2; go_at_call 36; refine (HT3.out _ H2.out.2).mono ?_; rintro e w3 ⟨rfl, hb⟩; have H3 := hid (bx_next H2.out hb); clear hb y0 y1 y2 y3 y4 y5 y6 y7 y8 y9 y10 y11 y12 y13 y14 y15 y16; obtain ⟨y0, y1, y2, y3, y4, y5, y6, y7, y8, y9, y10, y11, y12, y13, y14, y15, y16⟩ := msA_at H3.out.1)
    | (have := H1; go_at_call 28; refine (HT2.out _ H1.out.2).mono ?_; rintro e w2 ⟨rfl, hb⟩; have H2 := hid (bx_next H1.out hb); clear hb y0 y1 y2 y3 y4 y5 y6 y7 y8 y9 y10 y11 y12 y13 y14 y15 y16; obtain ⟨y0, y1, y2, y3, y4, y5, y6, y7, y8, y9, y10, y11, y12, y13, y14, y15, y16⟩ := msA_at H2.out.1)
    | (have := H0; go_at_call 27; refine (HT1.out _ H0.out.2).mono ?_; rintro e w1 ⟨rfl, hb⟩; have H1 := hid (bx_next H0.out hb); clear hb y0 y1 y2 y3 y4 y5 y6 y7 y8 y9 y10 y11 y12 y13 y14 y15 y16; obtain ⟨y0, y1, y2, y3, y4, y5, y6, y7, y8, y9, y10, y11, y12, y13, y14, y15, y16⟩ := msA_at H1.out.1)
    | (go_at_call 26; refine (iwithin_any _ _ _ _).mono ?_; rintro e w1 ⟨rfl, hw⟩; rw [HW.out]; replace hw := hw.symm; subst hw))
  go_ret
  exact ⟨by simp, HW0.out.trans (H3.out.2.mono HW0.out.size)⟩
theorem ifits_8 {F : Nat → Prop} {w : World} {m : Ms} {a13 a14 a15 a16 : Option Addr} {c13 c14 c15 c16 : Nat} (h : Fx F w m a13 a14 a15 a16 c13 c14 c15 c16) (hk : m.k = 8) : Fit w m a13 a14 a15 a16 c13 c14 c15 c16 (kindB m) := by
  have hV : kindB m = ((onlyB m { r := true, x := true }) && ((rightB m.rq) && ((rsB m.rs.1)))) := by
    unfold kindB
    rw [if_neg (by rw [hk]; decide)]; rw [if_neg (by rw [hk]; decide)]; rw [if_neg (by rw [hk]; decide)]; rw [if_neg (by rw [hk]; decide)]; rw [if_neg (by rw [hk]; decide)]; rw [if_neg (by rw [hk]; decide)]; rw [if_neg (by rw [hk]; decide)]; rw [if_pos hk]
  cases t1 : (onlyB m { r := true, x := true }) with
  | false =>
   rw [show kindB m = false by rw [hV, t1] <;> rfl]
   exact ifits_8_0 h hk t1
  | true =>
   cases t2 : (rightB m.rq) with
   | false =>
    rw [show kindB m = false by rw [hV, t1, t2] <;> rfl]
    exact ifits_8_1 h hk t1 t2
   | true =>
    cases t3 : (rsB m.rs.1) with
    | false =>
     rw [show kindB m = false by rw [hV, t1, t2, t3] <;> rfl]
     exact ifits_8_2 h hk t1 t2 t3
    | true =>
     rw [show kindB m = true by rw [hV, t1, t2, t3] <;> rfl]
     exact ifits_8_3 h hk t1 t2 t3
end Go.Proofs.Ytfjcpghepkmbfaa
