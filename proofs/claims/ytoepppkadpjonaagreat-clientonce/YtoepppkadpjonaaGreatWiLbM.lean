/- The program's test of fields that are to be zero. -/
import Derived.Test.YtoepppkadpjonaaGreatNb10
namespace Go.Proofs.YtoepppkadpjonaaGreat
set_option maxRecDepth 100000
open Go.RowKit
set_option maxHeartbeats 6400000 in
theorem ionly_129 (m : Ms) (a13 a14 a15 a16 : Option Addr) (c13 c14 c15 c16 : Nat) (w : World) :
   Calls Tryz.prog 161 #[.agg (msA m a13 a14 a15 a16 c13 c14 c15 c16).toArray, .int .i64 129] w fun e w' => e = .returned (.bool (onlyB m { v := true, c := true })) ∧ Below w.heap.size w w' := by
 obtain ⟨wa, HA, hb, hx⟩ := msA_new m a13 a14 a15 a16 c13 c14 c15 c16 48 w
 have H0 := hid (And.intro hx hb)
 clear hb hx
 obtain ⟨y0, y1, y2, y3, y4, y5, y6, y7, y8, y9, y10, y11, y12, y13, y14, y15, y16⟩ := msA_at H0.out.1
 obtain ⟨V, eV⟩ : ∃ V, V = onlyB m { v := true, c := true } := ⟨_, rfl⟩
 rw [← eV]
 have HV := hid eV
 clear eV
 have HN := hid (fun u => dnull_any m.rq u)
 have ht := none_size m.tx
 have g0 : setB 129 1 = true := rfl; have g1 : setB 129 2 = false := rfl; have g2 : setB 129 4 = false := rfl; have g3 : setB 129 8 = false := rfl; have g4 : setB 129 16 = false := rfl; have g5 : setB 129 32 = false := rfl; have g6 : setB 129 64 = false := rfl; have g7 : setB 129 128 = true := rfl; have g8 : setB 129 256 = false := rfl
 unfold msA
 simp only [msA] at HA
 replace HA := hid HA
 cases e0 : decide (m.sl = 0) with
 | false =>
  have f0 := of_decide_eq_false e0
  have b0 : (m.sl == 0) = false := by rw [beq_eq_false_iff_ne]; omega
  clear f0
  have hv : Hid (V = false) := hid (by rw [HV.out, onlyB]; simp only [*]; rfl)
  go_enter Tryz.func161, Tryz.ntmps161
  simp only [List.append]
  go_wp2_with fail
  rw [HA.out]
  go_wp2_with (first
    | (go_at_call 183; go_must (refine (ihas_any _ _ _).mono ?_; rintro e wz ⟨rfl, hw⟩; replace hw := hw.symm; subst hw)))
  go_ret
  exact ⟨by rw [hv.out]; rfl, H0.out.2⟩
 | true =>
  have f0 := of_decide_eq_true e0
  have b0 : (m.sl == 0) = true := by rw [beq_iff_eq]; omega
  clear f0
  cases e1 : nullB m.rq with
  | false =>
   rw [e1] at HN
   have hv : Hid (V = false) := hid (by rw [HV.out, onlyB]; simp only [*]; rfl)
   go_enter Tryz.func161, Tryz.ntmps161
   simp only [List.append]
   go_wp2_with fail
   rw [HA.out]
   go_wp2_with (first
     | (go_at_call 183; go_must (refine (ihas_any _ _ _).mono ?_; rintro e wz ⟨rfl, hw⟩; replace hw := hw.symm; subst hw))
     | (go_at_call 81; refine (HN.out _).mono ?_; rintro e w1 ⟨rfl, hb⟩; have H1 := hid (bx_next H0.out hb); clear hb y0 y1 y2 y3 y4 y5 y6 y7 y8 y9 y10 y11 y12 y13 y14 y15 y16; obtain ⟨y0, y1, y2, y3, y4, y5, y6, y7, y8, y9, y10, y11, y12, y13, y14, y15, y16⟩ := msA_at H1.out.1))
   go_ret
   exact ⟨by rw [hv.out]; rfl, H1.out.2⟩
  | true =>
   rw [e1] at HN
   cases e2 : decide (m.rs.1 = 0) with
   | false =>
    have f2 := of_decide_eq_false e2
    have b2 : (m.rs.1 == 0) = false := by rw [beq_eq_false_iff_ne]; omega
    clear f2
    have hv : Hid (V = false) := hid (by rw [HV.out, onlyB]; simp only [*]; rfl)
    go_enter Tryz.func161, Tryz.ntmps161
    simp only [List.append]
    go_wp2_with fail
    rw [HA.out]
    go_wp2_with (first
      | (go_at_call 183; go_must (refine (ihas_any _ _ _).mono ?_; rintro e wz ⟨rfl, hw⟩; replace hw := hw.symm; subst hw))
      | (go_at_call 81; refine (HN.out _).mono ?_; rintro e w1 ⟨rfl, hb⟩; have H1 := hid (bx_next H0.out hb); clear hb y0 y1 y2 y3 y4 y5 y6 y7 y8 y9 y10 y11 y12 y13 y14 y15 y16; obtain ⟨y0, y1, y2, y3, y4, y5, y6, y7, y8, y9, y10, y11, y12, y13, y14, y15, y16⟩ := msA_at H1.out.1))
    go_ret
    exact ⟨by rw [hv.out]; rfl, H1.out.2⟩
   | true =>
    have f2 := of_decide_eq_true e2
    have b2 : (m.rs.1 == 0) = true := by rw [beq_iff_eq]; omega
    clear f2
    cases e3 : decide (canW m.rs.2 = 0) with
    | false =>
     have f3 := of_decide_eq_false e3
     have b3 : (((canW m.rs.2 : Nat) : Int) == 0) = false := by rw [beq_eq_false_iff_ne]; omega
     clear f3
     have hv : Hid (V = false) := hid (by rw [HV.out, onlyB]; simp only [*]; rfl)
     go_enter Tryz.func161, Tryz.ntmps161
     simp only [List.append]
     go_wp2_with fail
     rw [HA.out]
     go_wp2_with (first
       | (go_at_call 183; go_must (refine (ihas_any _ _ _).mono ?_; rintro e wz ⟨rfl, hw⟩; replace hw := hw.symm; subst hw))
       | (go_at_call 122; refine (bits_any _ _).mono ?_; rintro e wz ⟨rfl, hw⟩; replace hw := hw.symm; subst hw)
       | (go_at_call 81; refine (HN.out _).mono ?_; rintro e w1 ⟨rfl, hb⟩; have H1 := hid (bx_next H0.out hb); clear hb y0 y1 y2 y3 y4 y5 y6 y7 y8 y9 y10 y11 y12 y13 y14 y15 y16; obtain ⟨y0, y1, y2, y3, y4, y5, y6, y7, y8, y9, y10, y11, y12, y13, y14, y15, y16⟩ := msA_at H1.out.1))
     go_ret
     exact ⟨by rw [hv.out]; rfl, H1.out.2⟩
    | true =>
     have f3 := of_decide_eq_true e3
     have b3 : (((canW m.rs.2 : Nat) : Int) == 0) = true := by rw [beq_iff_eq]; omega
     clear f3
     cases e4 : decide (m.tx.size = 0) with
     | false =>
      rw [e4] at ht
      have hv : Hid (V = false) := hid (by rw [HV.out, onlyB]; simp only [*]; rfl)
      go_enter Tryz.func161, Tryz.ntmps161
      simp only [List.append]
      go_wp2_with fail
      rw [HA.out]
      go_wp2_with (first
        | (go_at_call 183; go_must (refine (ihas_any _ _ _).mono ?_; rintro e wz ⟨rfl, hw⟩; replace hw := hw.symm; subst hw))
        | (go_at_call 122; refine (bits_any _ _).mono ?_; rintro e wz ⟨rfl, hw⟩; replace hw := hw.symm; subst hw)
        | (go_at_call 81; refine (HN.out _).mono ?_; rintro e w1 ⟨rfl, hb⟩; have H1 := hid (bx_next H0.out hb); clear hb y0 y1 y2 y3 y4 y5 y6 y7 y8 y9 y10 y11 y12 y13 y14 y15 y16; obtain ⟨y0, y1, y2, y3, y4, y5, y6, y7, y8, y9, y10, y11, y12, y13, y14, y15, y16⟩ := msA_at H1.out.1))
      go_ret
      exact ⟨by rw [hv.out]; rfl, H1.out.2⟩
     | true =>
      rw [e4] at ht
      cases e5 : decide (m.nx.length = 0) with
      | false =>
       have f5 := of_decide_eq_false e5
       have b5 : ((m.nx.length : Int) == 0) = false := by rw [beq_eq_false_iff_ne]; omega
       clear f5
       have hv : Hid (V = false) := hid (by rw [HV.out, onlyB]; simp only [*]; rfl)
       go_enter Tryz.func161, Tryz.ntmps161
       simp only [List.append]
       go_wp2_with fail
       rw [HA.out]
       go_wp2_with (first
         | (go_at_call 183; go_must (refine (ihas_any _ _ _).mono ?_; rintro e wz ⟨rfl, hw⟩; replace hw := hw.symm; subst hw))
         | (go_at_call 122; refine (bits_any _ _).mono ?_; rintro e wz ⟨rfl, hw⟩; replace hw := hw.symm; subst hw)
         | (go_at_call 81; refine (HN.out _).mono ?_; rintro e w1 ⟨rfl, hb⟩; have H1 := hid (bx_next H0.out hb); clear hb y0 y1 y2 y3 y4 y5 y6 y7 y8 y9 y10 y11 y12 y13 y14 y15 y16; obtain ⟨y0, y1, y2, y3, y4, y5, y6, y7, y8, y9, y10, y11, y12, y13, y14, y15, y16⟩ := msA_at H1.out.1))
       go_ret
       exact ⟨by rw [hv.out]; rfl, H1.out.2⟩
      | true =>
       have f5 := of_decide_eq_true e5
       have b5 : ((m.nx.length : Int) == 0) = true := by rw [beq_iff_eq]; omega
       clear f5
       cases e6 : decide (m.sg.length = 0) with
       | false =>
        have f6 := of_decide_eq_false e6
        have b6 : ((m.sg.length : Int) == 0) = false := by rw [beq_eq_false_iff_ne]; omega
        clear f6
        have hv : Hid (V = false) := hid (by rw [HV.out, onlyB]; simp only [*]; rfl)
        go_enter Tryz.func161, Tryz.ntmps161
        simp only [List.append]
        go_wp2_with fail
        rw [HA.out]
        go_wp2_with (first
          | (go_at_call 183; go_must (refine (ihas_any _ _ _).mono ?_; rintro e wz ⟨rfl, hw⟩; replace hw := hw.symm; subst hw))
          | (go_at_call 122; refine (bits_any _ _).mono ?_; rintro e wz ⟨rfl, hw⟩; replace hw := hw.symm; subst hw)
          | (go_at_call 81; refine (HN.out _).mono ?_; rintro e w1 ⟨rfl, hb⟩; have H1 := hid (bx_next H0.out hb); clear hb y0 y1 y2 y3 y4 y5 y6 y7 y8 y9 y10 y11 y12 y13 y14 y15 y16; obtain ⟨y0, y1, y2, y3, y4, y5, y6, y7, y8, y9, y10, y11, y12, y13, y14, y15, y16⟩ := msA_at H1.out.1))
        go_ret
        exact ⟨by rw [hv.out]; rfl, H1.out.2⟩
       | true =>
        have f6 := of_decide_eq_true e6
        have b6 : ((m.sg.length : Int) == 0) = true := by rw [beq_iff_eq]; omega
        clear f6
        cases e7 : decide (m.ln.length = 0) with
        | false =>
         have f7 := of_decide_eq_false e7
         have b7 : ((m.ln.length : Int) == 0) = false := by rw [beq_eq_false_iff_ne]; omega
         clear f7
         have hv : Hid (V = false) := hid (by rw [HV.out, onlyB]; simp only [*]; rfl)
         go_enter Tryz.func161, Tryz.ntmps161
         simp only [List.append]
         go_wp2_with fail
         rw [HA.out]
         go_wp2_with (first
           | (go_at_call 183; go_must (refine (ihas_any _ _ _).mono ?_; rintro e wz ⟨rfl, hw⟩; replace hw := hw.symm; subst hw))
           | (go_at_call 122; refine (bits_any _ _).mono ?_; rintro e wz ⟨rfl, hw⟩; replace hw := hw.symm; subst hw)
           | (go_at_call 81; refine (HN.out _).mono ?_; rintro e w1 ⟨rfl, hb⟩; have H1 := hid (bx_next H0.out hb); clear hb y0 y1 y2 y3 y4 y5 y6 y7 y8 y9 y10 y11 y12 y13 y14 y15 y16; obtain ⟨y0, y1, y2, y3, y4, y5, y6, y7, y8, y9, y10, y11, y12, y13, y14, y15, y16⟩ := msA_at H1.out.1))
         go_ret
         exact ⟨by rw [hv.out]; rfl, H1.out.2⟩
        | true =>
         have f7 := of_decide_eq_true e7
         have b7 : ((m.ln.length : Int) == 0) = true := by rw [beq_iff_eq]; omega
         clear f7
         have hv : Hid (V = true) := hid (by rw [HV.out, onlyB]; simp only [*]; rfl)
         go_enter Tryz.func161, Tryz.ntmps161
         simp only [List.append]
         go_wp2_with fail
         rw [HA.out]
         go_wp2_with (first
           | (go_at_call 183; go_must (refine (ihas_any _ _ _).mono ?_; rintro e wz ⟨rfl, hw⟩; replace hw := hw.symm; subst hw))
           | (go_at_call 122; refine (bits_any _ _).mono ?_; rintro e wz ⟨rfl, hw⟩; replace hw := hw.symm; subst hw)
           | (go_at_call 81; refine (HN.out _).mono ?_; rintro e w1 ⟨rfl, hb⟩; have H1 := hid (bx_next H0.out hb); clear hb y0 y1 y2 y3 y4 y5 y6 y7 y8 y9 y10 y11 y12 y13 y14 y15 y16; obtain ⟨y0, y1, y2, y3, y4, y5, y6, y7, y8, y9, y10, y11, y12, y13, y14, y15, y16⟩ := msA_at H1.out.1))
         go_ret
         exact ⟨by rw [hv.out]; rfl, H1.out.2⟩
set_option maxHeartbeats 6400000 in
theorem ionly_12 (m : Ms) (a13 a14 a15 a16 : Option Addr) (c13 c14 c15 c16 : Nat) (w : World) :
   Calls Tryz.prog 161 #[.agg (msA m a13 a14 a15 a16 c13 c14 c15 c16).toArray, .int .i64 12] w fun e w' => e = .returned (.bool (onlyB m { r := true, x := true })) ∧ Below w.heap.size w w' := by
 obtain ⟨wa, HA, hb, hx⟩ := msA_new m a13 a14 a15 a16 c13 c14 c15 c16 48 w
 have H0 := hid (And.intro hx hb)
 clear hb hx
 obtain ⟨y0, y1, y2, y3, y4, y5, y6, y7, y8, y9, y10, y11, y12, y13, y14, y15, y16⟩ := msA_at H0.out.1
 obtain ⟨V, eV⟩ : ∃ V, V = onlyB m { r := true, x := true } := ⟨_, rfl⟩
 rw [← eV]
 have HV := hid eV
 clear eV
 have HN := hid (fun u => dnull_any m.rq u)
 have ht := none_size m.tx
 have g0 : setB 12 1 = false := rfl; have g1 : setB 12 2 = false := rfl; have g2 : setB 12 4 = true := rfl; have g3 : setB 12 8 = true := rfl; have g4 : setB 12 16 = false := rfl; have g5 : setB 12 32 = false := rfl; have g6 : setB 12 64 = false := rfl; have g7 : setB 12 128 = false := rfl; have g8 : setB 12 256 = false := rfl
 unfold msA
 simp only [msA] at HA
 replace HA := hid HA
 cases e0 : decide (m.v = 0) with
 | false =>
  have f0 := of_decide_eq_false e0
  have b0 : (m.v == 0) = false := by rw [beq_eq_false_iff_ne]; omega
  clear f0
  have hv : Hid (V = false) := hid (by rw [HV.out, onlyB]; simp only [*]; rfl)
  go_enter Tryz.func161, Tryz.ntmps161
  simp only [List.append]
  go_wp2_with fail
  rw [HA.out]
  go_wp2_with (first
    | (go_at_call 183; go_must (refine (ihas_any _ _ _).mono ?_; rintro e wz ⟨rfl, hw⟩; replace hw := hw.symm; subst hw)))
  go_ret
  exact ⟨by rw [hv.out]; rfl, H0.out.2⟩
 | true =>
  have f0 := of_decide_eq_true e0
  have b0 : (m.v == 0) = true := by rw [beq_iff_eq]; omega
  clear f0
  cases e1 : decide (m.sl = 0) with
  | false =>
   have f1 := of_decide_eq_false e1
   have b1 : (m.sl == 0) = false := by rw [beq_eq_false_iff_ne]; omega
   clear f1
   have hv : Hid (V = false) := hid (by rw [HV.out, onlyB]; simp only [*]; rfl)
   go_enter Tryz.func161, Tryz.ntmps161
   simp only [List.append]
   go_wp2_with fail
   rw [HA.out]
   go_wp2_with (first
     | (go_at_call 183; go_must (refine (ihas_any _ _ _).mono ?_; rintro e wz ⟨rfl, hw⟩; replace hw := hw.symm; subst hw)))
   go_ret
   exact ⟨by rw [hv.out]; rfl, H0.out.2⟩
  | true =>
   have f1 := of_decide_eq_true e1
   have b1 : (m.sl == 0) = true := by rw [beq_iff_eq]; omega
   clear f1
   cases e2 : decide (m.tx.size = 0) with
   | false =>
    rw [e2] at ht
    have hv : Hid (V = false) := hid (by rw [HV.out, onlyB]; simp only [*]; rfl)
    go_enter Tryz.func161, Tryz.ntmps161
    simp only [List.append]
    go_wp2_with fail
    rw [HA.out]
    go_wp2_with (first
      | (go_at_call 183; go_must (refine (ihas_any _ _ _).mono ?_; rintro e wz ⟨rfl, hw⟩; replace hw := hw.symm; subst hw)))
    go_ret
    exact ⟨by rw [hv.out]; rfl, H0.out.2⟩
   | true =>
    rw [e2] at ht
    cases e3 : decide (m.nx.length = 0) with
    | false =>
     have f3 := of_decide_eq_false e3
     have b3 : ((m.nx.length : Int) == 0) = false := by rw [beq_eq_false_iff_ne]; omega
     clear f3
     have hv : Hid (V = false) := hid (by rw [HV.out, onlyB]; simp only [*]; rfl)
     go_enter Tryz.func161, Tryz.ntmps161
     simp only [List.append]
     go_wp2_with fail
     rw [HA.out]
     go_wp2_with (first
       | (go_at_call 183; go_must (refine (ihas_any _ _ _).mono ?_; rintro e wz ⟨rfl, hw⟩; replace hw := hw.symm; subst hw)))
     go_ret
     exact ⟨by rw [hv.out]; rfl, H0.out.2⟩
    | true =>
     have f3 := of_decide_eq_true e3
     have b3 : ((m.nx.length : Int) == 0) = true := by rw [beq_iff_eq]; omega
     clear f3
     cases e4 : decide (m.sg.length = 0) with
     | false =>
      have f4 := of_decide_eq_false e4
      have b4 : ((m.sg.length : Int) == 0) = false := by rw [beq_eq_false_iff_ne]; omega
      clear f4
      have hv : Hid (V = false) := hid (by rw [HV.out, onlyB]; simp only [*]; rfl)
      go_enter Tryz.func161, Tryz.ntmps161
      simp only [List.append]
      go_wp2_with fail
      rw [HA.out]
      go_wp2_with (first
        | (go_at_call 183; go_must (refine (ihas_any _ _ _).mono ?_; rintro e wz ⟨rfl, hw⟩; replace hw := hw.symm; subst hw)))
      go_ret
      exact ⟨by rw [hv.out]; rfl, H0.out.2⟩
     | true =>
      have f4 := of_decide_eq_true e4
      have b4 : ((m.sg.length : Int) == 0) = true := by rw [beq_iff_eq]; omega
      clear f4
      cases e5 : decide (m.cg.length = 0) with
      | false =>
       have f5 := of_decide_eq_false e5
       have b5 : ((m.cg.length : Int) == 0) = false := by rw [beq_eq_false_iff_ne]; omega
       clear f5
       have hv : Hid (V = false) := hid (by rw [HV.out, onlyB]; simp only [*]; rfl)
       go_enter Tryz.func161, Tryz.ntmps161
       simp only [List.append]
       go_wp2_with fail
       rw [HA.out]
       go_wp2_with (first
         | (go_at_call 183; go_must (refine (ihas_any _ _ _).mono ?_; rintro e wz ⟨rfl, hw⟩; replace hw := hw.symm; subst hw)))
       go_ret
       exact ⟨by rw [hv.out]; rfl, H0.out.2⟩
      | true =>
       have f5 := of_decide_eq_true e5
       have b5 : ((m.cg.length : Int) == 0) = true := by rw [beq_iff_eq]; omega
       clear f5
       cases e6 : decide (m.ln.length = 0) with
       | false =>
        have f6 := of_decide_eq_false e6
        have b6 : ((m.ln.length : Int) == 0) = false := by rw [beq_eq_false_iff_ne]; omega
        clear f6
        have hv : Hid (V = false) := hid (by rw [HV.out, onlyB]; simp only [*]; rfl)
        go_enter Tryz.func161, Tryz.ntmps161
        simp only [List.append]
        go_wp2_with fail
        rw [HA.out]
        go_wp2_with (first
          | (go_at_call 183; go_must (refine (ihas_any _ _ _).mono ?_; rintro e wz ⟨rfl, hw⟩; replace hw := hw.symm; subst hw)))
        go_ret
        exact ⟨by rw [hv.out]; rfl, H0.out.2⟩
       | true =>
        have f6 := of_decide_eq_true e6
        have b6 : ((m.ln.length : Int) == 0) = true := by rw [beq_iff_eq]; omega
        clear f6
        have hv : Hid (V = true) := hid (by rw [HV.out, onlyB]; simp only [*]; rfl)
        go_enter Tryz.func161, Tryz.ntmps161
        simp only [List.append]
        go_wp2_with fail
        rw [HA.out]
        go_wp2_with (first
          | (go_at_call 183; go_must (refine (ihas_any _ _ _).mono ?_; rintro e wz ⟨rfl, hw⟩; replace hw := hw.symm; subst hw)))
        go_ret
        exact ⟨by rw [hv.out]; rfl, H0.out.2⟩
set_option maxHeartbeats 6400000 in
theorem ionly_0 (m : Ms) (a13 a14 a15 a16 : Option Addr) (c13 c14 c15 c16 : Nat) (w : World) :
   Calls Tryz.prog 161 #[.agg (msA m a13 a14 a15 a16 c13 c14 c15 c16).toArray, .int .i64 0] w fun e w' => e = .returned (.bool (onlyB m {  })) ∧ Below w.heap.size w w' := by
 obtain ⟨wa, HA, hb, hx⟩ := msA_new m a13 a14 a15 a16 c13 c14 c15 c16 48 w
 have H0 := hid (And.intro hx hb)
 clear hb hx
 obtain ⟨y0, y1, y2, y3, y4, y5, y6, y7, y8, y9, y10, y11, y12, y13, y14, y15, y16⟩ := msA_at H0.out.1
 obtain ⟨V, eV⟩ : ∃ V, V = onlyB m {  } := ⟨_, rfl⟩
 rw [← eV]
 have HV := hid eV
 clear eV
 have HN := hid (fun u => dnull_any m.rq u)
 have ht := none_size m.tx
 have g0 : setB 0 1 = false := rfl; have g1 : setB 0 2 = false := rfl; have g2 : setB 0 4 = false := rfl; have g3 : setB 0 8 = false := rfl; have g4 : setB 0 16 = false := rfl; have g5 : setB 0 32 = false := rfl; have g6 : setB 0 64 = false := rfl; have g7 : setB 0 128 = false := rfl; have g8 : setB 0 256 = false := rfl
 unfold msA
 simp only [msA] at HA
 replace HA := hid HA
 cases e0 : decide (m.v = 0) with
 | false =>
  have f0 := of_decide_eq_false e0
  have b0 : (m.v == 0) = false := by rw [beq_eq_false_iff_ne]; omega
  clear f0
  have hv : Hid (V = false) := hid (by rw [HV.out, onlyB]; simp only [*]; rfl)
  go_enter Tryz.func161, Tryz.ntmps161
  simp only [List.append]
  go_wp2_with fail
  rw [HA.out]
  go_wp2_with (first
    | (go_at_call 183; go_must (refine (ihas_any _ _ _).mono ?_; rintro e wz ⟨rfl, hw⟩; replace hw := hw.symm; subst hw)))
  go_ret
  exact ⟨by rw [hv.out]; rfl, H0.out.2⟩
 | true =>
  have f0 := of_decide_eq_true e0
  have b0 : (m.v == 0) = true := by rw [beq_iff_eq]; omega
  clear f0
  cases e1 : decide (m.sl = 0) with
  | false =>
   have f1 := of_decide_eq_false e1
   have b1 : (m.sl == 0) = false := by rw [beq_eq_false_iff_ne]; omega
   clear f1
   have hv : Hid (V = false) := hid (by rw [HV.out, onlyB]; simp only [*]; rfl)
   go_enter Tryz.func161, Tryz.ntmps161
   simp only [List.append]
   go_wp2_with fail
   rw [HA.out]
   go_wp2_with (first
     | (go_at_call 183; go_must (refine (ihas_any _ _ _).mono ?_; rintro e wz ⟨rfl, hw⟩; replace hw := hw.symm; subst hw)))
   go_ret
   exact ⟨by rw [hv.out]; rfl, H0.out.2⟩
  | true =>
   have f1 := of_decide_eq_true e1
   have b1 : (m.sl == 0) = true := by rw [beq_iff_eq]; omega
   clear f1
   cases e2 : nullB m.rq with
   | false =>
    rw [e2] at HN
    have hv : Hid (V = false) := hid (by rw [HV.out, onlyB]; simp only [*]; rfl)
    go_enter Tryz.func161, Tryz.ntmps161
    simp only [List.append]
    go_wp2_with fail
    rw [HA.out]
    go_wp2_with (first
      | (go_at_call 183; go_must (refine (ihas_any _ _ _).mono ?_; rintro e wz ⟨rfl, hw⟩; replace hw := hw.symm; subst hw))
      | (go_at_call 81; refine (HN.out _).mono ?_; rintro e w1 ⟨rfl, hb⟩; have H1 := hid (bx_next H0.out hb); clear hb y0 y1 y2 y3 y4 y5 y6 y7 y8 y9 y10 y11 y12 y13 y14 y15 y16; obtain ⟨y0, y1, y2, y3, y4, y5, y6, y7, y8, y9, y10, y11, y12, y13, y14, y15, y16⟩ := msA_at H1.out.1))
    go_ret
    exact ⟨by rw [hv.out]; rfl, H1.out.2⟩
   | true =>
    rw [e2] at HN
    cases e3 : decide (m.rs.1 = 0) with
    | false =>
     have f3 := of_decide_eq_false e3
     have b3 : (m.rs.1 == 0) = false := by rw [beq_eq_false_iff_ne]; omega
     clear f3
     have hv : Hid (V = false) := hid (by rw [HV.out, onlyB]; simp only [*]; rfl)
     go_enter Tryz.func161, Tryz.ntmps161
     simp only [List.append]
     go_wp2_with fail
     rw [HA.out]
     go_wp2_with (first
       | (go_at_call 183; go_must (refine (ihas_any _ _ _).mono ?_; rintro e wz ⟨rfl, hw⟩; replace hw := hw.symm; subst hw))
       | (go_at_call 81; refine (HN.out _).mono ?_; rintro e w1 ⟨rfl, hb⟩; have H1 := hid (bx_next H0.out hb); clear hb y0 y1 y2 y3 y4 y5 y6 y7 y8 y9 y10 y11 y12 y13 y14 y15 y16; obtain ⟨y0, y1, y2, y3, y4, y5, y6, y7, y8, y9, y10, y11, y12, y13, y14, y15, y16⟩ := msA_at H1.out.1))
     go_ret
     exact ⟨by rw [hv.out]; rfl, H1.out.2⟩
    | true =>
     have f3 := of_decide_eq_true e3
     have b3 : (m.rs.1 == 0) = true := by rw [beq_iff_eq]; omega
     clear f3
     cases e4 : decide (canW m.rs.2 = 0) with
     | false =>
      have f4 := of_decide_eq_false e4
      have b4 : (((canW m.rs.2 : Nat) : Int) == 0) = false := by rw [beq_eq_false_iff_ne]; omega
      clear f4
      have hv : Hid (V = false) := hid (by rw [HV.out, onlyB]; simp only [*]; rfl)
      go_enter Tryz.func161, Tryz.ntmps161
      simp only [List.append]
      go_wp2_with fail
      rw [HA.out]
      go_wp2_with (first
        | (go_at_call 183; go_must (refine (ihas_any _ _ _).mono ?_; rintro e wz ⟨rfl, hw⟩; replace hw := hw.symm; subst hw))
        | (go_at_call 122; refine (bits_any _ _).mono ?_; rintro e wz ⟨rfl, hw⟩; replace hw := hw.symm; subst hw)
        | (go_at_call 81; refine (HN.out _).mono ?_; rintro e w1 ⟨rfl, hb⟩; have H1 := hid (bx_next H0.out hb); clear hb y0 y1 y2 y3 y4 y5 y6 y7 y8 y9 y10 y11 y12 y13 y14 y15 y16; obtain ⟨y0, y1, y2, y3, y4, y5, y6, y7, y8, y9, y10, y11, y12, y13, y14, y15, y16⟩ := msA_at H1.out.1))
      go_ret
      exact ⟨by rw [hv.out]; rfl, H1.out.2⟩
     | true =>
      have f4 := of_decide_eq_true e4
      have b4 : (((canW m.rs.2 : Nat) : Int) == 0) = true := by rw [beq_iff_eq]; omega
      clear f4
      cases e5 : decide (m.tx.size = 0) with
      | false =>
       rw [e5] at ht
       have hv : Hid (V = false) := hid (by rw [HV.out, onlyB]; simp only [*]; rfl)
       go_enter Tryz.func161, Tryz.ntmps161
       simp only [List.append]
       go_wp2_with fail
       rw [HA.out]
       go_wp2_with (first
         | (go_at_call 183; go_must (refine (ihas_any _ _ _).mono ?_; rintro e wz ⟨rfl, hw⟩; replace hw := hw.symm; subst hw))
         | (go_at_call 122; refine (bits_any _ _).mono ?_; rintro e wz ⟨rfl, hw⟩; replace hw := hw.symm; subst hw)
         | (go_at_call 81; refine (HN.out _).mono ?_; rintro e w1 ⟨rfl, hb⟩; have H1 := hid (bx_next H0.out hb); clear hb y0 y1 y2 y3 y4 y5 y6 y7 y8 y9 y10 y11 y12 y13 y14 y15 y16; obtain ⟨y0, y1, y2, y3, y4, y5, y6, y7, y8, y9, y10, y11, y12, y13, y14, y15, y16⟩ := msA_at H1.out.1))
       go_ret
       exact ⟨by rw [hv.out]; rfl, H1.out.2⟩
      | true =>
       rw [e5] at ht
       cases e6 : decide (m.nx.length = 0) with
       | false =>
        have f6 := of_decide_eq_false e6
        have b6 : ((m.nx.length : Int) == 0) = false := by rw [beq_eq_false_iff_ne]; omega
        clear f6
        have hv : Hid (V = false) := hid (by rw [HV.out, onlyB]; simp only [*]; rfl)
        go_enter Tryz.func161, Tryz.ntmps161
        simp only [List.append]
        go_wp2_with fail
        rw [HA.out]
        go_wp2_with (first
          | (go_at_call 183; go_must (refine (ihas_any _ _ _).mono ?_; rintro e wz ⟨rfl, hw⟩; replace hw := hw.symm; subst hw))
          | (go_at_call 122; refine (bits_any _ _).mono ?_; rintro e wz ⟨rfl, hw⟩; replace hw := hw.symm; subst hw)
          | (go_at_call 81; refine (HN.out _).mono ?_; rintro e w1 ⟨rfl, hb⟩; have H1 := hid (bx_next H0.out hb); clear hb y0 y1 y2 y3 y4 y5 y6 y7 y8 y9 y10 y11 y12 y13 y14 y15 y16; obtain ⟨y0, y1, y2, y3, y4, y5, y6, y7, y8, y9, y10, y11, y12, y13, y14, y15, y16⟩ := msA_at H1.out.1))
        go_ret
        exact ⟨by rw [hv.out]; rfl, H1.out.2⟩
       | true =>
        have f6 := of_decide_eq_true e6
        have b6 : ((m.nx.length : Int) == 0) = true := by rw [beq_iff_eq]; omega
        clear f6
        cases e7 : decide (m.sg.length = 0) with
        | false =>
         have f7 := of_decide_eq_false e7
         have b7 : ((m.sg.length : Int) == 0) = false := by rw [beq_eq_false_iff_ne]; omega
         clear f7
         have hv : Hid (V = false) := hid (by rw [HV.out, onlyB]; simp only [*]; rfl)
         go_enter Tryz.func161, Tryz.ntmps161
         simp only [List.append]
         go_wp2_with fail
         rw [HA.out]
         go_wp2_with (first
           | (go_at_call 183; go_must (refine (ihas_any _ _ _).mono ?_; rintro e wz ⟨rfl, hw⟩; replace hw := hw.symm; subst hw))
           | (go_at_call 122; refine (bits_any _ _).mono ?_; rintro e wz ⟨rfl, hw⟩; replace hw := hw.symm; subst hw)
           | (go_at_call 81; refine (HN.out _).mono ?_; rintro e w1 ⟨rfl, hb⟩; have H1 := hid (bx_next H0.out hb); clear hb y0 y1 y2 y3 y4 y5 y6 y7 y8 y9 y10 y11 y12 y13 y14 y15 y16; obtain ⟨y0, y1, y2, y3, y4, y5, y6, y7, y8, y9, y10, y11, y12, y13, y14, y15, y16⟩ := msA_at H1.out.1))
         go_ret
         exact ⟨by rw [hv.out]; rfl, H1.out.2⟩
        | true =>
         have f7 := of_decide_eq_true e7
         have b7 : ((m.sg.length : Int) == 0) = true := by rw [beq_iff_eq]; omega
         clear f7
         cases e8 : decide (m.cg.length = 0) with
         | false =>
          have f8 := of_decide_eq_false e8
          have b8 : ((m.cg.length : Int) == 0) = false := by rw [beq_eq_false_iff_ne]; omega
          clear f8
          have hv : Hid (V = false) := hid (by rw [HV.out, onlyB]; simp only [*]; rfl)
          go_enter Tryz.func161, Tryz.ntmps161
          simp only [List.append]
          go_wp2_with fail
          rw [HA.out]
          go_wp2_with (first
            | (go_at_call 183; go_must (refine (ihas_any _ _ _).mono ?_; rintro e wz ⟨rfl, hw⟩; replace hw := hw.symm; subst hw))
            | (go_at_call 122; refine (bits_any _ _).mono ?_; rintro e wz ⟨rfl, hw⟩; replace hw := hw.symm; subst hw)
            | (go_at_call 81; refine (HN.out _).mono ?_; rintro e w1 ⟨rfl, hb⟩; have H1 := hid (bx_next H0.out hb); clear hb y0 y1 y2 y3 y4 y5 y6 y7 y8 y9 y10 y11 y12 y13 y14 y15 y16; obtain ⟨y0, y1, y2, y3, y4, y5, y6, y7, y8, y9, y10, y11, y12, y13, y14, y15, y16⟩ := msA_at H1.out.1))
          go_ret
          exact ⟨by rw [hv.out]; rfl, H1.out.2⟩
         | true =>
          have f8 := of_decide_eq_true e8
          have b8 : ((m.cg.length : Int) == 0) = true := by rw [beq_iff_eq]; omega
          clear f8
          cases e9 : decide (m.ln.length = 0) with
          | false =>
           have f9 := of_decide_eq_false e9
           have b9 : ((m.ln.length : Int) == 0) = false := by rw [beq_eq_false_iff_ne]; omega
           clear f9
           have hv : Hid (V = false) := hid (by rw [HV.out, onlyB]; simp only [*]; rfl)
           go_enter Tryz.func161, Tryz.ntmps161
           simp only [List.append]
           go_wp2_with fail
           rw [HA.out]
           go_wp2_with (first
             | (go_at_call 183; go_must (refine (ihas_any _ _ _).mono ?_; rintro e wz ⟨rfl, hw⟩; replace hw := hw.symm; subst hw))
             | (go_at_call 122; refine (bits_any _ _).mono ?_; rintro e wz ⟨rfl, hw⟩; replace hw := hw.symm; subst hw)
             | (go_at_call 81; refine (HN.out _).mono ?_; rintro e w1 ⟨rfl, hb⟩; have H1 := hid (bx_next H0.out hb); clear hb y0 y1 y2 y3 y4 y5 y6 y7 y8 y9 y10 y11 y12 y13 y14 y15 y16; obtain ⟨y0, y1, y2, y3, y4, y5, y6, y7, y8, y9, y10, y11, y12, y13, y14, y15, y16⟩ := msA_at H1.out.1))
           go_ret
           exact ⟨by rw [hv.out]; rfl, H1.out.2⟩
          | true =>
           have f9 := of_decide_eq_true e9
           have b9 : ((m.ln.length : Int) == 0) = true := by rw [beq_iff_eq]; omega
           clear f9
           have hv : Hid (V = true) := hid (by rw [HV.out, onlyB]; simp only [*]; rfl)
           go_enter Tryz.func161, Tryz.ntmps161
           simp only [List.append]
           go_wp2_with fail
           rw [HA.out]
           go_wp2_with (first
             | (go_at_call 183; go_must (refine (ihas_any _ _ _).mono ?_; rintro e wz ⟨rfl, hw⟩; replace hw := hw.symm; subst hw))
             | (go_at_call 122; refine (bits_any _ _).mono ?_; rintro e wz ⟨rfl, hw⟩; replace hw := hw.symm; subst hw)
             | (go_at_call 81; refine (HN.out _).mono ?_; rintro e w1 ⟨rfl, hb⟩; have H1 := hid (bx_next H0.out hb); clear hb y0 y1 y2 y3 y4 y5 y6 y7 y8 y9 y10 y11 y12 y13 y14 y15 y16; obtain ⟨y0, y1, y2, y3, y4, y5, y6, y7, y8, y9, y10, y11, y12, y13, y14, y15, y16⟩ := msA_at H1.out.1))
           go_ret
           exact ⟨by rw [hv.out]; rfl, H1.out.2⟩
set_option maxHeartbeats 6400000 in
theorem ionly_338 (m : Ms) (a13 a14 a15 a16 : Option Addr) (c13 c14 c15 c16 : Nat) (w : World) :
   Calls Tryz.prog 161 #[.agg (msA m a13 a14 a15 a16 c13 c14 c15 c16).toArray, .int .i64 338] w fun e w' => e = .returned (.bool (onlyB m { s := true, t := true, g := true, l := true })) ∧ Below w.heap.size w w' := by
 obtain ⟨wa, HA, hb, hx⟩ := msA_new m a13 a14 a15 a16 c13 c14 c15 c16 48 w
 have H0 := hid (And.intro hx hb)
 clear hb hx
 obtain ⟨y0, y1, y2, y3, y4, y5, y6, y7, y8, y9, y10, y11, y12, y13, y14, y15, y16⟩ := msA_at H0.out.1
 obtain ⟨V, eV⟩ : ∃ V, V = onlyB m { s := true, t := true, g := true, l := true } := ⟨_, rfl⟩
 rw [← eV]
 have HV := hid eV
 clear eV
 have HN := hid (fun u => dnull_any m.rq u)
 have ht := none_size m.tx
 have g0 : setB 338 1 = false := rfl; have g1 : setB 338 2 = true := rfl; have g2 : setB 338 4 = false := rfl; have g3 : setB 338 8 = false := rfl; have g4 : setB 338 16 = true := rfl; have g5 : setB 338 32 = false := rfl; have g6 : setB 338 64 = true := rfl; have g7 : setB 338 128 = false := rfl; have g8 : setB 338 256 = true := rfl
 unfold msA
 simp only [msA] at HA
 replace HA := hid HA
 cases e0 : decide (m.v = 0) with
 | false =>
  have f0 := of_decide_eq_false e0
  have b0 : (m.v == 0) = false := by rw [beq_eq_false_iff_ne]; omega
  clear f0
  have hv : Hid (V = false) := hid (by rw [HV.out, onlyB]; simp only [*]; rfl)
  go_enter Tryz.func161, Tryz.ntmps161
  simp only [List.append]
  go_wp2_with fail
  rw [HA.out]
  go_wp2_with (first
    | (go_at_call 183; go_must (refine (ihas_any _ _ _).mono ?_; rintro e wz ⟨rfl, hw⟩; replace hw := hw.symm; subst hw)))
  go_ret
  exact ⟨by rw [hv.out]; rfl, H0.out.2⟩
 | true =>
  have f0 := of_decide_eq_true e0
  have b0 : (m.v == 0) = true := by rw [beq_iff_eq]; omega
  clear f0
  cases e1 : nullB m.rq with
  | false =>
   rw [e1] at HN
   have hv : Hid (V = false) := hid (by rw [HV.out, onlyB]; simp only [*]; rfl)
   go_enter Tryz.func161, Tryz.ntmps161
   simp only [List.append]
   go_wp2_with fail
   rw [HA.out]
   go_wp2_with (first
     | (go_at_call 183; go_must (refine (ihas_any _ _ _).mono ?_; rintro e wz ⟨rfl, hw⟩; replace hw := hw.symm; subst hw))
     | (go_at_call 81; refine (HN.out _).mono ?_; rintro e w1 ⟨rfl, hb⟩; have H1 := hid (bx_next H0.out hb); clear hb y0 y1 y2 y3 y4 y5 y6 y7 y8 y9 y10 y11 y12 y13 y14 y15 y16; obtain ⟨y0, y1, y2, y3, y4, y5, y6, y7, y8, y9, y10, y11, y12, y13, y14, y15, y16⟩ := msA_at H1.out.1))
   go_ret
   exact ⟨by rw [hv.out]; rfl, H1.out.2⟩
  | true =>
   rw [e1] at HN
   cases e2 : decide (m.rs.1 = 0) with
   | false =>
    have f2 := of_decide_eq_false e2
    have b2 : (m.rs.1 == 0) = false := by rw [beq_eq_false_iff_ne]; omega
    clear f2
    have hv : Hid (V = false) := hid (by rw [HV.out, onlyB]; simp only [*]; rfl)
    go_enter Tryz.func161, Tryz.ntmps161
    simp only [List.append]
    go_wp2_with fail
    rw [HA.out]
    go_wp2_with (first
      | (go_at_call 183; go_must (refine (ihas_any _ _ _).mono ?_; rintro e wz ⟨rfl, hw⟩; replace hw := hw.symm; subst hw))
      | (go_at_call 81; refine (HN.out _).mono ?_; rintro e w1 ⟨rfl, hb⟩; have H1 := hid (bx_next H0.out hb); clear hb y0 y1 y2 y3 y4 y5 y6 y7 y8 y9 y10 y11 y12 y13 y14 y15 y16; obtain ⟨y0, y1, y2, y3, y4, y5, y6, y7, y8, y9, y10, y11, y12, y13, y14, y15, y16⟩ := msA_at H1.out.1))
    go_ret
    exact ⟨by rw [hv.out]; rfl, H1.out.2⟩
   | true =>
    have f2 := of_decide_eq_true e2
    have b2 : (m.rs.1 == 0) = true := by rw [beq_iff_eq]; omega
    clear f2
    cases e3 : decide (canW m.rs.2 = 0) with
    | false =>
     have f3 := of_decide_eq_false e3
     have b3 : (((canW m.rs.2 : Nat) : Int) == 0) = false := by rw [beq_eq_false_iff_ne]; omega
     clear f3
     have hv : Hid (V = false) := hid (by rw [HV.out, onlyB]; simp only [*]; rfl)
     go_enter Tryz.func161, Tryz.ntmps161
     simp only [List.append]
     go_wp2_with fail
     rw [HA.out]
     go_wp2_with (first
       | (go_at_call 183; go_must (refine (ihas_any _ _ _).mono ?_; rintro e wz ⟨rfl, hw⟩; replace hw := hw.symm; subst hw))
       | (go_at_call 122; refine (bits_any _ _).mono ?_; rintro e wz ⟨rfl, hw⟩; replace hw := hw.symm; subst hw)
       | (go_at_call 81; refine (HN.out _).mono ?_; rintro e w1 ⟨rfl, hb⟩; have H1 := hid (bx_next H0.out hb); clear hb y0 y1 y2 y3 y4 y5 y6 y7 y8 y9 y10 y11 y12 y13 y14 y15 y16; obtain ⟨y0, y1, y2, y3, y4, y5, y6, y7, y8, y9, y10, y11, y12, y13, y14, y15, y16⟩ := msA_at H1.out.1))
     go_ret
     exact ⟨by rw [hv.out]; rfl, H1.out.2⟩
    | true =>
     have f3 := of_decide_eq_true e3
     have b3 : (((canW m.rs.2 : Nat) : Int) == 0) = true := by rw [beq_iff_eq]; omega
     clear f3
     cases e4 : decide (m.nx.length = 0) with
     | false =>
      have f4 := of_decide_eq_false e4
      have b4 : ((m.nx.length : Int) == 0) = false := by rw [beq_eq_false_iff_ne]; omega
      clear f4
      have hv : Hid (V = false) := hid (by rw [HV.out, onlyB]; simp only [*]; rfl)
      go_enter Tryz.func161, Tryz.ntmps161
      simp only [List.append]
      go_wp2_with fail
      rw [HA.out]
      go_wp2_with (first
        | (go_at_call 183; go_must (refine (ihas_any _ _ _).mono ?_; rintro e wz ⟨rfl, hw⟩; replace hw := hw.symm; subst hw))
        | (go_at_call 122; refine (bits_any _ _).mono ?_; rintro e wz ⟨rfl, hw⟩; replace hw := hw.symm; subst hw)
        | (go_at_call 81; refine (HN.out _).mono ?_; rintro e w1 ⟨rfl, hb⟩; have H1 := hid (bx_next H0.out hb); clear hb y0 y1 y2 y3 y4 y5 y6 y7 y8 y9 y10 y11 y12 y13 y14 y15 y16; obtain ⟨y0, y1, y2, y3, y4, y5, y6, y7, y8, y9, y10, y11, y12, y13, y14, y15, y16⟩ := msA_at H1.out.1))
      go_ret
      exact ⟨by rw [hv.out]; rfl, H1.out.2⟩
     | true =>
      have f4 := of_decide_eq_true e4
      have b4 : ((m.nx.length : Int) == 0) = true := by rw [beq_iff_eq]; omega
      clear f4
      cases e5 : decide (m.cg.length = 0) with
      | false =>
       have f5 := of_decide_eq_false e5
       have b5 : ((m.cg.length : Int) == 0) = false := by rw [beq_eq_false_iff_ne]; omega
       clear f5
       have hv : Hid (V = false) := hid (by rw [HV.out, onlyB]; simp only [*]; rfl)
       go_enter Tryz.func161, Tryz.ntmps161
       simp only [List.append]
       go_wp2_with fail
       rw [HA.out]
       go_wp2_with (first
         | (go_at_call 183; go_must (refine (ihas_any _ _ _).mono ?_; rintro e wz ⟨rfl, hw⟩; replace hw := hw.symm; subst hw))
         | (go_at_call 122; refine (bits_any _ _).mono ?_; rintro e wz ⟨rfl, hw⟩; replace hw := hw.symm; subst hw)
         | (go_at_call 81; refine (HN.out _).mono ?_; rintro e w1 ⟨rfl, hb⟩; have H1 := hid (bx_next H0.out hb); clear hb y0 y1 y2 y3 y4 y5 y6 y7 y8 y9 y10 y11 y12 y13 y14 y15 y16; obtain ⟨y0, y1, y2, y3, y4, y5, y6, y7, y8, y9, y10, y11, y12, y13, y14, y15, y16⟩ := msA_at H1.out.1))
       go_ret
       exact ⟨by rw [hv.out]; rfl, H1.out.2⟩
      | true =>
       have f5 := of_decide_eq_true e5
       have b5 : ((m.cg.length : Int) == 0) = true := by rw [beq_iff_eq]; omega
       clear f5
       have hv : Hid (V = true) := hid (by rw [HV.out, onlyB]; simp only [*]; rfl)
       go_enter Tryz.func161, Tryz.ntmps161
       simp only [List.append]
       go_wp2_with fail
       rw [HA.out]
       go_wp2_with (first
         | (go_at_call 183; go_must (refine (ihas_any _ _ _).mono ?_; rintro e wz ⟨rfl, hw⟩; replace hw := hw.symm; subst hw))
         | (go_at_call 122; refine (bits_any _ _).mono ?_; rintro e wz ⟨rfl, hw⟩; replace hw := hw.symm; subst hw)
         | (go_at_call 81; refine (HN.out _).mono ?_; rintro e w1 ⟨rfl, hb⟩; have H1 := hid (bx_next H0.out hb); clear hb y0 y1 y2 y3 y4 y5 y6 y7 y8 y9 y10 y11 y12 y13 y14 y15 y16; obtain ⟨y0, y1, y2, y3, y4, y5, y6, y7, y8, y9, y10, y11, y12, y13, y14, y15, y16⟩ := msA_at H1.out.1))
       go_ret
       exact ⟨by rw [hv.out]; rfl, H1.out.2⟩
end Go.Proofs.YtoepppkadpjonaaGreat
