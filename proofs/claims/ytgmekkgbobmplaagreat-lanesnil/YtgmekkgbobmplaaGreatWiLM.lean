/- The program's test of fields that are to be zero. -/
import Derived.Test.YtgmekkgbobmplaaGreatNa12
namespace Go.Proofs.YtgmekkgbobmplaaGreat
open Go.RowKit
set_option maxRecDepth 100000 in
set_option maxHeartbeats 6400000 in
theorem ionly_68 (m : Ms) (a13 a14 a15 a16 : Option Addr) (c13 c14 c15 c16 : Nat) (w : World) :
    Calls Tryz.prog 101 #[.agg (msA m a13 a14 a15 a16 c13 c14 c15 c16).toArray, .int .i64 68] w fun e w' => e = .returned (.bool (onlyB m { r := true, g := true })) ∧ Below w.heap.size w w' := by
  obtain ⟨wa, HA, hb, hx⟩ := msA_new m a13 a14 a15 a16 c13 c14 c15 c16 48 w
  have H0 := hid (And.intro hx hb)
  clear hb hx
  obtain ⟨y0, y1, y2, y3, y4, y5, y6, y7, y8, y9, y10, y11, y12, y13, y14, y15, y16⟩ := msA_at H0.out.1
  obtain ⟨V, eV⟩ : ∃ V, V = onlyB m { r := true, g := true } := ⟨_, rfl⟩
  rw [← eV]
  have HV := hid eV
  clear eV
  have HN := hid (fun u => dnull_any m.rq u)
  have ht := none_size m.tx
  have g0 : setB 68 1 = false := rfl; have g1 : setB 68 2 = false := rfl; have g2 : setB 68 4 = true := rfl; have g3 : setB 68 8 = false := rfl; have g4 : setB 68 16 = false := rfl; have g5 : setB 68 32 = false := rfl; have g6 : setB 68 64 = true := rfl; have g7 : setB 68 128 = false := rfl; have g8 : setB 68 256 = false := rfl
  unfold msA
  simp only [msA] at HA
  replace HA := hid HA
  cases e0 : decide (m.v = 0) with
  | false =>
   have f0 := of_decide_eq_false e0
   have b0 : (m.v == 0) = false := by rw [beq_eq_false_iff_ne]; omega
   clear f0
   have hv : Hid (V = false) := hid (by rw [HV.out, onlyB]; simp only [*]; rfl)
   go_enter Tryz.func101, Tryz.ntmps101
   simp only [List.append]
   go_wp2_with fail
   rw [HA.out]
   go_wp2_with (first
     | (go_at_call 133; go_must (refine (ihas_any _ _ _).mono ?_; rintro e wz ⟨rfl, hw⟩; replace hw := hw.symm; subst hw)))
   go_ret
   exact ⟨by rw [hv.out]; rfl, H0.out.2⟩
  | true =>
   have f0 := of_decide_eq_true e0
   have b0 : (m.v == 0) = true := by rw [beq_iff_eq]; omega
   clear f0
   cases e1 : decide (m.sl = 0) with
   | false =>
    have f1 := of_decide_eq_false e1
    have b1 : (m.sl == 0) = false := by rw [beq_eq_false_iff_ne]; omega
    clear f1
    have hv : Hid (V = false) := hid (by rw [HV.out, onlyB]; simp only [*]; rfl)
    go_enter Tryz.func101, Tryz.ntmps101
    simp only [List.append]
    go_wp2_with fail
    rw [HA.out]
    go_wp2_with (first
      | (go_at_call 133; go_must (refine (ihas_any _ _ _).mono ?_; rintro e wz ⟨rfl, hw⟩; replace hw := hw.symm; subst hw)))
    go_ret
    exact ⟨by rw [hv.out]; rfl, H0.out.2⟩
   | true =>
    have f1 := of_decide_eq_true e1
    have b1 : (m.sl == 0) = true := by rw [beq_iff_eq]; omega
    clear f1
    cases e2 : decide (m.rs.1 = 0) with
    | false =>
     have f2 := of_decide_eq_false e2
     have b2 : (m.rs.1 == 0) = false := by rw [beq_eq_false_iff_ne]; omega
     clear f2
     have hv : Hid (V = false) := hid (by rw [HV.out, onlyB]; simp only [*]; rfl)
     go_enter Tryz.func101, Tryz.ntmps101
     simp only [List.append]
     go_wp2_with fail
     rw [HA.out]
     go_wp2_with (first
       | (go_at_call 133; go_must (refine (ihas_any _ _ _).mono ?_; rintro e wz ⟨rfl, hw⟩; replace hw := hw.symm; subst hw)))
     go_ret
     exact ⟨by rw [hv.out]; rfl, H0.out.2⟩
    | true =>
     have f2 := of_decide_eq_true e2
     have b2 : (m.rs.1 == 0) = true := by rw [beq_iff_eq]; omega
     clear f2
     cases e3 : decide (canW m.rs.2 = 0) with
     | false =>
      have f3 := of_decide_eq_false e3
      have b3 : (((canW m.rs.2 : Nat) : Int) == 0) = false := by rw [beq_eq_false_iff_ne]; omega
      clear f3
      have hv : Hid (V = false) := hid (by rw [HV.out, onlyB]; simp only [*]; rfl)
      go_enter Tryz.func101, Tryz.ntmps101
      simp only [List.append]
      go_wp2_with fail
      rw [HA.out]
      go_wp2_with (first
        | (go_at_call 133; go_must (refine (ihas_any _ _ _).mono ?_; rintro e wz ⟨rfl, hw⟩; replace hw := hw.symm; subst hw))
        | (go_at_call 135; refine (bits_any _ _).mono ?_; rintro e wz ⟨rfl, hw⟩; replace hw := hw.symm; subst hw))
      go_ret
      exact ⟨by rw [hv.out]; rfl, H0.out.2⟩
     | true =>
      have f3 := of_decide_eq_true e3
      have b3 : (((canW m.rs.2 : Nat) : Int) == 0) = true := by rw [beq_iff_eq]; omega
      clear f3
      cases e4 : decide (m.tx.size = 0) with
      | false =>
       rw [e4] at ht
       have hv : Hid (V = false) := hid (by rw [HV.out, onlyB]; simp only [*]; rfl)
       go_enter Tryz.func101, Tryz.ntmps101
       simp only [List.append]
       go_wp2_with fail
       rw [HA.out]
       go_wp2_with (first
         | (go_at_call 133; go_must (refine (ihas_any _ _ _).mono ?_; rintro e wz ⟨rfl, hw⟩; replace hw := hw.symm; subst hw))
         | (go_at_call 135; refine (bits_any _ _).mono ?_; rintro e wz ⟨rfl, hw⟩; replace hw := hw.symm; subst hw))
       go_ret
       exact ⟨by rw [hv.out]; rfl, H0.out.2⟩
      | true =>
       rw [e4] at ht
       cases e5 : decide (m.nx.length = 0) with
       | false =>
        have f5 := of_decide_eq_false e5
        have b5 : ((m.nx.length : Int) == 0) = false := by rw [beq_eq_false_iff_ne]; omega
        clear f5
        have hv : Hid (V = false) := hid (by rw [HV.out, onlyB]; simp only [*]; rfl)
        go_enter Tryz.func101, Tryz.ntmps101
        simp only [List.append]
        go_wp2_with fail
        rw [HA.out]
        go_wp2_with (first
          | (go_at_call 133; go_must (refine (ihas_any _ _ _).mono ?_; rintro e wz ⟨rfl, hw⟩; replace hw := hw.symm; subst hw))
          | (go_at_call 135; refine (bits_any _ _).mono ?_; rintro e wz ⟨rfl, hw⟩; replace hw := hw.symm; subst hw))
        go_ret
        exact ⟨by rw [hv.out]; rfl, H0.out.2⟩
       | true =>
        have f5 := of_decide_eq_true e5
        have b5 : ((m.nx.length : Int) == 0) = true := by rw [beq_iff_eq]; omega
        clear f5
        cases e6 : decide (m.cg.length = 0) with
        | false =>
         have f6 := of_decide_eq_false e6
         have b6 : ((m.cg.length : Int) == 0) = false := by rw [beq_eq_false_iff_ne]; omega
         clear f6
         have hv : Hid (V = false) := hid (by rw [HV.out, onlyB]; simp only [*]; rfl)
         go_enter Tryz.func101, Tryz.ntmps101
         simp only [List.append]
         go_wp2_with fail
         rw [HA.out]
         go_wp2_with (first
           | (go_at_call 133; go_must (refine (ihas_any _ _ _).mono ?_; rintro e wz ⟨rfl, hw⟩; replace hw := hw.symm; subst hw))
           | (go_at_call 135; refine (bits_any _ _).mono ?_; rintro e wz ⟨rfl, hw⟩; replace hw := hw.symm; subst hw))
         go_ret
         exact ⟨by rw [hv.out]; rfl, H0.out.2⟩
        | true =>
         have f6 := of_decide_eq_true e6
         have b6 : ((m.cg.length : Int) == 0) = true := by rw [beq_iff_eq]; omega
         clear f6
         cases e7 : decide (m.ln.length = 0) with
         | false =>
          have f7 := of_decide_eq_false e7
          have b7 : ((m.ln.length : Int) == 0) = false := by rw [beq_eq_false_iff_ne]; omega
          clear f7
          have hv : Hid (V = false) := hid (by rw [HV.out, onlyB]; simp only [*]; rfl)
          go_enter Tryz.func101, Tryz.ntmps101
          simp only [List.append]
          go_wp2_with fail
          rw [HA.out]
          go_wp2_with (first
            | (go_at_call 133; go_must (refine (ihas_any _ _ _).mono ?_; rintro e wz ⟨rfl, hw⟩; replace hw := hw.symm; subst hw))
            | (go_at_call 135; refine (bits_any _ _).mono ?_; rintro e wz ⟨rfl, hw⟩; replace hw := hw.symm; subst hw))
          go_ret
          exact ⟨by rw [hv.out]; rfl, H0.out.2⟩
         | true =>
          have f7 := of_decide_eq_true e7
          have b7 : ((m.ln.length : Int) == 0) = true := by rw [beq_iff_eq]; omega
          clear f7
          have hv : Hid (V = true) := hid (by rw [HV.out, onlyB]; simp only [*]; rfl)
          go_enter Tryz.func101, Tryz.ntmps101
          simp only [List.append]
          go_wp2_with fail
          rw [HA.out]
          go_wp2_with (first
            | (go_at_call 133; go_must (refine (ihas_any _ _ _).mono ?_; rintro e wz ⟨rfl, hw⟩; replace hw := hw.symm; subst hw))
            | (go_at_call 135; refine (bits_any _ _).mono ?_; rintro e wz ⟨rfl, hw⟩; replace hw := hw.symm; subst hw))
          go_ret
          exact ⟨by rw [hv.out]; rfl, H0.out.2⟩
set_option maxRecDepth 100000 in
set_option maxHeartbeats 6400000 in
theorem ionly_71 (m : Ms) (a13 a14 a15 a16 : Option Addr) (c13 c14 c15 c16 : Nat) (w : World) :
    Calls Tryz.prog 101 #[.agg (msA m a13 a14 a15 a16 c13 c14 c15 c16).toArray, .int .i64 71] w fun e w' => e = .returned (.bool (onlyB m { v := true, s := true, r := true, g := true })) ∧ Below w.heap.size w w' := by
  obtain ⟨wa, HA, hb, hx⟩ := msA_new m a13 a14 a15 a16 c13 c14 c15 c16 48 w
  have H0 := hid (And.intro hx hb)
  clear hb hx
  obtain ⟨y0, y1, y2, y3, y4, y5, y6, y7, y8, y9, y10, y11, y12, y13, y14, y15, y16⟩ := msA_at H0.out.1
  obtain ⟨V, eV⟩ : ∃ V, V = onlyB m { v := true, s := true, r := true, g := true } := ⟨_, rfl⟩
  rw [← eV]
  have HV := hid eV
  clear eV
  have HN := hid (fun u => dnull_any m.rq u)
  have ht := none_size m.tx
  have g0 : setB 71 1 = true := rfl; have g1 : setB 71 2 = true := rfl; have g2 : setB 71 4 = true := rfl; have g3 : setB 71 8 = false := rfl; have g4 : setB 71 16 = false := rfl; have g5 : setB 71 32 = false := rfl; have g6 : setB 71 64 = true := rfl; have g7 : setB 71 128 = false := rfl; have g8 : setB 71 256 = false := rfl
  unfold msA
  simp only [msA] at HA
  replace HA := hid HA
  cases e0 : decide (m.rs.1 = 0) with
  | false =>
   have f0 := of_decide_eq_false e0
   have b0 : (m.rs.1 == 0) = false := by rw [beq_eq_false_iff_ne]; omega
   clear f0
   have hv : Hid (V = false) := hid (by rw [HV.out, onlyB]; simp only [*]; rfl)
   go_enter Tryz.func101, Tryz.ntmps101
   simp only [List.append]
   go_wp2_with fail
   rw [HA.out]
   go_wp2_with (first
     | (go_at_call 133; go_must (refine (ihas_any _ _ _).mono ?_; rintro e wz ⟨rfl, hw⟩; replace hw := hw.symm; subst hw)))
   go_ret
   exact ⟨by rw [hv.out]; rfl, H0.out.2⟩
  | true =>
   have f0 := of_decide_eq_true e0
   have b0 : (m.rs.1 == 0) = true := by rw [beq_iff_eq]; omega
   clear f0
   cases e1 : decide (canW m.rs.2 = 0) with
   | false =>
    have f1 := of_decide_eq_false e1
    have b1 : (((canW m.rs.2 : Nat) : Int) == 0) = false := by rw [beq_eq_false_iff_ne]; omega
    clear f1
    have hv : Hid (V = false) := hid (by rw [HV.out, onlyB]; simp only [*]; rfl)
    go_enter Tryz.func101, Tryz.ntmps101
    simp only [List.append]
    go_wp2_with fail
    rw [HA.out]
    go_wp2_with (first
      | (go_at_call 133; go_must (refine (ihas_any _ _ _).mono ?_; rintro e wz ⟨rfl, hw⟩; replace hw := hw.symm; subst hw))
      | (go_at_call 135; refine (bits_any _ _).mono ?_; rintro e wz ⟨rfl, hw⟩; replace hw := hw.symm; subst hw))
    go_ret
    exact ⟨by rw [hv.out]; rfl, H0.out.2⟩
   | true =>
    have f1 := of_decide_eq_true e1
    have b1 : (((canW m.rs.2 : Nat) : Int) == 0) = true := by rw [beq_iff_eq]; omega
    clear f1
    cases e2 : decide (m.tx.size = 0) with
    | false =>
     rw [e2] at ht
     have hv : Hid (V = false) := hid (by rw [HV.out, onlyB]; simp only [*]; rfl)
     go_enter Tryz.func101, Tryz.ntmps101
     simp only [List.append]
     go_wp2_with fail
     rw [HA.out]
     go_wp2_with (first
       | (go_at_call 133; go_must (refine (ihas_any _ _ _).mono ?_; rintro e wz ⟨rfl, hw⟩; replace hw := hw.symm; subst hw))
       | (go_at_call 135; refine (bits_any _ _).mono ?_; rintro e wz ⟨rfl, hw⟩; replace hw := hw.symm; subst hw))
     go_ret
     exact ⟨by rw [hv.out]; rfl, H0.out.2⟩
    | true =>
     rw [e2] at ht
     cases e3 : decide (m.nx.length = 0) with
     | false =>
      have f3 := of_decide_eq_false e3
      have b3 : ((m.nx.length : Int) == 0) = false := by rw [beq_eq_false_iff_ne]; omega
      clear f3
      have hv : Hid (V = false) := hid (by rw [HV.out, onlyB]; simp only [*]; rfl)
      go_enter Tryz.func101, Tryz.ntmps101
      simp only [List.append]
      go_wp2_with fail
      rw [HA.out]
      go_wp2_with (first
        | (go_at_call 133; go_must (refine (ihas_any _ _ _).mono ?_; rintro e wz ⟨rfl, hw⟩; replace hw := hw.symm; subst hw))
        | (go_at_call 135; refine (bits_any _ _).mono ?_; rintro e wz ⟨rfl, hw⟩; replace hw := hw.symm; subst hw))
      go_ret
      exact ⟨by rw [hv.out]; rfl, H0.out.2⟩
     | true =>
      have f3 := of_decide_eq_true e3
      have b3 : ((m.nx.length : Int) == 0) = true := by rw [beq_iff_eq]; omega
      clear f3
      cases e4 : decide (m.cg.length = 0) with
      | false =>
       have f4 := of_decide_eq_false e4
       have b4 : ((m.cg.length : Int) == 0) = false := by rw [beq_eq_false_iff_ne]; omega
       clear f4
       have hv : Hid (V = false) := hid (by rw [HV.out, onlyB]; simp only [*]; rfl)
       go_enter Tryz.func101, Tryz.ntmps101
       simp only [List.append]
       go_wp2_with fail
       rw [HA.out]
       go_wp2_with (first
         | (go_at_call 133; go_must (refine (ihas_any _ _ _).mono ?_; rintro e wz ⟨rfl, hw⟩; replace hw := hw.symm; subst hw))
         | (go_at_call 135; refine (bits_any _ _).mono ?_; rintro e wz ⟨rfl, hw⟩; replace hw := hw.symm; subst hw))
       go_ret
       exact ⟨by rw [hv.out]; rfl, H0.out.2⟩
      | true =>
       have f4 := of_decide_eq_true e4
       have b4 : ((m.cg.length : Int) == 0) = true := by rw [beq_iff_eq]; omega
       clear f4
       cases e5 : decide (m.ln.length = 0) with
       | false =>
        have f5 := of_decide_eq_false e5
        have b5 : ((m.ln.length : Int) == 0) = false := by rw [beq_eq_false_iff_ne]; omega
        clear f5
        have hv : Hid (V = false) := hid (by rw [HV.out, onlyB]; simp only [*]; rfl)
        go_enter Tryz.func101, Tryz.ntmps101
        simp only [List.append]
        go_wp2_with fail
        rw [HA.out]
        go_wp2_with (first
          | (go_at_call 133; go_must (refine (ihas_any _ _ _).mono ?_; rintro e wz ⟨rfl, hw⟩; replace hw := hw.symm; subst hw))
          | (go_at_call 135; refine (bits_any _ _).mono ?_; rintro e wz ⟨rfl, hw⟩; replace hw := hw.symm; subst hw))
        go_ret
        exact ⟨by rw [hv.out]; rfl, H0.out.2⟩
       | true =>
        have f5 := of_decide_eq_true e5
        have b5 : ((m.ln.length : Int) == 0) = true := by rw [beq_iff_eq]; omega
        clear f5
        have hv : Hid (V = true) := hid (by rw [HV.out, onlyB]; simp only [*]; rfl)
        go_enter Tryz.func101, Tryz.ntmps101
        simp only [List.append]
        go_wp2_with fail
        rw [HA.out]
        go_wp2_with (first
          | (go_at_call 133; go_must (refine (ihas_any _ _ _).mono ?_; rintro e wz ⟨rfl, hw⟩; replace hw := hw.symm; subst hw))
          | (go_at_call 135; refine (bits_any _ _).mono ?_; rintro e wz ⟨rfl, hw⟩; replace hw := hw.symm; subst hw))
        go_ret
        exact ⟨by rw [hv.out]; rfl, H0.out.2⟩
set_option maxRecDepth 100000 in
set_option maxHeartbeats 6400000 in
theorem ionly_7 (m : Ms) (a13 a14 a15 a16 : Option Addr) (c13 c14 c15 c16 : Nat) (w : World) :
    Calls Tryz.prog 101 #[.agg (msA m a13 a14 a15 a16 c13 c14 c15 c16).toArray, .int .i64 7] w fun e w' => e = .returned (.bool (onlyB m { v := true, s := true, r := true })) ∧ Below w.heap.size w w' := by
  obtain ⟨wa, HA, hb, hx⟩ := msA_new m a13 a14 a15 a16 c13 c14 c15 c16 48 w
  have H0 := hid (And.intro hx hb)
  clear hb hx
  obtain ⟨y0, y1, y2, y3, y4, y5, y6, y7, y8, y9, y10, y11, y12, y13, y14, y15, y16⟩ := msA_at H0.out.1
  obtain ⟨V, eV⟩ : ∃ V, V = onlyB m { v := true, s := true, r := true } := ⟨_, rfl⟩
  rw [← eV]
  have HV := hid eV
  clear eV
  have HN := hid (fun u => dnull_any m.rq u)
  have ht := none_size m.tx
  have g0 : setB 7 1 = true := rfl; have g1 : setB 7 2 = true := rfl; have g2 : setB 7 4 = true := rfl; have g3 : setB 7 8 = false := rfl; have g4 : setB 7 16 = false := rfl; have g5 : setB 7 32 = false := rfl; have g6 : setB 7 64 = false := rfl; have g7 : setB 7 128 = false := rfl; have g8 : setB 7 256 = false := rfl
  unfold msA
  simp only [msA] at HA
  replace HA := hid HA
  cases e0 : decide (m.rs.1 = 0) with
  | false =>
   have f0 := of_decide_eq_false e0
   have b0 : (m.rs.1 == 0) = false := by rw [beq_eq_false_iff_ne]; omega
   clear f0
   have hv : Hid (V = false) := hid (by rw [HV.out, onlyB]; simp only [*]; rfl)
   go_enter Tryz.func101, Tryz.ntmps101
   simp only [List.append]
   go_wp2_with fail
   rw [HA.out]
   go_wp2_with (first
     | (go_at_call 133; go_must (refine (ihas_any _ _ _).mono ?_; rintro e wz ⟨rfl, hw⟩; replace hw := hw.symm; subst hw)))
   go_ret
   exact ⟨by rw [hv.out]; rfl, H0.out.2⟩
  | true =>
   have f0 := of_decide_eq_true e0
   have b0 : (m.rs.1 == 0) = true := by rw [beq_iff_eq]; omega
   clear f0
   cases e1 : decide (canW m.rs.2 = 0) with
   | false =>
    have f1 := of_decide_eq_false e1
    have b1 : (((canW m.rs.2 : Nat) : Int) == 0) = false := by rw [beq_eq_false_iff_ne]; omega
    clear f1
    have hv : Hid (V = false) := hid (by rw [HV.out, onlyB]; simp only [*]; rfl)
    go_enter Tryz.func101, Tryz.ntmps101
    simp only [List.append]
    go_wp2_with fail
    rw [HA.out]
    go_wp2_with (first
      | (go_at_call 133; go_must (refine (ihas_any _ _ _).mono ?_; rintro e wz ⟨rfl, hw⟩; replace hw := hw.symm; subst hw))
      | (go_at_call 135; refine (bits_any _ _).mono ?_; rintro e wz ⟨rfl, hw⟩; replace hw := hw.symm; subst hw))
    go_ret
    exact ⟨by rw [hv.out]; rfl, H0.out.2⟩
   | true =>
    have f1 := of_decide_eq_true e1
    have b1 : (((canW m.rs.2 : Nat) : Int) == 0) = true := by rw [beq_iff_eq]; omega
    clear f1
    cases e2 : decide (m.tx.size = 0) with
    | false =>
     rw [e2] at ht
     have hv : Hid (V = false) := hid (by rw [HV.out, onlyB]; simp only [*]; rfl)
     go_enter Tryz.func101, Tryz.ntmps101
     simp only [List.append]
     go_wp2_with fail
     rw [HA.out]
     go_wp2_with (first
       | (go_at_call 133; go_must (refine (ihas_any _ _ _).mono ?_; rintro e wz ⟨rfl, hw⟩; replace hw := hw.symm; subst hw))
       | (go_at_call 135; refine (bits_any _ _).mono ?_; rintro e wz ⟨rfl, hw⟩; replace hw := hw.symm; subst hw))
     go_ret
     exact ⟨by rw [hv.out]; rfl, H0.out.2⟩
    | true =>
     rw [e2] at ht
     cases e3 : decide (m.nx.length = 0) with
     | false =>
      have f3 := of_decide_eq_false e3
      have b3 : ((m.nx.length : Int) == 0) = false := by rw [beq_eq_false_iff_ne]; omega
      clear f3
      have hv : Hid (V = false) := hid (by rw [HV.out, onlyB]; simp only [*]; rfl)
      go_enter Tryz.func101, Tryz.ntmps101
      simp only [List.append]
      go_wp2_with fail
      rw [HA.out]
      go_wp2_with (first
        | (go_at_call 133; go_must (refine (ihas_any _ _ _).mono ?_; rintro e wz ⟨rfl, hw⟩; replace hw := hw.symm; subst hw))
        | (go_at_call 135; refine (bits_any _ _).mono ?_; rintro e wz ⟨rfl, hw⟩; replace hw := hw.symm; subst hw))
      go_ret
      exact ⟨by rw [hv.out]; rfl, H0.out.2⟩
     | true =>
      have f3 := of_decide_eq_true e3
      have b3 : ((m.nx.length : Int) == 0) = true := by rw [beq_iff_eq]; omega
      clear f3
      cases e4 : decide (m.sg.length = 0) with
      | false =>
       have f4 := of_decide_eq_false e4
       have b4 : ((m.sg.length : Int) == 0) = false := by rw [beq_eq_false_iff_ne]; omega
       clear f4
       have hv : Hid (V = false) := hid (by rw [HV.out, onlyB]; simp only [*]; rfl)
       go_enter Tryz.func101, Tryz.ntmps101
       simp only [List.append]
       go_wp2_with fail
       rw [HA.out]
       go_wp2_with (first
         | (go_at_call 133; go_must (refine (ihas_any _ _ _).mono ?_; rintro e wz ⟨rfl, hw⟩; replace hw := hw.symm; subst hw))
         | (go_at_call 135; refine (bits_any _ _).mono ?_; rintro e wz ⟨rfl, hw⟩; replace hw := hw.symm; subst hw))
       go_ret
       exact ⟨by rw [hv.out]; rfl, H0.out.2⟩
      | true =>
       have f4 := of_decide_eq_true e4
       have b4 : ((m.sg.length : Int) == 0) = true := by rw [beq_iff_eq]; omega
       clear f4
       cases e5 : decide (m.cg.length = 0) with
       | false =>
        have f5 := of_decide_eq_false e5
        have b5 : ((m.cg.length : Int) == 0) = false := by rw [beq_eq_false_iff_ne]; omega
        clear f5
        have hv : Hid (V = false) := hid (by rw [HV.out, onlyB]; simp only [*]; rfl)
        go_enter Tryz.func101, Tryz.ntmps101
        simp only [List.append]
        go_wp2_with fail
        rw [HA.out]
        go_wp2_with (first
          | (go_at_call 133; go_must (refine (ihas_any _ _ _).mono ?_; rintro e wz ⟨rfl, hw⟩; replace hw := hw.symm; subst hw))
          | (go_at_call 135; refine (bits_any _ _).mono ?_; rintro e wz ⟨rfl, hw⟩; replace hw := hw.symm; subst hw))
        go_ret
        exact ⟨by rw [hv.out]; rfl, H0.out.2⟩
       | true =>
        have f5 := of_decide_eq_true e5
        have b5 : ((m.cg.length : Int) == 0) = true := by rw [beq_iff_eq]; omega
        clear f5
        cases e6 : decide (m.ln.length = 0) with
        | false =>
         have f6 := of_decide_eq_false e6
         have b6 : ((m.ln.length : Int) == 0) = false := by rw [beq_eq_false_iff_ne]; omega
         clear f6
         have hv : Hid (V = false) := hid (by rw [HV.out, onlyB]; simp only [*]; rfl)
         go_enter Tryz.func101, Tryz.ntmps101
         simp only [List.append]
         go_wp2_with fail
         rw [HA.out]
         go_wp2_with (first
           | (go_at_call 133; go_must (refine (ihas_any _ _ _).mono ?_; rintro e wz ⟨rfl, hw⟩; replace hw := hw.symm; subst hw))
           | (go_at_call 135; refine (bits_any _ _).mono ?_; rintro e wz ⟨rfl, hw⟩; replace hw := hw.symm; subst hw))
         go_ret
         exact ⟨by rw [hv.out]; rfl, H0.out.2⟩
        | true =>
         have f6 := of_decide_eq_true e6
         have b6 : ((m.ln.length : Int) == 0) = true := by rw [beq_iff_eq]; omega
         clear f6
         have hv : Hid (V = true) := hid (by rw [HV.out, onlyB]; simp only [*]; rfl)
         go_enter Tryz.func101, Tryz.ntmps101
         simp only [List.append]
         go_wp2_with fail
         rw [HA.out]
         go_wp2_with (first
           | (go_at_call 133; go_must (refine (ihas_any _ _ _).mono ?_; rintro e wz ⟨rfl, hw⟩; replace hw := hw.symm; subst hw))
           | (go_at_call 135; refine (bits_any _ _).mono ?_; rintro e wz ⟨rfl, hw⟩; replace hw := hw.symm; subst hw))
         go_ret
         exact ⟨by rw [hv.out]; rfl, H0.out.2⟩
set_option maxRecDepth 100000 in
set_option maxHeartbeats 6400000 in
theorem ionly_114 (m : Ms) (a13 a14 a15 a16 : Option Addr) (c13 c14 c15 c16 : Nat) (w : World) :
    Calls Tryz.prog 101 #[.agg (msA m a13 a14 a15 a16 c13 c14 c15 c16).toArray, .int .i64 114] w fun e w' => e = .returned (.bool (onlyB m { s := true, t := true, n := true, g := true })) ∧ Below w.heap.size w w' := by
  obtain ⟨wa, HA, hb, hx⟩ := msA_new m a13 a14 a15 a16 c13 c14 c15 c16 48 w
  have H0 := hid (And.intro hx hb)
  clear hb hx
  obtain ⟨y0, y1, y2, y3, y4, y5, y6, y7, y8, y9, y10, y11, y12, y13, y14, y15, y16⟩ := msA_at H0.out.1
  obtain ⟨V, eV⟩ : ∃ V, V = onlyB m { s := true, t := true, n := true, g := true } := ⟨_, rfl⟩
  rw [← eV]
  have HV := hid eV
  clear eV
  have HN := hid (fun u => dnull_any m.rq u)
  have ht := none_size m.tx
  have g0 : setB 114 1 = false := rfl; have g1 : setB 114 2 = true := rfl; have g2 : setB 114 4 = false := rfl; have g3 : setB 114 8 = false := rfl; have g4 : setB 114 16 = true := rfl; have g5 : setB 114 32 = true := rfl; have g6 : setB 114 64 = true := rfl; have g7 : setB 114 128 = false := rfl; have g8 : setB 114 256 = false := rfl
  unfold msA
  simp only [msA] at HA
  replace HA := hid HA
  cases e0 : decide (m.v = 0) with
  | false =>
   have f0 := of_decide_eq_false e0
   have b0 : (m.v == 0) = false := by rw [beq_eq_false_iff_ne]; omega
   clear f0
   have hv : Hid (V = false) := hid (by rw [HV.out, onlyB]; simp only [*]; rfl)
   go_enter Tryz.func101, Tryz.ntmps101
   simp only [List.append]
   go_wp2_with fail
   rw [HA.out]
   go_wp2_with (first
     | (go_at_call 133; go_must (refine (ihas_any _ _ _).mono ?_; rintro e wz ⟨rfl, hw⟩; replace hw := hw.symm; subst hw)))
   go_ret
   exact ⟨by rw [hv.out]; rfl, H0.out.2⟩
  | true =>
   have f0 := of_decide_eq_true e0
   have b0 : (m.v == 0) = true := by rw [beq_iff_eq]; omega
   clear f0
   cases e1 : nullB m.rq with
   | false =>
    rw [e1] at HN
    have hv : Hid (V = false) := hid (by rw [HV.out, onlyB]; simp only [*]; rfl)
    go_enter Tryz.func101, Tryz.ntmps101
    simp only [List.append]
    go_wp2_with fail
    rw [HA.out]
    go_wp2_with (first
      | (go_at_call 133; go_must (refine (ihas_any _ _ _).mono ?_; rintro e wz ⟨rfl, hw⟩; replace hw := hw.symm; subst hw))
      | (go_at_call 134; refine (HN.out _).mono ?_; rintro e w1 ⟨rfl, hb⟩; have H1 := hid (bx_next H0.out hb); clear hb y0 y1 y2 y3 y4 y5 y6 y7 y8 y9 y10 y11 y12 y13 y14 y15 y16; obtain ⟨y0, y1, y2, y3, y4, y5, y6, y7, y8, y9, y10, y11, y12, y13, y14, y15, y16⟩ := msA_at H1.out.1))
    go_ret
    exact ⟨by rw [hv.out]; rfl, H1.out.2⟩
   | true =>
    rw [e1] at HN
    cases e2 : decide (m.rs.1 = 0) with
    | false =>
     have f2 := of_decide_eq_false e2
     have b2 : (m.rs.1 == 0) = false := by rw [beq_eq_false_iff_ne]; omega
     clear f2
     have hv : Hid (V = false) := hid (by rw [HV.out, onlyB]; simp only [*]; rfl)
     go_enter Tryz.func101, Tryz.ntmps101
     simp only [List.append]
     go_wp2_with fail
     rw [HA.out]
     go_wp2_with (first
       | (go_at_call 133; go_must (refine (ihas_any _ _ _).mono ?_; rintro e wz ⟨rfl, hw⟩; replace hw := hw.symm; subst hw))
       | (go_at_call 134; refine (HN.out _).mono ?_; rintro e w1 ⟨rfl, hb⟩; have H1 := hid (bx_next H0.out hb); clear hb y0 y1 y2 y3 y4 y5 y6 y7 y8 y9 y10 y11 y12 y13 y14 y15 y16; obtain ⟨y0, y1, y2, y3, y4, y5, y6, y7, y8, y9, y10, y11, y12, y13, y14, y15, y16⟩ := msA_at H1.out.1))
     go_ret
     exact ⟨by rw [hv.out]; rfl, H1.out.2⟩
    | true =>
     have f2 := of_decide_eq_true e2
     have b2 : (m.rs.1 == 0) = true := by rw [beq_iff_eq]; omega
     clear f2
     cases e3 : decide (canW m.rs.2 = 0) with
     | false =>
      have f3 := of_decide_eq_false e3
      have b3 : (((canW m.rs.2 : Nat) : Int) == 0) = false := by rw [beq_eq_false_iff_ne]; omega
      clear f3
      have hv : Hid (V = false) := hid (by rw [HV.out, onlyB]; simp only [*]; rfl)
      go_enter Tryz.func101, Tryz.ntmps101
      simp only [List.append]
      go_wp2_with fail
      rw [HA.out]
      go_wp2_with (first
        | (go_at_call 133; go_must (refine (ihas_any _ _ _).mono ?_; rintro e wz ⟨rfl, hw⟩; replace hw := hw.symm; subst hw))
        | (go_at_call 135; refine (bits_any _ _).mono ?_; rintro e wz ⟨rfl, hw⟩; replace hw := hw.symm; subst hw)
        | (go_at_call 134; refine (HN.out _).mono ?_; rintro e w1 ⟨rfl, hb⟩; have H1 := hid (bx_next H0.out hb); clear hb y0 y1 y2 y3 y4 y5 y6 y7 y8 y9 y10 y11 y12 y13 y14 y15 y16; obtain ⟨y0, y1, y2, y3, y4, y5, y6, y7, y8, y9, y10, y11, y12, y13, y14, y15, y16⟩ := msA_at H1.out.1))
      go_ret
      exact ⟨by rw [hv.out]; rfl, H1.out.2⟩
     | true =>
      have f3 := of_decide_eq_true e3
      have b3 : (((canW m.rs.2 : Nat) : Int) == 0) = true := by rw [beq_iff_eq]; omega
      clear f3
      cases e4 : decide (m.cg.length = 0) with
      | false =>
       have f4 := of_decide_eq_false e4
       have b4 : ((m.cg.length : Int) == 0) = false := by rw [beq_eq_false_iff_ne]; omega
       clear f4
       have hv : Hid (V = false) := hid (by rw [HV.out, onlyB]; simp only [*]; rfl)
       go_enter Tryz.func101, Tryz.ntmps101
       simp only [List.append]
       go_wp2_with fail
       rw [HA.out]
       go_wp2_with (first
         | (go_at_call 133; go_must (refine (ihas_any _ _ _).mono ?_; rintro e wz ⟨rfl, hw⟩; replace hw := hw.symm; subst hw))
         | (go_at_call 135; refine (bits_any _ _).mono ?_; rintro e wz ⟨rfl, hw⟩; replace hw := hw.symm; subst hw)
         | (go_at_call 134; refine (HN.out _).mono ?_; rintro e w1 ⟨rfl, hb⟩; have H1 := hid (bx_next H0.out hb); clear hb y0 y1 y2 y3 y4 y5 y6 y7 y8 y9 y10 y11 y12 y13 y14 y15 y16; obtain ⟨y0, y1, y2, y3, y4, y5, y6, y7, y8, y9, y10, y11, y12, y13, y14, y15, y16⟩ := msA_at H1.out.1))
       go_ret
       exact ⟨by rw [hv.out]; rfl, H1.out.2⟩
      | true =>
       have f4 := of_decide_eq_true e4
       have b4 : ((m.cg.length : Int) == 0) = true := by rw [beq_iff_eq]; omega
       clear f4
       cases e5 : decide (m.ln.length = 0) with
       | false =>
        have f5 := of_decide_eq_false e5
        have b5 : ((m.ln.length : Int) == 0) = false := by rw [beq_eq_false_iff_ne]; omega
        clear f5
        have hv : Hid (V = false) := hid (by rw [HV.out, onlyB]; simp only [*]; rfl)
        go_enter Tryz.func101, Tryz.ntmps101
        simp only [List.append]
        go_wp2_with fail
        rw [HA.out]
        go_wp2_with (first
          | (go_at_call 133; go_must (refine (ihas_any _ _ _).mono ?_; rintro e wz ⟨rfl, hw⟩; replace hw := hw.symm; subst hw))
          | (go_at_call 135; refine (bits_any _ _).mono ?_; rintro e wz ⟨rfl, hw⟩; replace hw := hw.symm; subst hw)
          | (go_at_call 134; refine (HN.out _).mono ?_; rintro e w1 ⟨rfl, hb⟩; have H1 := hid (bx_next H0.out hb); clear hb y0 y1 y2 y3 y4 y5 y6 y7 y8 y9 y10 y11 y12 y13 y14 y15 y16; obtain ⟨y0, y1, y2, y3, y4, y5, y6, y7, y8, y9, y10, y11, y12, y13, y14, y15, y16⟩ := msA_at H1.out.1))
        go_ret
        exact ⟨by rw [hv.out]; rfl, H1.out.2⟩
       | true =>
        have f5 := of_decide_eq_true e5
        have b5 : ((m.ln.length : Int) == 0) = true := by rw [beq_iff_eq]; omega
        clear f5
        have hv : Hid (V = true) := hid (by rw [HV.out, onlyB]; simp only [*]; rfl)
        go_enter Tryz.func101, Tryz.ntmps101
        simp only [List.append]
        go_wp2_with fail
        rw [HA.out]
        go_wp2_with (first
          | (go_at_call 133; go_must (refine (ihas_any _ _ _).mono ?_; rintro e wz ⟨rfl, hw⟩; replace hw := hw.symm; subst hw))
          | (go_at_call 135; refine (bits_any _ _).mono ?_; rintro e wz ⟨rfl, hw⟩; replace hw := hw.symm; subst hw)
          | (go_at_call 134; refine (HN.out _).mono ?_; rintro e w1 ⟨rfl, hb⟩; have H1 := hid (bx_next H0.out hb); clear hb y0 y1 y2 y3 y4 y5 y6 y7 y8 y9 y10 y11 y12 y13 y14 y15 y16; obtain ⟨y0, y1, y2, y3, y4, y5, y6, y7, y8, y9, y10, y11, y12, y13, y14, y15, y16⟩ := msA_at H1.out.1))
        go_ret
        exact ⟨by rw [hv.out]; rfl, H1.out.2⟩
end Go.Proofs.YtgmekkgbobmplaaGreat
