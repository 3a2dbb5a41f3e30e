/- The program's test of fields that are to be zero. -/
import Derived.Test.YtepcdbmdfpaomaaWiKM
import Derived.Deep.RegionWith
namespace Go.Proofs.Ytepcdbmdfpaomaa
open Go.RowKit
set_option maxRecDepth 100000 in
set_option maxHeartbeats 6400000 in
theorem ionly_68 (m : Ms) (a13 a14 a15 a16 : Option Addr) (c13 c14 c15 c16 : Nat) (w : World) :
    Calls Try.prog 27 #[.agg #[.int .i64 m.k, .int .i64 m.ep, .int .i64 m.v, .int .i64 m.sl, .int .i64 m.rq.c, .int .i64 m.rq.st, .int .i64 m.rq.k, .string m.rq.key, .float .f64 m.rq.b, .int .i64 m.rq.id, .int .i64 m.rs.1, .float .f64 m.rs.2, .string m.tx, .slice a13 m.nx.length c13, .slice a14 m.sg.length c14, .slice a15 m.cg.length c15, .slice a16 m.ln.length c16], .int .i64 68] w fun e w' => e = .returned (.bool (onlyB m { r := true, g := true })) ∧ Below w.heap.size w w' := by
  have H0 : Hid (BxAt (w.alloc (.cells #[.int .i64 m.k, .int .i64 m.ep, .int .i64 m.v, .int .i64 m.sl, .int .i64 m.rq.c, .int .i64 m.rq.st, .int .i64 m.rq.k, .string m.rq.key, .float .f64 m.rq.b, .int .i64 m.rq.id, .int .i64 m.rs.1, .float .f64 m.rs.2, .string m.tx, .slice a13 m.nx.length c13, .slice a14 m.sg.length c14, .slice a15 m.cg.length c15, .slice a16 m.ln.length c16] 34)) w.heap.size [.int .i64 m.k, .int .i64 m.ep, .int .i64 m.v, .int .i64 m.sl, .int .i64 m.rq.c, .int .i64 m.rq.st, .int .i64 m.rq.k, .string m.rq.key, .float .f64 m.rq.b, .int .i64 m.rq.id, .int .i64 m.rs.1, .float .f64 m.rs.2, .string m.tx, .slice a13 m.nx.length c13, .slice a14 m.sg.length c14, .slice a15 m.cg.length c15, .slice a16 m.ln.length c16] 34 ∧ Below w.heap.size w (w.alloc (.cells #[.int .i64 m.k, .int .i64 m.ep, .int .i64 m.v, .int .i64 m.sl, .int .i64 m.rq.c, .int .i64 m.rq.st, .int .i64 m.rq.k, .string m.rq.key, .float .f64 m.rq.b, .int .i64 m.rq.id, .int .i64 m.rs.1, .float .f64 m.rs.2, .string m.tx, .slice a13 m.nx.length c13, .slice a14 m.sg.length c14, .slice a15 m.cg.length c15, .slice a16 m.ln.length c16] 34))) := hid ⟨heap_alloc_last w _, (Below.refl w.heap.size w).alloc (Nat.le_refl _) _⟩
  have y0 := H0.out.1.cell 0 _ rfl; have y1 := H0.out.1.cell 1 _ rfl; have y2 := H0.out.1.cell 2 _ rfl; have y3 := H0.out.1.cell 3 _ rfl; have y4 := H0.out.1.cell 4 _ rfl; have y5 := H0.out.1.cell 5 _ rfl; have y6 := H0.out.1.cell 6 _ rfl; have y7 := H0.out.1.cell 7 _ rfl; have y8 := H0.out.1.cell 8 _ rfl; have y9 := H0.out.1.cell 9 _ rfl; have y10 := H0.out.1.cell 10 _ rfl; have y11 := H0.out.1.cell 11 _ rfl; have y12 := H0.out.1.cell 12 _ rfl; have y13 := H0.out.1.cell 13 _ rfl; have y14 := H0.out.1.cell 14 _ rfl; have y15 := H0.out.1.cell 15 _ rfl; have y16 := H0.out.1.cell 16 _ rfl
  obtain ⟨V, eV⟩ : ∃ V, V = onlyB m { r := true, g := true } := ⟨_, rfl⟩
  rw [← eV]
  have HV : Hid (V = onlyB m { r := true, g := true }) := hid eV
  clear eV
  have HN : Hid (∀ u : World, Calls Try.prog 54 #[.agg #[.int .i64 m.rq.c, .int .i64 m.rq.st, .int .i64 m.rq.k, .string m.rq.key, .float .f64 m.rq.b, .int .i64 m.rq.id]] u fun e w' => e = .returned (.bool (nullB m.rq)) ∧ Below u.heap.size u w') := hid (fun u => dnull_any m.rq u)
  have ht := none_size m.tx
  cases e0 : decide (m.v = 0) with
  | false =>
    have f0 := of_decide_eq_false e0
    have b0 : (m.v == 0) = false := by rw [beq_eq_false_iff_ne]; omega
    clear f0
    have hv : Hid (V = false) := hid (by rw [HV.out, onlyB]; simp only [*]; rfl)
    go_enter Try.func27, Try.ntmps27
    simp only [List.append]
    go_wp2_with (first
      | (go_at_call_of 53 (Value.int IntKind.i64 1); refine (ihas_68_1 _).mono ?_; rintro e wz ⟨rfl, hw⟩; replace hw := hw.symm; subst hw)
      | (go_at_call_of 53 (Value.int IntKind.i64 2); refine (ihas_68_2 _).mono ?_; rintro e wz ⟨rfl, hw⟩; replace hw := hw.symm; subst hw)
      | (go_at_call_of 53 (Value.int IntKind.i64 4); refine (ihas_68_4 _).mono ?_; rintro e wz ⟨rfl, hw⟩; replace hw := hw.symm; subst hw)
      | (go_at_call_of 53 (Value.int IntKind.i64 8); refine (ihas_68_8 _).mono ?_; rintro e wz ⟨rfl, hw⟩; replace hw := hw.symm; subst hw)
      | (go_at_call_of 53 (Value.int IntKind.i64 16); refine (ihas_68_16 _).mono ?_; rintro e wz ⟨rfl, hw⟩; replace hw := hw.symm; subst hw)
      | (go_at_call_of 53 (Value.int IntKind.i64 32); refine (ihas_68_32 _).mono ?_; rintro e wz ⟨rfl, hw⟩; replace hw := hw.symm; subst hw)
      | (go_at_call_of 53 (Value.int IntKind.i64 64); refine (ihas_68_64 _).mono ?_; rintro e wz ⟨rfl, hw⟩; replace hw := hw.symm; subst hw)
      | (go_at_call_of 53 (Value.int IntKind.i64 128); refine (ihas_68_128 _).mono ?_; rintro e wz ⟨rfl, hw⟩; replace hw := hw.symm; subst hw)
      | (go_at_call_of 53 (Value.int IntKind.i64 256); refine (ihas_68_256 _).mono ?_; rintro e wz ⟨rfl, hw⟩; replace hw := hw.symm; subst hw)
      | (go_at_call 55; refine (bits_any _ _).mono ?_; rintro e wz ⟨rfl, hw⟩; replace hw := hw.symm; subst hw))
    go_ret
    exact ⟨by rw [hv.out]; rfl, H0.out.2⟩
  | true =>
    have f0 := of_decide_eq_true e0
    have b0 : (m.v == 0) = true := by rw [beq_iff_eq]; omega
    clear f0
    cases e1 : decide (m.sl = 0) with
    | false =>
      have f1 := of_decide_eq_false e1
      have b1 : (m.sl == 0) = false := by rw [beq_eq_false_iff_ne]; omega
      clear f1
      have hv : Hid (V = false) := hid (by rw [HV.out, onlyB]; simp only [*]; rfl)
      go_enter Try.func27, Try.ntmps27
      simp only [List.append]
      go_wp2_with (first
        | (go_at_call_of 53 (Value.int IntKind.i64 1); refine (ihas_68_1 _).mono ?_; rintro e wz ⟨rfl, hw⟩; replace hw := hw.symm; subst hw)
        | (go_at_call_of 53 (Value.int IntKind.i64 2); refine (ihas_68_2 _).mono ?_; rintro e wz ⟨rfl, hw⟩; replace hw := hw.symm; subst hw)
        | (go_at_call_of 53 (Value.int IntKind.i64 4); refine (ihas_68_4 _).mono ?_; rintro e wz ⟨rfl, hw⟩; replace hw := hw.symm; subst hw)
        | (go_at_call_of 53 (Value.int IntKind.i64 8); refine (ihas_68_8 _).mono ?_; rintro e wz ⟨rfl, hw⟩; replace hw := hw.symm; subst hw)
        | (go_at_call_of 53 (Value.int IntKind.i64 16); refine (ihas_68_16 _).mono ?_; rintro e wz ⟨rfl, hw⟩; replace hw := hw.symm; subst hw)
        | (go_at_call_of 53 (Value.int IntKind.i64 32); refine (ihas_68_32 _).mono ?_; rintro e wz ⟨rfl, hw⟩; replace hw := hw.symm; subst hw)
        | (go_at_call_of 53 (Value.int IntKind.i64 64); refine (ihas_68_64 _).mono ?_; rintro e wz ⟨rfl, hw⟩; replace hw := hw.symm; subst hw)
        | (go_at_call_of 53 (Value.int IntKind.i64 128); refine (ihas_68_128 _).mono ?_; rintro e wz ⟨rfl, hw⟩; replace hw := hw.symm; subst hw)
        | (go_at_call_of 53 (Value.int IntKind.i64 256); refine (ihas_68_256 _).mono ?_; rintro e wz ⟨rfl, hw⟩; replace hw := hw.symm; subst hw)
        | (go_at_call 55; refine (bits_any _ _).mono ?_; rintro e wz ⟨rfl, hw⟩; replace hw := hw.symm; subst hw))
      go_ret
      exact ⟨by rw [hv.out]; rfl, H0.out.2⟩
    | true =>
      have f1 := of_decide_eq_true e1
      have b1 : (m.sl == 0) = true := by rw [beq_iff_eq]; omega
      clear f1
      cases e2 : decide (m.rs.1 = 0) with
      | false =>
        have f2 := of_decide_eq_false e2
        have b2 : (m.rs.1 == 0) = false := by rw [beq_eq_false_iff_ne]; omega
        clear f2
        have hv : Hid (V = false) := hid (by rw [HV.out, onlyB]; simp only [*]; rfl)
        go_enter Try.func27, Try.ntmps27
        simp only [List.append]
        go_wp2_with (first
          | (go_at_call_of 53 (Value.int IntKind.i64 1); refine (ihas_68_1 _).mono ?_; rintro e wz ⟨rfl, hw⟩; replace hw := hw.symm; subst hw)
          | (go_at_call_of 53 (Value.int IntKind.i64 2); refine (ihas_68_2 _).mono ?_; rintro e wz ⟨rfl, hw⟩; replace hw := hw.symm; subst hw)
          | (go_at_call_of 53 (Value.int IntKind.i64 4); refine (ihas_68_4 _).mono ?_; rintro e wz ⟨rfl, hw⟩; replace hw := hw.symm; subst hw)
          | (go_at_call_of 53 (Value.int IntKind.i64 8); refine (ihas_68_8 _).mono ?_; rintro e wz ⟨rfl, hw⟩; replace hw := hw.symm; subst hw)
          | (go_at_call_of 53 (Value.int IntKind.i64 16); refine (ihas_68_16 _).mono ?_; rintro e wz ⟨rfl, hw⟩; replace hw := hw.symm; subst hw)
          | (go_at_call_of 53 (Value.int IntKind.i64 32); refine (ihas_68_32 _).mono ?_; rintro e wz ⟨rfl, hw⟩; replace hw := hw.symm; subst hw)
          | (go_at_call_of 53 (Value.int IntKind.i64 64); refine (ihas_68_64 _).mono ?_; rintro e wz ⟨rfl, hw⟩; replace hw := hw.symm; subst hw)
          | (go_at_call_of 53 (Value.int IntKind.i64 128); refine (ihas_68_128 _).mono ?_; rintro e wz ⟨rfl, hw⟩; replace hw := hw.symm; subst hw)
          | (go_at_call_of 53 (Value.int IntKind.i64 256); refine (ihas_68_256 _).mono ?_; rintro e wz ⟨rfl, hw⟩; replace hw := hw.symm; subst hw)
          | (go_at_call 55; refine (bits_any _ _).mono ?_; rintro e wz ⟨rfl, hw⟩; replace hw := hw.symm; subst hw))
        go_ret
        exact ⟨by rw [hv.out]; rfl, H0.out.2⟩
      | true =>
        have f2 := of_decide_eq_true e2
        have b2 : (m.rs.1 == 0) = true := by rw [beq_iff_eq]; omega
        clear f2
        cases e3 : decide (canW m.rs.2 = 0) with
        | false =>
          have f3 := of_decide_eq_false e3
          have b3 : (((canW m.rs.2 : Nat) : Int) == 0) = false := by rw [beq_eq_false_iff_ne]; omega
          clear f3
          have hv : Hid (V = false) := hid (by rw [HV.out, onlyB]; simp only [*]; rfl)
          go_enter Try.func27, Try.ntmps27
          simp only [List.append]
          go_wp2_with (first
            | (go_at_call_of 53 (Value.int IntKind.i64 1); refine (ihas_68_1 _).mono ?_; rintro e wz ⟨rfl, hw⟩; replace hw := hw.symm; subst hw)
            | (go_at_call_of 53 (Value.int IntKind.i64 2); refine (ihas_68_2 _).mono ?_; rintro e wz ⟨rfl, hw⟩; replace hw := hw.symm; subst hw)
            | (go_at_call_of 53 (Value.int IntKind.i64 4); refine (ihas_68_4 _).mono ?_; rintro e wz ⟨rfl, hw⟩; replace hw := hw.symm; subst hw)
            | (go_at_call_of 53 (Value.int IntKind.i64 8); refine (ihas_68_8 _).mono ?_; rintro e wz ⟨rfl, hw⟩; replace hw := hw.symm; subst hw)
            | (go_at_call_of 53 (Value.int IntKind.i64 16); refine (ihas_68_16 _).mono ?_; rintro e wz ⟨rfl, hw⟩; replace hw := hw.symm; subst hw)
            | (go_at_call_of 53 (Value.int IntKind.i64 32); refine (ihas_68_32 _).mono ?_; rintro e wz ⟨rfl, hw⟩; replace hw := hw.symm; subst hw)
            | (go_at_call_of 53 (Value.int IntKind.i64 64); refine (ihas_68_64 _).mono ?_; rintro e wz ⟨rfl, hw⟩; replace hw := hw.symm; subst hw)
            | (go_at_call_of 53 (Value.int IntKind.i64 128); refine (ihas_68_128 _).mono ?_; rintro e wz ⟨rfl, hw⟩; replace hw := hw.symm; subst hw)
            | (go_at_call_of 53 (Value.int IntKind.i64 256); refine (ihas_68_256 _).mono ?_; rintro e wz ⟨rfl, hw⟩; replace hw := hw.symm; subst hw)
            | (go_at_call 55; refine (bits_any _ _).mono ?_; rintro e wz ⟨rfl, hw⟩; replace hw := hw.symm; subst hw))
          go_ret
          exact ⟨by rw [hv.out]; rfl, H0.out.2⟩
        | true =>
          have f3 := of_decide_eq_true e3
          have b3 : (((canW m.rs.2 : Nat) : Int) == 0) = true := by rw [beq_iff_eq]; omega
          clear f3
          cases e4 : decide (m.tx.size = 0) with
          | false =>
            rw [e4] at ht
            have hv : Hid (V = false) := hid (by rw [HV.out, onlyB]; simp only [*]; rfl)
            go_enter Try.func27, Try.ntmps27
            simp only [List.append]
            go_wp2_with (first
              | (go_at_call_of 53 (Value.int IntKind.i64 1); refine (ihas_68_1 _).mono ?_; rintro e wz ⟨rfl, hw⟩; replace hw := hw.symm; subst hw)
              | (go_at_call_of 53 (Value.int IntKind.i64 2); refine (ihas_68_2 _).mono ?_; rintro e wz ⟨rfl, hw⟩; replace hw := hw.symm; subst hw)
              | (go_at_call_of 53 (Value.int IntKind.i64 4); refine (ihas_68_4 _).mono ?_; rintro e wz ⟨rfl, hw⟩; replace hw := hw.symm; subst hw)
              | (go_at_call_of 53 (Value.int IntKind.i64 8); refine (ihas_68_8 _).mono ?_; rintro e wz ⟨rfl, hw⟩; replace hw := hw.symm; subst hw)
              | (go_at_call_of 53 (Value.int IntKind.i64 16); refine (ihas_68_16 _).mono ?_; rintro e wz ⟨rfl, hw⟩; replace hw := hw.symm; subst hw)
              | (go_at_call_of 53 (Value.int IntKind.i64 32); refine (ihas_68_32 _).mono ?_; rintro e wz ⟨rfl, hw⟩; replace hw := hw.symm; subst hw)
              | (go_at_call_of 53 (Value.int IntKind.i64 64); refine (ihas_68_64 _).mono ?_; rintro e wz ⟨rfl, hw⟩; replace hw := hw.symm; subst hw)
              | (go_at_call_of 53 (Value.int IntKind.i64 128); refine (ihas_68_128 _).mono ?_; rintro e wz ⟨rfl, hw⟩; replace hw := hw.symm; subst hw)
              | (go_at_call_of 53 (Value.int IntKind.i64 256); refine (ihas_68_256 _).mono ?_; rintro e wz ⟨rfl, hw⟩; replace hw := hw.symm; subst hw)
              | (go_at_call 55; refine (bits_any _ _).mono ?_; rintro e wz ⟨rfl, hw⟩; replace hw := hw.symm; subst hw))
            go_ret
            exact ⟨by rw [hv.out]; rfl, H0.out.2⟩
          | true =>
            rw [e4] at ht
            cases e5 : decide (m.nx.length = 0) with
            | false =>
              have f5 := of_decide_eq_false e5
              have b5 : ((m.nx.length : Int) == 0) = false := by rw [beq_eq_false_iff_ne]; omega
              clear f5
              have hv : Hid (V = false) := hid (by rw [HV.out, onlyB]; simp only [*]; rfl)
              go_enter Try.func27, Try.ntmps27
              simp only [List.append]
              go_wp2_with (first
                | (go_at_call_of 53 (Value.int IntKind.i64 1); refine (ihas_68_1 _).mono ?_; rintro e wz ⟨rfl, hw⟩; replace hw := hw.symm; subst hw)
                | (go_at_call_of 53 (Value.int IntKind.i64 2); refine (ihas_68_2 _).mono ?_; rintro e wz ⟨rfl, hw⟩; replace hw := hw.symm; subst hw)
                | (go_at_call_of 53 (Value.int IntKind.i64 4); refine (ihas_68_4 _).mono ?_; rintro e wz ⟨rfl, hw⟩; replace hw := hw.symm; subst hw)
                | (go_at_call_of 53 (Value.int IntKind.i64 8); refine (ihas_68_8 _).mono ?_; rintro e wz ⟨rfl, hw⟩; replace hw := hw.symm; subst hw)
                | (go_at_call_of 53 (Value.int IntKind.i64 16); refine (ihas_68_16 _).mono ?_; rintro e wz ⟨rfl, hw⟩; replace hw := hw.symm; subst hw)
                | (go_at_call_of 53 (Value.int IntKind.i64 32); refine (ihas_68_32 _).mono ?_; rintro e wz ⟨rfl, hw⟩; replace hw := hw.symm; subst hw)
                | (go_at_call_of 53 (Value.int IntKind.i64 64); refine (ihas_68_64 _).mono ?_; rintro e wz ⟨rfl, hw⟩; replace hw := hw.symm; subst hw)
                | (go_at_call_of 53 (Value.int IntKind.i64 128); refine (ihas_68_128 _).mono ?_; rintro e wz ⟨rfl, hw⟩; replace hw := hw.symm; subst hw)
                | (go_at_call_of 53 (Value.int IntKind.i64 256); refine (ihas_68_256 _).mono ?_; rintro e wz ⟨rfl, hw⟩; replace hw := hw.symm; subst hw)
                | (go_at_call 55; refine (bits_any _ _).mono ?_; rintro e wz ⟨rfl, hw⟩; replace hw := hw.symm; subst hw))
              go_ret
              exact ⟨by rw [hv.out]; rfl, H0.out.2⟩
            | true =>
              have f5 := of_decide_eq_true e5
              have b5 : ((m.nx.length : Int) == 0) = true := by rw [beq_iff_eq]; omega
              clear f5
              cases e6 : decide (m.cg.length = 0) with
              | false =>
                have f6 := of_decide_eq_false e6
                have b6 : ((m.cg.length : Int) == 0) = false := by rw [beq_eq_false_iff_ne]; omega
                clear f6
                have hv : Hid (V = false) := hid (by rw [HV.out, onlyB]; simp only [*]; rfl)
                go_enter Try.func27, Try.ntmps27
                simp only [List.append]
                go_wp2_with (first
                  | (go_at_call_of 53 (Value.int IntKind.i64 1); refine (ihas_68_1 _).mono ?_; rintro e wz ⟨rfl, hw⟩; replace hw := hw.symm; subst hw)
                  | (go_at_call_of 53 (Value.int IntKind.i64 2); refine (ihas_68_2 _).mono ?_; rintro e wz ⟨rfl, hw⟩; replace hw := hw.symm; subst hw)
                  | (go_at_call_of 53 (Value.int IntKind.i64 4); refine (ihas_68_4 _).mono ?_; rintro e wz ⟨rfl, hw⟩; replace hw := hw.symm; subst hw)
                  | (go_at_call_of 53 (Value.int IntKind.i64 8); refine (ihas_68_8 _).mono ?_; rintro e wz ⟨rfl, hw⟩; replace hw := hw.symm; subst hw)
                  | (go_at_call_of 53 (Value.int IntKind.i64 16); refine (ihas_68_16 _).mono ?_; rintro e wz ⟨rfl, hw⟩; replace hw := hw.symm; subst hw)
                  | (go_at_call_of 53 (Value.int IntKind.i64 32); refine (ihas_68_32 _).mono ?_; rintro e wz ⟨rfl, hw⟩; replace hw := hw.symm; subst hw)
                  | (go_at_call_of 53 (Value.int IntKind.i64 64); refine (ihas_68_64 _).mono ?_; rintro e wz ⟨rfl, hw⟩; replace hw := hw.symm; subst hw)
                  | (go_at_call_of 53 (Value.int IntKind.i64 128); refine (ihas_68_128 _).mono ?_; rintro e wz ⟨rfl, hw⟩; replace hw := hw.symm; subst hw)
                  | (go_at_call_of 53 (Value.int IntKind.i64 256); refine (ihas_68_256 _).mono ?_; rintro e wz ⟨rfl, hw⟩; replace hw := hw.symm; subst hw)
                  | (go_at_call 55; refine (bits_any _ _).mono ?_; rintro e wz ⟨rfl, hw⟩; replace hw := hw.symm; subst hw))
                go_ret
                exact ⟨by rw [hv.out]; rfl, H0.out.2⟩
              | true =>
                have f6 := of_decide_eq_true e6
                have b6 : ((m.cg.length : Int) == 0) = true := by rw [beq_iff_eq]; omega
                clear f6
                cases e7 : decide (m.ln.length = 0) with
                | false =>
                  have f7 := of_decide_eq_false e7
                  have b7 : ((m.ln.length : Int) == 0) = false := by rw [beq_eq_false_iff_ne]; omega
                  clear f7
                  have hv : Hid (V = false) := hid (by rw [HV.out, onlyB]; simp only [*]; rfl)
                  go_enter Try.func27, Try.ntmps27
                  simp only [List.append]
                  go_wp2_with (first
                    | (go_at_call_of 53 (Value.int IntKind.i64 1); refine (ihas_68_1 _).mono ?_; rintro e wz ⟨rfl, hw⟩; replace hw := hw.symm; subst hw)
                    | (go_at_call_of 53 (Value.int IntKind.i64 2); refine (ihas_68_2 _).mono ?_; rintro e wz ⟨rfl, hw⟩; replace hw := hw.symm; subst hw)
                    | (go_at_call_of 53 (Value.int IntKind.i64 4); refine (ihas_68_4 _).mono ?_; rintro e wz ⟨rfl, hw⟩; replace hw := hw.symm; subst hw)
                    | (go_at_call_of 53 (Value.int IntKind.i64 8); refine (ihas_68_8 _).mono ?_; rintro e wz ⟨rfl, hw⟩; replace hw := hw.symm; subst hw)
                    | (go_at_call_of 53 (Value.int IntKind.i64 16); refine (ihas_68_16 _).mono ?_; rintro e wz ⟨rfl, hw⟩; replace hw := hw.symm; subst hw)
                    | (go_at_call_of 53 (Value.int IntKind.i64 32); refine (ihas_68_32 _).mono ?_; rintro e wz ⟨rfl, hw⟩; replace hw := hw.symm; subst hw)
                    | (go_at_call_of 53 (Value.int IntKind.i64 64); refine (ihas_68_64 _).mono ?_; rintro e wz ⟨rfl, hw⟩; replace hw := hw.symm; subst hw)
                    | (go_at_call_of 53 (Value.int IntKind.i64 128); refine (ihas_68_128 _).mono ?_; rintro e wz ⟨rfl, hw⟩; replace hw := hw.symm; subst hw)
                    | (go_at_call_of 53 (Value.int IntKind.i64 256); refine (ihas_68_256 _).mono ?_; rintro e wz ⟨rfl, hw⟩; replace hw := hw.symm; subst hw)
                    | (go_at_call 55; refine (bits_any _ _).mono ?_; rintro e wz ⟨rfl, hw⟩; replace hw := hw.symm; subst hw))
                  go_ret
                  exact ⟨by rw [hv.out]; rfl, H0.out.2⟩
                | true =>
                  have f7 := of_decide_eq_true e7
                  have b7 : ((m.ln.length : Int) == 0) = true := by rw [beq_iff_eq]; omega
                  clear f7
                  have hv : Hid (V = true) := hid (by rw [HV.out, onlyB]; simp only [*]; rfl)
                  go_enter Try.func27, Try.ntmps27
                  simp only [List.append]
                  go_wp2_with (first
                    | (go_at_call_of 53 (Value.int IntKind.i64 1); refine (ihas_68_1 _).mono ?_; rintro e wz ⟨rfl, hw⟩; replace hw := hw.symm; subst hw)
                    | (go_at_call_of 53 (Value.int IntKind.i64 2); refine (ihas_68_2 _).mono ?_; rintro e wz ⟨rfl, hw⟩; replace hw := hw.symm; subst hw)
                    | (go_at_call_of 53 (Value.int IntKind.i64 4); refine (ihas_68_4 _).mono ?_; rintro e wz ⟨rfl, hw⟩; replace hw := hw.symm; subst hw)
                    | (go_at_call_of 53 (Value.int IntKind.i64 8); refine (ihas_68_8 _).mono ?_; rintro e wz ⟨rfl, hw⟩; replace hw := hw.symm; subst hw)
                    | (go_at_call_of 53 (Value.int IntKind.i64 16); refine (ihas_68_16 _).mono ?_; rintro e wz ⟨rfl, hw⟩; replace hw := hw.symm; subst hw)
                    | (go_at_call_of 53 (Value.int IntKind.i64 32); refine (ihas_68_32 _).mono ?_; rintro e wz ⟨rfl, hw⟩; replace hw := hw.symm; subst hw)
                    | (go_at_call_of 53 (Value.int IntKind.i64 64); refine (ihas_68_64 _).mono ?_; rintro e wz ⟨rfl, hw⟩; replace hw := hw.symm; subst hw)
                    | (go_at_call_of 53 (Value.int IntKind.i64 128); refine (ihas_68_128 _).mono ?_; rintro e wz ⟨rfl, hw⟩; replace hw := hw.symm; subst hw)
                    | (go_at_call_of 53 (Value.int IntKind.i64 256); refine (ihas_68_256 _).mono ?_; rintro e wz ⟨rfl, hw⟩; replace hw := hw.symm; subst hw)
                    | (go_at_call 55; refine (bits_any _ _).mono ?_; rintro e wz ⟨rfl, hw⟩; replace hw := hw.symm; subst hw))
                  go_ret
                  exact ⟨by rw [hv.out]; rfl, H0.out.2⟩
set_option maxRecDepth 100000 in
set_option maxHeartbeats 6400000 in
theorem ionly_71 (m : Ms) (a13 a14 a15 a16 : Option Addr) (c13 c14 c15 c16 : Nat) (w : World) :
    Calls Try.prog 27 #[.agg #[.int .i64 m.k, .int .i64 m.ep, .int .i64 m.v, .int .i64 m.sl, .int .i64 m.rq.c, .int .i64 m.rq.st, .int .i64 m.rq.k, .string m.rq.key, .float .f64 m.rq.b, .int .i64 m.rq.id, .int .i64 m.rs.1, .float .f64 m.rs.2, .string m.tx, .slice a13 m.nx.length c13, .slice a14 m.sg.length c14, .slice a15 m.cg.length c15, .slice a16 m.ln.length c16], .int .i64 71] w fun e w' => e = .returned (.bool (onlyB m { v := true, s := true, r := true, g := true })) ∧ Below w.heap.size w w' := by
  have H0 : Hid (BxAt (w.alloc (.cells #[.int .i64 m.k, .int .i64 m.ep, .int .i64 m.v, .int .i64 m.sl, .int .i64 m.rq.c, .int .i64 m.rq.st, .int .i64 m.rq.k, .string m.rq.key, .float .f64 m.rq.b, .int .i64 m.rq.id, .int .i64 m.rs.1, .float .f64 m.rs.2, .string m.tx, .slice a13 m.nx.length c13, .slice a14 m.sg.length c14, .slice a15 m.cg.length c15, .slice a16 m.ln.length c16] 34)) w.heap.size [.int .i64 m.k, .int .i64 m.ep, .int .i64 m.v, .int .i64 m.sl, .int .i64 m.rq.c, .int .i64 m.rq.st, .int .i64 m.rq.k, .string m.rq.key, .float .f64 m.rq.b, .int .i64 m.rq.id, .int .i64 m.rs.1, .float .f64 m.rs.2, .string m.tx, .slice a13 m.nx.length c13, .slice a14 m.sg.length c14, .slice a15 m.cg.length c15, .slice a16 m.ln.length c16] 34 ∧ Below w.heap.size w (w.alloc (.cells #[.int .i64 m.k, .int .i64 m.ep, .int .i64 m.v, .int .i64 m.sl, .int .i64 m.rq.c, .int .i64 m.rq.st, .int .i64 m.rq.k, .string m.rq.key, .float .f64 m.rq.b, .int .i64 m.rq.id, .int .i64 m.rs.1, .float .f64 m.rs.2, .string m.tx, .slice a13 m.nx.length c13, .slice a14 m.sg.length c14, .slice a15 m.cg.length c15, .slice a16 m.ln.length c16] 34))) := hid ⟨heap_alloc_last w _, (Below.refl w.heap.size w).alloc (Nat.le_refl _) _⟩
  have y0 := H0.out.1.cell 0 _ rfl; have y1 := H0.out.1.cell 1 _ rfl; have y2 := H0.out.1.cell 2 _ rfl; have y3 := H0.out.1.cell 3 _ rfl; have y4 := H0.out.1.cell 4 _ rfl; have y5 := H0.out.1.cell 5 _ rfl; have y6 := H0.out.1.cell 6 _ rfl; have y7 := H0.out.1.cell 7 _ rfl; have y8 := H0.out.1.cell 8 _ rfl; have y9 := H0.out.1.cell 9 _ rfl; have y10 := H0.out.1.cell 10 _ rfl; have y11 := H0.out.1.cell 11 _ rfl; have y12 := H0.out.1.cell 12 _ rfl; have y13 := H0.out.1.cell 13 _ rfl; have y14 := H0.out.1.cell 14 _ rfl; have y15 := H0.out.1.cell 15 _ rfl; have y16 := H0.out.1.cell 16 _ rfl
  obtain ⟨V, eV⟩ : ∃ V, V = onlyB m { v := true, s := true, r := true, g := true } := ⟨_, rfl⟩
  rw [← eV]
  have HV : Hid (V = onlyB m { v := true, s := true, r := true, g := true }) := hid eV
  clear eV
  have HN : Hid (∀ u : World, Calls Try.prog 54 #[.agg #[.int .i64 m.rq.c, .int .i64 m.rq.st, .int .i64 m.rq.k, .string m.rq.key, .float .f64 m.rq.b, .int .i64 m.rq.id]] u fun e w' => e = .returned (.bool (nullB m.rq)) ∧ Below u.heap.size u w') := hid (fun u => dnull_any m.rq u)
  have ht := none_size m.tx
  cases e0 : decide (m.rs.1 = 0) with
  | false =>
    have f0 := of_decide_eq_false e0
    have b0 : (m.rs.1 == 0) = false := by rw [beq_eq_false_iff_ne]; omega
    clear f0
    have hv : Hid (V = false) := hid (by rw [HV.out, onlyB]; simp only [*]; rfl)
    go_enter Try.func27, Try.ntmps27
    simp only [List.append]
    go_wp2_with (first
      | (go_at_call_of 53 (Value.int IntKind.i64 1); refine (ihas_71_1 _).mono ?_; rintro e wz ⟨rfl, hw⟩; replace hw := hw.symm; subst hw)
      | (go_at_call_of 53 (Value.int IntKind.i64 2); refine (ihas_71_2 _).mono ?_; rintro e wz ⟨rfl, hw⟩; replace hw := hw.symm; subst hw)
      | (go_at_call_of 53 (Value.int IntKind.i64 4); refine (ihas_71_4 _).mono ?_; rintro e wz ⟨rfl, hw⟩; replace hw := hw.symm; subst hw)
      | (go_at_call_of 53 (Value.int IntKind.i64 8); refine (ihas_71_8 _).mono ?_; rintro e wz ⟨rfl, hw⟩; replace hw := hw.symm; subst hw)
      | (go_at_call_of 53 (Value.int IntKind.i64 16); refine (ihas_71_16 _).mono ?_; rintro e wz ⟨rfl, hw⟩; replace hw := hw.symm; subst hw)
      | (go_at_call_of 53 (Value.int IntKind.i64 32); refine (ihas_71_32 _).mono ?_; rintro e wz ⟨rfl, hw⟩; replace hw := hw.symm; subst hw)
      | (go_at_call_of 53 (Value.int IntKind.i64 64); refine (ihas_71_64 _).mono ?_; rintro e wz ⟨rfl, hw⟩; replace hw := hw.symm; subst hw)
      | (go_at_call_of 53 (Value.int IntKind.i64 128); refine (ihas_71_128 _).mono ?_; rintro e wz ⟨rfl, hw⟩; replace hw := hw.symm; subst hw)
      | (go_at_call_of 53 (Value.int IntKind.i64 256); refine (ihas_71_256 _).mono ?_; rintro e wz ⟨rfl, hw⟩; replace hw := hw.symm; subst hw)
      | (go_at_call 55; refine (bits_any _ _).mono ?_; rintro e wz ⟨rfl, hw⟩; replace hw := hw.symm; subst hw))
    go_ret
    exact ⟨by rw [hv.out]; rfl, H0.out.2⟩
  | true =>
    have f0 := of_decide_eq_true e0
    have b0 : (m.rs.1 == 0) = true := by rw [beq_iff_eq]; omega
    clear f0
    cases e1 : decide (canW m.rs.2 = 0) with
    | false =>
      have f1 := of_decide_eq_false e1
      have b1 : (((canW m.rs.2 : Nat) : Int) == 0) = false := by rw [beq_eq_false_iff_ne]; omega
      clear f1
      have hv : Hid (V = false) := hid (by rw [HV.out, onlyB]; simp only [*]; rfl)
      go_enter Try.func27, Try.ntmps27
      simp only [List.append]
      go_wp2_with (first
        | (go_at_call_of 53 (Value.int IntKind.i64 1); refine (ihas_71_1 _).mono ?_; rintro e wz ⟨rfl, hw⟩; replace hw := hw.symm; subst hw)
        | (go_at_call_of 53 (Value.int IntKind.i64 2); refine (ihas_71_2 _).mono ?_; rintro e wz ⟨rfl, hw⟩; replace hw := hw.symm; subst hw)
        | (go_at_call_of 53 (Value.int IntKind.i64 4); refine (ihas_71_4 _).mono ?_; rintro e wz ⟨rfl, hw⟩; replace hw := hw.symm; subst hw)
        | (go_at_call_of 53 (Value.int IntKind.i64 8); refine (ihas_71_8 _).mono ?_; rintro e wz ⟨rfl, hw⟩; replace hw := hw.symm; subst hw)
        | (go_at_call_of 53 (Value.int IntKind.i64 16); refine (ihas_71_16 _).mono ?_; rintro e wz ⟨rfl, hw⟩; replace hw := hw.symm; subst hw)
        | (go_at_call_of 53 (Value.int IntKind.i64 32); refine (ihas_71_32 _).mono ?_; rintro e wz ⟨rfl, hw⟩; replace hw := hw.symm; subst hw)
        | (go_at_call_of 53 (Value.int IntKind.i64 64); refine (ihas_71_64 _).mono ?_; rintro e wz ⟨rfl, hw⟩; replace hw := hw.symm; subst hw)
        | (go_at_call_of 53 (Value.int IntKind.i64 128); refine (ihas_71_128 _).mono ?_; rintro e wz ⟨rfl, hw⟩; replace hw := hw.symm; subst hw)
        | (go_at_call_of 53 (Value.int IntKind.i64 256); refine (ihas_71_256 _).mono ?_; rintro e wz ⟨rfl, hw⟩; replace hw := hw.symm; subst hw)
        | (go_at_call 55; refine (bits_any _ _).mono ?_; rintro e wz ⟨rfl, hw⟩; replace hw := hw.symm; subst hw))
      go_ret
      exact ⟨by rw [hv.out]; rfl, H0.out.2⟩
    | true =>
      have f1 := of_decide_eq_true e1
      have b1 : (((canW m.rs.2 : Nat) : Int) == 0) = true := by rw [beq_iff_eq]; omega
      clear f1
      cases e2 : decide (m.tx.size = 0) with
      | false =>
        rw [e2] at ht
        have hv : Hid (V = false) := hid (by rw [HV.out, onlyB]; simp only [*]; rfl)
        go_enter Try.func27, Try.ntmps27
        simp only [List.append]
        go_wp2_with (first
          | (go_at_call_of 53 (Value.int IntKind.i64 1); refine (ihas_71_1 _).mono ?_; rintro e wz ⟨rfl, hw⟩; replace hw := hw.symm; subst hw)
          | (go_at_call_of 53 (Value.int IntKind.i64 2); refine (ihas_71_2 _).mono ?_; rintro e wz ⟨rfl, hw⟩; replace hw := hw.symm; subst hw)
          | (go_at_call_of 53 (Value.int IntKind.i64 4); refine (ihas_71_4 _).mono ?_; rintro e wz ⟨rfl, hw⟩; replace hw := hw.symm; subst hw)
          | (go_at_call_of 53 (Value.int IntKind.i64 8); refine (ihas_71_8 _).mono ?_; rintro e wz ⟨rfl, hw⟩; replace hw := hw.symm; subst hw)
          | (go_at_call_of 53 (Value.int IntKind.i64 16); refine (ihas_71_16 _).mono ?_; rintro e wz ⟨rfl, hw⟩; replace hw := hw.symm; subst hw)
          | (go_at_call_of 53 (Value.int IntKind.i64 32); refine (ihas_71_32 _).mono ?_; rintro e wz ⟨rfl, hw⟩; replace hw := hw.symm; subst hw)
          | (go_at_call_of 53 (Value.int IntKind.i64 64); refine (ihas_71_64 _).mono ?_; rintro e wz ⟨rfl, hw⟩; replace hw := hw.symm; subst hw)
          | (go_at_call_of 53 (Value.int IntKind.i64 128); refine (ihas_71_128 _).mono ?_; rintro e wz ⟨rfl, hw⟩; replace hw := hw.symm; subst hw)
          | (go_at_call_of 53 (Value.int IntKind.i64 256); refine (ihas_71_256 _).mono ?_; rintro e wz ⟨rfl, hw⟩; replace hw := hw.symm; subst hw)
          | (go_at_call 55; refine (bits_any _ _).mono ?_; rintro e wz ⟨rfl, hw⟩; replace hw := hw.symm; subst hw))
        go_ret
        exact ⟨by rw [hv.out]; rfl, H0.out.2⟩
      | true =>
        rw [e2] at ht
        cases e3 : decide (m.nx.length = 0) with
        | false =>
          have f3 := of_decide_eq_false e3
          have b3 : ((m.nx.length : Int) == 0) = false := by rw [beq_eq_false_iff_ne]; omega
          clear f3
          have hv : Hid (V = false) := hid (by rw [HV.out, onlyB]; simp only [*]; rfl)
          go_enter Try.func27, Try.ntmps27
          simp only [List.append]
          go_wp2_with (first
            | (go_at_call_of 53 (Value.int IntKind.i64 1); refine (ihas_71_1 _).mono ?_; rintro e wz ⟨rfl, hw⟩; replace hw := hw.symm; subst hw)
            | (go_at_call_of 53 (Value.int IntKind.i64 2); refine (ihas_71_2 _).mono ?_; rintro e wz ⟨rfl, hw⟩; replace hw := hw.symm; subst hw)
            | (go_at_call_of 53 (Value.int IntKind.i64 4); refine (ihas_71_4 _).mono ?_; rintro e wz ⟨rfl, hw⟩; replace hw := hw.symm; subst hw)
            | (go_at_call_of 53 (Value.int IntKind.i64 8); refine (ihas_71_8 _).mono ?_; rintro e wz ⟨rfl, hw⟩; replace hw := hw.symm; subst hw)
            | (go_at_call_of 53 (Value.int IntKind.i64 16); refine (ihas_71_16 _).mono ?_; rintro e wz ⟨rfl, hw⟩; replace hw := hw.symm; subst hw)
            | (go_at_call_of 53 (Value.int IntKind.i64 32); refine (ihas_71_32 _).mono ?_; rintro e wz ⟨rfl, hw⟩; replace hw := hw.symm; subst hw)
            | (go_at_call_of 53 (Value.int IntKind.i64 64); refine (ihas_71_64 _).mono ?_; rintro e wz ⟨rfl, hw⟩; replace hw := hw.symm; subst hw)
            | (go_at_call_of 53 (Value.int IntKind.i64 128); refine (ihas_71_128 _).mono ?_; rintro e wz ⟨rfl, hw⟩; replace hw := hw.symm; subst hw)
            | (go_at_call_of 53 (Value.int IntKind.i64 256); refine (ihas_71_256 _).mono ?_; rintro e wz ⟨rfl, hw⟩; replace hw := hw.symm; subst hw)
            | (go_at_call 55; refine (bits_any _ _).mono ?_; rintro e wz ⟨rfl, hw⟩; replace hw := hw.symm; subst hw))
          go_ret
          exact ⟨by rw [hv.out]; rfl, H0.out.2⟩
        | true =>
          have f3 := of_decide_eq_true e3
          have b3 : ((m.nx.length : Int) == 0) = true := by rw [beq_iff_eq]; omega
          clear f3
          cases e4 : decide (m.cg.length = 0) with
          | false =>
            have f4 := of_decide_eq_false e4
            have b4 : ((m.cg.length : Int) == 0) = false := by rw [beq_eq_false_iff_ne]; omega
            clear f4
            have hv : Hid (V = false) := hid (by rw [HV.out, onlyB]; simp only [*]; rfl)
            go_enter Try.func27, Try.ntmps27
            simp only [List.append]
            go_wp2_with (first
              | (go_at_call_of 53 (Value.int IntKind.i64 1); refine (ihas_71_1 _).mono ?_; rintro e wz ⟨rfl, hw⟩; replace hw := hw.symm; subst hw)
              | (go_at_call_of 53 (Value.int IntKind.i64 2); refine (ihas_71_2 _).mono ?_; rintro e wz ⟨rfl, hw⟩; replace hw := hw.symm; subst hw)
              | (go_at_call_of 53 (Value.int IntKind.i64 4); refine (ihas_71_4 _).mono ?_; rintro e wz ⟨rfl, hw⟩; replace hw := hw.symm; subst hw)
              | (go_at_call_of 53 (Value.int IntKind.i64 8); refine (ihas_71_8 _).mono ?_; rintro e wz ⟨rfl, hw⟩; replace hw := hw.symm; subst hw)
              | (go_at_call_of 53 (Value.int IntKind.i64 16); refine (ihas_71_16 _).mono ?_; rintro e wz ⟨rfl, hw⟩; replace hw := hw.symm; subst hw)
              | (go_at_call_of 53 (Value.int IntKind.i64 32); refine (ihas_71_32 _).mono ?_; rintro e wz ⟨rfl, hw⟩; replace hw := hw.symm; subst hw)
              | (go_at_call_of 53 (Value.int IntKind.i64 64); refine (ihas_71_64 _).mono ?_; rintro e wz ⟨rfl, hw⟩; replace hw := hw.symm; subst hw)
              | (go_at_call_of 53 (Value.int IntKind.i64 128); refine (ihas_71_128 _).mono ?_; rintro e wz ⟨rfl, hw⟩; replace hw := hw.symm; subst hw)
              | (go_at_call_of 53 (Value.int IntKind.i64 256); refine (ihas_71_256 _).mono ?_; rintro e wz ⟨rfl, hw⟩; replace hw := hw.symm; subst hw)
              | (go_at_call 55; refine (bits_any _ _).mono ?_; rintro e wz ⟨rfl, hw⟩; replace hw := hw.symm; subst hw))
            go_ret
            exact ⟨by rw [hv.out]; rfl, H0.out.2⟩
          | true =>
            have f4 := of_decide_eq_true e4
            have b4 : ((m.cg.length : Int) == 0) = true := by rw [beq_iff_eq]; omega
            clear f4
            cases e5 : decide (m.ln.length = 0) with
            | false =>
              have f5 := of_decide_eq_false e5
              have b5 : ((m.ln.length : Int) == 0) = false := by rw [beq_eq_false_iff_ne]; omega
              clear f5
              have hv : Hid (V = false) := hid (by rw [HV.out, onlyB]; simp only [*]; rfl)
              go_enter Try.func27, Try.ntmps27
              simp only [List.append]
              go_wp2_with (first
                | (go_at_call_of 53 (Value.int IntKind.i64 1); refine (ihas_71_1 _).mono ?_; rintro e wz ⟨rfl, hw⟩; replace hw := hw.symm; subst hw)
                | (go_at_call_of 53 (Value.int IntKind.i64 2); refine (ihas_71_2 _).mono ?_; rintro e wz ⟨rfl, hw⟩; replace hw := hw.symm; subst hw)
                | (go_at_call_of 53 (Value.int IntKind.i64 4); refine (ihas_71_4 _).mono ?_; rintro e wz ⟨rfl, hw⟩; replace hw := hw.symm; subst hw)
                | (go_at_call_of 53 (Value.int IntKind.i64 8); refine (ihas_71_8 _).mono ?_; rintro e wz ⟨rfl, hw⟩; replace hw := hw.symm; subst hw)
                | (go_at_call_of 53 (Value.int IntKind.i64 16); refine (ihas_71_16 _).mono ?_; rintro e wz ⟨rfl, hw⟩; replace hw := hw.symm; subst hw)
                | (go_at_call_of 53 (Value.int IntKind.i64 32); refine (ihas_71_32 _).mono ?_; rintro e wz ⟨rfl, hw⟩; replace hw := hw.symm; subst hw)
                | (go_at_call_of 53 (Value.int IntKind.i64 64); refine (ihas_71_64 _).mono ?_; rintro e wz ⟨rfl, hw⟩; replace hw := hw.symm; subst hw)
                | (go_at_call_of 53 (Value.int IntKind.i64 128); refine (ihas_71_128 _).mono ?_; rintro e wz ⟨rfl, hw⟩; replace hw := hw.symm; subst hw)
                | (go_at_call_of 53 (Value.int IntKind.i64 256); refine (ihas_71_256 _).mono ?_; rintro e wz ⟨rfl, hw⟩; replace hw := hw.symm; subst hw)
                | (go_at_call 55; refine (bits_any _ _).mono ?_; rintro e wz ⟨rfl, hw⟩; replace hw := hw.symm; subst hw))
              go_ret
              exact ⟨by rw [hv.out]; rfl, H0.out.2⟩
            | true =>
              have f5 := of_decide_eq_true e5
              have b5 : ((m.ln.length : Int) == 0) = true := by rw [beq_iff_eq]; omega
              clear f5
              have hv : Hid (V = true) := hid (by rw [HV.out, onlyB]; simp only [*]; rfl)
              go_enter Try.func27, Try.ntmps27
              simp only [List.append]
              go_wp2_with (first
                | (go_at_call_of 53 (Value.int IntKind.i64 1); refine (ihas_71_1 _).mono ?_; rintro e wz ⟨rfl, hw⟩; replace hw := hw.symm; subst hw)
                | (go_at_call_of 53 (Value.int IntKind.i64 2); refine (ihas_71_2 _).mono ?_; rintro e wz ⟨rfl, hw⟩; replace hw := hw.symm; subst hw)
                | (go_at_call_of 53 (Value.int IntKind.i64 4); refine (ihas_71_4 _).mono ?_; rintro e wz ⟨rfl, hw⟩; replace hw := hw.symm; subst hw)
                | (go_at_call_of 53 (Value.int IntKind.i64 8); refine (ihas_71_8 _).mono ?_; rintro e wz ⟨rfl, hw⟩; replace hw := hw.symm; subst hw)
                | (go_at_call_of 53 (Value.int IntKind.i64 16); refine (ihas_71_16 _).mono ?_; rintro e wz ⟨rfl, hw⟩; replace hw := hw.symm; subst hw)
                | (go_at_call_of 53 (Value.int IntKind.i64 32); refine (ihas_71_32 _).mono ?_; rintro e wz ⟨rfl, hw⟩; replace hw := hw.symm; subst hw)
                | (go_at_call_of 53 (Value.int IntKind.i64 64); refine (ihas_71_64 _).mono ?_; rintro e wz ⟨rfl, hw⟩; replace hw := hw.symm; subst hw)
                | (go_at_call_of 53 (Value.int IntKind.i64 128); refine (ihas_71_128 _).mono ?_; rintro e wz ⟨rfl, hw⟩; replace hw := hw.symm; subst hw)
                | (go_at_call_of 53 (Value.int IntKind.i64 256); refine (ihas_71_256 _).mono ?_; rintro e wz ⟨rfl, hw⟩; replace hw := hw.symm; subst hw)
                | (go_at_call 55; refine (bits_any _ _).mono ?_; rintro e wz ⟨rfl, hw⟩; replace hw := hw.symm; subst hw))
              go_ret
              exact ⟨by rw [hv.out]; rfl, H0.out.2⟩
set_option maxRecDepth 100000 in
set_option maxHeartbeats 6400000 in
theorem ionly_7 (m : Ms) (a13 a14 a15 a16 : Option Addr) (c13 c14 c15 c16 : Nat) (w : World) :
    Calls Try.prog 27 #[.agg #[.int .i64 m.k, .int .i64 m.ep, .int .i64 m.v, .int .i64 m.sl, .int .i64 m.rq.c, .int .i64 m.rq.st, .int .i64 m.rq.k, .string m.rq.key, .float .f64 m.rq.b, .int .i64 m.rq.id, .int .i64 m.rs.1, .float .f64 m.rs.2, .string m.tx, .slice a13 m.nx.length c13, .slice a14 m.sg.length c14, .slice a15 m.cg.length c15, .slice a16 m.ln.length c16], .int .i64 7] w fun e w' => e = .returned (.bool (onlyB m { v := true, s := true, r := true })) ∧ Below w.heap.size w w' := by
  have H0 : Hid (BxAt (w.alloc (.cells #[.int .i64 m.k, .int .i64 m.ep, .int .i64 m.v, .int .i64 m.sl, .int .i64 m.rq.c, .int .i64 m.rq.st, .int .i64 m.rq.k, .string m.rq.key, .float .f64 m.rq.b, .int .i64 m.rq.id, .int .i64 m.rs.1, .float .f64 m.rs.2, .string m.tx, .slice a13 m.nx.length c13, .slice a14 m.sg.length c14, .slice a15 m.cg.length c15, .slice a16 m.ln.length c16] 34)) w.heap.size [.int .i64 m.k, .int .i64 m.ep, .int .i64 m.v, .int .i64 m.sl, .int .i64 m.rq.c, .int .i64 m.rq.st, .int .i64 m.rq.k, .string m.rq.key, .float .f64 m.rq.b, .int .i64 m.rq.id, .int .i64 m.rs.1, .float .f64 m.rs.2, .string m.tx, .slice a13 m.nx.length c13, .slice a14 m.sg.length c14, .slice a15 m.cg.length c15, .slice a16 m.ln.length c16] 34 ∧ Below w.heap.size w (w.alloc (.cells #[.int .i64 m.k, .int .i64 m.ep, .int .i64 m.v, .int .i64 m.sl, .int .i64 m.rq.c, .int .i64 m.rq.st, .int .i64 m.rq.k, .string m.rq.key, .float .f64 m.rq.b, .int .i64 m.rq.id, .int .i64 m.rs.1, .float .f64 m.rs.2, .string m.tx, .slice a13 m.nx.length c13, .slice a14 m.sg.length c14, .slice a15 m.cg.length c15, .slice a16 m.ln.length c16] 34))) := hid ⟨heap_alloc_last w _, (Below.refl w.heap.size w).alloc (Nat.le_refl _) _⟩
  have y0 := H0.out.1.cell 0 _ rfl; have y1 := H0.out.1.cell 1 _ rfl; have y2 := H0.out.1.cell 2 _ rfl; have y3 := H0.out.1.cell 3 _ rfl; have y4 := H0.out.1.cell 4 _ rfl; have y5 := H0.out.1.cell 5 _ rfl; have y6 := H0.out.1.cell 6 _ rfl; have y7 := H0.out.1.cell 7 _ rfl; have y8 := H0.out.1.cell 8 _ rfl; have y9 := H0.out.1.cell 9 _ rfl; have y10 := H0.out.1.cell 10 _ rfl; have y11 := H0.out.1.cell 11 _ rfl; have y12 := H0.out.1.cell 12 _ rfl; have y13 := H0.out.1.cell 13 _ rfl; have y14 := H0.out.1.cell 14 _ rfl; have y15 := H0.out.1.cell 15 _ rfl; have y16 := H0.out.1.cell 16 _ rfl
  obtain ⟨V, eV⟩ : ∃ V, V = onlyB m { v := true, s := true, r := true } := ⟨_, rfl⟩
  rw [← eV]
  have HV : Hid (V = onlyB m { v := true, s := true, r := true }) := hid eV
  clear eV
  have HN : Hid (∀ u : World, Calls Try.prog 54 #[.agg #[.int .i64 m.rq.c, .int .i64 m.rq.st, .int .i64 m.rq.k, .string m.rq.key, .float .f64 m.rq.b, .int .i64 m.rq.id]] u fun e w' => e = .returned (.bool (nullB m.rq)) ∧ Below u.heap.size u w') := hid (fun u => dnull_any m.rq u)
  have ht := none_size m.tx
  cases e0 : decide (m.rs.1 = 0) with
  | false =>
    have f0 := of_decide_eq_false e0
    have b0 : (m.rs.1 == 0) = false := by rw [beq_eq_false_iff_ne]; omega
    clear f0
    have hv : Hid (V = false) := hid (by rw [HV.out, onlyB]; simp only [*]; rfl)
    go_enter Try.func27, Try.ntmps27
    simp only [List.append]
    go_wp2_with (first
      | (go_at_call_of 53 (Value.int IntKind.i64 1); refine (ihas_7_1 _).mono ?_; rintro e wz ⟨rfl, hw⟩; replace hw := hw.symm; subst hw)
      | (go_at_call_of 53 (Value.int IntKind.i64 2); refine (ihas_7_2 _).mono ?_; rintro e wz ⟨rfl, hw⟩; replace hw := hw.symm; subst hw)
      | (go_at_call_of 53 (Value.int IntKind.i64 4); refine (ihas_7_4 _).mono ?_; rintro e wz ⟨rfl, hw⟩; replace hw := hw.symm; subst hw)
      | (go_at_call_of 53 (Value.int IntKind.i64 8); refine (ihas_7_8 _).mono ?_; rintro e wz ⟨rfl, hw⟩; replace hw := hw.symm; subst hw)
      | (go_at_call_of 53 (Value.int IntKind.i64 16); refine (ihas_7_16 _).mono ?_; rintro e wz ⟨rfl, hw⟩; replace hw := hw.symm; subst hw)
      | (go_at_call_of 53 (Value.int IntKind.i64 32); refine (ihas_7_32 _).mono ?_; rintro e wz ⟨rfl, hw⟩; replace hw := hw.symm; subst hw)
      | (go_at_call_of 53 (Value.int IntKind.i64 64); refine (ihas_7_64 _).mono ?_; rintro e wz ⟨rfl, hw⟩; replace hw := hw.symm; subst hw)
      | (go_at_call_of 53 (Value.int IntKind.i64 128); refine (ihas_7_128 _).mono ?_; rintro e wz ⟨rfl, hw⟩; replace hw := hw.symm; subst hw)
      | (go_at_call_of 53 (Value.int IntKind.i64 256); refine (ihas_7_256 _).mono ?_; rintro e wz ⟨rfl, hw⟩; replace hw := hw.symm; subst hw)
      | (go_at_call 55; refine (bits_any _ _).mono ?_; rintro e wz ⟨rfl, hw⟩; replace hw := hw.symm; subst hw))
    go_ret
    exact ⟨by rw [hv.out]; rfl, H0.out.2⟩
  | true =>
    have f0 := of_decide_eq_true e0
    have b0 : (m.rs.1 == 0) = true := by rw [beq_iff_eq]; omega
    clear f0
    cases e1 : decide (canW m.rs.2 = 0) with
    | false =>
      have f1 := of_decide_eq_false e1
      have b1 : (((canW m.rs.2 : Nat) : Int) == 0) = false := by rw [beq_eq_false_iff_ne]; omega
      clear f1
      have hv : Hid (V = false) := hid (by rw [HV.out, onlyB]; simp only [*]; rfl)
      go_enter Try.func27, Try.ntmps27
      simp only [List.append]
      go_wp2_with (first
        | (go_at_call_of 53 (Value.int IntKind.i64 1); refine (ihas_7_1 _).mono ?_; rintro e wz ⟨rfl, hw⟩; replace hw := hw.symm; subst hw)
        | (go_at_call_of 53 (Value.int IntKind.i64 2); refine (ihas_7_2 _).mono ?_; rintro e wz ⟨rfl, hw⟩; replace hw := hw.symm; subst hw)
        | (go_at_call_of 53 (Value.int IntKind.i64 4); refine (ihas_7_4 _).mono ?_; rintro e wz ⟨rfl, hw⟩; replace hw := hw.symm; subst hw)
        | (go_at_call_of 53 (Value.int IntKind.i64 8); refine (ihas_7_8 _).mono ?_; rintro e wz ⟨rfl, hw⟩; replace hw := hw.symm; subst hw)
        | (go_at_call_of 53 (Value.int IntKind.i64 16); refine (ihas_7_16 _).mono ?_; rintro e wz ⟨rfl, hw⟩; replace hw := hw.symm; subst hw)
        | (go_at_call_of 53 (Value.int IntKind.i64 32); refine (ihas_7_32 _).mono ?_; rintro e wz ⟨rfl, hw⟩; replace hw := hw.symm; subst hw)
        | (go_at_call_of 53 (Value.int IntKind.i64 64); refine (ihas_7_64 _).mono ?_; rintro e wz ⟨rfl, hw⟩; replace hw := hw.symm; subst hw)
        | (go_at_call_of 53 (Value.int IntKind.i64 128); refine (ihas_7_128 _).mono ?_; rintro e wz ⟨rfl, hw⟩; replace hw := hw.symm; subst hw)
        | (go_at_call_of 53 (Value.int IntKind.i64 256); refine (ihas_7_256 _).mono ?_; rintro e wz ⟨rfl, hw⟩; replace hw := hw.symm; subst hw)
        | (go_at_call 55; refine (bits_any _ _).mono ?_; rintro e wz ⟨rfl, hw⟩; replace hw := hw.symm; subst hw))
      go_ret
      exact ⟨by rw [hv.out]; rfl, H0.out.2⟩
    | true =>
      have f1 := of_decide_eq_true e1
      have b1 : (((canW m.rs.2 : Nat) : Int) == 0) = true := by rw [beq_iff_eq]; omega
      clear f1
      cases e2 : decide (m.tx.size = 0) with
      | false =>
        rw [e2] at ht
        have hv : Hid (V = false) := hid (by rw [HV.out, onlyB]; simp only [*]; rfl)
        go_enter Try.func27, Try.ntmps27
        simp only [List.append]
        go_wp2_with (first
          | (go_at_call_of 53 (Value.int IntKind.i64 1); refine (ihas_7_1 _).mono ?_; rintro e wz ⟨rfl, hw⟩; replace hw := hw.symm; subst hw)
          | (go_at_call_of 53 (Value.int IntKind.i64 2); refine (ihas_7_2 _).mono ?_; rintro e wz ⟨rfl, hw⟩; replace hw := hw.symm; subst hw)
          | (go_at_call_of 53 (Value.int IntKind.i64 4); refine (ihas_7_4 _).mono ?_; rintro e wz ⟨rfl, hw⟩; replace hw := hw.symm; subst hw)
          | (go_at_call_of 53 (Value.int IntKind.i64 8); refine (ihas_7_8 _).mono ?_; rintro e wz ⟨rfl, hw⟩; replace hw := hw.symm; subst hw)
          | (go_at_call_of 53 (Value.int IntKind.i64 16); refine (ihas_7_16 _).mono ?_; rintro e wz ⟨rfl, hw⟩; replace hw := hw.symm; subst hw)
          | (go_at_call_of 53 (Value.int IntKind.i64 32); refine (ihas_7_32 _).mono ?_; rintro e wz ⟨rfl, hw⟩; replace hw := hw.symm; subst hw)
          | (go_at_call_of 53 (Value.int IntKind.i64 64); refine (ihas_7_64 _).mono ?_; rintro e wz ⟨rfl, hw⟩; replace hw := hw.symm; subst hw)
          | (go_at_call_of 53 (Value.int IntKind.i64 128); refine (ihas_7_128 _).mono ?_; rintro e wz ⟨rfl, hw⟩; replace hw := hw.symm; subst hw)
          | (go_at_call_of 53 (Value.int IntKind.i64 256); refine (ihas_7_256 _).mono ?_; rintro e wz ⟨rfl, hw⟩; replace hw := hw.symm; subst hw)
          | (go_at_call 55; refine (bits_any _ _).mono ?_; rintro e wz ⟨rfl, hw⟩; replace hw := hw.symm; subst hw))
        go_ret
        exact ⟨by rw [hv.out]; rfl, H0.out.2⟩
      | true =>
        rw [e2] at ht
        cases e3 : decide (m.nx.length = 0) with
        | false =>
          have f3 := of_decide_eq_false e3
          have b3 : ((m.nx.length : Int) == 0) = false := by rw [beq_eq_false_iff_ne]; omega
          clear f3
          have hv : Hid (V = false) := hid (by rw [HV.out, onlyB]; simp only [*]; rfl)
          go_enter Try.func27, Try.ntmps27
          simp only [List.append]
          go_wp2_with (first
            | (go_at_call_of 53 (Value.int IntKind.i64 1); refine (ihas_7_1 _).mono ?_; rintro e wz ⟨rfl, hw⟩; replace hw := hw.symm; subst hw)
            | (go_at_call_of 53 (Value.int IntKind.i64 2); refine (ihas_7_2 _).mono ?_; rintro e wz ⟨rfl, hw⟩; replace hw := hw.symm; subst hw)
            | (go_at_call_of 53 (Value.int IntKind.i64 4); refine (ihas_7_4 _).mono ?_; rintro e wz ⟨rfl, hw⟩; replace hw := hw.symm; subst hw)
            | (go_at_call_of 53 (Value.int IntKind.i64 8); refine (ihas_7_8 _).mono ?_; rintro e wz ⟨rfl, hw⟩; replace hw := hw.symm; subst hw)
            | (go_at_call_of 53 (Value.int IntKind.i64 16); refine (ihas_7_16 _).mono ?_; rintro e wz ⟨rfl, hw⟩; replace hw := hw.symm; subst hw)
            | (go_at_call_of 53 (Value.int IntKind.i64 32); refine (ihas_7_32 _).mono ?_; rintro e wz ⟨rfl, hw⟩; replace hw := hw.symm; subst hw)
            | (go_at_call_of 53 (Value.int IntKind.i64 64); refine (ihas_7_64 _).mono ?_; rintro e wz ⟨rfl, hw⟩; replace hw := hw.symm; subst hw)
            | (go_at_call_of 53 (Value.int IntKind.i64 128); refine (ihas_7_128 _).mono ?_; rintro e wz ⟨rfl, hw⟩; replace hw := hw.symm; subst hw)
            | (go_at_call_of 53 (Value.int IntKind.i64 256); refine (ihas_7_256 _).mono ?_; rintro e wz ⟨rfl, hw⟩; replace hw := hw.symm; subst hw)
            | (go_at_call 55; refine (bits_any _ _).mono ?_; rintro e wz ⟨rfl, hw⟩; replace hw := hw.symm; subst hw))
          go_ret
          exact ⟨by rw [hv.out]; rfl, H0.out.2⟩
        | true =>
          have f3 := of_decide_eq_true e3
          have b3 : ((m.nx.length : Int) == 0) = true := by rw [beq_iff_eq]; omega
          clear f3
          cases e4 : decide (m.sg.length = 0) with
          | false =>
            have f4 := of_decide_eq_false e4
            have b4 : ((m.sg.length : Int) == 0) = false := by rw [beq_eq_false_iff_ne]; omega
            clear f4
            have hv : Hid (V = false) := hid (by rw [HV.out, onlyB]; simp only [*]; rfl)
            go_enter Try.func27, Try.ntmps27
            simp only [List.append]
            go_wp2_with (first
              | (go_at_call_of 53 (Value.int IntKind.i64 1); refine (ihas_7_1 _).mono ?_; rintro e wz ⟨rfl, hw⟩; replace hw := hw.symm; subst hw)
              | (go_at_call_of 53 (Value.int IntKind.i64 2); refine (ihas_7_2 _).mono ?_; rintro e wz ⟨rfl, hw⟩; replace hw := hw.symm; subst hw)
              | (go_at_call_of 53 (Value.int IntKind.i64 4); refine (ihas_7_4 _).mono ?_; rintro e wz ⟨rfl, hw⟩; replace hw := hw.symm; subst hw)
              | (go_at_call_of 53 (Value.int IntKind.i64 8); refine (ihas_7_8 _).mono ?_; rintro e wz ⟨rfl, hw⟩; replace hw := hw.symm; subst hw)
              | (go_at_call_of 53 (Value.int IntKind.i64 16); refine (ihas_7_16 _).mono ?_; rintro e wz ⟨rfl, hw⟩; replace hw := hw.symm; subst hw)
              | (go_at_call_of 53 (Value.int IntKind.i64 32); refine (ihas_7_32 _).mono ?_; rintro e wz ⟨rfl, hw⟩; replace hw := hw.symm; subst hw)
              | (go_at_call_of 53 (Value.int IntKind.i64 64); refine (ihas_7_64 _).mono ?_; rintro e wz ⟨rfl, hw⟩; replace hw := hw.symm; subst hw)
              | (go_at_call_of 53 (Value.int IntKind.i64 128); refine (ihas_7_128 _).mono ?_; rintro e wz ⟨rfl, hw⟩; replace hw := hw.symm; subst hw)
              | (go_at_call_of 53 (Value.int IntKind.i64 256); refine (ihas_7_256 _).mono ?_; rintro e wz ⟨rfl, hw⟩; replace hw := hw.symm; subst hw)
              | (go_at_call 55; refine (bits_any _ _).mono ?_; rintro e wz ⟨rfl, hw⟩; replace hw := hw.symm; subst hw))
            go_ret
            exact ⟨by rw [hv.out]; rfl, H0.out.2⟩
          | true =>
            have f4 := of_decide_eq_true e4
            have b4 : ((m.sg.length : Int) == 0) = true := by rw [beq_iff_eq]; omega
            clear f4
            cases e5 : decide (m.cg.length = 0) with
            | false =>
              have f5 := of_decide_eq_false e5
              have b5 : ((m.cg.length : Int) == 0) = false := by rw [beq_eq_false_iff_ne]; omega
              clear f5
              have hv : Hid (V = false) := hid (by rw [HV.out, onlyB]; simp only [*]; rfl)
              go_enter Try.func27, Try.ntmps27
              simp only [List.append]
              go_wp2_with (first
                | (go_at_call_of 53 (Value.int IntKind.i64 1); refine (ihas_7_1 _).mono ?_; rintro e wz ⟨rfl, hw⟩; replace hw := hw.symm; subst hw)
                | (go_at_call_of 53 (Value.int IntKind.i64 2); refine (ihas_7_2 _).mono ?_; rintro e wz ⟨rfl, hw⟩; replace hw := hw.symm; subst hw)
                | (go_at_call_of 53 (Value.int IntKind.i64 4); refine (ihas_7_4 _).mono ?_; rintro e wz ⟨rfl, hw⟩; replace hw := hw.symm; subst hw)
                | (go_at_call_of 53 (Value.int IntKind.i64 8); refine (ihas_7_8 _).mono ?_; rintro e wz ⟨rfl, hw⟩; replace hw := hw.symm; subst hw)
                | (go_at_call_of 53 (Value.int IntKind.i64 16); refine (ihas_7_16 _).mono ?_; rintro e wz ⟨rfl, hw⟩; replace hw := hw.symm; subst hw)
                | (go_at_call_of 53 (Value.int IntKind.i64 32); refine (ihas_7_32 _).mono ?_; rintro e wz ⟨rfl, hw⟩; replace hw := hw.symm; subst hw)
                | (go_at_call_of 53 (Value.int IntKind.i64 64); refine (ihas_7_64 _).mono ?_; rintro e wz ⟨rfl, hw⟩; replace hw := hw.symm; subst hw)
                | (go_at_call_of 53 (Value.int IntKind.i64 128); refine (ihas_7_128 _).mono ?_; rintro e wz ⟨rfl, hw⟩; replace hw := hw.symm; subst hw)
                | (go_at_call_of 53 (Value.int IntKind.i64 256); refine (ihas_7_256 _).mono ?_; rintro e wz ⟨rfl, hw⟩; replace hw := hw.symm; subst hw)
                | (go_at_call 55; refine (bits_any _ _).mono ?_; rintro e wz ⟨rfl, hw⟩; replace hw := hw.symm; subst hw))
              go_ret
              exact ⟨by rw [hv.out]; rfl, H0.out.2⟩
            | true =>
              have f5 := of_decide_eq_true e5
              have b5 : ((m.cg.length : Int) == 0) = true := by rw [beq_iff_eq]; omega
              clear f5
              cases e6 : decide (m.ln.length = 0) with
              | false =>
                have f6 := of_decide_eq_false e6
                have b6 : ((m.ln.length : Int) == 0) = false := by rw [beq_eq_false_iff_ne]; omega
                clear f6
                have hv : Hid (V = false) := hid (by rw [HV.out, onlyB]; simp only [*]; rfl)
                go_enter Try.func27, Try.ntmps27
                simp only [List.append]
                go_wp2_with (first
                  | (go_at_call_of 53 (Value.int IntKind.i64 1); refine (ihas_7_1 _).mono ?_; rintro e wz ⟨rfl, hw⟩; replace hw := hw.symm; subst hw)
                  | (go_at_call_of 53 (Value.int IntKind.i64 2); refine (ihas_7_2 _).mono ?_; rintro e wz ⟨rfl, hw⟩; replace hw := hw.symm; subst hw)
                  | (go_at_call_of 53 (Value.int IntKind.i64 4); refine (ihas_7_4 _).mono ?_; rintro e wz ⟨rfl, hw⟩; replace hw := hw.symm; subst hw)
                  | (go_at_call_of 53 (Value.int IntKind.i64 8); refine (ihas_7_8 _).mono ?_; rintro e wz ⟨rfl, hw⟩; replace hw := hw.symm; subst hw)
                  | (go_at_call_of 53 (Value.int IntKind.i64 16); refine (ihas_7_16 _).mono ?_; rintro e wz ⟨rfl, hw⟩; replace hw := hw.symm; subst hw)
                  | (go_at_call_of 53 (Value.int IntKind.i64 32); refine (ihas_7_32 _).mono ?_; rintro e wz ⟨rfl, hw⟩; replace hw := hw.symm; subst hw)
                  | (go_at_call_of 53 (Value.int IntKind.i64 64); refine (ihas_7_64 _).mono ?_; rintro e wz ⟨rfl, hw⟩; replace hw := hw.symm; subst hw)
                  | (go_at_call_of 53 (Value.int IntKind.i64 128); refine (ihas_7_128 _).mono ?_; rintro e wz ⟨rfl, hw⟩; replace hw := hw.symm; subst hw)
                  | (go_at_call_of 53 (Value.int IntKind.i64 256); refine (ihas_7_256 _).mono ?_; rintro e wz ⟨rfl, hw⟩; replace hw := hw.symm; subst hw)
                  | (go_at_call 55; refine (bits_any _ _).mono ?_; rintro e wz ⟨rfl, hw⟩; replace hw := hw.symm; subst hw))
                go_ret
                exact ⟨by rw [hv.out]; rfl, H0.out.2⟩
              | true =>
                have f6 := of_decide_eq_true e6
                have b6 : ((m.ln.length : Int) == 0) = true := by rw [beq_iff_eq]; omega
                clear f6
                have hv : Hid (V = true) := hid (by rw [HV.out, onlyB]; simp only [*]; rfl)
                go_enter Try.func27, Try.ntmps27
                simp only [List.append]
                go_wp2_with (first
                  | (go_at_call_of 53 (Value.int IntKind.i64 1); refine (ihas_7_1 _).mono ?_; rintro e wz ⟨rfl, hw⟩; replace hw := hw.symm; subst hw)
                  | (go_at_call_of 53 (Value.int IntKind.i64 2); refine (ihas_7_2 _).mono ?_; rintro e wz ⟨rfl, hw⟩; replace hw := hw.symm; subst hw)
                  | (go_at_call_of 53 (Value.int IntKind.i64 4); refine (ihas_7_4 _).mono ?_; rintro e wz ⟨rfl, hw⟩; replace hw := hw.symm; subst hw)
                  | (go_at_call_of 53 (Value.int IntKind.i64 8); refine (ihas_7_8 _).mono ?_; rintro e wz ⟨rfl, hw⟩; replace hw := hw.symm; subst hw)
                  | (go_at_call_of 53 (Value.int IntKind.i64 16); refine (ihas_7_16 _).mono ?_; rintro e wz ⟨rfl, hw⟩; replace hw := hw.symm; subst hw)
                  | (go_at_call_of 53 (Value.int IntKind.i64 32); refine (ihas_7_32 _).mono ?_; rintro e wz ⟨rfl, hw⟩; replace hw := hw.symm; subst hw)
                  | (go_at_call_of 53 (Value.int IntKind.i64 64); refine (ihas_7_64 _).mono ?_; rintro e wz ⟨rfl, hw⟩; replace hw := hw.symm; subst hw)
                  | (go_at_call_of 53 (Value.int IntKind.i64 128); refine (ihas_7_128 _).mono ?_; rintro e wz ⟨rfl, hw⟩; replace hw := hw.symm; subst hw)
                  | (go_at_call_of 53 (Value.int IntKind.i64 256); refine (ihas_7_256 _).mono ?_; rintro e wz ⟨rfl, hw⟩; replace hw := hw.symm; subst hw)
                  | (go_at_call 55; refine (bits_any _ _).mono ?_; rintro e wz ⟨rfl, hw⟩; replace hw := hw.symm; subst hw))
                go_ret
                exact ⟨by rw [hv.out]; rfl, H0.out.2⟩
set_option maxRecDepth 100000 in
set_option maxHeartbeats 6400000 in
theorem ionly_114 (m : Ms) (a13 a14 a15 a16 : Option Addr) (c13 c14 c15 c16 : Nat) (w : World) :
    Calls Try.prog 27 #[.agg #[.int .i64 m.k, .int .i64 m.ep, .int .i64 m.v, .int .i64 m.sl, .int .i64 m.rq.c, .int .i64 m.rq.st, .int .i64 m.rq.k, .string m.rq.key, .float .f64 m.rq.b, .int .i64 m.rq.id, .int .i64 m.rs.1, .float .f64 m.rs.2, .string m.tx, .slice a13 m.nx.length c13, .slice a14 m.sg.length c14, .slice a15 m.cg.length c15, .slice a16 m.ln.length c16], .int .i64 114] w fun e w' => e = .returned (.bool (onlyB m { s := true, t := true, n := true, g := true })) ∧ Below w.heap.size w w' := by
  have H0 : Hid (BxAt (w.alloc (.cells #[.int .i64 m.k, .int .i64 m.ep, .int .i64 m.v, .int .i64 m.sl, .int .i64 m.rq.c, .int .i64 m.rq.st, .int .i64 m.rq.k, .string m.rq.key, .float .f64 m.rq.b, .int .i64 m.rq.id, .int .i64 m.rs.1, .float .f64 m.rs.2, .string m.tx, .slice a13 m.nx.length c13, .slice a14 m.sg.length c14, .slice a15 m.cg.length c15, .slice a16 m.ln.length c16] 34)) w.heap.size [.int .i64 m.k, .int .i64 m.ep, .int .i64 m.v, .int .i64 m.sl, .int .i64 m.rq.c, .int .i64 m.rq.st, .int .i64 m.rq.k, .string m.rq.key, .float .f64 m.rq.b, .int .i64 m.rq.id, .int .i64 m.rs.1, .float .f64 m.rs.2, .string m.tx, .slice a13 m.nx.length c13, .slice a14 m.sg.length c14, .slice a15 m.cg.length c15, .slice a16 m.ln.length c16] 34 ∧ Below w.heap.size w (w.alloc (.cells #[.int .i64 m.k, .int .i64 m.ep, .int .i64 m.v, .int .i64 m.sl, .int .i64 m.rq.c, .int .i64 m.rq.st, .int .i64 m.rq.k, .string m.rq.key, .float .f64 m.rq.b, .int .i64 m.rq.id, .int .i64 m.rs.1, .float .f64 m.rs.2, .string m.tx, .slice a13 m.nx.length c13, .slice a14 m.sg.length c14, .slice a15 m.cg.length c15, .slice a16 m.ln.length c16] 34))) := hid ⟨heap_alloc_last w _, (Below.refl w.heap.size w).alloc (Nat.le_refl _) _⟩
  have y0 := H0.out.1.cell 0 _ rfl; have y1 := H0.out.1.cell 1 _ rfl; have y2 := H0.out.1.cell 2 _ rfl; have y3 := H0.out.1.cell 3 _ rfl; have y4 := H0.out.1.cell 4 _ rfl; have y5 := H0.out.1.cell 5 _ rfl; have y6 := H0.out.1.cell 6 _ rfl; have y7 := H0.out.1.cell 7 _ rfl; have y8 := H0.out.1.cell 8 _ rfl; have y9 := H0.out.1.cell 9 _ rfl; have y10 := H0.out.1.cell 10 _ rfl; have y11 := H0.out.1.cell 11 _ rfl; have y12 := H0.out.1.cell 12 _ rfl; have y13 := H0.out.1.cell 13 _ rfl; have y14 := H0.out.1.cell 14 _ rfl; have y15 := H0.out.1.cell 15 _ rfl; have y16 := H0.out.1.cell 16 _ rfl
  obtain ⟨V, eV⟩ : ∃ V, V = onlyB m { s := true, t := true, n := true, g := true } := ⟨_, rfl⟩
  rw [← eV]
  have HV : Hid (V = onlyB m { s := true, t := true, n := true, g := true }) := hid eV
  clear eV
  have HN : Hid (∀ u : World, Calls Try.prog 54 #[.agg #[.int .i64 m.rq.c, .int .i64 m.rq.st, .int .i64 m.rq.k, .string m.rq.key, .float .f64 m.rq.b, .int .i64 m.rq.id]] u fun e w' => e = .returned (.bool (nullB m.rq)) ∧ Below u.heap.size u w') := hid (fun u => dnull_any m.rq u)
  have ht := none_size m.tx
  cases e0 : decide (m.v = 0) with
  | false =>
    have f0 := of_decide_eq_false e0
    have b0 : (m.v == 0) = false := by rw [beq_eq_false_iff_ne]; omega
    clear f0
    have hv : Hid (V = false) := hid (by rw [HV.out, onlyB]; simp only [*]; rfl)
    go_enter Try.func27, Try.ntmps27
    simp only [List.append]
    go_wp2_with (first
      | (go_at_call_of 53 (Value.int IntKind.i64 1); refine (ihas_114_1 _).mono ?_; rintro e wz ⟨rfl, hw⟩; replace hw := hw.symm; subst hw)
      | (go_at_call_of 53 (Value.int IntKind.i64 2); refine (ihas_114_2 _).mono ?_; rintro e wz ⟨rfl, hw⟩; replace hw := hw.symm; subst hw)
      | (go_at_call_of 53 (Value.int IntKind.i64 4); refine (ihas_114_4 _).mono ?_; rintro e wz ⟨rfl, hw⟩; replace hw := hw.symm; subst hw)
      | (go_at_call_of 53 (Value.int IntKind.i64 8); refine (ihas_114_8 _).mono ?_; rintro e wz ⟨rfl, hw⟩; replace hw := hw.symm; subst hw)
      | (go_at_call_of 53 (Value.int IntKind.i64 16); refine (ihas_114_16 _).mono ?_; rintro e wz ⟨rfl, hw⟩; replace hw := hw.symm; subst hw)
      | (go_at_call_of 53 (Value.int IntKind.i64 32); refine (ihas_114_32 _).mono ?_; rintro e wz ⟨rfl, hw⟩; replace hw := hw.symm; subst hw)
      | (go_at_call_of 53 (Value.int IntKind.i64 64); refine (ihas_114_64 _).mono ?_; rintro e wz ⟨rfl, hw⟩; replace hw := hw.symm; subst hw)
      | (go_at_call_of 53 (Value.int IntKind.i64 128); refine (ihas_114_128 _).mono ?_; rintro e wz ⟨rfl, hw⟩; replace hw := hw.symm; subst hw)
      | (go_at_call_of 53 (Value.int IntKind.i64 256); refine (ihas_114_256 _).mono ?_; rintro e wz ⟨rfl, hw⟩; replace hw := hw.symm; subst hw)
      | (go_at_call 55; refine (bits_any _ _).mono ?_; rintro e wz ⟨rfl, hw⟩; replace hw := hw.symm; subst hw)
      | (go_at_call 54; refine (HN.out _).mono ?_; rintro e w1 ⟨rfl, hb⟩; have H1 := hid (And.intro (H0.out.1.keep hb) (H0.out.2.trans (hb.mono H0.out.2.size))); clear hb y0 y1 y2 y3 y4 y5 y6 y7 y8 y9 y10 y11 y12 y13 y14 y15 y16; have y0 := H1.out.1.cell 0 _ rfl; have y1 := H1.out.1.cell 1 _ rfl; have y2 := H1.out.1.cell 2 _ rfl; have y3 := H1.out.1.cell 3 _ rfl; have y4 := H1.out.1.cell 4 _ rfl; have y5 := H1.out.1.cell 5 _ rfl; have y6 := H1.out.1.cell 6 _ rfl; have y7 := H1.out.1.cell 7 _ rfl; have y8 := H1.out.1.cell 8 _ rfl; have y9 := H1.out.1.cell 9 _ rfl; have y10 := H1.out.1.cell 10 _ rfl; have y11 := H1.out.1.cell 11 _ rfl; have y12 := H1.out.1.cell 12 _ rfl; have y13 := H1.out.1.cell 13 _ rfl; have y14 := H1.out.1.cell 14 _ rfl; have y15 := H1.out.1.cell 15 _ rfl; have y16 := H1.out.1.cell 16 _ rfl))
    go_ret
    exact ⟨by rw [hv.out]; rfl, H0.out.2⟩
  | true =>
    have f0 := of_decide_eq_true e0
    have b0 : (m.v == 0) = true := by rw [beq_iff_eq]; omega
    clear f0
    cases e1 : nullB m.rq with
    | false =>
      rw [e1] at HN
      have hv : Hid (V = false) := hid (by rw [HV.out, onlyB]; simp only [*]; rfl)
      go_enter Try.func27, Try.ntmps27
      simp only [List.append]
      go_wp2_with (first
        | (go_at_call_of 53 (Value.int IntKind.i64 1); refine (ihas_114_1 _).mono ?_; rintro e wz ⟨rfl, hw⟩; replace hw := hw.symm; subst hw)
        | (go_at_call_of 53 (Value.int IntKind.i64 2); refine (ihas_114_2 _).mono ?_; rintro e wz ⟨rfl, hw⟩; replace hw := hw.symm; subst hw)
        | (go_at_call_of 53 (Value.int IntKind.i64 4); refine (ihas_114_4 _).mono ?_; rintro e wz ⟨rfl, hw⟩; replace hw := hw.symm; subst hw)
        | (go_at_call_of 53 (Value.int IntKind.i64 8); refine (ihas_114_8 _).mono ?_; rintro e wz ⟨rfl, hw⟩; replace hw := hw.symm; subst hw)
        | (go_at_call_of 53 (Value.int IntKind.i64 16); refine (ihas_114_16 _).mono ?_; rintro e wz ⟨rfl, hw⟩; replace hw := hw.symm; subst hw)
        | (go_at_call_of 53 (Value.int IntKind.i64 32); refine (ihas_114_32 _).mono ?_; rintro e wz ⟨rfl, hw⟩; replace hw := hw.symm; subst hw)
        | (go_at_call_of 53 (Value.int IntKind.i64 64); refine (ihas_114_64 _).mono ?_; rintro e wz ⟨rfl, hw⟩; replace hw := hw.symm; subst hw)
        | (go_at_call_of 53 (Value.int IntKind.i64 128); refine (ihas_114_128 _).mono ?_; rintro e wz ⟨rfl, hw⟩; replace hw := hw.symm; subst hw)
        | (go_at_call_of 53 (Value.int IntKind.i64 256); refine (ihas_114_256 _).mono ?_; rintro e wz ⟨rfl, hw⟩; replace hw := hw.symm; subst hw)
        | (go_at_call 55; refine (bits_any _ _).mono ?_; rintro e wz ⟨rfl, hw⟩; replace hw := hw.symm; subst hw)
        | (go_at_call 54; refine (HN.out _).mono ?_; rintro e w1 ⟨rfl, hb⟩; have H1 := hid (And.intro (H0.out.1.keep hb) (H0.out.2.trans (hb.mono H0.out.2.size))); clear hb y0 y1 y2 y3 y4 y5 y6 y7 y8 y9 y10 y11 y12 y13 y14 y15 y16; have y0 := H1.out.1.cell 0 _ rfl; have y1 := H1.out.1.cell 1 _ rfl; have y2 := H1.out.1.cell 2 _ rfl; have y3 := H1.out.1.cell 3 _ rfl; have y4 := H1.out.1.cell 4 _ rfl; have y5 := H1.out.1.cell 5 _ rfl; have y6 := H1.out.1.cell 6 _ rfl; have y7 := H1.out.1.cell 7 _ rfl; have y8 := H1.out.1.cell 8 _ rfl; have y9 := H1.out.1.cell 9 _ rfl; have y10 := H1.out.1.cell 10 _ rfl; have y11 := H1.out.1.cell 11 _ rfl; have y12 := H1.out.1.cell 12 _ rfl; have y13 := H1.out.1.cell 13 _ rfl; have y14 := H1.out.1.cell 14 _ rfl; have y15 := H1.out.1.cell 15 _ rfl; have y16 := H1.out.1.cell 16 _ rfl))
      go_ret
      exact ⟨by rw [hv.out]; rfl, H1.out.2⟩
    | true =>
      rw [e1] at HN
      cases e2 : decide (m.rs.1 = 0) with
      | false =>
        have f2 := of_decide_eq_false e2
        have b2 : (m.rs.1 == 0) = false := by rw [beq_eq_false_iff_ne]; omega
        clear f2
        have hv : Hid (V = false) := hid (by rw [HV.out, onlyB]; simp only [*]; rfl)
        go_enter Try.func27, Try.ntmps27
        simp only [List.append]
        go_wp2_with (first
          | (go_at_call_of 53 (Value.int IntKind.i64 1); refine (ihas_114_1 _).mono ?_; rintro e wz ⟨rfl, hw⟩; replace hw := hw.symm; subst hw)
          | (go_at_call_of 53 (Value.int IntKind.i64 2); refine (ihas_114_2 _).mono ?_; rintro e wz ⟨rfl, hw⟩; replace hw := hw.symm; subst hw)
          | (go_at_call_of 53 (Value.int IntKind.i64 4); refine (ihas_114_4 _).mono ?_; rintro e wz ⟨rfl, hw⟩; replace hw := hw.symm; subst hw)
          | (go_at_call_of 53 (Value.int IntKind.i64 8); refine (ihas_114_8 _).mono ?_; rintro e wz ⟨rfl, hw⟩; replace hw := hw.symm; subst hw)
          | (go_at_call_of 53 (Value.int IntKind.i64 16); refine (ihas_114_16 _).mono ?_; rintro e wz ⟨rfl, hw⟩; replace hw := hw.symm; subst hw)
          | (go_at_call_of 53 (Value.int IntKind.i64 32); refine (ihas_114_32 _).mono ?_; rintro e wz ⟨rfl, hw⟩; replace hw := hw.symm; subst hw)
          | (go_at_call_of 53 (Value.int IntKind.i64 64); refine (ihas_114_64 _).mono ?_; rintro e wz ⟨rfl, hw⟩; replace hw := hw.symm; subst hw)
          | (go_at_call_of 53 (Value.int IntKind.i64 128); refine (ihas_114_128 _).mono ?_; rintro e wz ⟨rfl, hw⟩; replace hw := hw.symm; subst hw)
          | (go_at_call_of 53 (Value.int IntKind.i64 256); refine (ihas_114_256 _).mono ?_; rintro e wz ⟨rfl, hw⟩; replace hw := hw.symm; subst hw)
          | (go_at_call 55; refine (bits_any _ _).mono ?_; rintro e wz ⟨rfl, hw⟩; replace hw := hw.symm; subst hw)
          | (go_at_call 54; refine (HN.out _).mono ?_; rintro e w1 ⟨rfl, hb⟩; have H1 := hid (And.intro (H0.out.1.keep hb) (H0.out.2.trans (hb.mono H0.out.2.size))); clear hb y0 y1 y2 y3 y4 y5 y6 y7 y8 y9 y10 y11 y12 y13 y14 y15 y16; have y0 := H1.out.1.cell 0 _ rfl; have y1 := H1.out.1.cell 1 _ rfl; have y2 := H1.out.1.cell 2 _ rfl; have y3 := H1.out.1.cell 3 _ rfl; have y4 := H1.out.1.cell 4 _ rfl; have y5 := H1.out.1.cell 5 _ rfl; have y6 := H1.out.1.cell 6 _ rfl; have y7 := H1.out.1.cell 7 _ rfl; have y8 := H1.out.1.cell 8 _ rfl; have y9 := H1.out.1.cell 9 _ rfl; have y10 := H1.out.1.cell 10 _ rfl; have y11 := H1.out.1.cell 11 _ rfl; have y12 := H1.out.1.cell 12 _ rfl; have y13 := H1.out.1.cell 13 _ rfl; have y14 := H1.out.1.cell 14 _ rfl; have y15 := H1.out.1.cell 15 _ rfl; have y16 := H1.out.1.cell 16 _ rfl))
        go_ret
        exact ⟨by rw [hv.out]; rfl, H1.out.2⟩
      | true =>
        have f2 := of_decide_eq_true e2
        have b2 : (m.rs.1 == 0) = true := by rw [beq_iff_eq]; omega
        clear f2
        cases e3 : decide (canW m.rs.2 = 0) with
        | false =>
          have f3 := of_decide_eq_false e3
          have b3 : (((canW m.rs.2 : Nat) : Int) == 0) = false := by rw [beq_eq_false_iff_ne]; omega
          clear f3
          have hv : Hid (V = false) := hid (by rw [HV.out, onlyB]; simp only [*]; rfl)
          go_enter Try.func27, Try.ntmps27
          simp only [List.append]
          go_wp2_with (first
            | (go_at_call_of 53 (Value.int IntKind.i64 1); refine (ihas_114_1 _).mono ?_; rintro e wz ⟨rfl, hw⟩; replace hw := hw.symm; subst hw)
            | (go_at_call_of 53 (Value.int IntKind.i64 2); refine (ihas_114_2 _).mono ?_; rintro e wz ⟨rfl, hw⟩; replace hw := hw.symm; subst hw)
            | (go_at_call_of 53 (Value.int IntKind.i64 4); refine (ihas_114_4 _).mono ?_; rintro e wz ⟨rfl, hw⟩; replace hw := hw.symm; subst hw)
            | (go_at_call_of 53 (Value.int IntKind.i64 8); refine (ihas_114_8 _).mono ?_; rintro e wz ⟨rfl, hw⟩; replace hw := hw.symm; subst hw)
            | (go_at_call_of 53 (Value.int IntKind.i64 16); refine (ihas_114_16 _).mono ?_; rintro e wz ⟨rfl, hw⟩; replace hw := hw.symm; subst hw)
            | (go_at_call_of 53 (Value.int IntKind.i64 32); refine (ihas_114_32 _).mono ?_; rintro e wz ⟨rfl, hw⟩; replace hw := hw.symm; subst hw)
            | (go_at_call_of 53 (Value.int IntKind.i64 64); refine (ihas_114_64 _).mono ?_; rintro e wz ⟨rfl, hw⟩; replace hw := hw.symm; subst hw)
            | (go_at_call_of 53 (Value.int IntKind.i64 128); refine (ihas_114_128 _).mono ?_; rintro e wz ⟨rfl, hw⟩; replace hw := hw.symm; subst hw)
            | (go_at_call_of 53 (Value.int IntKind.i64 256); refine (ihas_114_256 _).mono ?_; rintro e wz ⟨rfl, hw⟩; replace hw := hw.symm; subst hw)
            | (go_at_call 55; refine (bits_any _ _).mono ?_; rintro e wz ⟨rfl, hw⟩; replace hw := hw.symm; subst hw)
            | (go_at_call 54; refine (HN.out _).mono ?_; rintro e w1 ⟨rfl, hb⟩; have H1 := hid (And.intro (H0.out.1.keep hb) (H0.out.2.trans (hb.mono H0.out.2.size))); clear hb y0 y1 y2 y3 y4 y5 y6 y7 y8 y9 y10 y11 y12 y13 y14 y15 y16; have y0 := H1.out.1.cell 0 _ rfl; have y1 := H1.out.1.cell 1 _ rfl; have y2 := H1.out.1.cell 2 _ rfl; have y3 := H1.out.1.cell 3 _ rfl; have y4 := H1.out.1.cell 4 _ rfl; have y5 := H1.out.1.cell 5 _ rfl; have y6 := H1.out.1.cell 6 _ rfl; have y7 := H1.out.1.cell 7 _ rfl; have y8 := H1.out.1.cell 8 _ rfl; have y9 := H1.out.1.cell 9 _ rfl; have y10 := H1.out.1.cell 10 _ rfl; have y11 := H1.out.1.cell 11 _ rfl; have y12 := H1.out.1.cell 12 _ rfl; have y13 := H1.out.1.cell 13 _ rfl; have y14 := H1.out.1.cell 14 _ rfl; have y15 := H1.out.1.cell 15 _ rfl; have y16 := H1.out.1.cell 16 _ rfl))
          go_ret
          exact ⟨by rw [hv.out]; rfl, H1.out.2⟩
        | true =>
          have f3 := of_decide_eq_true e3
          have b3 : (((canW m.rs.2 : Nat) : Int) == 0) = true := by rw [beq_iff_eq]; omega
          clear f3
          cases e4 : decide (m.cg.length = 0) with
          | false =>
            have f4 := of_decide_eq_false e4
            have b4 : ((m.cg.length : Int) == 0) = false := by rw [beq_eq_false_iff_ne]; omega
            clear f4
            have hv : Hid (V = false) := hid (by rw [HV.out, onlyB]; simp only [*]; rfl)
            go_enter Try.func27, Try.ntmps27
            simp only [List.append]
            go_wp2_with (first
              | (go_at_call_of 53 (Value.int IntKind.i64 1); refine (ihas_114_1 _).mono ?_; rintro e wz ⟨rfl, hw⟩; replace hw := hw.symm; subst hw)
              | (go_at_call_of 53 (Value.int IntKind.i64 2); refine (ihas_114_2 _).mono ?_; rintro e wz ⟨rfl, hw⟩; replace hw := hw.symm; subst hw)
              | (go_at_call_of 53 (Value.int IntKind.i64 4); refine (ihas_114_4 _).mono ?_; rintro e wz ⟨rfl, hw⟩; replace hw := hw.symm; subst hw)
              | (go_at_call_of 53 (Value.int IntKind.i64 8); refine (ihas_114_8 _).mono ?_; rintro e wz ⟨rfl, hw⟩; replace hw := hw.symm; subst hw)
              | (go_at_call_of 53 (Value.int IntKind.i64 16); refine (ihas_114_16 _).mono ?_; rintro e wz ⟨rfl, hw⟩; replace hw := hw.symm; subst hw)
              | (go_at_call_of 53 (Value.int IntKind.i64 32); refine (ihas_114_32 _).mono ?_; rintro e wz ⟨rfl, hw⟩; replace hw := hw.symm; subst hw)
              | (go_at_call_of 53 (Value.int IntKind.i64 64); refine (ihas_114_64 _).mono ?_; rintro e wz ⟨rfl, hw⟩; replace hw := hw.symm; subst hw)
              | (go_at_call_of 53 (Value.int IntKind.i64 128); refine (ihas_114_128 _).mono ?_; rintro e wz ⟨rfl, hw⟩; replace hw := hw.symm; subst hw)
              | (go_at_call_of 53 (Value.int IntKind.i64 256); refine (ihas_114_256 _).mono ?_; rintro e wz ⟨rfl, hw⟩; replace hw := hw.symm; subst hw)
              | (go_at_call 55; refine (bits_any _ _).mono ?_; rintro e wz ⟨rfl, hw⟩; replace hw := hw.symm; subst hw)
              | (go_at_call 54; refine (HN.out _).mono ?_; rintro e w1 ⟨rfl, hb⟩; have H1 := hid (And.intro (H0.out.1.keep hb) (H0.out.2.trans (hb.mono H0.out.2.size))); clear hb y0 y1 y2 y3 y4 y5 y6 y7 y8 y9 y10 y11 y12 y13 y14 y15 y16; have y0 := H1.out.1.cell 0 _ rfl; have y1 := H1.out.1.cell 1 _ rfl; have y2 := H1.out.1.cell 2 _ rfl; have y3 := H1.out.1.cell 3 _ rfl; have y4 := H1.out.1.cell 4 _ rfl; have y5 := H1.out.1.cell 5 _ rfl; have y6 := H1.out.1.cell 6 _ rfl; have y7 := H1.out.1.cell 7 _ rfl; have y8 := H1.out.1.cell 8 _ rfl; have y9 := H1.out.1.cell 9 _ rfl; have y10 := H1.out.1.cell 10 _ rfl; have y11 := H1.out.1.cell 11 _ rfl; have y12 := H1.out.1.cell 12 _ rfl; have y13 := H1.out.1.cell 13 _ rfl; have y14 := H1.out.1.cell 14 _ rfl; have y15 := H1.out.1.cell 15 _ rfl; have y16 := H1.out.1.cell 16 _ rfl))
            go_ret
            exact ⟨by rw [hv.out]; rfl, H1.out.2⟩
          | true =>
            have f4 := of_decide_eq_true e4
            have b4 : ((m.cg.length : Int) == 0) = true := by rw [beq_iff_eq]; omega
            clear f4
            cases e5 : decide (m.ln.length = 0) with
            | false =>
              have f5 := of_decide_eq_false e5
              have b5 : ((m.ln.length : Int) == 0) = false := by rw [beq_eq_false_iff_ne]; omega
              clear f5
              have hv : Hid (V = false) := hid (by rw [HV.out, onlyB]; simp only [*]; rfl)
              go_enter Try.func27, Try.ntmps27
              simp only [List.append]
              go_wp2_with (first
                | (go_at_call_of 53 (Value.int IntKind.i64 1); refine (ihas_114_1 _).mono ?_; rintro e wz ⟨rfl, hw⟩; replace hw := hw.symm; subst hw)
                | (go_at_call_of 53 (Value.int IntKind.i64 2); refine (ihas_114_2 _).mono ?_; rintro e wz ⟨rfl, hw⟩; replace hw := hw.symm; subst hw)
                | (go_at_call_of 53 (Value.int IntKind.i64 4); refine (ihas_114_4 _).mono ?_; rintro e wz ⟨rfl, hw⟩; replace hw := hw.symm; subst hw)
                | (go_at_call_of 53 (Value.int IntKind.i64 8); refine (ihas_114_8 _).mono ?_; rintro e wz ⟨rfl, hw⟩; replace hw := hw.symm; subst hw)
                | (go_at_call_of 53 (Value.int IntKind.i64 16); refine (ihas_114_16 _).mono ?_; rintro e wz ⟨rfl, hw⟩; replace hw := hw.symm; subst hw)
                | (go_at_call_of 53 (Value.int IntKind.i64 32); refine (ihas_114_32 _).mono ?_; rintro e wz ⟨rfl, hw⟩; replace hw := hw.symm; subst hw)
                | (go_at_call_of 53 (Value.int IntKind.i64 64); refine (ihas_114_64 _).mono ?_; rintro e wz ⟨rfl, hw⟩; replace hw := hw.symm; subst hw)
                | (go_at_call_of 53 (Value.int IntKind.i64 128); refine (ihas_114_128 _).mono ?_; rintro e wz ⟨rfl, hw⟩; replace hw := hw.symm; subst hw)
                | (go_at_call_of 53 (Value.int IntKind.i64 256); refine (ihas_114_256 _).mono ?_; rintro e wz ⟨rfl, hw⟩; replace hw := hw.symm; subst hw)
                | (go_at_call 55; refine (bits_any _ _).mono ?_; rintro e wz ⟨rfl, hw⟩; replace hw := hw.symm; subst hw)
                | (go_at_call 54; refine (HN.out _).mono ?_; rintro e w1 ⟨rfl, hb⟩; have H1 := hid (And.intro (H0.out.1.keep hb) (H0.out.2.trans (hb.mono H0.out.2.size))); clear hb y0 y1 y2 y3 y4 y5 y6 y7 y8 y9 y10 y11 y12 y13 y14 y15 y16; have y0 := H1.out.1.cell 0 _ rfl; have y1 := H1.out.1.cell 1 _ rfl; have y2 := H1.out.1.cell 2 _ rfl; have y3 := H1.out.1.cell 3 _ rfl; have y4 := H1.out.1.cell 4 _ rfl; have y5 := H1.out.1.cell 5 _ rfl; have y6 := H1.out.1.cell 6 _ rfl; have y7 := H1.out.1.cell 7 _ rfl; have y8 := H1.out.1.cell 8 _ rfl; have y9 := H1.out.1.cell 9 _ rfl; have y10 := H1.out.1.cell 10 _ rfl; have y11 := H1.out.1.cell 11 _ rfl; have y12 := H1.out.1.cell 12 _ rfl; have y13 := H1.out.1.cell 13 _ rfl; have y14 := H1.out.1.cell 14 _ rfl; have y15 := H1.out.1.cell 15 _ rfl; have y16 := H1.out.1.cell 16 _ rfl))
              go_ret
              exact ⟨by rw [hv.out]; rfl, H1.out.2⟩
            | true =>
              have f5 := of_decide_eq_true e5
              have b5 : ((m.ln.length : Int) == 0) = true := by rw [beq_iff_eq]; omega
              clear f5
              have hv : Hid (V = true) := hid (by rw [HV.out, onlyB]; simp only [*]; rfl)
              go_enter Try.func27, Try.ntmps27
              simp only [List.append]
              go_wp2_with (first
                | (go_at_call_of 53 (Value.int IntKind.i64 1); refine (ihas_114_1 _).mono ?_; rintro e wz ⟨rfl, hw⟩; replace hw := hw.symm; subst hw)
                | (go_at_call_of 53 (Value.int IntKind.i64 2); refine (ihas_114_2 _).mono ?_; rintro e wz ⟨rfl, hw⟩; replace hw := hw.symm; subst hw)
                | (go_at_call_of 53 (Value.int IntKind.i64 4); refine (ihas_114_4 _).mono ?_; rintro e wz ⟨rfl, hw⟩; replace hw := hw.symm; subst hw)
                | (go_at_call_of 53 (Value.int IntKind.i64 8); refine (ihas_114_8 _).mono ?_; rintro e wz ⟨rfl, hw⟩; replace hw := hw.symm; subst hw)
                | (go_at_call_of 53 (Value.int IntKind.i64 16); refine (ihas_114_16 _).mono ?_; rintro e wz ⟨rfl, hw⟩; replace hw := hw.symm; subst hw)
                | (go_at_call_of 53 (Value.int IntKind.i64 32); refine (ihas_114_32 _).mono ?_; rintro e wz ⟨rfl, hw⟩; replace hw := hw.symm; subst hw)
                | (go_at_call_of 53 (Value.int IntKind.i64 64); refine (ihas_114_64 _).mono ?_; rintro e wz ⟨rfl, hw⟩; replace hw := hw.symm; subst hw)
                | (go_at_call_of 53 (Value.int IntKind.i64 128); refine (ihas_114_128 _).mono ?_; rintro e wz ⟨rfl, hw⟩; replace hw := hw.symm; subst hw)
                | (go_at_call_of 53 (Value.int IntKind.i64 256); refine (ihas_114_256 _).mono ?_; rintro e wz ⟨rfl, hw⟩; replace hw := hw.symm; subst hw)
                | (go_at_call 55; refine (bits_any _ _).mono ?_; rintro e wz ⟨rfl, hw⟩; replace hw := hw.symm; subst hw)
                | (go_at_call 54; refine (HN.out _).mono ?_; rintro e w1 ⟨rfl, hb⟩; have H1 := hid (And.intro (H0.out.1.keep hb) (H0.out.2.trans (hb.mono H0.out.2.size))); clear hb y0 y1 y2 y3 y4 y5 y6 y7 y8 y9 y10 y11 y12 y13 y14 y15 y16; have y0 := H1.out.1.cell 0 _ rfl; have y1 := H1.out.1.cell 1 _ rfl; have y2 := H1.out.1.cell 2 _ rfl; have y3 := H1.out.1.cell 3 _ rfl; have y4 := H1.out.1.cell 4 _ rfl; have y5 := H1.out.1.cell 5 _ rfl; have y6 := H1.out.1.cell 6 _ rfl; have y7 := H1.out.1.cell 7 _ rfl; have y8 := H1.out.1.cell 8 _ rfl; have y9 := H1.out.1.cell 9 _ rfl; have y10 := H1.out.1.cell 10 _ rfl; have y11 := H1.out.1.cell 11 _ rfl; have y12 := H1.out.1.cell 12 _ rfl; have y13 := H1.out.1.cell 13 _ rfl; have y14 := H1.out.1.cell 14 _ rfl; have y15 := H1.out.1.cell 15 _ rfl; have y16 := H1.out.1.cell 16 _ rfl))
              go_ret
              exact ⟨by rw [hv.out]; rfl, H1.out.2⟩
set_option maxRecDepth 100000 in
set_option maxHeartbeats 6400000 in
theorem ionly_129 (m : Ms) (a13 a14 a15 a16 : Option Addr) (c13 c14 c15 c16 : Nat) (w : World) :
    Calls Try.prog 27 #[.agg #[.int .i64 m.k, .int .i64 m.ep, .int .i64 m.v, .int .i64 m.sl, .int .i64 m.rq.c, .int .i64 m.rq.st, .int .i64 m.rq.k, .string m.rq.key, .float .f64 m.rq.b, .int .i64 m.rq.id, .int .i64 m.rs.1, .float .f64 m.rs.2, .string m.tx, .slice a13 m.nx.length c13, .slice a14 m.sg.length c14, .slice a15 m.cg.length c15, .slice a16 m.ln.length c16], .int .i64 129] w fun e w' => e = .returned (.bool (onlyB m { v := true, c := true })) ∧ Below w.heap.size w w' := by
  have H0 : Hid (BxAt (w.alloc (.cells #[.int .i64 m.k, .int .i64 m.ep, .int .i64 m.v, .int .i64 m.sl, .int .i64 m.rq.c, .int .i64 m.rq.st, .int .i64 m.rq.k, .string m.rq.key, .float .f64 m.rq.b, .int .i64 m.rq.id, .int .i64 m.rs.1, .float .f64 m.rs.2, .string m.tx, .slice a13 m.nx.length c13, .slice a14 m.sg.length c14, .slice a15 m.cg.length c15, .slice a16 m.ln.length c16] 34)) w.heap.size [.int .i64 m.k, .int .i64 m.ep, .int .i64 m.v, .int .i64 m.sl, .int .i64 m.rq.c, .int .i64 m.rq.st, .int .i64 m.rq.k, .string m.rq.key, .float .f64 m.rq.b, .int .i64 m.rq.id, .int .i64 m.rs.1, .float .f64 m.rs.2, .string m.tx, .slice a13 m.nx.length c13, .slice a14 m.sg.length c14, .slice a15 m.cg.length c15, .slice a16 m.ln.length c16] 34 ∧ Below w.heap.size w (w.alloc (.cells #[.int .i64 m.k, .int .i64 m.ep, .int .i64 m.v, .int .i64 m.sl, .int .i64 m.rq.c, .int .i64 m.rq.st, .int .i64 m.rq.k, .string m.rq.key, .float .f64 m.rq.b, .int .i64 m.rq.id, .int .i64 m.rs.1, .float .f64 m.rs.2, .string m.tx, .slice a13 m.nx.length c13, .slice a14 m.sg.length c14, .slice a15 m.cg.length c15, .slice a16 m.ln.length c16] 34))) := hid ⟨heap_alloc_last w _, (Below.refl w.heap.size w).alloc (Nat.le_refl _) _⟩
  have y0 := H0.out.1.cell 0 _ rfl; have y1 := H0.out.1.cell 1 _ rfl; have y2 := H0.out.1.cell 2 _ rfl; have y3 := H0.out.1.cell 3 _ rfl; have y4 := H0.out.1.cell 4 _ rfl; have y5 := H0.out.1.cell 5 _ rfl; have y6 := H0.out.1.cell 6 _ rfl; have y7 := H0.out.1.cell 7 _ rfl; have y8 := H0.out.1.cell 8 _ rfl; have y9 := H0.out.1.cell 9 _ rfl; have y10 := H0.out.1.cell 10 _ rfl; have y11 := H0.out.1.cell 11 _ rfl; have y12 := H0.out.1.cell 12 _ rfl; have y13 := H0.out.1.cell 13 _ rfl; have y14 := H0.out.1.cell 14 _ rfl; have y15 := H0.out.1.cell 15 _ rfl; have y16 := H0.out.1.cell 16 _ rfl
  obtain ⟨V, eV⟩ : ∃ V, V = onlyB m { v := true, c := true } := ⟨_, rfl⟩
  rw [← eV]
  have HV : Hid (V = onlyB m { v := true, c := true }) := hid eV
  clear eV
  have HN : Hid (∀ u : World, Calls Try.prog 54 #[.agg #[.int .i64 m.rq.c, .int .i64 m.rq.st, .int .i64 m.rq.k, .string m.rq.key, .float .f64 m.rq.b, .int .i64 m.rq.id]] u fun e w' => e = .returned (.bool (nullB m.rq)) ∧ Below u.heap.size u w') := hid (fun u => dnull_any m.rq u)
  have ht := none_size m.tx
  cases e0 : decide (m.sl = 0) with
  | false =>
    have f0 := of_decide_eq_false e0
    have b0 : (m.sl == 0) = false := by rw [beq_eq_false_iff_ne]; omega
    clear f0
    have hv : Hid (V = false) := hid (by rw [HV.out, onlyB]; simp only [*]; rfl)
    go_enter Try.func27, Try.ntmps27
    simp only [List.append]
    go_wp2_with (first
      | (go_at_call_of 53 (Value.int IntKind.i64 1); refine (ihas_129_1 _).mono ?_; rintro e wz ⟨rfl, hw⟩; replace hw := hw.symm; subst hw)
      | (go_at_call_of 53 (Value.int IntKind.i64 2); refine (ihas_129_2 _).mono ?_; rintro e wz ⟨rfl, hw⟩; replace hw := hw.symm; subst hw)
      | (go_at_call_of 53 (Value.int IntKind.i64 4); refine (ihas_129_4 _).mono ?_; rintro e wz ⟨rfl, hw⟩; replace hw := hw.symm; subst hw)
      | (go_at_call_of 53 (Value.int IntKind.i64 8); refine (ihas_129_8 _).mono ?_; rintro e wz ⟨rfl, hw⟩; replace hw := hw.symm; subst hw)
      | (go_at_call_of 53 (Value.int IntKind.i64 16); refine (ihas_129_16 _).mono ?_; rintro e wz ⟨rfl, hw⟩; replace hw := hw.symm; subst hw)
      | (go_at_call_of 53 (Value.int IntKind.i64 32); refine (ihas_129_32 _).mono ?_; rintro e wz ⟨rfl, hw⟩; replace hw := hw.symm; subst hw)
      | (go_at_call_of 53 (Value.int IntKind.i64 64); refine (ihas_129_64 _).mono ?_; rintro e wz ⟨rfl, hw⟩; replace hw := hw.symm; subst hw)
      | (go_at_call_of 53 (Value.int IntKind.i64 128); refine (ihas_129_128 _).mono ?_; rintro e wz ⟨rfl, hw⟩; replace hw := hw.symm; subst hw)
      | (go_at_call_of 53 (Value.int IntKind.i64 256); refine (ihas_129_256 _).mono ?_; rintro e wz ⟨rfl, hw⟩; replace hw := hw.symm; subst hw)
      | (go_at_call 55; refine (bits_any _ _).mono ?_; rintro e wz ⟨rfl, hw⟩; replace hw := hw.symm; subst hw)
      | (go_at_call 54; refine (HN.out _).mono ?_; rintro e w1 ⟨rfl, hb⟩; have H1 := hid (And.intro (H0.out.1.keep hb) (H0.out.2.trans (hb.mono H0.out.2.size))); clear hb y0 y1 y2 y3 y4 y5 y6 y7 y8 y9 y10 y11 y12 y13 y14 y15 y16; have y0 := H1.out.1.cell 0 _ rfl; have y1 := H1.out.1.cell 1 _ rfl; have y2 := H1.out.1.cell 2 _ rfl; have y3 := H1.out.1.cell 3 _ rfl; have y4 := H1.out.1.cell 4 _ rfl; have y5 := H1.out.1.cell 5 _ rfl; have y6 := H1.out.1.cell 6 _ rfl; have y7 := H1.out.1.cell 7 _ rfl; have y8 := H1.out.1.cell 8 _ rfl; have y9 := H1.out.1.cell 9 _ rfl; have y10 := H1.out.1.cell 10 _ rfl; have y11 := H1.out.1.cell 11 _ rfl; have y12 := H1.out.1.cell 12 _ rfl; have y13 := H1.out.1.cell 13 _ rfl; have y14 := H1.out.1.cell 14 _ rfl; have y15 := H1.out.1.cell 15 _ rfl; have y16 := H1.out.1.cell 16 _ rfl))
    go_ret
    exact ⟨by rw [hv.out]; rfl, H0.out.2⟩
  | true =>
    have f0 := of_decide_eq_true e0
    have b0 : (m.sl == 0) = true := by rw [beq_iff_eq]; omega
    clear f0
    cases e1 : nullB m.rq with
    | false =>
      rw [e1] at HN
      have hv : Hid (V = false) := hid (by rw [HV.out, onlyB]; simp only [*]; rfl)
      go_enter Try.func27, Try.ntmps27
      simp only [List.append]
      go_wp2_with (first
        | (go_at_call_of 53 (Value.int IntKind.i64 1); refine (ihas_129_1 _).mono ?_; rintro e wz ⟨rfl, hw⟩; replace hw := hw.symm; subst hw)
        | (go_at_call_of 53 (Value.int IntKind.i64 2); refine (ihas_129_2 _).mono ?_; rintro e wz ⟨rfl, hw⟩; replace hw := hw.symm; subst hw)
        | (go_at_call_of 53 (Value.int IntKind.i64 4); refine (ihas_129_4 _).mono ?_; rintro e wz ⟨rfl, hw⟩; replace hw := hw.symm; subst hw)
        | (go_at_call_of 53 (Value.int IntKind.i64 8); refine (ihas_129_8 _).mono ?_; rintro e wz ⟨rfl, hw⟩; replace hw := hw.symm; subst hw)
        | (go_at_call_of 53 (Value.int IntKind.i64 16); refine (ihas_129_16 _).mono ?_; rintro e wz ⟨rfl, hw⟩; replace hw := hw.symm; subst hw)
        | (go_at_call_of 53 (Value.int IntKind.i64 32); refine (ihas_129_32 _).mono ?_; rintro e wz ⟨rfl, hw⟩; replace hw := hw.symm; subst hw)
        | (go_at_call_of 53 (Value.int IntKind.i64 64); refine (ihas_129_64 _).mono ?_; rintro e wz ⟨rfl, hw⟩; replace hw := hw.symm; subst hw)
        | (go_at_call_of 53 (Value.int IntKind.i64 128); refine (ihas_129_128 _).mono ?_; rintro e wz ⟨rfl, hw⟩; replace hw := hw.symm; subst hw)
        | (go_at_call_of 53 (Value.int IntKind.i64 256); refine (ihas_129_256 _).mono ?_; rintro e wz ⟨rfl, hw⟩; replace hw := hw.symm; subst hw)
        | (go_at_call 55; refine (bits_any _ _).mono ?_; rintro e wz ⟨rfl, hw⟩; replace hw := hw.symm; subst hw)
        | (go_at_call 54; refine (HN.out _).mono ?_; rintro e w1 ⟨rfl, hb⟩; have H1 := hid (And.intro (H0.out.1.keep hb) (H0.out.2.trans (hb.mono H0.out.2.size))); clear hb y0 y1 y2 y3 y4 y5 y6 y7 y8 y9 y10 y11 y12 y13 y14 y15 y16; have y0 := H1.out.1.cell 0 _ rfl; have y1 := H1.out.1.cell 1 _ rfl; have y2 := H1.out.1.cell 2 _ rfl; have y3 := H1.out.1.cell 3 _ rfl; have y4 := H1.out.1.cell 4 _ rfl; have y5 := H1.out.1.cell 5 _ rfl; have y6 := H1.out.1.cell 6 _ rfl; have y7 := H1.out.1.cell 7 _ rfl; have y8 := H1.out.1.cell 8 _ rfl; have y9 := H1.out.1.cell 9 _ rfl; have y10 := H1.out.1.cell 10 _ rfl; have y11 := H1.out.1.cell 11 _ rfl; have y12 := H1.out.1.cell 12 _ rfl; have y13 := H1.out.1.cell 13 _ rfl; have y14 := H1.out.1.cell 14 _ rfl; have y15 := H1.out.1.cell 15 _ rfl; have y16 := H1.out.1.cell 16 _ rfl))
      go_ret
      exact ⟨by rw [hv.out]; rfl, H1.out.2⟩
    | true =>
      rw [e1] at HN
      cases e2 : decide (m.rs.1 = 0) with
      | false =>
        have f2 := of_decide_eq_false e2
        have b2 : (m.rs.1 == 0) = false := by rw [beq_eq_false_iff_ne]; omega
        clear f2
        have hv : Hid (V = false) := hid (by rw [HV.out, onlyB]; simp only [*]; rfl)
        go_enter Try.func27, Try.ntmps27
        simp only [List.append]
        go_wp2_with (first
          | (go_at_call_of 53 (Value.int IntKind.i64 1); refine (ihas_129_1 _).mono ?_; rintro e wz ⟨rfl, hw⟩; replace hw := hw.symm; subst hw)
          | (go_at_call_of 53 (Value.int IntKind.i64 2); refine (ihas_129_2 _).mono ?_; rintro e wz ⟨rfl, hw⟩; replace hw := hw.symm; subst hw)
          | (go_at_call_of 53 (Value.int IntKind.i64 4); refine (ihas_129_4 _).mono ?_; rintro e wz ⟨rfl, hw⟩; replace hw := hw.symm; subst hw)
          | (go_at_call_of 53 (Value.int IntKind.i64 8); refine (ihas_129_8 _).mono ?_; rintro e wz ⟨rfl, hw⟩; replace hw := hw.symm; subst hw)
          | (go_at_call_of 53 (Value.int IntKind.i64 16); refine (ihas_129_16 _).mono ?_; rintro e wz ⟨rfl, hw⟩; replace hw := hw.symm; subst hw)
          | (go_at_call_of 53 (Value.int IntKind.i64 32); refine (ihas_129_32 _).mono ?_; rintro e wz ⟨rfl, hw⟩; replace hw := hw.symm; subst hw)
          | (go_at_call_of 53 (Value.int IntKind.i64 64); refine (ihas_129_64 _).mono ?_; rintro e wz ⟨rfl, hw⟩; replace hw := hw.symm; subst hw)
          | (go_at_call_of 53 (Value.int IntKind.i64 128); refine (ihas_129_128 _).mono ?_; rintro e wz ⟨rfl, hw⟩; replace hw := hw.symm; subst hw)
          | (go_at_call_of 53 (Value.int IntKind.i64 256); refine (ihas_129_256 _).mono ?_; rintro e wz ⟨rfl, hw⟩; replace hw := hw.symm; subst hw)
          | (go_at_call 55; refine (bits_any _ _).mono ?_; rintro e wz ⟨rfl, hw⟩; replace hw := hw.symm; subst hw)
          | (go_at_call 54; refine (HN.out _).mono ?_; rintro e w1 ⟨rfl, hb⟩; have H1 := hid (And.intro (H0.out.1.keep hb) (H0.out.2.trans (hb.mono H0.out.2.size))); clear hb y0 y1 y2 y3 y4 y5 y6 y7 y8 y9 y10 y11 y12 y13 y14 y15 y16; have y0 := H1.out.1.cell 0 _ rfl; have y1 := H1.out.1.cell 1 _ rfl; have y2 := H1.out.1.cell 2 _ rfl; have y3 := H1.out.1.cell 3 _ rfl; have y4 := H1.out.1.cell 4 _ rfl; have y5 := H1.out.1.cell 5 _ rfl; have y6 := H1.out.1.cell 6 _ rfl; have y7 := H1.out.1.cell 7 _ rfl; have y8 := H1.out.1.cell 8 _ rfl; have y9 := H1.out.1.cell 9 _ rfl; have y10 := H1.out.1.cell 10 _ rfl; have y11 := H1.out.1.cell 11 _ rfl; have y12 := H1.out.1.cell 12 _ rfl; have y13 := H1.out.1.cell 13 _ rfl; have y14 := H1.out.1.cell 14 _ rfl; have y15 := H1.out.1.cell 15 _ rfl; have y16 := H1.out.1.cell 16 _ rfl))
        go_ret
        exact ⟨by rw [hv.out]; rfl, H1.out.2⟩
      | true =>
        have f2 := of_decide_eq_true e2
        have b2 : (m.rs.1 == 0) = true := by rw [beq_iff_eq]; omega
        clear f2
        cases e3 : decide (canW m.rs.2 = 0) with
        | false =>
          have f3 := of_decide_eq_false e3
          have b3 : (((canW m.rs.2 : Nat) : Int) == 0) = false := by rw [beq_eq_false_iff_ne]; omega
          clear f3
          have hv : Hid (V = false) := hid (by rw [HV.out, onlyB]; simp only [*]; rfl)
          go_enter Try.func27, Try.ntmps27
          simp only [List.append]
          go_wp2_with (first
            | (go_at_call_of 53 (Value.int IntKind.i64 1); refine (ihas_129_1 _).mono ?_; rintro e wz ⟨rfl, hw⟩; replace hw := hw.symm; subst hw)
            | (go_at_call_of 53 (Value.int IntKind.i64 2); refine (ihas_129_2 _).mono ?_; rintro e wz ⟨rfl, hw⟩; replace hw := hw.symm; subst hw)
            | (go_at_call_of 53 (Value.int IntKind.i64 4); refine (ihas_129_4 _).mono ?_; rintro e wz ⟨rfl, hw⟩; replace hw := hw.symm; subst hw)
            | (go_at_call_of 53 (Value.int IntKind.i64 8); refine (ihas_129_8 _).mono ?_; rintro e wz ⟨rfl, hw⟩; replace hw := hw.symm; subst hw)
            | (go_at_call_of 53 (Value.int IntKind.i64 16); refine (ihas_129_16 _).mono ?_; rintro e wz ⟨rfl, hw⟩; replace hw := hw.symm; subst hw)
            | (go_at_call_of 53 (Value.int IntKind.i64 32); refine (ihas_129_32 _).mono ?_; rintro e wz ⟨rfl, hw⟩; replace hw := hw.symm; subst hw)
            | (go_at_call_of 53 (Value.int IntKind.i64 64); refine (ihas_129_64 _).mono ?_; rintro e wz ⟨rfl, hw⟩; replace hw := hw.symm; subst hw)
            | (go_at_call_of 53 (Value.int IntKind.i64 128); refine (ihas_129_128 _).mono ?_; rintro e wz ⟨rfl, hw⟩; replace hw := hw.symm; subst hw)
            | (go_at_call_of 53 (Value.int IntKind.i64 256); refine (ihas_129_256 _).mono ?_; rintro e wz ⟨rfl, hw⟩; replace hw := hw.symm; subst hw)
            | (go_at_call 55; refine (bits_any _ _).mono ?_; rintro e wz ⟨rfl, hw⟩; replace hw := hw.symm; subst hw)
            | (go_at_call 54; refine (HN.out _).mono ?_; rintro e w1 ⟨rfl, hb⟩; have H1 := hid (And.intro (H0.out.1.keep hb) (H0.out.2.trans (hb.mono H0.out.2.size))); clear hb y0 y1 y2 y3 y4 y5 y6 y7 y8 y9 y10 y11 y12 y13 y14 y15 y16; have y0 := H1.out.1.cell 0 _ rfl; have y1 := H1.out.1.cell 1 _ rfl; have y2 := H1.out.1.cell 2 _ rfl; have y3 := H1.out.1.cell 3 _ rfl; have y4 := H1.out.1.cell 4 _ rfl; have y5 := H1.out.1.cell 5 _ rfl; have y6 := H1.out.1.cell 6 _ rfl; have y7 := H1.out.1.cell 7 _ rfl; have y8 := H1.out.1.cell 8 _ rfl; have y9 := H1.out.1.cell 9 _ rfl; have y10 := H1.out.1.cell 10 _ rfl; have y11 := H1.out.1.cell 11 _ rfl; have y12 := H1.out.1.cell 12 _ rfl; have y13 := H1.out.1.cell 13 _ rfl; have y14 := H1.out.1.cell 14 _ rfl; have y15 := H1.out.1.cell 15 _ rfl; have y16 := H1.out.1.cell 16 _ rfl))
          go_ret
          exact ⟨by rw [hv.out]; rfl, H1.out.2⟩
        | true =>
          have f3 := of_decide_eq_true e3
          have b3 : (((canW m.rs.2 : Nat) : Int) == 0) = true := by rw [beq_iff_eq]; omega
          clear f3
          cases e4 : decide (m.tx.size = 0) with
          | false =>
            rw [e4] at ht
            have hv : Hid (V = false) := hid (by rw [HV.out, onlyB]; simp only [*]; rfl)
            go_enter Try.func27, Try.ntmps27
            simp only [List.append]
            go_wp2_with (first
              | (go_at_call_of 53 (Value.int IntKind.i64 1); refine (ihas_129_1 _).mono ?_; rintro e wz ⟨rfl, hw⟩; replace hw := hw.symm; subst hw)
              | (go_at_call_of 53 (Value.int IntKind.i64 2); refine (ihas_129_2 _).mono ?_; rintro e wz ⟨rfl, hw⟩; replace hw := hw.symm; subst hw)
              | (go_at_call_of 53 (Value.int IntKind.i64 4); refine (ihas_129_4 _).mono ?_; rintro e wz ⟨rfl, hw⟩; replace hw := hw.symm; subst hw)
              | (go_at_call_of 53 (Value.int IntKind.i64 8); refine (ihas_129_8 _).mono ?_; rintro e wz ⟨rfl, hw⟩; replace hw := hw.symm; subst hw)
              | (go_at_call_of 53 (Value.int IntKind.i64 16); refine (ihas_129_16 _).mono ?_; rintro e wz ⟨rfl, hw⟩; replace hw := hw.symm; subst hw)
              | (go_at_call_of 53 (Value.int IntKind.i64 32); refine (ihas_129_32 _).mono ?_; rintro e wz ⟨rfl, hw⟩; replace hw := hw.symm; subst hw)
              | (go_at_call_of 53 (Value.int IntKind.i64 64); refine (ihas_129_64 _).mono ?_; rintro e wz ⟨rfl, hw⟩; replace hw := hw.symm; subst hw)
              | (go_at_call_of 53 (Value.int IntKind.i64 128); refine (ihas_129_128 _).mono ?_; rintro e wz ⟨rfl, hw⟩; replace hw := hw.symm; subst hw)
              | (go_at_call_of 53 (Value.int IntKind.i64 256); refine (ihas_129_256 _).mono ?_; rintro e wz ⟨rfl, hw⟩; replace hw := hw.symm; subst hw)
              | (go_at_call 55; refine (bits_any _ _).mono ?_; rintro e wz ⟨rfl, hw⟩; replace hw := hw.symm; subst hw)
              | (go_at_call 54; refine (HN.out _).mono ?_; rintro e w1 ⟨rfl, hb⟩; have H1 := hid (And.intro (H0.out.1.keep hb) (H0.out.2.trans (hb.mono H0.out.2.size))); clear hb y0 y1 y2 y3 y4 y5 y6 y7 y8 y9 y10 y11 y12 y13 y14 y15 y16; have y0 := H1.out.1.cell 0 _ rfl; have y1 := H1.out.1.cell 1 _ rfl; have y2 := H1.out.1.cell 2 _ rfl; have y3 := H1.out.1.cell 3 _ rfl; have y4 := H1.out.1.cell 4 _ rfl; have y5 := H1.out.1.cell 5 _ rfl; have y6 := H1.out.1.cell 6 _ rfl; have y7 := H1.out.1.cell 7 _ rfl; have y8 := H1.out.1.cell 8 _ rfl; have y9 := H1.out.1.cell 9 _ rfl; have y10 := H1.out.1.cell 10 _ rfl; have y11 := H1.out.1.cell 11 _ rfl; have y12 := H1.out.1.cell 12 _ rfl; have y13 := H1.out.1.cell 13 _ rfl; have y14 := H1.out.1.cell 14 _ rfl; have y15 := H1.out.1.cell 15 _ rfl; have y16 := H1.out.1.cell 16 _ rfl))
            go_ret
            exact ⟨by rw [hv.out]; rfl, H1.out.2⟩
          | true =>
            rw [e4] at ht
            cases e5 : decide (m.nx.length = 0) with
            | false =>
              have f5 := of_decide_eq_false e5
              have b5 : ((m.nx.length : Int) == 0) = false := by rw [beq_eq_false_iff_ne]; omega
              clear f5
              have hv : Hid (V = false) := hid (by rw [HV.out, onlyB]; simp only [*]; rfl)
              go_enter Try.func27, Try.ntmps27
              simp only [List.append]
              go_wp2_with (first
                | (go_at_call_of 53 (Value.int IntKind.i64 1); refine (ihas_129_1 _).mono ?_; rintro e wz ⟨rfl, hw⟩; replace hw := hw.symm; subst hw)
                | (go_at_call_of 53 (Value.int IntKind.i64 2); refine (ihas_129_2 _).mono ?_; rintro e wz ⟨rfl, hw⟩; replace hw := hw.symm; subst hw)
                | (go_at_call_of 53 (Value.int IntKind.i64 4); refine (ihas_129_4 _).mono ?_; rintro e wz ⟨rfl, hw⟩; replace hw := hw.symm; subst hw)
                | (go_at_call_of 53 (Value.int IntKind.i64 8); refine (ihas_129_8 _).mono ?_; rintro e wz ⟨rfl, hw⟩; replace hw := hw.symm; subst hw)
                | (go_at_call_of 53 (Value.int IntKind.i64 16); refine (ihas_129_16 _).mono ?_; rintro e wz ⟨rfl, hw⟩; replace hw := hw.symm; subst hw)
                | (go_at_call_of 53 (Value.int IntKind.i64 32); refine (ihas_129_32 _).mono ?_; rintro e wz ⟨rfl, hw⟩; replace hw := hw.symm; subst hw)
                | (go_at_call_of 53 (Value.int IntKind.i64 64); refine (ihas_129_64 _).mono ?_; rintro e wz ⟨rfl, hw⟩; replace hw := hw.symm; subst hw)
                | (go_at_call_of 53 (Value.int IntKind.i64 128); refine (ihas_129_128 _).mono ?_; rintro e wz ⟨rfl, hw⟩; replace hw := hw.symm; subst hw)
                | (go_at_call_of 53 (Value.int IntKind.i64 256); refine (ihas_129_256 _).mono ?_; rintro e wz ⟨rfl, hw⟩; replace hw := hw.symm; subst hw)
                | (go_at_call 55; refine (bits_any _ _).mono ?_; rintro e wz ⟨rfl, hw⟩; replace hw := hw.symm; subst hw)
                | (go_at_call 54; refine (HN.out _).mono ?_; rintro e w1 ⟨rfl, hb⟩; have H1 := hid (And.intro (H0.out.1.keep hb) (H0.out.2.trans (hb.mono H0.out.2.size))); clear hb y0 y1 y2 y3 y4 y5 y6 y7 y8 y9 y10 y11 y12 y13 y14 y15 y16; have y0 := H1.out.1.cell 0 _ rfl; have y1 := H1.out.1.cell 1 _ rfl; have y2 := H1.out.1.cell 2 _ rfl; have y3 := H1.out.1.cell 3 _ rfl; have y4 := H1.out.1.cell 4 _ rfl; have y5 := H1.out.1.cell 5 _ rfl; have y6 := H1.out.1.cell 6 _ rfl; have y7 := H1.out.1.cell 7 _ rfl; have y8 := H1.out.1.cell 8 _ rfl; have y9 := H1.out.1.cell 9 _ rfl; have y10 := H1.out.1.cell 10 _ rfl; have y11 := H1.out.1.cell 11 _ rfl; have y12 := H1.out.1.cell 12 _ rfl; have y13 := H1.out.1.cell 13 _ rfl; have y14 := H1.out.1.cell 14 _ rfl; have y15 := H1.out.1.cell 15 _ rfl; have y16 := H1.out.1.cell 16 _ rfl))
              go_ret
              exact ⟨by rw [hv.out]; rfl, H1.out.2⟩
            | true =>
              have f5 := of_decide_eq_true e5
              have b5 : ((m.nx.length : Int) == 0) = true := by rw [beq_iff_eq]; omega
              clear f5
              cases e6 : decide (m.sg.length = 0) with
              | false =>
                have f6 := of_decide_eq_false e6
                have b6 : ((m.sg.length : Int) == 0) = false := by rw [beq_eq_false_iff_ne]; omega
                clear f6
                have hv : Hid (V = false) := hid (by rw [HV.out, onlyB]; simp only [*]; rfl)
                go_enter Try.func27, Try.ntmps27
                simp only [List.append]
                go_wp2_with (first
                  | (go_at_call_of 53 (Value.int IntKind.i64 1); refine (ihas_129_1 _).mono ?_; rintro e wz ⟨rfl, hw⟩; replace hw := hw.symm; subst hw)
                  | (go_at_call_of 53 (Value.int IntKind.i64 2); refine (ihas_129_2 _).mono ?_; rintro e wz ⟨rfl, hw⟩; replace hw := hw.symm; subst hw)
                  | (go_at_call_of 53 (Value.int IntKind.i64 4); refine (ihas_129_4 _).mono ?_; rintro e wz ⟨rfl, hw⟩; replace hw := hw.symm; subst hw)
                  | (go_at_call_of 53 (Value.int IntKind.i64 8); refine (ihas_129_8 _).mono ?_; rintro e wz ⟨rfl, hw⟩; replace hw := hw.symm; subst hw)
                  | (go_at_call_of 53 (Value.int IntKind.i64 16); refine (ihas_129_16 _).mono ?_; rintro e wz ⟨rfl, hw⟩; replace hw := hw.symm; subst hw)
                  | (go_at_call_of 53 (Value.int IntKind.i64 32); refine (ihas_129_32 _).mono ?_; rintro e wz ⟨rfl, hw⟩; replace hw := hw.symm; subst hw)
                  | (go_at_call_of 53 (Value.int IntKind.i64 64); refine (ihas_129_64 _).mono ?_; rintro e wz ⟨rfl, hw⟩; replace hw := hw.symm; subst hw)
                  | (go_at_call_of 53 (Value.int IntKind.i64 128); refine (ihas_129_128 _).mono ?_; rintro e wz ⟨rfl, hw⟩; replace hw := hw.symm; subst hw)
                  | (go_at_call_of 53 (Value.int IntKind.i64 256); refine (ihas_129_256 _).mono ?_; rintro e wz ⟨rfl, hw⟩; replace hw := hw.symm; subst hw)
                  | (go_at_call 55; refine (bits_any _ _).mono ?_; rintro e wz ⟨rfl, hw⟩; replace hw := hw.symm; subst hw)
                  | (go_at_call 54; refine (HN.out _).mono ?_; rintro e w1 ⟨rfl, hb⟩; have H1 := hid (And.intro (H0.out.1.keep hb) (H0.out.2.trans (hb.mono H0.out.2.size))); clear hb y0 y1 y2 y3 y4 y5 y6 y7 y8 y9 y10 y11 y12 y13 y14 y15 y16; have y0 := H1.out.1.cell 0 _ rfl; have y1 := H1.out.1.cell 1 _ rfl; have y2 := H1.out.1.cell 2 _ rfl; have y3 := H1.out.1.cell 3 _ rfl; have y4 := H1.out.1.cell 4 _ rfl; have y5 := H1.out.1.cell 5 _ rfl; have y6 := H1.out.1.cell 6 _ rfl; have y7 := H1.out.1.cell 7 _ rfl; have y8 := H1.out.1.cell 8 _ rfl; have y9 := H1.out.1.cell 9 _ rfl; have y10 := H1.out.1.cell 10 _ rfl; have y11 := H1.out.1.cell 11 _ rfl; have y12 := H1.out.1.cell 12 _ rfl; have y13 := H1.out.1.cell 13 _ rfl; have y14 := H1.out.1.cell 14 _ rfl; have y15 := H1.out.1.cell 15 _ rfl; have y16 := H1.out.1.cell 16 _ rfl))
                go_ret
                exact ⟨by rw [hv.out]; rfl, H1.out.2⟩
              | true =>
                have f6 := of_decide_eq_true e6
                have b6 : ((m.sg.length : Int) == 0) = true := by rw [beq_iff_eq]; omega
                clear f6
                cases e7 : decide (m.ln.length = 0) with
                | false =>
                  have f7 := of_decide_eq_false e7
                  have b7 : ((m.ln.length : Int) == 0) = false := by rw [beq_eq_false_iff_ne]; omega
                  clear f7
                  have hv : Hid (V = false) := hid (by rw [HV.out, onlyB]; simp only [*]; rfl)
                  go_enter Try.func27, Try.ntmps27
                  simp only [List.append]
                  go_wp2_with (first
                    | (go_at_call_of 53 (Value.int IntKind.i64 1); refine (ihas_129_1 _).mono ?_; rintro e wz ⟨rfl, hw⟩; replace hw := hw.symm; subst hw)
                    | (go_at_call_of 53 (Value.int IntKind.i64 2); refine (ihas_129_2 _).mono ?_; rintro e wz ⟨rfl, hw⟩; replace hw := hw.symm; subst hw)
                    | (go_at_call_of 53 (Value.int IntKind.i64 4); refine (ihas_129_4 _).mono ?_; rintro e wz ⟨rfl, hw⟩; replace hw := hw.symm; subst hw)
                    | (go_at_call_of 53 (Value.int IntKind.i64 8); refine (ihas_129_8 _).mono ?_; rintro e wz ⟨rfl, hw⟩; replace hw := hw.symm; subst hw)
                    | (go_at_call_of 53 (Value.int IntKind.i64 16); refine (ihas_129_16 _).mono ?_; rintro e wz ⟨rfl, hw⟩; replace hw := hw.symm; subst hw)
                    | (go_at_call_of 53 (Value.int IntKind.i64 32); refine (ihas_129_32 _).mono ?_; rintro e wz ⟨rfl, hw⟩; replace hw := hw.symm; subst hw)
                    | (go_at_call_of 53 (Value.int IntKind.i64 64); refine (ihas_129_64 _).mono ?_; rintro e wz ⟨rfl, hw⟩; replace hw := hw.symm; subst hw)
                    | (go_at_call_of 53 (Value.int IntKind.i64 128); refine (ihas_129_128 _).mono ?_; rintro e wz ⟨rfl, hw⟩; replace hw := hw.symm; subst hw)
                    | (go_at_call_of 53 (Value.int IntKind.i64 256); refine (ihas_129_256 _).mono ?_; rintro e wz ⟨rfl, hw⟩; replace hw := hw.symm; subst hw)
                    | (go_at_call 55; refine (bits_any _ _).mono ?_; rintro e wz ⟨rfl, hw⟩; replace hw := hw.symm; subst hw)
                    | (go_at_call 54; refine (HN.out _).mono ?_; rintro e w1 ⟨rfl, hb⟩; have H1 := hid (And.intro (H0.out.1.keep hb) (H0.out.2.trans (hb.mono H0.out.2.size))); clear hb y0 y1 y2 y3 y4 y5 y6 y7 y8 y9 y10 y11 y12 y13 y14 y15 y16; have y0 := H1.out.1.cell 0 _ rfl; have y1 := H1.out.1.cell 1 _ rfl; have y2 := H1.out.1.cell 2 _ rfl; have y3 := H1.out.1.cell 3 _ rfl; have y4 := H1.out.1.cell 4 _ rfl; have y5 := H1.out.1.cell 5 _ rfl; have y6 := H1.out.1.cell 6 _ rfl; have y7 := H1.out.1.cell 7 _ rfl; have y8 := H1.out.1.cell 8 _ rfl; have y9 := H1.out.1.cell 9 _ rfl; have y10 := H1.out.1.cell 10 _ rfl; have y11 := H1.out.1.cell 11 _ rfl; have y12 := H1.out.1.cell 12 _ rfl; have y13 := H1.out.1.cell 13 _ rfl; have y14 := H1.out.1.cell 14 _ rfl; have y15 := H1.out.1.cell 15 _ rfl; have y16 := H1.out.1.cell 16 _ rfl))
                  go_ret
                  exact ⟨by rw [hv.out]; rfl, H1.out.2⟩
                | true =>
                  have f7 := of_decide_eq_true e7
                  have b7 : ((m.ln.length : Int) == 0) = true := by rw [beq_iff_eq]; omega
                  clear f7
                  have hv : Hid (V = true) := hid (by rw [HV.out, onlyB]; simp only [*]; rfl)
                  go_enter Try.func27, Try.ntmps27
                  simp only [List.append]
                  go_wp2_with (first
                    | (go_at_call_of 53 (Value.int IntKind.i64 1); refine (ihas_129_1 _).mono ?_; rintro e wz ⟨rfl, hw⟩; replace hw := hw.symm; subst hw)
                    | (go_at_call_of 53 (Value.int IntKind.i64 2); refine (ihas_129_2 _).mono ?_; rintro e wz ⟨rfl, hw⟩; replace hw := hw.symm; subst hw)
                    | (go_at_call_of 53 (Value.int IntKind.i64 4); refine (ihas_129_4 _).mono ?_; rintro e wz ⟨rfl, hw⟩; replace hw := hw.symm; subst hw)
                    | (go_at_call_of 53 (Value.int IntKind.i64 8); refine (ihas_129_8 _).mono ?_; rintro e wz ⟨rfl, hw⟩; replace hw := hw.symm; subst hw)
                    | (go_at_call_of 53 (Value.int IntKind.i64 16); refine (ihas_129_16 _).mono ?_; rintro e wz ⟨rfl, hw⟩; replace hw := hw.symm; subst hw)
                    | (go_at_call_of 53 (Value.int IntKind.i64 32); refine (ihas_129_32 _).mono ?_; rintro e wz ⟨rfl, hw⟩; replace hw := hw.symm; subst hw)
                    | (go_at_call_of 53 (Value.int IntKind.i64 64); refine (ihas_129_64 _).mono ?_; rintro e wz ⟨rfl, hw⟩; replace hw := hw.symm; subst hw)
                    | (go_at_call_of 53 (Value.int IntKind.i64 128); refine (ihas_129_128 _).mono ?_; rintro e wz ⟨rfl, hw⟩; replace hw := hw.symm; subst hw)
                    | (go_at_call_of 53 (Value.int IntKind.i64 256); refine (ihas_129_256 _).mono ?_; rintro e wz ⟨rfl, hw⟩; replace hw := hw.symm; subst hw)
                    | (go_at_call 55; refine (bits_any _ _).mono ?_; rintro e wz ⟨rfl, hw⟩; replace hw := hw.symm; subst hw)
                    | (go_at_call 54; refine (HN.out _).mono ?_; rintro e w1 ⟨rfl, hb⟩; have H1 := hid (And.intro (H0.out.1.keep hb) (H0.out.2.trans (hb.mono H0.out.2.size))); clear hb y0 y1 y2 y3 y4 y5 y6 y7 y8 y9 y10 y11 y12 y13 y14 y15 y16; have y0 := H1.out.1.cell 0 _ rfl; have y1 := H1.out.1.cell 1 _ rfl; have y2 := H1.out.1.cell 2 _ rfl; have y3 := H1.out.1.cell 3 _ rfl; have y4 := H1.out.1.cell 4 _ rfl; have y5 := H1.out.1.cell 5 _ rfl; have y6 := H1.out.1.cell 6 _ rfl; have y7 := H1.out.1.cell 7 _ rfl; have y8 := H1.out.1.cell 8 _ rfl; have y9 := H1.out.1.cell 9 _ rfl; have y10 := H1.out.1.cell 10 _ rfl; have y11 := H1.out.1.cell 11 _ rfl; have y12 := H1.out.1.cell 12 _ rfl; have y13 := H1.out.1.cell 13 _ rfl; have y14 := H1.out.1.cell 14 _ rfl; have y15 := H1.out.1.cell 15 _ rfl; have y16 := H1.out.1.cell 16 _ rfl))
                  go_ret
                  exact ⟨by rw [hv.out]; rfl, H1.out.2⟩
set_option maxRecDepth 100000 in
set_option maxHeartbeats 6400000 in
theorem ionly_12 (m : Ms) (a13 a14 a15 a16 : Option Addr) (c13 c14 c15 c16 : Nat) (w : World) :
    Calls Try.prog 27 #[.agg #[.int .i64 m.k, .int .i64 m.ep, .int .i64 m.v, .int .i64 m.sl, .int .i64 m.rq.c, .int .i64 m.rq.st, .int .i64 m.rq.k, .string m.rq.key, .float .f64 m.rq.b, .int .i64 m.rq.id, .int .i64 m.rs.1, .float .f64 m.rs.2, .string m.tx, .slice a13 m.nx.length c13, .slice a14 m.sg.length c14, .slice a15 m.cg.length c15, .slice a16 m.ln.length c16], .int .i64 12] w fun e w' => e = .returned (.bool (onlyB m { r := true, x := true })) ∧ Below w.heap.size w w' := by
  have H0 : Hid (BxAt (w.alloc (.cells #[.int .i64 m.k, .int .i64 m.ep, .int .i64 m.v, .int .i64 m.sl, .int .i64 m.rq.c, .int .i64 m.rq.st, .int .i64 m.rq.k, .string m.rq.key, .float .f64 m.rq.b, .int .i64 m.rq.id, .int .i64 m.rs.1, .float .f64 m.rs.2, .string m.tx, .slice a13 m.nx.length c13, .slice a14 m.sg.length c14, .slice a15 m.cg.length c15, .slice a16 m.ln.length c16] 34)) w.heap.size [.int .i64 m.k, .int .i64 m.ep, .int .i64 m.v, .int .i64 m.sl, .int .i64 m.rq.c, .int .i64 m.rq.st, .int .i64 m.rq.k, .string m.rq.key, .float .f64 m.rq.b, .int .i64 m.rq.id, .int .i64 m.rs.1, .float .f64 m.rs.2, .string m.tx, .slice a13 m.nx.length c13, .slice a14 m.sg.length c14, .slice a15 m.cg.length c15, .slice a16 m.ln.length c16] 34 ∧ Below w.heap.size w (w.alloc (.cells #[.int .i64 m.k, .int .i64 m.ep, .int .i64 m.v, .int .i64 m.sl, .int .i64 m.rq.c, .int .i64 m.rq.st, .int .i64 m.rq.k, .string m.rq.key, .float .f64 m.rq.b, .int .i64 m.rq.id, .int .i64 m.rs.1, .float .f64 m.rs.2, .string m.tx, .slice a13 m.nx.length c13, .slice a14 m.sg.length c14, .slice a15 m.cg.length c15, .slice a16 m.ln.length c16] 34))) := hid ⟨heap_alloc_last w _, (Below.refl w.heap.size w).alloc (Nat.le_refl _) _⟩
  have y0 := H0.out.1.cell 0 _ rfl; have y1 := H0.out.1.cell 1 _ rfl; have y2 := H0.out.1.cell 2 _ rfl; have y3 := H0.out.1.cell 3 _ rfl; have y4 := H0.out.1.cell 4 _ rfl; have y5 := H0.out.1.cell 5 _ rfl; have y6 := H0.out.1.cell 6 _ rfl; have y7 := H0.out.1.cell 7 _ rfl; have y8 := H0.out.1.cell 8 _ rfl; have y9 := H0.out.1.cell 9 _ rfl; have y10 := H0.out.1.cell 10 _ rfl; have y11 := H0.out.1.cell 11 _ rfl; have y12 := H0.out.1.cell 12 _ rfl; have y13 := H0.out.1.cell 13 _ rfl; have y14 := H0.out.1.cell 14 _ rfl; have y15 := H0.out.1.cell 15 _ rfl; have y16 := H0.out.1.cell 16 _ rfl
  obtain ⟨V, eV⟩ : ∃ V, V = onlyB m { r := true, x := true } := ⟨_, rfl⟩
  rw [← eV]
  have HV : Hid (V = onlyB m { r := true, x := true }) := hid eV
  clear eV
  have HN : Hid (∀ u : World, Calls Try.prog 54 #[.agg #[.int .i64 m.rq.c, .int .i64 m.rq.st, .int .i64 m.rq.k, .string m.rq.key, .float .f64 m.rq.b, .int .i64 m.rq.id]] u fun e w' => e = .returned (.bool (nullB m.rq)) ∧ Below u.heap.size u w') := hid (fun u => dnull_any m.rq u)
  have ht := none_size m.tx
  cases e0 : decide (m.v = 0) with
  | false =>
    have f0 := of_decide_eq_false e0
    have b0 : (m.v == 0) = false := by rw [beq_eq_false_iff_ne]; omega
    clear f0
    have hv : Hid (V = false) := hid (by rw [HV.out, onlyB]; simp only [*]; rfl)
    go_enter Try.func27, Try.ntmps27
    simp only [List.append]
    go_wp2_with (first
      | (go_at_call_of 53 (Value.int IntKind.i64 1); refine (ihas_12_1 _).mono ?_; rintro e wz ⟨rfl, hw⟩; replace hw := hw.symm; subst hw)
      | (go_at_call_of 53 (Value.int IntKind.i64 2); refine (ihas_12_2 _).mono ?_; rintro e wz ⟨rfl, hw⟩; replace hw := hw.symm; subst hw)
      | (go_at_call_of 53 (Value.int IntKind.i64 4); refine (ihas_12_4 _).mono ?_; rintro e wz ⟨rfl, hw⟩; replace hw := hw.symm; subst hw)
      | (go_at_call_of 53 (Value.int IntKind.i64 8); refine (ihas_12_8 _).mono ?_; rintro e wz ⟨rfl, hw⟩; replace hw := hw.symm; subst hw)
      | (go_at_call_of 53 (Value.int IntKind.i64 16); refine (ihas_12_16 _).mono ?_; rintro e wz ⟨rfl, hw⟩; replace hw := hw.symm; subst hw)
      | (go_at_call_of 53 (Value.int IntKind.i64 32); refine (ihas_12_32 _).mono ?_; rintro e wz ⟨rfl, hw⟩; replace hw := hw.symm; subst hw)
      | (go_at_call_of 53 (Value.int IntKind.i64 64); refine (ihas_12_64 _).mono ?_; rintro e wz ⟨rfl, hw⟩; replace hw := hw.symm; subst hw)
      | (go_at_call_of 53 (Value.int IntKind.i64 128); refine (ihas_12_128 _).mono ?_; rintro e wz ⟨rfl, hw⟩; replace hw := hw.symm; subst hw)
      | (go_at_call_of 53 (Value.int IntKind.i64 256); refine (ihas_12_256 _).mono ?_; rintro e wz ⟨rfl, hw⟩; replace hw := hw.symm; subst hw)
      | (go_at_call 55; refine (bits_any _ _).mono ?_; rintro e wz ⟨rfl, hw⟩; replace hw := hw.symm; subst hw))
    go_ret
    exact ⟨by rw [hv.out]; rfl, H0.out.2⟩
  | true =>
    have f0 := of_decide_eq_true e0
    have b0 : (m.v == 0) = true := by rw [beq_iff_eq]; omega
    clear f0
    cases e1 : decide (m.sl = 0) with
    | false =>
      have f1 := of_decide_eq_false e1
      have b1 : (m.sl == 0) = false := by rw [beq_eq_false_iff_ne]; omega
      clear f1
      have hv : Hid (V = false) := hid (by rw [HV.out, onlyB]; simp only [*]; rfl)
      go_enter Try.func27, Try.ntmps27
      simp only [List.append]
      go_wp2_with (first
        | (go_at_call_of 53 (Value.int IntKind.i64 1); refine (ihas_12_1 _).mono ?_; rintro e wz ⟨rfl, hw⟩; replace hw := hw.symm; subst hw)
        | (go_at_call_of 53 (Value.int IntKind.i64 2); refine (ihas_12_2 _).mono ?_; rintro e wz ⟨rfl, hw⟩; replace hw := hw.symm; subst hw)
        | (go_at_call_of 53 (Value.int IntKind.i64 4); refine (ihas_12_4 _).mono ?_; rintro e wz ⟨rfl, hw⟩; replace hw := hw.symm; subst hw)
        | (go_at_call_of 53 (Value.int IntKind.i64 8); refine (ihas_12_8 _).mono ?_; rintro e wz ⟨rfl, hw⟩; replace hw := hw.symm; subst hw)
        | (go_at_call_of 53 (Value.int IntKind.i64 16); refine (ihas_12_16 _).mono ?_; rintro e wz ⟨rfl, hw⟩; replace hw := hw.symm; subst hw)
        | (go_at_call_of 53 (Value.int IntKind.i64 32); refine (ihas_12_32 _).mono ?_; rintro e wz ⟨rfl, hw⟩; replace hw := hw.symm; subst hw)
        | (go_at_call_of 53 (Value.int IntKind.i64 64); refine (ihas_12_64 _).mono ?_; rintro e wz ⟨rfl, hw⟩; replace hw := hw.symm; subst hw)
        | (go_at_call_of 53 (Value.int IntKind.i64 128); refine (ihas_12_128 _).mono ?_; rintro e wz ⟨rfl, hw⟩; replace hw := hw.symm; subst hw)
        | (go_at_call_of 53 (Value.int IntKind.i64 256); refine (ihas_12_256 _).mono ?_; rintro e wz ⟨rfl, hw⟩; replace hw := hw.symm; subst hw)
        | (go_at_call 55; refine (bits_any _ _).mono ?_; rintro e wz ⟨rfl, hw⟩; replace hw := hw.symm; subst hw))
      go_ret
      exact ⟨by rw [hv.out]; rfl, H0.out.2⟩
    | true =>
      have f1 := of_decide_eq_true e1
      have b1 : (m.sl == 0) = true := by rw [beq_iff_eq]; omega
      clear f1
      cases e2 : decide (m.tx.size = 0) with
      | false =>
        rw [e2] at ht
        have hv : Hid (V = false) := hid (by rw [HV.out, onlyB]; simp only [*]; rfl)
        go_enter Try.func27, Try.ntmps27
        simp only [List.append]
        go_wp2_with (first
          | (go_at_call_of 53 (Value.int IntKind.i64 1); refine (ihas_12_1 _).mono ?_; rintro e wz ⟨rfl, hw⟩; replace hw := hw.symm; subst hw)
          | (go_at_call_of 53 (Value.int IntKind.i64 2); refine (ihas_12_2 _).mono ?_; rintro e wz ⟨rfl, hw⟩; replace hw := hw.symm; subst hw)
          | (go_at_call_of 53 (Value.int IntKind.i64 4); refine (ihas_12_4 _).mono ?_; rintro e wz ⟨rfl, hw⟩; replace hw := hw.symm; subst hw)
          | (go_at_call_of 53 (Value.int IntKind.i64 8); refine (ihas_12_8 _).mono ?_; rintro e wz ⟨rfl, hw⟩; replace hw := hw.symm; subst hw)
          | (go_at_call_of 53 (Value.int IntKind.i64 16); refine (ihas_12_16 _).mono ?_; rintro e wz ⟨rfl, hw⟩; replace hw := hw.symm; subst hw)
          | (go_at_call_of 53 (Value.int IntKind.i64 32); refine (ihas_12_32 _).mono ?_; rintro e wz ⟨rfl, hw⟩; replace hw := hw.symm; subst hw)
          | (go_at_call_of 53 (Value.int IntKind.i64 64); refine (ihas_12_64 _).mono ?_; rintro e wz ⟨rfl, hw⟩; replace hw := hw.symm; subst hw)
          | (go_at_call_of 53 (Value.int IntKind.i64 128); refine (ihas_12_128 _).mono ?_; rintro e wz ⟨rfl, hw⟩; replace hw := hw.symm; subst hw)
          | (go_at_call_of 53 (Value.int IntKind.i64 256); refine (ihas_12_256 _).mono ?_; rintro e wz ⟨rfl, hw⟩; replace hw := hw.symm; subst hw)
          | (go_at_call 55; refine (bits_any _ _).mono ?_; rintro e wz ⟨rfl, hw⟩; replace hw := hw.symm; subst hw))
        go_ret
        exact ⟨by rw [hv.out]; rfl, H0.out.2⟩
      | true =>
        rw [e2] at ht
        cases e3 : decide (m.nx.length = 0) with
        | false =>
          have f3 := of_decide_eq_false e3
          have b3 : ((m.nx.length : Int) == 0) = false := by rw [beq_eq_false_iff_ne]; omega
          clear f3
          have hv : Hid (V = false) := hid (by rw [HV.out, onlyB]; simp only [*]; rfl)
          go_enter Try.func27, Try.ntmps27
          simp only [List.append]
          go_wp2_with (first
            | (go_at_call_of 53 (Value.int IntKind.i64 1); refine (ihas_12_1 _).mono ?_; rintro e wz ⟨rfl, hw⟩; replace hw := hw.symm; subst hw)
            | (go_at_call_of 53 (Value.int IntKind.i64 2); refine (ihas_12_2 _).mono ?_; rintro e wz ⟨rfl, hw⟩; replace hw := hw.symm; subst hw)
            | (go_at_call_of 53 (Value.int IntKind.i64 4); refine (ihas_12_4 _).mono ?_; rintro e wz ⟨rfl, hw⟩; replace hw := hw.symm; subst hw)
            | (go_at_call_of 53 (Value.int IntKind.i64 8); refine (ihas_12_8 _).mono ?_; rintro e wz ⟨rfl, hw⟩; replace hw := hw.symm; subst hw)
            | (go_at_call_of 53 (Value.int IntKind.i64 16); refine (ihas_12_16 _).mono ?_; rintro e wz ⟨rfl, hw⟩; replace hw := hw.symm; subst hw)
            | (go_at_call_of 53 (Value.int IntKind.i64 32); refine (ihas_12_32 _).mono ?_; rintro e wz ⟨rfl, hw⟩; replace hw := hw.symm; subst hw)
            | (go_at_call_of 53 (Value.int IntKind.i64 64); refine (ihas_12_64 _).mono ?_; rintro e wz ⟨rfl, hw⟩; replace hw := hw.symm; subst hw)
            | (go_at_call_of 53 (Value.int IntKind.i64 128); refine (ihas_12_128 _).mono ?_; rintro e wz ⟨rfl, hw⟩; replace hw := hw.symm; subst hw)
            | (go_at_call_of 53 (Value.int IntKind.i64 256); refine (ihas_12_256 _).mono ?_; rintro e wz ⟨rfl, hw⟩; replace hw := hw.symm; subst hw)
            | (go_at_call 55; refine (bits_any _ _).mono ?_; rintro e wz ⟨rfl, hw⟩; replace hw := hw.symm; subst hw))
          go_ret
          exact ⟨by rw [hv.out]; rfl, H0.out.2⟩
        | true =>
          have f3 := of_decide_eq_true e3
          have b3 : ((m.nx.length : Int) == 0) = true := by rw [beq_iff_eq]; omega
          clear f3
          cases e4 : decide (m.sg.length = 0) with
          | false =>
            have f4 := of_decide_eq_false e4
            have b4 : ((m.sg.length : Int) == 0) = false := by rw [beq_eq_false_iff_ne]; omega
            clear f4
            have hv : Hid (V = false) := hid (by rw [HV.out, onlyB]; simp only [*]; rfl)
            go_enter Try.func27, Try.ntmps27
            simp only [List.append]
            go_wp2_with (first
              | (go_at_call_of 53 (Value.int IntKind.i64 1); refine (ihas_12_1 _).mono ?_; rintro e wz ⟨rfl, hw⟩; replace hw := hw.symm; subst hw)
              | (go_at_call_of 53 (Value.int IntKind.i64 2); refine (ihas_12_2 _).mono ?_; rintro e wz ⟨rfl, hw⟩; replace hw := hw.symm; subst hw)
              | (go_at_call_of 53 (Value.int IntKind.i64 4); refine (ihas_12_4 _).mono ?_; rintro e wz ⟨rfl, hw⟩; replace hw := hw.symm; subst hw)
              | (go_at_call_of 53 (Value.int IntKind.i64 8); refine (ihas_12_8 _).mono ?_; rintro e wz ⟨rfl, hw⟩; replace hw := hw.symm; subst hw)
              | (go_at_call_of 53 (Value.int IntKind.i64 16); refine (ihas_12_16 _).mono ?_; rintro e wz ⟨rfl, hw⟩; replace hw := hw.symm; subst hw)
              | (go_at_call_of 53 (Value.int IntKind.i64 32); refine (ihas_12_32 _).mono ?_; rintro e wz ⟨rfl, hw⟩; replace hw := hw.symm; subst hw)
              | (go_at_call_of 53 (Value.int IntKind.i64 64); refine (ihas_12_64 _).mono ?_; rintro e wz ⟨rfl, hw⟩; replace hw := hw.symm; subst hw)
              | (go_at_call_of 53 (Value.int IntKind.i64 128); refine (ihas_12_128 _).mono ?_; rintro e wz ⟨rfl, hw⟩; replace hw := hw.symm; subst hw)
              | (go_at_call_of 53 (Value.int IntKind.i64 256); refine (ihas_12_256 _).mono ?_; rintro e wz ⟨rfl, hw⟩; replace hw := hw.symm; subst hw)
              | (go_at_call 55; refine (bits_any _ _).mono ?_; rintro e wz ⟨rfl, hw⟩; replace hw := hw.symm; subst hw))
            go_ret
            exact ⟨by rw [hv.out]; rfl, H0.out.2⟩
          | true =>
            have f4 := of_decide_eq_true e4
            have b4 : ((m.sg.length : Int) == 0) = true := by rw [beq_iff_eq]; omega
            clear f4
            cases e5 : decide (m.cg.length = 0) with
            | false =>
              have f5 := of_decide_eq_false e5
              have b5 : ((m.cg.length : Int) == 0) = false := by rw [beq_eq_false_iff_ne]; omega
              clear f5
              have hv : Hid (V = false) := hid (by rw [HV.out, onlyB]; simp only [*]; rfl)
              go_enter Try.func27, Try.ntmps27
              simp only [List.append]
              go_wp2_with (first
                | (go_at_call_of 53 (Value.int IntKind.i64 1); refine (ihas_12_1 _).mono ?_; rintro e wz ⟨rfl, hw⟩; replace hw := hw.symm; subst hw)
                | (go_at_call_of 53 (Value.int IntKind.i64 2); refine (ihas_12_2 _).mono ?_; rintro e wz ⟨rfl, hw⟩; replace hw := hw.symm; subst hw)
                | (go_at_call_of 53 (Value.int IntKind.i64 4); refine (ihas_12_4 _).mono ?_; rintro e wz ⟨rfl, hw⟩; replace hw := hw.symm; subst hw)
                | (go_at_call_of 53 (Value.int IntKind.i64 8); refine (ihas_12_8 _).mono ?_; rintro e wz ⟨rfl, hw⟩; replace hw := hw.symm; subst hw)
                | (go_at_call_of 53 (Value.int IntKind.i64 16); refine (ihas_12_16 _).mono ?_; rintro e wz ⟨rfl, hw⟩; replace hw := hw.symm; subst hw)
                | (go_at_call_of 53 (Value.int IntKind.i64 32); refine (ihas_12_32 _).mono ?_; rintro e wz ⟨rfl, hw⟩; replace hw := hw.symm; subst hw)
                | (go_at_call_of 53 (Value.int IntKind.i64 64); refine (ihas_12_64 _).mono ?_; rintro e wz ⟨rfl, hw⟩; replace hw := hw.symm; subst hw)
                | (go_at_call_of 53 (Value.int IntKind.i64 128); refine (ihas_12_128 _).mono ?_; rintro e wz ⟨rfl, hw⟩; replace hw := hw.symm; subst hw)
                | (go_at_call_of 53 (Value.int IntKind.i64 256); refine (ihas_12_256 _).mono ?_; rintro e wz ⟨rfl, hw⟩; replace hw := hw.symm; subst hw)
                | (go_at_call 55; refine (bits_any _ _).mono ?_; rintro e wz ⟨rfl, hw⟩; replace hw := hw.symm; subst hw))
              go_ret
              exact ⟨by rw [hv.out]; rfl, H0.out.2⟩
            | true =>
              have f5 := of_decide_eq_true e5
              have b5 : ((m.cg.length : Int) == 0) = true := by rw [beq_iff_eq]; omega
              clear f5
              cases e6 : decide (m.ln.length = 0) with
              | false =>
                have f6 := of_decide_eq_false e6
                have b6 : ((m.ln.length : Int) == 0) = false := by rw [beq_eq_false_iff_ne]; omega
                clear f6
                have hv : Hid (V = false) := hid (by rw [HV.out, onlyB]; simp only [*]; rfl)
                go_enter Try.func27, Try.ntmps27
                simp only [List.append]
                go_wp2_with (first
                  | (go_at_call_of 53 (Value.int IntKind.i64 1); refine (ihas_12_1 _).mono ?_; rintro e wz ⟨rfl, hw⟩; replace hw := hw.symm; subst hw)
                  | (go_at_call_of 53 (Value.int IntKind.i64 2); refine (ihas_12_2 _).mono ?_; rintro e wz ⟨rfl, hw⟩; replace hw := hw.symm; subst hw)
                  | (go_at_call_of 53 (Value.int IntKind.i64 4); refine (ihas_12_4 _).mono ?_; rintro e wz ⟨rfl, hw⟩; replace hw := hw.symm; subst hw)
                  | (go_at_call_of 53 (Value.int IntKind.i64 8); refine (ihas_12_8 _).mono ?_; rintro e wz ⟨rfl, hw⟩; replace hw := hw.symm; subst hw)
                  | (go_at_call_of 53 (Value.int IntKind.i64 16); refine (ihas_12_16 _).mono ?_; rintro e wz ⟨rfl, hw⟩; replace hw := hw.symm; subst hw)
                  | (go_at_call_of 53 (Value.int IntKind.i64 32); refine (ihas_12_32 _).mono ?_; rintro e wz ⟨rfl, hw⟩; replace hw := hw.symm; subst hw)
                  | (go_at_call_of 53 (Value.int IntKind.i64 64); refine (ihas_12_64 _).mono ?_; rintro e wz ⟨rfl, hw⟩; replace hw := hw.symm; subst hw)
                  | (go_at_call_of 53 (Value.int IntKind.i64 128); refine (ihas_12_128 _).mono ?_; rintro e wz ⟨rfl, hw⟩; replace hw := hw.symm; subst hw)
                  | (go_at_call_of 53 (Value.int IntKind.i64 256); refine (ihas_12_256 _).mono ?_; rintro e wz ⟨rfl, hw⟩; replace hw := hw.symm; subst hw)
                  | (go_at_call 55; refine (bits_any _ _).mono ?_; rintro e wz ⟨rfl, hw⟩; replace hw := hw.symm; subst hw))
                go_ret
                exact ⟨by rw [hv.out]; rfl, H0.out.2⟩
              | true =>
                have f6 := of_decide_eq_true e6
                have b6 : ((m.ln.length : Int) == 0) = true := by rw [beq_iff_eq]; omega
                clear f6
                have hv : Hid (V = true) := hid (by rw [HV.out, onlyB]; simp only [*]; rfl)
                go_enter Try.func27, Try.ntmps27
                simp only [List.append]
                go_wp2_with (first
                  | (go_at_call_of 53 (Value.int IntKind.i64 1); refine (ihas_12_1 _).mono ?_; rintro e wz ⟨rfl, hw⟩; replace hw := hw.symm; subst hw)
                  | (go_at_call_of 53 (Value.int IntKind.i64 2); refine (ihas_12_2 _).mono ?_; rintro e wz ⟨rfl, hw⟩; replace hw := hw.symm; subst hw)
                  | (go_at_call_of 53 (Value.int IntKind.i64 4); refine (ihas_12_4 _).mono ?_; rintro e wz ⟨rfl, hw⟩; replace hw := hw.symm; subst hw)
                  | (go_at_call_of 53 (Value.int IntKind.i64 8); refine (ihas_12_8 _).mono ?_; rintro e wz ⟨rfl, hw⟩; replace hw := hw.symm; subst hw)
                  | (go_at_call_of 53 (Value.int IntKind.i64 16); refine (ihas_12_16 _).mono ?_; rintro e wz ⟨rfl, hw⟩; replace hw := hw.symm; subst hw)
                  | (go_at_call_of 53 (Value.int IntKind.i64 32); refine (ihas_12_32 _).mono ?_; rintro e wz ⟨rfl, hw⟩; replace hw := hw.symm; subst hw)
                  | (go_at_call_of 53 (Value.int IntKind.i64 64); refine (ihas_12_64 _).mono ?_; rintro e wz ⟨rfl, hw⟩; replace hw := hw.symm; subst hw)
                  | (go_at_call_of 53 (Value.int IntKind.i64 128); refine (ihas_12_128 _).mono ?_; rintro e wz ⟨rfl, hw⟩; replace hw := hw.symm; subst hw)
                  | (go_at_call_of 53 (Value.int IntKind.i64 256); refine (ihas_12_256 _).mono ?_; rintro e wz ⟨rfl, hw⟩; replace hw := hw.symm; subst hw)
                  | (go_at_call 55; refine (bits_any _ _).mono ?_; rintro e wz ⟨rfl, hw⟩; replace hw := hw.symm; subst hw))
                go_ret
                exact ⟨by rw [hv.out]; rfl, H0.out.2⟩
set_option maxRecDepth 100000 in
set_option maxHeartbeats 6400000 in
theorem ionly_0 (m : Ms) (a13 a14 a15 a16 : Option Addr) (c13 c14 c15 c16 : Nat) (w : World) :
    Calls Try.prog 27 #[.agg #[.int .i64 m.k, .int .i64 m.ep, .int .i64 m.v, .int .i64 m.sl, .int .i64 m.rq.c, .int .i64 m.rq.st, .int .i64 m.rq.k, .string m.rq.key, .float .f64 m.rq.b, .int .i64 m.rq.id, .int .i64 m.rs.1, .float .f64 m.rs.2, .string m.tx, .slice a13 m.nx.length c13, .slice a14 m.sg.length c14, .slice a15 m.cg.length c15, .slice a16 m.ln.length c16], .int .i64 0] w fun e w' => e = .returned (.bool (onlyB m {  })) ∧ Below w.heap.size w w' := by
  have H0 : Hid (BxAt (w.alloc (.cells #[.int .i64 m.k, .int .i64 m.ep, .int .i64 m.v, .int .i64 m.sl, .int .i64 m.rq.c, .int .i64 m.rq.st, .int .i64 m.rq.k, .string m.rq.key, .float .f64 m.rq.b, .int .i64 m.rq.id, .int .i64 m.rs.1, .float .f64 m.rs.2, .string m.tx, .slice a13 m.nx.length c13, .slice a14 m.sg.length c14, .slice a15 m.cg.length c15, .slice a16 m.ln.length c16] 34)) w.heap.size [.int .i64 m.k, .int .i64 m.ep, .int .i64 m.v, .int .i64 m.sl, .int .i64 m.rq.c, .int .i64 m.rq.st, .int .i64 m.rq.k, .string m.rq.key, .float .f64 m.rq.b, .int .i64 m.rq.id, .int .i64 m.rs.1, .float .f64 m.rs.2, .string m.tx, .slice a13 m.nx.length c13, .slice a14 m.sg.length c14, .slice a15 m.cg.length c15, .slice a16 m.ln.length c16] 34 ∧ Below w.heap.size w (w.alloc (.cells #[.int .i64 m.k, .int .i64 m.ep, .int .i64 m.v, .int .i64 m.sl, .int .i64 m.rq.c, .int .i64 m.rq.st, .int .i64 m.rq.k, .string m.rq.key, .float .f64 m.rq.b, .int .i64 m.rq.id, .int .i64 m.rs.1, .float .f64 m.rs.2, .string m.tx, .slice a13 m.nx.length c13, .slice a14 m.sg.length c14, .slice a15 m.cg.length c15, .slice a16 m.ln.length c16] 34))) := hid ⟨heap_alloc_last w _, (Below.refl w.heap.size w).alloc (Nat.le_refl _) _⟩
  have y0 := H0.out.1.cell 0 _ rfl; have y1 := H0.out.1.cell 1 _ rfl; have y2 := H0.out.1.cell 2 _ rfl; have y3 := H0.out.1.cell 3 _ rfl; have y4 := H0.out.1.cell 4 _ rfl; have y5 := H0.out.1.cell 5 _ rfl; have y6 := H0.out.1.cell 6 _ rfl; have y7 := H0.out.1.cell 7 _ rfl; have y8 := H0.out.1.cell 8 _ rfl; have y9 := H0.out.1.cell 9 _ rfl; have y10 := H0.out.1.cell 10 _ rfl; have y11 := H0.out.1.cell 11 _ rfl; have y12 := H0.out.1.cell 12 _ rfl; have y13 := H0.out.1.cell 13 _ rfl; have y14 := H0.out.1.cell 14 _ rfl; have y15 := H0.out.1.cell 15 _ rfl; have y16 := H0.out.1.cell 16 _ rfl
  obtain ⟨V, eV⟩ : ∃ V, V = onlyB m {  } := ⟨_, rfl⟩
  rw [← eV]
  have HV : Hid (V = onlyB m {  }) := hid eV
  clear eV
  have HN : Hid (∀ u : World, Calls Try.prog 54 #[.agg #[.int .i64 m.rq.c, .int .i64 m.rq.st, .int .i64 m.rq.k, .string m.rq.key, .float .f64 m.rq.b, .int .i64 m.rq.id]] u fun e w' => e = .returned (.bool (nullB m.rq)) ∧ Below u.heap.size u w') := hid (fun u => dnull_any m.rq u)
  have ht := none_size m.tx
  cases e0 : decide (m.v = 0) with
  | false =>
    have f0 := of_decide_eq_false e0
    have b0 : (m.v == 0) = false := by rw [beq_eq_false_iff_ne]; omega
    clear f0
    have hv : Hid (V = false) := hid (by rw [HV.out, onlyB]; simp only [*]; rfl)
    go_enter Try.func27, Try.ntmps27
    simp only [List.append]
    go_wp2_with (first
      | (go_at_call_of 53 (Value.int IntKind.i64 1); refine (ihas_0_1 _).mono ?_; rintro e wz ⟨rfl, hw⟩; replace hw := hw.symm; subst hw)
      | (go_at_call_of 53 (Value.int IntKind.i64 2); refine (ihas_0_2 _).mono ?_; rintro e wz ⟨rfl, hw⟩; replace hw := hw.symm; subst hw)
      | (go_at_call_of 53 (Value.int IntKind.i64 4); refine (ihas_0_4 _).mono ?_; rintro e wz ⟨rfl, hw⟩; replace hw := hw.symm; subst hw)
      | (go_at_call_of 53 (Value.int IntKind.i64 8); refine (ihas_0_8 _).mono ?_; rintro e wz ⟨rfl, hw⟩; replace hw := hw.symm; subst hw)
      | (go_at_call_of 53 (Value.int IntKind.i64 16); refine (ihas_0_16 _).mono ?_; rintro e wz ⟨rfl, hw⟩; replace hw := hw.symm; subst hw)
      | (go_at_call_of 53 (Value.int IntKind.i64 32); refine (ihas_0_32 _).mono ?_; rintro e wz ⟨rfl, hw⟩; replace hw := hw.symm; subst hw)
      | (go_at_call_of 53 (Value.int IntKind.i64 64); refine (ihas_0_64 _).mono ?_; rintro e wz ⟨rfl, hw⟩; replace hw := hw.symm; subst hw)
      | (go_at_call_of 53 (Value.int IntKind.i64 128); refine (ihas_0_128 _).mono ?_; rintro e wz ⟨rfl, hw⟩; replace hw := hw.symm; subst hw)
      | (go_at_call_of 53 (Value.int IntKind.i64 256); refine (ihas_0_256 _).mono ?_; rintro e wz ⟨rfl, hw⟩; replace hw := hw.symm; subst hw)
      | (go_at_call 55; refine (bits_any _ _).mono ?_; rintro e wz ⟨rfl, hw⟩; replace hw := hw.symm; subst hw)
      | (go_at_call 54; refine (HN.out _).mono ?_; rintro e w1 ⟨rfl, hb⟩; have H1 := hid (And.intro (H0.out.1.keep hb) (H0.out.2.trans (hb.mono H0.out.2.size))); clear hb y0 y1 y2 y3 y4 y5 y6 y7 y8 y9 y10 y11 y12 y13 y14 y15 y16; have y0 := H1.out.1.cell 0 _ rfl; have y1 := H1.out.1.cell 1 _ rfl; have y2 := H1.out.1.cell 2 _ rfl; have y3 := H1.out.1.cell 3 _ rfl; have y4 := H1.out.1.cell 4 _ rfl; have y5 := H1.out.1.cell 5 _ rfl; have y6 := H1.out.1.cell 6 _ rfl; have y7 := H1.out.1.cell 7 _ rfl; have y8 := H1.out.1.cell 8 _ rfl; have y9 := H1.out.1.cell 9 _ rfl; have y10 := H1.out.1.cell 10 _ rfl; have y11 := H1.out.1.cell 11 _ rfl; have y12 := H1.out.1.cell 12 _ rfl; have y13 := H1.out.1.cell 13 _ rfl; have y14 := H1.out.1.cell 14 _ rfl; have y15 := H1.out.1.cell 15 _ rfl; have y16 := H1.out.1.cell 16 _ rfl))
    go_ret
    exact ⟨by rw [hv.out]; rfl, H0.out.2⟩
  | true =>
    have f0 := of_decide_eq_true e0
    have b0 : (m.v == 0) = true := by rw [beq_iff_eq]; omega
    clear f0
    cases e1 : decide (m.sl = 0) with
    | false =>
      have f1 := of_decide_eq_false e1
      have b1 : (m.sl == 0) = false := by rw [beq_eq_false_iff_ne]; omega
      clear f1
      have hv : Hid (V = false) := hid (by rw [HV.out, onlyB]; simp only [*]; rfl)
      go_enter Try.func27, Try.ntmps27
      simp only [List.append]
      go_wp2_with (first
        | (go_at_call_of 53 (Value.int IntKind.i64 1); refine (ihas_0_1 _).mono ?_; rintro e wz ⟨rfl, hw⟩; replace hw := hw.symm; subst hw)
        | (go_at_call_of 53 (Value.int IntKind.i64 2); refine (ihas_0_2 _).mono ?_; rintro e wz ⟨rfl, hw⟩; replace hw := hw.symm; subst hw)
        | (go_at_call_of 53 (Value.int IntKind.i64 4); refine (ihas_0_4 _).mono ?_; rintro e wz ⟨rfl, hw⟩; replace hw := hw.symm; subst hw)
        | (go_at_call_of 53 (Value.int IntKind.i64 8); refine (ihas_0_8 _).mono ?_; rintro e wz ⟨rfl, hw⟩; replace hw := hw.symm; subst hw)
        | (go_at_call_of 53 (Value.int IntKind.i64 16); refine (ihas_0_16 _).mono ?_; rintro e wz ⟨rfl, hw⟩; replace hw := hw.symm; subst hw)
        | (go_at_call_of 53 (Value.int IntKind.i64 32); refine (ihas_0_32 _).mono ?_; rintro e wz ⟨rfl, hw⟩; replace hw := hw.symm; subst hw)
        | (go_at_call_of 53 (Value.int IntKind.i64 64); refine (ihas_0_64 _).mono ?_; rintro e wz ⟨rfl, hw⟩; replace hw := hw.symm; subst hw)
        | (go_at_call_of 53 (Value.int IntKind.i64 128); refine (ihas_0_128 _).mono ?_; rintro e wz ⟨rfl, hw⟩; replace hw := hw.symm; subst hw)
        | (go_at_call_of 53 (Value.int IntKind.i64 256); refine (ihas_0_256 _).mono ?_; rintro e wz ⟨rfl, hw⟩; replace hw := hw.symm; subst hw)
        | (go_at_call 55; refine (bits_any _ _).mono ?_; rintro e wz ⟨rfl, hw⟩; replace hw := hw.symm; subst hw)
        | (go_at_call 54; refine (HN.out _).mono ?_; rintro e w1 ⟨rfl, hb⟩; have H1 := hid (And.intro (H0.out.1.keep hb) (H0.out.2.trans (hb.mono H0.out.2.size))); clear hb y0 y1 y2 y3 y4 y5 y6 y7 y8 y9 y10 y11 y12 y13 y14 y15 y16; have y0 := H1.out.1.cell 0 _ rfl; have y1 := H1.out.1.cell 1 _ rfl; have y2 := H1.out.1.cell 2 _ rfl; have y3 := H1.out.1.cell 3 _ rfl; have y4 := H1.out.1.cell 4 _ rfl; have y5 := H1.out.1.cell 5 _ rfl; have y6 := H1.out.1.cell 6 _ rfl; have y7 := H1.out.1.cell 7 _ rfl; have y8 := H1.out.1.cell 8 _ rfl; have y9 := H1.out.1.cell 9 _ rfl; have y10 := H1.out.1.cell 10 _ rfl; have y11 := H1.out.1.cell 11 _ rfl; have y12 := H1.out.1.cell 12 _ rfl; have y13 := H1.out.1.cell 13 _ rfl; have y14 := H1.out.1.cell 14 _ rfl; have y15 := H1.out.1.cell 15 _ rfl; have y16 := H1.out.1.cell 16 _ rfl))
      go_ret
      exact ⟨by rw [hv.out]; rfl, H0.out.2⟩
    | true =>
      have f1 := of_decide_eq_true e1
      have b1 : (m.sl == 0) = true := by rw [beq_iff_eq]; omega
      clear f1
      cases e2 : nullB m.rq with
      | false =>
        rw [e2] at HN
        have hv : Hid (V = false) := hid (by rw [HV.out, onlyB]; simp only [*]; rfl)
        go_enter Try.func27, Try.ntmps27
        simp only [List.append]
        go_wp2_with (first
          | (go_at_call_of 53 (Value.int IntKind.i64 1); refine (ihas_0_1 _).mono ?_; rintro e wz ⟨rfl, hw⟩; replace hw := hw.symm; subst hw)
          | (go_at_call_of 53 (Value.int IntKind.i64 2); refine (ihas_0_2 _).mono ?_; rintro e wz ⟨rfl, hw⟩; replace hw := hw.symm; subst hw)
          | (go_at_call_of 53 (Value.int IntKind.i64 4); refine (ihas_0_4 _).mono ?_; rintro e wz ⟨rfl, hw⟩; replace hw := hw.symm; subst hw)
          | (go_at_call_of 53 (Value.int IntKind.i64 8); refine (ihas_0_8 _).mono ?_; rintro e wz ⟨rfl, hw⟩; replace hw := hw.symm; subst hw)
          | (go_at_call_of 53 (Value.int IntKind.i64 16); refine (ihas_0_16 _).mono ?_; rintro e wz ⟨rfl, hw⟩; replace hw := hw.symm; subst hw)
          | (go_at_call_of 53 (Value.int IntKind.i64 32); refine (ihas_0_32 _).mono ?_; rintro e wz ⟨rfl, hw⟩; replace hw := hw.symm; subst hw)
          | (go_at_call_of 53 (Value.int IntKind.i64 64); refine (ihas_0_64 _).mono ?_; rintro e wz ⟨rfl, hw⟩; replace hw := hw.symm; subst hw)
          | (go_at_call_of 53 (Value.int IntKind.i64 128); refine (ihas_0_128 _).mono ?_; rintro e wz ⟨rfl, hw⟩; replace hw := hw.symm; subst hw)
          | (go_at_call_of 53 (Value.int IntKind.i64 256); refine (ihas_0_256 _).mono ?_; rintro e wz ⟨rfl, hw⟩; replace hw := hw.symm; subst hw)
          | (go_at_call 55; refine (bits_any _ _).mono ?_; rintro e wz ⟨rfl, hw⟩; replace hw := hw.symm; subst hw)
          | (go_at_call 54; refine (HN.out _).mono ?_; rintro e w1 ⟨rfl, hb⟩; have H1 := hid (And.intro (H0.out.1.keep hb) (H0.out.2.trans (hb.mono H0.out.2.size))); clear hb y0 y1 y2 y3 y4 y5 y6 y7 y8 y9 y10 y11 y12 y13 y14 y15 y16; have y0 := H1.out.1.cell 0 _ rfl; have y1 := H1.out.1.cell 1 _ rfl; have y2 := H1.out.1.cell 2 _ rfl; have y3 := H1.out.1.cell 3 _ rfl; have y4 := H1.out.1.cell 4 _ rfl; have y5 := H1.out.1.cell 5 _ rfl; have y6 := H1.out.1.cell 6 _ rfl; have y7 := H1.out.1.cell 7 _ rfl; have y8 := H1.out.1.cell 8 _ rfl; have y9 := H1.out.1.cell 9 _ rfl; have y10 := H1.out.1.cell 10 _ rfl; have y11 := H1.out.1.cell 11 _ rfl; have y12 := H1.out.1.cell 12 _ rfl; have y13 := H1.out.1.cell 13 _ rfl; have y14 := H1.out.1.cell 14 _ rfl; have y15 := H1.out.1.cell 15 _ rfl; have y16 := H1.out.1.cell 16 _ rfl))
        go_ret
        exact ⟨by rw [hv.out]; rfl, H1.out.2⟩
      | true =>
        rw [e2] at HN
        cases e3 : decide (m.rs.1 = 0) with
        | false =>
          have f3 := of_decide_eq_false e3
          have b3 : (m.rs.1 == 0) = false := by rw [beq_eq_false_iff_ne]; omega
          clear f3
          have hv : Hid (V = false) := hid (by rw [HV.out, onlyB]; simp only [*]; rfl)
          go_enter Try.func27, Try.ntmps27
          simp only [List.append]
          go_wp2_with (first
            | (go_at_call_of 53 (Value.int IntKind.i64 1); refine (ihas_0_1 _).mono ?_; rintro e wz ⟨rfl, hw⟩; replace hw := hw.symm; subst hw)
            | (go_at_call_of 53 (Value.int IntKind.i64 2); refine (ihas_0_2 _).mono ?_; rintro e wz ⟨rfl, hw⟩; replace hw := hw.symm; subst hw)
            | (go_at_call_of 53 (Value.int IntKind.i64 4); refine (ihas_0_4 _).mono ?_; rintro e wz ⟨rfl, hw⟩; replace hw := hw.symm; subst hw)
            | (go_at_call_of 53 (Value.int IntKind.i64 8); refine (ihas_0_8 _).mono ?_; rintro e wz ⟨rfl, hw⟩; replace hw := hw.symm; subst hw)
            | (go_at_call_of 53 (Value.int IntKind.i64 16); refine (ihas_0_16 _).mono ?_; rintro e wz ⟨rfl, hw⟩; replace hw := hw.symm; subst hw)
            | (go_at_call_of 53 (Value.int IntKind.i64 32); refine (ihas_0_32 _).mono ?_; rintro e wz ⟨rfl, hw⟩; replace hw := hw.symm; subst hw)
            | (go_at_call_of 53 (Value.int IntKind.i64 64); refine (ihas_0_64 _).mono ?_; rintro e wz ⟨rfl, hw⟩; replace hw := hw.symm; subst hw)
            | (go_at_call_of 53 (Value.int IntKind.i64 128); refine (ihas_0_128 _).mono ?_; rintro e wz ⟨rfl, hw⟩; replace hw := hw.symm; subst hw)
            | (go_at_call_of 53 (Value.int IntKind.i64 256); refine (ihas_0_256 _).mono ?_; rintro e wz ⟨rfl, hw⟩; replace hw := hw.symm; subst hw)
            | (go_at_call 55; refine (bits_any _ _).mono ?_; rintro e wz ⟨rfl, hw⟩; replace hw := hw.symm; subst hw)
            | (go_at_call 54; refine (HN.out _).mono ?_; rintro e w1 ⟨rfl, hb⟩; have H1 := hid (And.intro (H0.out.1.keep hb) (H0.out.2.trans (hb.mono H0.out.2.size))); clear hb y0 y1 y2 y3 y4 y5 y6 y7 y8 y9 y10 y11 y12 y13 y14 y15 y16; have y0 := H1.out.1.cell 0 _ rfl; have y1 := H1.out.1.cell 1 _ rfl; have y2 := H1.out.1.cell 2 _ rfl; have y3 := H1.out.1.cell 3 _ rfl; have y4 := H1.out.1.cell 4 _ rfl; have y5 := H1.out.1.cell 5 _ rfl; have y6 := H1.out.1.cell 6 _ rfl; have y7 := H1.out.1.cell 7 _ rfl; have y8 := H1.out.1.cell 8 _ rfl; have y9 := H1.out.1.cell 9 _ rfl; have y10 := H1.out.1.cell 10 _ rfl; have y11 := H1.out.1.cell 11 _ rfl; have y12 := H1.out.1.cell 12 _ rfl; have y13 := H1.out.1.cell 13 _ rfl; have y14 := H1.out.1.cell 14 _ rfl; have y15 := H1.out.1.cell 15 _ rfl; have y16 := H1.out.1.cell 16 _ rfl))
          go_ret
          exact ⟨by rw [hv.out]; rfl, H1.out.2⟩
        | true =>
          have f3 := of_decide_eq_true e3
          have b3 : (m.rs.1 == 0) = true := by rw [beq_iff_eq]; omega
          clear f3
          cases e4 : decide (canW m.rs.2 = 0) with
          | false =>
            have f4 := of_decide_eq_false e4
            have b4 : (((canW m.rs.2 : Nat) : Int) == 0) = false := by rw [beq_eq_false_iff_ne]; omega
            clear f4
            have hv : Hid (V = false) := hid (by rw [HV.out, onlyB]; simp only [*]; rfl)
            go_enter Try.func27, Try.ntmps27
            simp only [List.append]
            go_wp2_with (first
              | (go_at_call_of 53 (Value.int IntKind.i64 1); refine (ihas_0_1 _).mono ?_; rintro e wz ⟨rfl, hw⟩; replace hw := hw.symm; subst hw)
              | (go_at_call_of 53 (Value.int IntKind.i64 2); refine (ihas_0_2 _).mono ?_; rintro e wz ⟨rfl, hw⟩; replace hw := hw.symm; subst hw)
              | (go_at_call_of 53 (Value.int IntKind.i64 4); refine (ihas_0_4 _).mono ?_; rintro e wz ⟨rfl, hw⟩; replace hw := hw.symm; subst hw)
              | (go_at_call_of 53 (Value.int IntKind.i64 8); refine (ihas_0_8 _).mono ?_; rintro e wz ⟨rfl, hw⟩; replace hw := hw.symm; subst hw)
              | (go_at_call_of 53 (Value.int IntKind.i64 16); refine (ihas_0_16 _).mono ?_; rintro e wz ⟨rfl, hw⟩; replace hw := hw.symm; subst hw)
              | (go_at_call_of 53 (Value.int IntKind.i64 32); refine (ihas_0_32 _).mono ?_; rintro e wz ⟨rfl, hw⟩; replace hw := hw.symm; subst hw)
              | (go_at_call_of 53 (Value.int IntKind.i64 64); refine (ihas_0_64 _).mono ?_; rintro e wz ⟨rfl, hw⟩; replace hw := hw.symm; subst hw)
              | (go_at_call_of 53 (Value.int IntKind.i64 128); refine (ihas_0_128 _).mono ?_; rintro e wz ⟨rfl, hw⟩; replace hw := hw.symm; subst hw)
              | (go_at_call_of 53 (Value.int IntKind.i64 256); refine (ihas_0_256 _).mono ?_; rintro e wz ⟨rfl, hw⟩; replace hw := hw.symm; subst hw)
              | (go_at_call 55; refine (bits_any _ _).mono ?_; rintro e wz ⟨rfl, hw⟩; replace hw := hw.symm; subst hw)
              | (go_at_call 54; refine (HN.out _).mono ?_; rintro e w1 ⟨rfl, hb⟩; have H1 := hid (And.intro (H0.out.1.keep hb) (H0.out.2.trans (hb.mono H0.out.2.size))); clear hb y0 y1 y2 y3 y4 y5 y6 y7 y8 y9 y10 y11 y12 y13 y14 y15 y16; have y0 := H1.out.1.cell 0 _ rfl; have y1 := H1.out.1.cell 1 _ rfl; have y2 := H1.out.1.cell 2 _ rfl; have y3 := H1.out.1.cell 3 _ rfl; have y4 := H1.out.1.cell 4 _ rfl; have y5 := H1.out.1.cell 5 _ rfl; have y6 := H1.out.1.cell 6 _ rfl; have y7 := H1.out.1.cell 7 _ rfl; have y8 := H1.out.1.cell 8 _ rfl; have y9 := H1.out.1.cell 9 _ rfl; have y10 := H1.out.1.cell 10 _ rfl; have y11 := H1.out.1.cell 11 _ rfl; have y12 := H1.out.1.cell 12 _ rfl; have y13 := H1.out.1.cell 13 _ rfl; have y14 := H1.out.1.cell 14 _ rfl; have y15 := H1.out.1.cell 15 _ rfl; have y16 := H1.out.1.cell 16 _ rfl))
            go_ret
            exact ⟨by rw [hv.out]; rfl, H1.out.2⟩
          | true =>
            have f4 := of_decide_eq_true e4
            have b4 : (((canW m.rs.2 : Nat) : Int) == 0) = true := by rw [beq_iff_eq]; omega
            clear f4
            cases e5 : decide (m.tx.size = 0) with
            | false =>
              rw [e5] at ht
              have hv : Hid (V = false) := hid (by rw [HV.out, onlyB]; simp only [*]; rfl)
              go_enter Try.func27, Try.ntmps27
              simp only [List.append]
              go_wp2_with (first
                | (go_at_call_of 53 (Value.int IntKind.i64 1); refine (ihas_0_1 _).mono ?_; rintro e wz ⟨rfl, hw⟩; replace hw := hw.symm; subst hw)
                | (go_at_call_of 53 (Value.int IntKind.i64 2); refine (ihas_0_2 _).mono ?_; rintro e wz ⟨rfl, hw⟩; replace hw := hw.symm; subst hw)
                | (go_at_call_of 53 (Value.int IntKind.i64 4); refine (ihas_0_4 _).mono ?_; rintro e wz ⟨rfl, hw⟩; replace hw := hw.symm; subst hw)
                | (go_at_call_of 53 (Value.int IntKind.i64 8); refine (ihas_0_8 _).mono ?_; rintro e wz ⟨rfl, hw⟩; replace hw := hw.symm; subst hw)
                | (go_at_call_of 53 (Value.int IntKind.i64 16); refine (ihas_0_16 _).mono ?_; rintro e wz ⟨rfl, hw⟩; replace hw := hw.symm; subst hw)
                | (go_at_call_of 53 (Value.int IntKind.i64 32); refine (ihas_0_32 _).mono ?_; rintro e wz ⟨rfl, hw⟩; replace hw := hw.symm; subst hw)
                | (go_at_call_of 53 (Value.int IntKind.i64 64); refine (ihas_0_64 _).mono ?_; rintro e wz ⟨rfl, hw⟩; replace hw := hw.symm; subst hw)
                | (go_at_call_of 53 (Value.int IntKind.i64 128); refine (ihas_0_128 _).mono ?_; rintro e wz ⟨rfl, hw⟩; replace hw := hw.symm; subst hw)
                | (go_at_call_of 53 (Value.int IntKind.i64 256); refine (ihas_0_256 _).mono ?_; rintro e wz ⟨rfl, hw⟩; replace hw := hw.symm; subst hw)
                | (go_at_call 55; refine (bits_any _ _).mono ?_; rintro e wz ⟨rfl, hw⟩; replace hw := hw.symm; subst hw)
                | (go_at_call 54; refine (HN.out _).mono ?_; rintro e w1 ⟨rfl, hb⟩; have H1 := hid (And.intro (H0.out.1.keep hb) (H0.out.2.trans (hb.mono H0.out.2.size))); clear hb y0 y1 y2 y3 y4 y5 y6 y7 y8 y9 y10 y11 y12 y13 y14 y15 y16; have y0 := H1.out.1.cell 0 _ rfl; have y1 := H1.out.1.cell 1 _ rfl; have y2 := H1.out.1.cell 2 _ rfl; have y3 := H1.out.1.cell 3 _ rfl; have y4 := H1.out.1.cell 4 _ rfl; have y5 := H1.out.1.cell 5 _ rfl; have y6 := H1.out.1.cell 6 _ rfl; have y7 := H1.out.1.cell 7 _ rfl; have y8 := H1.out.1.cell 8 _ rfl; have y9 := H1.out.1.cell 9 _ rfl; have y10 := H1.out.1.cell 10 _ rfl; have y11 := H1.out.1.cell 11 _ rfl; have y12 := H1.out.1.cell 12 _ rfl; have y13 := H1.out.1.cell 13 _ rfl; have y14 := H1.out.1.cell 14 _ rfl; have y15 := H1.out.1.cell 15 _ rfl; have y16 := H1.out.1.cell 16 _ rfl))
              go_ret
              exact ⟨by rw [hv.out]; rfl, H1.out.2⟩
            | true =>
              rw [e5] at ht
              cases e6 : decide (m.nx.length = 0) with
              | false =>
                have f6 := of_decide_eq_false e6
                have b6 : ((m.nx.length : Int) == 0) = false := by rw [beq_eq_false_iff_ne]; omega
                clear f6
                have hv : Hid (V = false) := hid (by rw [HV.out, onlyB]; simp only [*]; rfl)
                go_enter Try.func27, Try.ntmps27
                simp only [List.append]
                go_wp2_with (first
                  | (go_at_call_of 53 (Value.int IntKind.i64 1); refine (ihas_0_1 _).mono ?_; rintro e wz ⟨rfl, hw⟩; replace hw := hw.symm; subst hw)
                  | (go_at_call_of 53 (Value.int IntKind.i64 2); refine (ihas_0_2 _).mono ?_; rintro e wz ⟨rfl, hw⟩; replace hw := hw.symm; subst hw)
                  | (go_at_call_of 53 (Value.int IntKind.i64 4); refine (ihas_0_4 _).mono ?_; rintro e wz ⟨rfl, hw⟩; replace hw := hw.symm; subst hw)
                  | (go_at_call_of 53 (Value.int IntKind.i64 8); refine (ihas_0_8 _).mono ?_; rintro e wz ⟨rfl, hw⟩; replace hw := hw.symm; subst hw)
                  | (go_at_call_of 53 (Value.int IntKind.i64 16); refine (ihas_0_16 _).mono ?_; rintro e wz ⟨rfl, hw⟩; replace hw := hw.symm; subst hw)
                  | (go_at_call_of 53 (Value.int IntKind.i64 32); refine (ihas_0_32 _).mono ?_; rintro e wz ⟨rfl, hw⟩; replace hw := hw.symm; subst hw)
                  | (go_at_call_of 53 (Value.int IntKind.i64 64); refine (ihas_0_64 _).mono ?_; rintro e wz ⟨rfl, hw⟩; replace hw := hw.symm; subst hw)
                  | (go_at_call_of 53 (Value.int IntKind.i64 128); refine (ihas_0_128 _).mono ?_; rintro e wz ⟨rfl, hw⟩; replace hw := hw.symm; subst hw)
                  | (go_at_call_of 53 (Value.int IntKind.i64 256); refine (ihas_0_256 _).mono ?_; rintro e wz ⟨rfl, hw⟩; replace hw := hw.symm; subst hw)
                  | (go_at_call 55; refine (bits_any _ _).mono ?_; rintro e wz ⟨rfl, hw⟩; replace hw := hw.symm; subst hw)
                  | (go_at_call 54; refine (HN.out _).mono ?_; rintro e w1 ⟨rfl, hb⟩; have H1 := hid (And.intro (H0.out.1.keep hb) (H0.out.2.trans (hb.mono H0.out.2.size))); clear hb y0 y1 y2 y3 y4 y5 y6 y7 y8 y9 y10 y11 y12 y13 y14 y15 y16; have y0 := H1.out.1.cell 0 _ rfl; have y1 := H1.out.1.cell 1 _ rfl; have y2 := H1.out.1.cell 2 _ rfl; have y3 := H1.out.1.cell 3 _ rfl; have y4 := H1.out.1.cell 4 _ rfl; have y5 := H1.out.1.cell 5 _ rfl; have y6 := H1.out.1.cell 6 _ rfl; have y7 := H1.out.1.cell 7 _ rfl; have y8 := H1.out.1.cell 8 _ rfl; have y9 := H1.out.1.cell 9 _ rfl; have y10 := H1.out.1.cell 10 _ rfl; have y11 := H1.out.1.cell 11 _ rfl; have y12 := H1.out.1.cell 12 _ rfl; have y13 := H1.out.1.cell 13 _ rfl; have y14 := H1.out.1.cell 14 _ rfl; have y15 := H1.out.1.cell 15 _ rfl; have y16 := H1.out.1.cell 16 _ rfl))
                go_ret
                exact ⟨by rw [hv.out]; rfl, H1.out.2⟩
              | true =>
                have f6 := of_decide_eq_true e6
                have b6 : ((m.nx.length : Int) == 0) = true := by rw [beq_iff_eq]; omega
                clear f6
                cases e7 : decide (m.sg.length = 0) with
                | false =>
                  have f7 := of_decide_eq_false e7
                  have b7 : ((m.sg.length : Int) == 0) = false := by rw [beq_eq_false_iff_ne]; omega
                  clear f7
                  have hv : Hid (V = false) := hid (by rw [HV.out, onlyB]; simp only [*]; rfl)
                  go_enter Try.func27, Try.ntmps27
                  simp only [List.append]
                  go_wp2_with (first
                    | (go_at_call_of 53 (Value.int IntKind.i64 1); refine (ihas_0_1 _).mono ?_; rintro e wz ⟨rfl, hw⟩; replace hw := hw.symm; subst hw)
                    | (go_at_call_of 53 (Value.int IntKind.i64 2); refine (ihas_0_2 _).mono ?_; rintro e wz ⟨rfl, hw⟩; replace hw := hw.symm; subst hw)
                    | (go_at_call_of 53 (Value.int IntKind.i64 4); refine (ihas_0_4 _).mono ?_; rintro e wz ⟨rfl, hw⟩; replace hw := hw.symm; subst hw)
                    | (go_at_call_of 53 (Value.int IntKind.i64 8); refine (ihas_0_8 _).mono ?_; rintro e wz ⟨rfl, hw⟩; replace hw := hw.symm; subst hw)
                    | (go_at_call_of 53 (Value.int IntKind.i64 16); refine (ihas_0_16 _).mono ?_; rintro e wz ⟨rfl, hw⟩; replace hw := hw.symm; subst hw)
                    | (go_at_call_of 53 (Value.int IntKind.i64 32); refine (ihas_0_32 _).mono ?_; rintro e wz ⟨rfl, hw⟩; replace hw := hw.symm; subst hw)
                    | (go_at_call_of 53 (Value.int IntKind.i64 64); refine (ihas_0_64 _).mono ?_; rintro e wz ⟨rfl, hw⟩; replace hw := hw.symm; subst hw)
                    | (go_at_call_of 53 (Value.int IntKind.i64 128); refine (ihas_0_128 _).mono ?_; rintro e wz ⟨rfl, hw⟩; replace hw := hw.symm; subst hw)
                    | (go_at_call_of 53 (Value.int IntKind.i64 256); refine (ihas_0_256 _).mono ?_; rintro e wz ⟨rfl, hw⟩; replace hw := hw.symm; subst hw)
                    | (go_at_call 55; refine (bits_any _ _).mono ?_; rintro e wz ⟨rfl, hw⟩; replace hw := hw.symm; subst hw)
                    | (go_at_call 54; refine (HN.out _).mono ?_; rintro e w1 ⟨rfl, hb⟩; have H1 := hid (And.intro (H0.out.1.keep hb) (H0.out.2.trans (hb.mono H0.out.2.size))); clear hb y0 y1 y2 y3 y4 y5 y6 y7 y8 y9 y10 y11 y12 y13 y14 y15 y16; have y0 := H1.out.1.cell 0 _ rfl; have y1 := H1.out.1.cell 1 _ rfl; have y2 := H1.out.1.cell 2 _ rfl; have y3 := H1.out.1.cell 3 _ rfl; have y4 := H1.out.1.cell 4 _ rfl; have y5 := H1.out.1.cell 5 _ rfl; have y6 := H1.out.1.cell 6 _ rfl; have y7 := H1.out.1.cell 7 _ rfl; have y8 := H1.out.1.cell 8 _ rfl; have y9 := H1.out.1.cell 9 _ rfl; have y10 := H1.out.1.cell 10 _ rfl; have y11 := H1.out.1.cell 11 _ rfl; have y12 := H1.out.1.cell 12 _ rfl; have y13 := H1.out.1.cell 13 _ rfl; have y14 := H1.out.1.cell 14 _ rfl; have y15 := H1.out.1.cell 15 _ rfl; have y16 := H1.out.1.cell 16 _ rfl))
                  go_ret
                  exact ⟨by rw [hv.out]; rfl, H1.out.2⟩
                | true =>
                  have f7 := of_decide_eq_true e7
                  have b7 : ((m.sg.length : Int) == 0) = true := by rw [beq_iff_eq]; omega
                  clear f7
                  cases e8 : decide (m.cg.length = 0) with
                  | false =>
                    have f8 := of_decide_eq_false e8
                    have b8 : ((m.cg.length : Int) == 0) = false := by rw [beq_eq_false_iff_ne]; omega
                    clear f8
                    have hv : Hid (V = false) := hid (by rw [HV.out, onlyB]; simp only [*]; rfl)
                    go_enter Try.func27, Try.ntmps27
                    simp only [List.append]
                    go_wp2_with (first
                      | (go_at_call_of 53 (Value.int IntKind.i64 1); refine (ihas_0_1 _).mono ?_; rintro e wz ⟨rfl, hw⟩; replace hw := hw.symm; subst hw)
                      | (go_at_call_of 53 (Value.int IntKind.i64 2); refine (ihas_0_2 _).mono ?_; rintro e wz ⟨rfl, hw⟩; replace hw := hw.symm; subst hw)
                      | (go_at_call_of 53 (Value.int IntKind.i64 4); refine (ihas_0_4 _).mono ?_; rintro e wz ⟨rfl, hw⟩; replace hw := hw.symm; subst hw)
                      | (go_at_call_of 53 (Value.int IntKind.i64 8); refine (ihas_0_8 _).mono ?_; rintro e wz ⟨rfl, hw⟩; replace hw := hw.symm; subst hw)
                      | (go_at_call_of 53 (Value.int IntKind.i64 16); refine (ihas_0_16 _).mono ?_; rintro e wz ⟨rfl, hw⟩; replace hw := hw.symm; subst hw)
                      | (go_at_call_of 53 (Value.int IntKind.i64 32); refine (ihas_0_32 _).mono ?_; rintro e wz ⟨rfl, hw⟩; replace hw := hw.symm; subst hw)
                      | (go_at_call_of 53 (Value.int IntKind.i64 64); refine (ihas_0_64 _).mono ?_; rintro e wz ⟨rfl, hw⟩; replace hw := hw.symm; subst hw)
                      | (go_at_call_of 53 (Value.int IntKind.i64 128); refine (ihas_0_128 _).mono ?_; rintro e wz ⟨rfl, hw⟩; replace hw := hw.symm; subst hw)
                      | (go_at_call_of 53 (Value.int IntKind.i64 256); refine (ihas_0_256 _).mono ?_; rintro e wz ⟨rfl, hw⟩; replace hw := hw.symm; subst hw)
                      | (go_at_call 55; refine (bits_any _ _).mono ?_; rintro e wz ⟨rfl, hw⟩; replace hw := hw.symm; subst hw)
                      | (go_at_call 54; refine (HN.out _).mono ?_; rintro e w1 ⟨rfl, hb⟩; have H1 := hid (And.intro (H0.out.1.keep hb) (H0.out.2.trans (hb.mono H0.out.2.size))); clear hb y0 y1 y2 y3 y4 y5 y6 y7 y8 y9 y10 y11 y12 y13 y14 y15 y16; have y0 := H1.out.1.cell 0 _ rfl; have y1 := H1.out.1.cell 1 _ rfl; have y2 := H1.out.1.cell 2 _ rfl; have y3 := H1.out.1.cell 3 _ rfl; have y4 := H1.out.1.cell 4 _ rfl; have y5 := H1.out.1.cell 5 _ rfl; have y6 := H1.out.1.cell 6 _ rfl; have y7 := H1.out.1.cell 7 _ rfl; have y8 := H1.out.1.cell 8 _ rfl; have y9 := H1.out.1.cell 9 _ rfl; have y10 := H1.out.1.cell 10 _ rfl; have y11 := H1.out.1.cell 11 _ rfl; have y12 := H1.out.1.cell 12 _ rfl; have y13 := H1.out.1.cell 13 _ rfl; have y14 := H1.out.1.cell 14 _ rfl; have y15 := H1.out.1.cell 15 _ rfl; have y16 := H1.out.1.cell 16 _ rfl))
                    go_ret
                    exact ⟨by rw [hv.out]; rfl, H1.out.2⟩
                  | true =>
                    have f8 := of_decide_eq_true e8
                    have b8 : ((m.cg.length : Int) == 0) = true := by rw [beq_iff_eq]; omega
                    clear f8
                    cases e9 : decide (m.ln.length = 0) with
                    | false =>
                      have f9 := of_decide_eq_false e9
                      have b9 : ((m.ln.length : Int) == 0) = false := by rw [beq_eq_false_iff_ne]; omega
                      clear f9
                      have hv : Hid (V = false) := hid (by rw [HV.out, onlyB]; simp only [*]; rfl)
                      go_enter Try.func27, Try.ntmps27
                      simp only [List.append]
                      go_wp2_with (first
                        | (go_at_call_of 53 (Value.int IntKind.i64 1); refine (ihas_0_1 _).mono ?_; rintro e wz ⟨rfl, hw⟩; replace hw := hw.symm; subst hw)
                        | (go_at_call_of 53 (Value.int IntKind.i64 2); refine (ihas_0_2 _).mono ?_; rintro e wz ⟨rfl, hw⟩; replace hw := hw.symm; subst hw)
                        | (go_at_call_of 53 (Value.int IntKind.i64 4); refine (ihas_0_4 _).mono ?_; rintro e wz ⟨rfl, hw⟩; replace hw := hw.symm; subst hw)
                        | (go_at_call_of 53 (Value.int IntKind.i64 8); refine (ihas_0_8 _).mono ?_; rintro e wz ⟨rfl, hw⟩; replace hw := hw.symm; subst hw)
                        | (go_at_call_of 53 (Value.int IntKind.i64 16); refine (ihas_0_16 _).mono ?_; rintro e wz ⟨rfl, hw⟩; replace hw := hw.symm; subst hw)
                        | (go_at_call_of 53 (Value.int IntKind.i64 32); refine (ihas_0_32 _).mono ?_; rintro e wz ⟨rfl, hw⟩; replace hw := hw.symm; subst hw)
                        | (go_at_call_of 53 (Value.int IntKind.i64 64); refine (ihas_0_64 _).mono ?_; rintro e wz ⟨rfl, hw⟩; replace hw := hw.symm; subst hw)
                        | (go_at_call_of 53 (Value.int IntKind.i64 128); refine (ihas_0_128 _).mono ?_; rintro e wz ⟨rfl, hw⟩; replace hw := hw.symm; subst hw)
                        | (go_at_call_of 53 (Value.int IntKind.i64 256); refine (ihas_0_256 _).mono ?_; rintro e wz ⟨rfl, hw⟩; replace hw := hw.symm; subst hw)
                        | (go_at_call 55; refine (bits_any _ _).mono ?_; rintro e wz ⟨rfl, hw⟩; replace hw := hw.symm; subst hw)
                        | (go_at_call 54; refine (HN.out _).mono ?_; rintro e w1 ⟨rfl, hb⟩; have H1 := hid (And.intro (H0.out.1.keep hb) (H0.out.2.trans (hb.mono H0.out.2.size))); clear hb y0 y1 y2 y3 y4 y5 y6 y7 y8 y9 y10 y11 y12 y13 y14 y15 y16; have y0 := H1.out.1.cell 0 _ rfl; have y1 := H1.out.1.cell 1 _ rfl; have y2 := H1.out.1.cell 2 _ rfl; have y3 := H1.out.1.cell 3 _ rfl; have y4 := H1.out.1.cell 4 _ rfl; have y5 := H1.out.1.cell 5 _ rfl; have y6 := H1.out.1.cell 6 _ rfl; have y7 := H1.out.1.cell 7 _ rfl; have y8 := H1.out.1.cell 8 _ rfl; have y9 := H1.out.1.cell 9 _ rfl; have y10 := H1.out.1.cell 10 _ rfl; have y11 := H1.out.1.cell 11 _ rfl; have y12 := H1.out.1.cell 12 _ rfl; have y13 := H1.out.1.cell 13 _ rfl; have y14 := H1.out.1.cell 14 _ rfl; have y15 := H1.out.1.cell 15 _ rfl; have y16 := H1.out.1.cell 16 _ rfl))
                      go_ret
                      exact ⟨by rw [hv.out]; rfl, H1.out.2⟩
                    | true =>
                      have f9 := of_decide_eq_true e9
                      have b9 : ((m.ln.length : Int) == 0) = true := by rw [beq_iff_eq]; omega
                      clear f9
                      have hv : Hid (V = true) := hid (by rw [HV.out, onlyB]; simp only [*]; rfl)
                      go_enter Try.func27, Try.ntmps27
                      simp only [List.append]
                      go_wp2_with (first
                        | (go_at_call_of 53 (Value.int IntKind.i64 1); refine (ihas_0_1 _).mono ?_; rintro e wz ⟨rfl, hw⟩; replace hw := hw.symm; subst hw)
                        | (go_at_call_of 53 (Value.int IntKind.i64 2); refine (ihas_0_2 _).mono ?_; rintro e wz ⟨rfl, hw⟩; replace hw := hw.symm; subst hw)
                        | (go_at_call_of 53 (Value.int IntKind.i64 4); refine (ihas_0_4 _).mono ?_; rintro e wz ⟨rfl, hw⟩; replace hw := hw.symm; subst hw)
                        | (go_at_call_of 53 (Value.int IntKind.i64 8); refine (ihas_0_8 _).mono ?_; rintro e wz ⟨rfl, hw⟩; replace hw := hw.symm; subst hw)
                        | (go_at_call_of 53 (Value.int IntKind.i64 16); refine (ihas_0_16 _).mono ?_; rintro e wz ⟨rfl, hw⟩; replace hw := hw.symm; subst hw)
                        | (go_at_call_of 53 (Value.int IntKind.i64 32); refine (ihas_0_32 _).mono ?_; rintro e wz ⟨rfl, hw⟩; replace hw := hw.symm; subst hw)
                        | (go_at_call_of 53 (Value.int IntKind.i64 64); refine (ihas_0_64 _).mono ?_; rintro e wz ⟨rfl, hw⟩; replace hw := hw.symm; subst hw)
                        | (go_at_call_of 53 (Value.int IntKind.i64 128); refine (ihas_0_128 _).mono ?_; rintro e wz ⟨rfl, hw⟩; replace hw := hw.symm; subst hw)
                        | (go_at_call_of 53 (Value.int IntKind.i64 256); refine (ihas_0_256 _).mono ?_; rintro e wz ⟨rfl, hw⟩; replace hw := hw.symm; subst hw)
                        | (go_at_call 55; refine (bits_any _ _).mono ?_; rintro e wz ⟨rfl, hw⟩; replace hw := hw.symm; subst hw)
                        | (go_at_call 54; refine (HN.out _).mono ?_; rintro e w1 ⟨rfl, hb⟩; have H1 := hid (And.intro (H0.out.1.keep hb) (H0.out.2.trans (hb.mono H0.out.2.size))); clear hb y0 y1 y2 y3 y4 y5 y6 y7 y8 y9 y10 y11 y12 y13 y14 y15 y16; have y0 := H1.out.1.cell 0 _ rfl; have y1 := H1.out.1.cell 1 _ rfl; have y2 := H1.out.1.cell 2 _ rfl; have y3 := H1.out.1.cell 3 _ rfl; have y4 := H1.out.1.cell 4 _ rfl; have y5 := H1.out.1.cell 5 _ rfl; have y6 := H1.out.1.cell 6 _ rfl; have y7 := H1.out.1.cell 7 _ rfl; have y8 := H1.out.1.cell 8 _ rfl; have y9 := H1.out.1.cell 9 _ rfl; have y10 := H1.out.1.cell 10 _ rfl; have y11 := H1.out.1.cell 11 _ rfl; have y12 := H1.out.1.cell 12 _ rfl; have y13 := H1.out.1.cell 13 _ rfl; have y14 := H1.out.1.cell 14 _ rfl; have y15 := H1.out.1.cell 15 _ rfl; have y16 := H1.out.1.cell 16 _ rfl))
                      go_ret
                      exact ⟨by rw [hv.out]; rfl, H1.out.2⟩
set_option maxRecDepth 100000 in
set_option maxHeartbeats 6400000 in
theorem ionly_338 (m : Ms) (a13 a14 a15 a16 : Option Addr) (c13 c14 c15 c16 : Nat) (w : World) :
    Calls Try.prog 27 #[.agg #[.int .i64 m.k, .int .i64 m.ep, .int .i64 m.v, .int .i64 m.sl, .int .i64 m.rq.c, .int .i64 m.rq.st, .int .i64 m.rq.k, .string m.rq.key, .float .f64 m.rq.b, .int .i64 m.rq.id, .int .i64 m.rs.1, .float .f64 m.rs.2, .string m.tx, .slice a13 m.nx.length c13, .slice a14 m.sg.length c14, .slice a15 m.cg.length c15, .slice a16 m.ln.length c16], .int .i64 338] w fun e w' => e = .returned (.bool (onlyB m { s := true, t := true, g := true, l := true })) ∧ Below w.heap.size w w' := by
  have H0 : Hid (BxAt (w.alloc (.cells #[.int .i64 m.k, .int .i64 m.ep, .int .i64 m.v, .int .i64 m.sl, .int .i64 m.rq.c, .int .i64 m.rq.st, .int .i64 m.rq.k, .string m.rq.key, .float .f64 m.rq.b, .int .i64 m.rq.id, .int .i64 m.rs.1, .float .f64 m.rs.2, .string m.tx, .slice a13 m.nx.length c13, .slice a14 m.sg.length c14, .slice a15 m.cg.length c15, .slice a16 m.ln.length c16] 34)) w.heap.size [.int .i64 m.k, .int .i64 m.ep, .int .i64 m.v, .int .i64 m.sl, .int .i64 m.rq.c, .int .i64 m.rq.st, .int .i64 m.rq.k, .string m.rq.key, .float .f64 m.rq.b, .int .i64 m.rq.id, .int .i64 m.rs.1, .float .f64 m.rs.2, .string m.tx, .slice a13 m.nx.length c13, .slice a14 m.sg.length c14, .slice a15 m.cg.length c15, .slice a16 m.ln.length c16] 34 ∧ Below w.heap.size w (w.alloc (.cells #[.int .i64 m.k, .int .i64 m.ep, .int .i64 m.v, .int .i64 m.sl, .int .i64 m.rq.c, .int .i64 m.rq.st, .int .i64 m.rq.k, .string m.rq.key, .float .f64 m.rq.b, .int .i64 m.rq.id, .int .i64 m.rs.1, .float .f64 m.rs.2, .string m.tx, .slice a13 m.nx.length c13, .slice a14 m.sg.length c14, .slice a15 m.cg.length c15, .slice a16 m.ln.length c16] 34))) := hid ⟨heap_alloc_last w _, (Below.refl w.heap.size w).alloc (Nat.le_refl _) _⟩
  have y0 := H0.out.1.cell 0 _ rfl; have y1 := H0.out.1.cell 1 _ rfl; have y2 := H0.out.1.cell 2 _ rfl; have y3 := H0.out.1.cell 3 _ rfl; have y4 := H0.out.1.cell 4 _ rfl; have y5 := H0.out.1.cell 5 _ rfl; have y6 := H0.out.1.cell 6 _ rfl; have y7 := H0.out.1.cell 7 _ rfl; have y8 := H0.out.1.cell 8 _ rfl; have y9 := H0.out.1.cell 9 _ rfl; have y10 := H0.out.1.cell 10 _ rfl; have y11 := H0.out.1.cell 11 _ rfl; have y12 := H0.out.1.cell 12 _ rfl; have y13 := H0.out.1.cell 13 _ rfl; have y14 := H0.out.1.cell 14 _ rfl; have y15 := H0.out.1.cell 15 _ rfl; have y16 := H0.out.1.cell 16 _ rfl
  obtain ⟨V, eV⟩ : ∃ V, V = onlyB m { s := true, t := true, g := true, l := true } := ⟨_, rfl⟩
  rw [← eV]
  have HV : Hid (V = onlyB m { s := true, t := true, g := true, l := true }) := hid eV
  clear eV
  have HN : Hid (∀ u : World, Calls Try.prog 54 #[.agg #[.int .i64 m.rq.c, .int .i64 m.rq.st, .int .i64 m.rq.k, .string m.rq.key, .float .f64 m.rq.b, .int .i64 m.rq.id]] u fun e w' => e = .returned (.bool (nullB m.rq)) ∧ Below u.heap.size u w') := hid (fun u => dnull_any m.rq u)
  have ht := none_size m.tx
  cases e0 : decide (m.v = 0) with
  | false =>
    have f0 := of_decide_eq_false e0
    have b0 : (m.v == 0) = false := by rw [beq_eq_false_iff_ne]; omega
    clear f0
    have hv : Hid (V = false) := hid (by rw [HV.out, onlyB]; simp only [*]; rfl)
    go_enter Try.func27, Try.ntmps27
    simp only [List.append]
    go_wp2_with (first
      | (go_at_call_of 53 (Value.int IntKind.i64 1); refine (ihas_338_1 _).mono ?_; rintro e wz ⟨rfl, hw⟩; replace hw := hw.symm; subst hw)
      | (go_at_call_of 53 (Value.int IntKind.i64 2); refine (ihas_338_2 _).mono ?_; rintro e wz ⟨rfl, hw⟩; replace hw := hw.symm; subst hw)
      | (go_at_call_of 53 (Value.int IntKind.i64 4); refine (ihas_338_4 _).mono ?_; rintro e wz ⟨rfl, hw⟩; replace hw := hw.symm; subst hw)
      | (go_at_call_of 53 (Value.int IntKind.i64 8); refine (ihas_338_8 _).mono ?_; rintro e wz ⟨rfl, hw⟩; replace hw := hw.symm; subst hw)
      | (go_at_call_of 53 (Value.int IntKind.i64 16); refine (ihas_338_16 _).mono ?_; rintro e wz ⟨rfl, hw⟩; replace hw := hw.symm; subst hw)
      | (go_at_call_of 53 (Value.int IntKind.i64 32); refine (ihas_338_32 _).mono ?_; rintro e wz ⟨rfl, hw⟩; replace hw := hw.symm; subst hw)
      | (go_at_call_of 53 (Value.int IntKind.i64 64); refine (ihas_338_64 _).mono ?_; rintro e wz ⟨rfl, hw⟩; replace hw := hw.symm; subst hw)
      | (go_at_call_of 53 (Value.int IntKind.i64 128); refine (ihas_338_128 _).mono ?_; rintro e wz ⟨rfl, hw⟩; replace hw := hw.symm; subst hw)
      | (go_at_call_of 53 (Value.int IntKind.i64 256); refine (ihas_338_256 _).mono ?_; rintro e wz ⟨rfl, hw⟩; replace hw := hw.symm; subst hw)
      | (go_at_call 55; refine (bits_any _ _).mono ?_; rintro e wz ⟨rfl, hw⟩; replace hw := hw.symm; subst hw)
      | (go_at_call 54; refine (HN.out _).mono ?_; rintro e w1 ⟨rfl, hb⟩; have H1 := hid (And.intro (H0.out.1.keep hb) (H0.out.2.trans (hb.mono H0.out.2.size))); clear hb y0 y1 y2 y3 y4 y5 y6 y7 y8 y9 y10 y11 y12 y13 y14 y15 y16; have y0 := H1.out.1.cell 0 _ rfl; have y1 := H1.out.1.cell 1 _ rfl; have y2 := H1.out.1.cell 2 _ rfl; have y3 := H1.out.1.cell 3 _ rfl; have y4 := H1.out.1.cell 4 _ rfl; have y5 := H1.out.1.cell 5 _ rfl; have y6 := H1.out.1.cell 6 _ rfl; have y7 := H1.out.1.cell 7 _ rfl; have y8 := H1.out.1.cell 8 _ rfl; have y9 := H1.out.1.cell 9 _ rfl; have y10 := H1.out.1.cell 10 _ rfl; have y11 := H1.out.1.cell 11 _ rfl; have y12 := H1.out.1.cell 12 _ rfl; have y13 := H1.out.1.cell 13 _ rfl; have y14 := H1.out.1.cell 14 _ rfl; have y15 := H1.out.1.cell 15 _ rfl; have y16 := H1.out.1.cell 16 _ rfl))
    go_ret
    exact ⟨by rw [hv.out]; rfl, H0.out.2⟩
  | true =>
    have f0 := of_decide_eq_true e0
    have b0 : (m.v == 0) = true := by rw [beq_iff_eq]; omega
    clear f0
    cases e1 : nullB m.rq with
    | false =>
      rw [e1] at HN
      have hv : Hid (V = false) := hid (by rw [HV.out, onlyB]; simp only [*]; rfl)
      go_enter Try.func27, Try.ntmps27
      simp only [List.append]
      go_wp2_with (first
        | (go_at_call_of 53 (Value.int IntKind.i64 1); refine (ihas_338_1 _).mono ?_; rintro e wz ⟨rfl, hw⟩; replace hw := hw.symm; subst hw)
        | (go_at_call_of 53 (Value.int IntKind.i64 2); refine (ihas_338_2 _).mono ?_; rintro e wz ⟨rfl, hw⟩; replace hw := hw.symm; subst hw)
        | (go_at_call_of 53 (Value.int IntKind.i64 4); refine (ihas_338_4 _).mono ?_; rintro e wz ⟨rfl, hw⟩; replace hw := hw.symm; subst hw)
        | (go_at_call_of 53 (Value.int IntKind.i64 8); refine (ihas_338_8 _).mono ?_; rintro e wz ⟨rfl, hw⟩; replace hw := hw.symm; subst hw)
        | (go_at_call_of 53 (Value.int IntKind.i64 16); refine (ihas_338_16 _).mono ?_; rintro e wz ⟨rfl, hw⟩; replace hw := hw.symm; subst hw)
        | (go_at_call_of 53 (Value.int IntKind.i64 32); refine (ihas_338_32 _).mono ?_; rintro e wz ⟨rfl, hw⟩; replace hw := hw.symm; subst hw)
        | (go_at_call_of 53 (Value.int IntKind.i64 64); refine (ihas_338_64 _).mono ?_; rintro e wz ⟨rfl, hw⟩; replace hw := hw.symm; subst hw)
        | (go_at_call_of 53 (Value.int IntKind.i64 128); refine (ihas_338_128 _).mono ?_; rintro e wz ⟨rfl, hw⟩; replace hw := hw.symm; subst hw)
        | (go_at_call_of 53 (Value.int IntKind.i64 256); refine (ihas_338_256 _).mono ?_; rintro e wz ⟨rfl, hw⟩; replace hw := hw.symm; subst hw)
        | (go_at_call 55; refine (bits_any _ _).mono ?_; rintro e wz ⟨rfl, hw⟩; replace hw := hw.symm; subst hw)
        | (go_at_call 54; refine (HN.out _).mono ?_; rintro e w1 ⟨rfl, hb⟩; have H1 := hid (And.intro (H0.out.1.keep hb) (H0.out.2.trans (hb.mono H0.out.2.size))); clear hb y0 y1 y2 y3 y4 y5 y6 y7 y8 y9 y10 y11 y12 y13 y14 y15 y16; have y0 := H1.out.1.cell 0 _ rfl; have y1 := H1.out.1.cell 1 _ rfl; have y2 := H1.out.1.cell 2 _ rfl; have y3 := H1.out.1.cell 3 _ rfl; have y4 := H1.out.1.cell 4 _ rfl; have y5 := H1.out.1.cell 5 _ rfl; have y6 := H1.out.1.cell 6 _ rfl; have y7 := H1.out.1.cell 7 _ rfl; have y8 := H1.out.1.cell 8 _ rfl; have y9 := H1.out.1.cell 9 _ rfl; have y10 := H1.out.1.cell 10 _ rfl; have y11 := H1.out.1.cell 11 _ rfl; have y12 := H1.out.1.cell 12 _ rfl; have y13 := H1.out.1.cell 13 _ rfl; have y14 := H1.out.1.cell 14 _ rfl; have y15 := H1.out.1.cell 15 _ rfl; have y16 := H1.out.1.cell 16 _ rfl))
      go_ret
      exact ⟨by rw [hv.out]; rfl, H1.out.2⟩
    | true =>
      rw [e1] at HN
      cases e2 : decide (m.rs.1 = 0) with
      | false =>
        have f2 := of_decide_eq_false e2
        have b2 : (m.rs.1 == 0) = false := by rw [beq_eq_false_iff_ne]; omega
        clear f2
        have hv : Hid (V = false) := hid (by rw [HV.out, onlyB]; simp only [*]; rfl)
        go_enter Try.func27, Try.ntmps27
        simp only [List.append]
        go_wp2_with (first
          | (go_at_call_of 53 (Value.int IntKind.i64 1); refine (ihas_338_1 _).mono ?_; rintro e wz ⟨rfl, hw⟩; replace hw := hw.symm; subst hw)
          | (go_at_call_of 53 (Value.int IntKind.i64 2); refine (ihas_338_2 _).mono ?_; rintro e wz ⟨rfl, hw⟩; replace hw := hw.symm; subst hw)
          | (go_at_call_of 53 (Value.int IntKind.i64 4); refine (ihas_338_4 _).mono ?_; rintro e wz ⟨rfl, hw⟩; replace hw := hw.symm; subst hw)
          | (go_at_call_of 53 (Value.int IntKind.i64 8); refine (ihas_338_8 _).mono ?_; rintro e wz ⟨rfl, hw⟩; replace hw := hw.symm; subst hw)
          | (go_at_call_of 53 (Value.int IntKind.i64 16); refine (ihas_338_16 _).mono ?_; rintro e wz ⟨rfl, hw⟩; replace hw := hw.symm; subst hw)
          | (go_at_call_of 53 (Value.int IntKind.i64 32); refine (ihas_338_32 _).mono ?_; rintro e wz ⟨rfl, hw⟩; replace hw := hw.symm; subst hw)
          | (go_at_call_of 53 (Value.int IntKind.i64 64); refine (ihas_338_64 _).mono ?_; rintro e wz ⟨rfl, hw⟩; replace hw := hw.symm; subst hw)
          | (go_at_call_of 53 (Value.int IntKind.i64 128); refine (ihas_338_128 _).mono ?_; rintro e wz ⟨rfl, hw⟩; replace hw := hw.symm; subst hw)
          | (go_at_call_of 53 (Value.int IntKind.i64 256); refine (ihas_338_256 _).mono ?_; rintro e wz ⟨rfl, hw⟩; replace hw := hw.symm; subst hw)
          | (go_at_call 55; refine (bits_any _ _).mono ?_; rintro e wz ⟨rfl, hw⟩; replace hw := hw.symm; subst hw)
          | (go_at_call 54; refine (HN.out _).mono ?_; rintro e w1 ⟨rfl, hb⟩; have H1 := hid (And.intro (H0.out.1.keep hb) (H0.out.2.trans (hb.mono H0.out.2.size))); clear hb y0 y1 y2 y3 y4 y5 y6 y7 y8 y9 y10 y11 y12 y13 y14 y15 y16; have y0 := H1.out.1.cell 0 _ rfl; have y1 := H1.out.1.cell 1 _ rfl; have y2 := H1.out.1.cell 2 _ rfl; have y3 := H1.out.1.cell 3 _ rfl; have y4 := H1.out.1.cell 4 _ rfl; have y5 := H1.out.1.cell 5 _ rfl; have y6 := H1.out.1.cell 6 _ rfl; have y7 := H1.out.1.cell 7 _ rfl; have y8 := H1.out.1.cell 8 _ rfl; have y9 := H1.out.1.cell 9 _ rfl; have y10 := H1.out.1.cell 10 _ rfl; have y11 := H1.out.1.cell 11 _ rfl; have y12 := H1.out.1.cell 12 _ rfl; have y13 := H1.out.1.cell 13 _ rfl; have y14 := H1.out.1.cell 14 _ rfl; have y15 := H1.out.1.cell 15 _ rfl; have y16 := H1.out.1.cell 16 _ rfl))
        go_ret
        exact ⟨by rw [hv.out]; rfl, H1.out.2⟩
      | true =>
        have f2 := of_decide_eq_true e2
        have b2 : (m.rs.1 == 0) = true := by rw [beq_iff_eq]; omega
        clear f2
        cases e3 : decide (canW m.rs.2 = 0) with
        | false =>
          have f3 := of_decide_eq_false e3
          have b3 : (((canW m.rs.2 : Nat) : Int) == 0) = false := by rw [beq_eq_false_iff_ne]; omega
          clear f3
          have hv : Hid (V = false) := hid (by rw [HV.out, onlyB]; simp only [*]; rfl)
          go_enter Try.func27, Try.ntmps27
          simp only [List.append]
          go_wp2_with (first
            | (go_at_call_of 53 (Value.int IntKind.i64 1); refine (ihas_338_1 _).mono ?_; rintro e wz ⟨rfl, hw⟩; replace hw := hw.symm; subst hw)
            | (go_at_call_of 53 (Value.int IntKind.i64 2); refine (ihas_338_2 _).mono ?_; rintro e wz ⟨rfl, hw⟩; replace hw := hw.symm; subst hw)
            | (go_at_call_of 53 (Value.int IntKind.i64 4); refine (ihas_338_4 _).mono ?_; rintro e wz ⟨rfl, hw⟩; replace hw := hw.symm; subst hw)
            | (go_at_call_of 53 (Value.int IntKind.i64 8); refine (ihas_338_8 _).mono ?_; rintro e wz ⟨rfl, hw⟩; replace hw := hw.symm; subst hw)
            | (go_at_call_of 53 (Value.int IntKind.i64 16); refine (ihas_338_16 _).mono ?_; rintro e wz ⟨rfl, hw⟩; replace hw := hw.symm; subst hw)
            | (go_at_call_of 53 (Value.int IntKind.i64 32); refine (ihas_338_32 _).mono ?_; rintro e wz ⟨rfl, hw⟩; replace hw := hw.symm; subst hw)
            | (go_at_call_of 53 (Value.int IntKind.i64 64); refine (ihas_338_64 _).mono ?_; rintro e wz ⟨rfl, hw⟩; replace hw := hw.symm; subst hw)
            | (go_at_call_of 53 (Value.int IntKind.i64 128); refine (ihas_338_128 _).mono ?_; rintro e wz ⟨rfl, hw⟩; replace hw := hw.symm; subst hw)
            | (go_at_call_of 53 (Value.int IntKind.i64 256); refine (ihas_338_256 _).mono ?_; rintro e wz ⟨rfl, hw⟩; replace hw := hw.symm; subst hw)
            | (go_at_call 55; refine (bits_any _ _).mono ?_; rintro e wz ⟨rfl, hw⟩; replace hw := hw.symm; subst hw)
            | (go_at_call 54; refine (HN.out _).mono ?_; rintro e w1 ⟨rfl, hb⟩; have H1 := hid (And.intro (H0.out.1.keep hb) (H0.out.2.trans (hb.mono H0.out.2.size))); clear hb y0 y1 y2 y3 y4 y5 y6 y7 y8 y9 y10 y11 y12 y13 y14 y15 y16; have y0 := H1.out.1.cell 0 _ rfl; have y1 := H1.out.1.cell 1 _ rfl; have y2 := H1.out.1.cell 2 _ rfl; have y3 := H1.out.1.cell 3 _ rfl; have y4 := H1.out.1.cell 4 _ rfl; have y5 := H1.out.1.cell 5 _ rfl; have y6 := H1.out.1.cell 6 _ rfl; have y7 := H1.out.1.cell 7 _ rfl; have y8 := H1.out.1.cell 8 _ rfl; have y9 := H1.out.1.cell 9 _ rfl; have y10 := H1.out.1.cell 10 _ rfl; have y11 := H1.out.1.cell 11 _ rfl; have y12 := H1.out.1.cell 12 _ rfl; have y13 := H1.out.1.cell 13 _ rfl; have y14 := H1.out.1.cell 14 _ rfl; have y15 := H1.out.1.cell 15 _ rfl; have y16 := H1.out.1.cell 16 _ rfl))
          go_ret
          exact ⟨by rw [hv.out]; rfl, H1.out.2⟩
        | true =>
          have f3 := of_decide_eq_true e3
          have b3 : (((canW m.rs.2 : Nat) : Int) == 0) = true := by rw [beq_iff_eq]; omega
          clear f3
          cases e4 : decide (m.nx.length = 0) with
          | false =>
            have f4 := of_decide_eq_false e4
            have b4 : ((m.nx.length : Int) == 0) = false := by rw [beq_eq_false_iff_ne]; omega
            clear f4
            have hv : Hid (V = false) := hid (by rw [HV.out, onlyB]; simp only [*]; rfl)
            go_enter Try.func27, Try.ntmps27
            simp only [List.append]
            go_wp2_with (first
              | (go_at_call_of 53 (Value.int IntKind.i64 1); refine (ihas_338_1 _).mono ?_; rintro e wz ⟨rfl, hw⟩; replace hw := hw.symm; subst hw)
              | (go_at_call_of 53 (Value.int IntKind.i64 2); refine (ihas_338_2 _).mono ?_; rintro e wz ⟨rfl, hw⟩; replace hw := hw.symm; subst hw)
              | (go_at_call_of 53 (Value.int IntKind.i64 4); refine (ihas_338_4 _).mono ?_; rintro e wz ⟨rfl, hw⟩; replace hw := hw.symm; subst hw)
              | (go_at_call_of 53 (Value.int IntKind.i64 8); refine (ihas_338_8 _).mono ?_; rintro e wz ⟨rfl, hw⟩; replace hw := hw.symm; subst hw)
              | (go_at_call_of 53 (Value.int IntKind.i64 16); refine (ihas_338_16 _).mono ?_; rintro e wz ⟨rfl, hw⟩; replace hw := hw.symm; subst hw)
              | (go_at_call_of 53 (Value.int IntKind.i64 32); refine (ihas_338_32 _).mono ?_; rintro e wz ⟨rfl, hw⟩; replace hw := hw.symm; subst hw)
              | (go_at_call_of 53 (Value.int IntKind.i64 64); refine (ihas_338_64 _).mono ?_; rintro e wz ⟨rfl, hw⟩; replace hw := hw.symm; subst hw)
              | (go_at_call_of 53 (Value.int IntKind.i64 128); refine (ihas_338_128 _).mono ?_; rintro e wz ⟨rfl, hw⟩; replace hw := hw.symm; subst hw)
              | (go_at_call_of 53 (Value.int IntKind.i64 256); refine (ihas_338_256 _).mono ?_; rintro e wz ⟨rfl, hw⟩; replace hw := hw.symm; subst hw)
              | (go_at_call 55; refine (bits_any _ _).mono ?_; rintro e wz ⟨rfl, hw⟩; replace hw := hw.symm; subst hw)
              | (go_at_call 54; refine (HN.out _).mono ?_; rintro e w1 ⟨rfl, hb⟩; have H1 := hid (And.intro (H0.out.1.keep hb) (H0.out.2.trans (hb.mono H0.out.2.size))); clear hb y0 y1 y2 y3 y4 y5 y6 y7 y8 y9 y10 y11 y12 y13 y14 y15 y16; have y0 := H1.out.1.cell 0 _ rfl; have y1 := H1.out.1.cell 1 _ rfl; have y2 := H1.out.1.cell 2 _ rfl; have y3 := H1.out.1.cell 3 _ rfl; have y4 := H1.out.1.cell 4 _ rfl; have y5 := H1.out.1.cell 5 _ rfl; have y6 := H1.out.1.cell 6 _ rfl; have y7 := H1.out.1.cell 7 _ rfl; have y8 := H1.out.1.cell 8 _ rfl; have y9 := H1.out.1.cell 9 _ rfl; have y10 := H1.out.1.cell 10 _ rfl; have y11 := H1.out.1.cell 11 _ rfl; have y12 := H1.out.1.cell 12 _ rfl; have y13 := H1.out.1.cell 13 _ rfl; have y14 := H1.out.1.cell 14 _ rfl; have y15 := H1.out.1.cell 15 _ rfl; have y16 := H1.out.1.cell 16 _ rfl))
            go_ret
            exact ⟨by rw [hv.out]; rfl, H1.out.2⟩
          | true =>
            have f4 := of_decide_eq_true e4
            have b4 : ((m.nx.length : Int) == 0) = true := by rw [beq_iff_eq]; omega
            clear f4
            cases e5 : decide (m.cg.length = 0) with
            | false =>
              have f5 := of_decide_eq_false e5
              have b5 : ((m.cg.length : Int) == 0) = false := by rw [beq_eq_false_iff_ne]; omega
              clear f5
              have hv : Hid (V = false) := hid (by rw [HV.out, onlyB]; simp only [*]; rfl)
              go_enter Try.func27, Try.ntmps27
              simp only [List.append]
              go_wp2_with (first
                | (go_at_call_of 53 (Value.int IntKind.i64 1); refine (ihas_338_1 _).mono ?_; rintro e wz ⟨rfl, hw⟩; replace hw := hw.symm; subst hw)
                | (go_at_call_of 53 (Value.int IntKind.i64 2); refine (ihas_338_2 _).mono ?_; rintro e wz ⟨rfl, hw⟩; replace hw := hw.symm; subst hw)
                | (go_at_call_of 53 (Value.int IntKind.i64 4); refine (ihas_338_4 _).mono ?_; rintro e wz ⟨rfl, hw⟩; replace hw := hw.symm; subst hw)
                | (go_at_call_of 53 (Value.int IntKind.i64 8); refine (ihas_338_8 _).mono ?_; rintro e wz ⟨rfl, hw⟩; replace hw := hw.symm; subst hw)
                | (go_at_call_of 53 (Value.int IntKind.i64 16); refine (ihas_338_16 _).mono ?_; rintro e wz ⟨rfl, hw⟩; replace hw := hw.symm; subst hw)
                | (go_at_call_of 53 (Value.int IntKind.i64 32); refine (ihas_338_32 _).mono ?_; rintro e wz ⟨rfl, hw⟩; replace hw := hw.symm; subst hw)
                | (go_at_call_of 53 (Value.int IntKind.i64 64); refine (ihas_338_64 _).mono ?_; rintro e wz ⟨rfl, hw⟩; replace hw := hw.symm; subst hw)
                | (go_at_call_of 53 (Value.int IntKind.i64 128); refine (ihas_338_128 _).mono ?_; rintro e wz ⟨rfl, hw⟩; replace hw := hw.symm; subst hw)
                | (go_at_call_of 53 (Value.int IntKind.i64 256); refine (ihas_338_256 _).mono ?_; rintro e wz ⟨rfl, hw⟩; replace hw := hw.symm; subst hw)
                | (go_at_call 55; refine (bits_any _ _).mono ?_; rintro e wz ⟨rfl, hw⟩; replace hw := hw.symm; subst hw)
                | (go_at_call 54; refine (HN.out _).mono ?_; rintro e w1 ⟨rfl, hb⟩; have H1 := hid (And.intro (H0.out.1.keep hb) (H0.out.2.trans (hb.mono H0.out.2.size))); clear hb y0 y1 y2 y3 y4 y5 y6 y7 y8 y9 y10 y11 y12 y13 y14 y15 y16; have y0 := H1.out.1.cell 0 _ rfl; have y1 := H1.out.1.cell 1 _ rfl; have y2 := H1.out.1.cell 2 _ rfl; have y3 := H1.out.1.cell 3 _ rfl; have y4 := H1.out.1.cell 4 _ rfl; have y5 := H1.out.1.cell 5 _ rfl; have y6 := H1.out.1.cell 6 _ rfl; have y7 := H1.out.1.cell 7 _ rfl; have y8 := H1.out.1.cell 8 _ rfl; have y9 := H1.out.1.cell 9 _ rfl; have y10 := H1.out.1.cell 10 _ rfl; have y11 := H1.out.1.cell 11 _ rfl; have y12 := H1.out.1.cell 12 _ rfl; have y13 := H1.out.1.cell 13 _ rfl; have y14 := H1.out.1.cell 14 _ rfl; have y15 := H1.out.1.cell 15 _ rfl; have y16 := H1.out.1.cell 16 _ rfl))
              go_ret
              exact ⟨by rw [hv.out]; rfl, H1.out.2⟩
            | true =>
              have f5 := of_decide_eq_true e5
              have b5 : ((m.cg.length : Int) == 0) = true := by rw [beq_iff_eq]; omega
              clear f5
              have hv : Hid (V = true) := hid (by rw [HV.out, onlyB]; simp only [*]; rfl)
              go_enter Try.func27, Try.ntmps27
              simp only [List.append]
              go_wp2_with (first
                | (go_at_call_of 53 (Value.int IntKind.i64 1); refine (ihas_338_1 _).mono ?_; rintro e wz ⟨rfl, hw⟩; replace hw := hw.symm; subst hw)
                | (go_at_call_of 53 (Value.int IntKind.i64 2); refine (ihas_338_2 _).mono ?_; rintro e wz ⟨rfl, hw⟩; replace hw := hw.symm; subst hw)
                | (go_at_call_of 53 (Value.int IntKind.i64 4); refine (ihas_338_4 _).mono ?_; rintro e wz ⟨rfl, hw⟩; replace hw := hw.symm; subst hw)
                | (go_at_call_of 53 (Value.int IntKind.i64 8); refine (ihas_338_8 _).mono ?_; rintro e wz ⟨rfl, hw⟩; replace hw := hw.symm; subst hw)
                | (go_at_call_of 53 (Value.int IntKind.i64 16); refine (ihas_338_16 _).mono ?_; rintro e wz ⟨rfl, hw⟩; replace hw := hw.symm; subst hw)
                | (go_at_call_of 53 (Value.int IntKind.i64 32); refine (ihas_338_32 _).mono ?_; rintro e wz ⟨rfl, hw⟩; replace hw := hw.symm; subst hw)
                | (go_at_call_of 53 (Value.int IntKind.i64 64); refine (ihas_338_64 _).mono ?_; rintro e wz ⟨rfl, hw⟩; replace hw := hw.symm; subst hw)
                | (go_at_call_of 53 (Value.int IntKind.i64 128); refine (ihas_338_128 _).mono ?_; rintro e wz ⟨rfl, hw⟩; replace hw := hw.symm; subst hw)
                | (go_at_call_of 53 (Value.int IntKind.i64 256); refine (ihas_338_256 _).mono ?_; rintro e wz ⟨rfl, hw⟩; replace hw := hw.symm; subst hw)
                | (go_at_call 55; refine (bits_any _ _).mono ?_; rintro e wz ⟨rfl, hw⟩; replace hw := hw.symm; subst hw)
                | (go_at_call 54; refine (HN.out _).mono ?_; rintro e w1 ⟨rfl, hb⟩; have H1 := hid (And.intro (H0.out.1.keep hb) (H0.out.2.trans (hb.mono H0.out.2.size))); clear hb y0 y1 y2 y3 y4 y5 y6 y7 y8 y9 y10 y11 y12 y13 y14 y15 y16; have y0 := H1.out.1.cell 0 _ rfl; have y1 := H1.out.1.cell 1 _ rfl; have y2 := H1.out.1.cell 2 _ rfl; have y3 := H1.out.1.cell 3 _ rfl; have y4 := H1.out.1.cell 4 _ rfl; have y5 := H1.out.1.cell 5 _ rfl; have y6 := H1.out.1.cell 6 _ rfl; have y7 := H1.out.1.cell 7 _ rfl; have y8 := H1.out.1.cell 8 _ rfl; have y9 := H1.out.1.cell 9 _ rfl; have y10 := H1.out.1.cell 10 _ rfl; have y11 := H1.out.1.cell 11 _ rfl; have y12 := H1.out.1.cell 12 _ rfl; have y13 := H1.out.1.cell 13 _ rfl; have y14 := H1.out.1.cell 14 _ rfl; have y15 := H1.out.1.cell 15 _ rfl; have y16 := H1.out.1.cell 16 _ rfl))
              go_ret
              exact ⟨by rw [hv.out]; rfl, H1.out.2⟩
end Go.Proofs.Ytepcdbmdfpaomaa
