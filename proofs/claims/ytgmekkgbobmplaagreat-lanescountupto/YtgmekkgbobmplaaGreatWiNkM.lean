/- The program's test of messages, kind by kind. -/
import Derived.Test.YtgmekkgbobmplaaGreatWiNfM
import Derived.Test.YtgmekkgbobmplaaGreatWiNiM
import Derived.Test.YtgmekkgbobmplaaGreatWiNlM
import Derived.Test.YtgmekkgbobmplaaGreatWiNjM
namespace Go.Proofs.YtgmekkgbobmplaaGreat
open Go.RowKit
set_option maxRecDepth 100000 in
set_option maxHeartbeats 6400000 in
theorem ifits_10_6 {F : Nat → Prop} {w : World} {m : Ms} {a13 a14 a15 a16 : Option Addr} {c13 c14 c15 c16 : Nat} (h : Fx F w m a13 a14 a15 a16 c13 c14 c15 c16) (hk : m.k = 10) (t1 : (onlyB m { s := true, t := true, g := true, l := true }) = true) (t2 : (decide (1 ≤ m.ep)) = true) (t3 : (decide (m.sl = 4 * m.ep)) = true) (t4 : (!decide (m.tx.size = 0)) = true) (t5 : (decide ((m.ln.length : Int) = m.ep) && lnsB m.ln) = true) (t6 : (sigsB m.sg) = true) : Fit w m a13 a14 a15 a16 c13 c14 c15 c16 true := by
  obtain ⟨wa, HA, hw0, hx⟩ := msA_new m a13 a14 a15 a16 c13 c14 c15 c16 48 w
  have H0 := hid (And.intro hx (Below.refl wa.heap.size wa))
  clear hx
  have HW : Hid (inB m.ep 0 60 = true) := hid (by rw [inB, decide_eq_true h.h0, decide_eq_true h.h1]; rfl)
  have q1 := q_no (n := 1) hk (by decide); have q2 := q_no (n := 2) hk (by decide); have q3 := q_no (n := 3) hk (by decide); have q4 := q_no (n := 4) hk (by decide); have q5 := q_no (n := 5) hk (by decide); have q6 := q_no (n := 6) hk (by decide); have q7 := q_no (n := 7) hk (by decide); have q8 := q_no (n := 8) hk (by decide); have q9 := q_no (n := 9) hk (by decide); have q10 := q_yes hk
  have HT1 := hid ((tOnly338 h t1).up hw0)
  have h9 : 1 ≤ m.ep := of_decide_eq_true t2
  have b2 : decide (m.ep ≥ 1) = true := decide_eq_true h9
  have b3 : (m.sl == 4 * m.ep) = true := by rw [beq_iff_eq]; exact of_decide_eq_true t3
  have ht := none_size m.tx
  rw [show decide (m.tx.size = 0) = false by simpa using t4] at ht
  have HT5 := hid ((tLinks h t5).up hw0)
  have HT6 := hid ((tFit h t6).up hw0)
  have HX := hid (show Tst wa 107 #[.int .i64 (m.ep - 1)] (.int .i64 (4 * m.ep)) by have := tEnd (m.ep - 1) (by omega) (by have := h.h1; omega) wa; rwa [show m.ep - 1 + 1 = m.ep by omega] at this)
  have hwp : IntKind.i64.wrap (m.ep - 1) = m.ep - 1 := by exact wrap_small (m.ep - 1) (by omega) (by have := h.h1; omega)
  have HW0 := hid hw0
  clear t1 t2 t3 t4 t5 t6 h hk hw0
  unfold Fit msA
  simp only [msA] at HA
  replace HA := hid HA
  go_enter Tryz.func65, Tryz.ntmps65
  try simp only [List.append]
  go_upto_region 1 with fail
  rw [HA.out]
  obtain ⟨y0, y1, y2, y3, y4, y5, y6, y7, y8, y9, y10, y11, y12, y13, y14, y15, y16⟩ := msA_at H0.out.1
  go_wp2_with (go_at_call 100; refine (iwithin_any _ _ _ _).mono ?_; rintro e w1 ⟨rfl, hw⟩; rw [HW.out]; replace hw := hw.symm; subst hw)
  clear y0 y1 y2 y3 y4 y5 y6 y7 y8 y9 y10 y11 y12 y13 y14 y15 y16
  go_simp
  obtain ⟨d0, d1, d2, d3, d4, d5, d6, d7, d8, d9, d10, d11, d12, d13, d14, d15, d16⟩ := msA_all H0.out.1
  haveI := Cls.ne wa
  refine wp_region_cls wa (by kernel_rfl) (by kernel_rfl) ?_
  iterate 22 (go_big_quiet_step ((first
    | (go_at_call 101; exact Cls.of _ (fun u hu => HT1.out u hu))
    | (go_at_call 111; exact Cls.of _ (fun u hu => HT5.out u hu))
    | (go_at_call 112; exact Cls.of _ (fun u hu => HT6.out u hu))
    | (go_at_call 107; exact Cls.of _ (fun u hu => HX.out u hu)))))
  as_aux_lemma =>
    repeat (go_big_quiet_step ((first
      | (go_at_call 101; exact Cls.of _ (fun u hu => HT1.out u hu))
      | (go_at_call 111; exact Cls.of _ (fun u hu => HT5.out u hu))
      | (go_at_call 112; exact Cls.of _ (fun u hu => HT6.out u hu))
      | (go_at_call 107; exact Cls.of _ (fun u hu => HX.out u hu)))))
    refine wpQuiet_nil ?_
    rintro _ ⟨x, rfl⟩
    go_wp2
    go_ret
    exact ⟨by simp, HW0.out.trans (x.2.mono HW0.out.size)⟩
theorem ifits_10 {F : Nat → Prop} {w : World} {m : Ms} {a13 a14 a15 a16 : Option Addr} {c13 c14 c15 c16 : Nat} (h : Fx F w m a13 a14 a15 a16 c13 c14 c15 c16) (hk : m.k = 10) : Fit w m a13 a14 a15 a16 c13 c14 c15 c16 (kindB m) := by
  have hV : kindB m = ((onlyB m { s := true, t := true, g := true, l := true }) && ((decide (1 ≤ m.ep)) && ((decide (m.sl = 4 * m.ep)) && ((!decide (m.tx.size = 0)) && ((decide ((m.ln.length : Int) = m.ep) && lnsB m.ln) && ((sigsB m.sg))))))) := by
    unfold kindB
    rw [if_neg (by rw [hk]; decide)]; rw [if_neg (by rw [hk]; decide)]; rw [if_neg (by rw [hk]; decide)]; rw [if_neg (by rw [hk]; decide)]; rw [if_neg (by rw [hk]; decide)]; rw [if_neg (by rw [hk]; decide)]; rw [if_neg (by rw [hk]; decide)]; rw [if_neg (by rw [hk]; decide)]; rw [if_neg (by rw [hk]; decide)]; rw [if_pos hk]
  cases t1 : (onlyB m { s := true, t := true, g := true, l := true }) with
  | false =>
   rw [show kindB m = false by rw [hV, t1] <;> rfl]
   exact ifits_10_0 h hk t1
  | true =>
   cases t2 : (decide (1 ≤ m.ep)) with
   | false =>
    rw [show kindB m = false by rw [hV, t1, t2] <;> rfl]
    exact ifits_10_1 h hk t1 t2
   | true =>
    cases t3 : (decide (m.sl = 4 * m.ep)) with
    | false =>
     rw [show kindB m = false by rw [hV, t1, t2, t3] <;> rfl]
     exact ifits_10_2 h hk t1 t2 t3
    | true =>
     cases t4 : (!decide (m.tx.size = 0)) with
     | false =>
      rw [show kindB m = false by rw [hV, t1, t2, t3, t4] <;> rfl]
      exact ifits_10_3 h hk t1 t2 t3 t4
     | true =>
      cases t5 : (decide ((m.ln.length : Int) = m.ep) && lnsB m.ln) with
      | false =>
       rw [show kindB m = false by rw [hV, t1, t2, t3, t4, t5] <;> rfl]
       exact ifits_10_4 h hk t1 t2 t3 t4 t5
      | true =>
       cases t6 : (sigsB m.sg) with
       | false =>
        rw [show kindB m = false by rw [hV, t1, t2, t3, t4, t5, t6] <;> rfl]
        exact ifits_10_5 h hk t1 t2 t3 t4 t5 t6
       | true =>
        rw [show kindB m = true by rw [hV, t1, t2, t3, t4, t5, t6] <;> rfl]
        exact ifits_10_6 h hk t1 t2 t3 t4 t5 t6
end Go.Proofs.YtgmekkgbobmplaaGreat
