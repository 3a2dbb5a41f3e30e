/- The program's test of messages, kind by kind. -/
import Derived.Test.YtoepppkadpjonaaGreatNb12
namespace Go.Proofs.YtoepppkadpjonaaGreat
set_option maxRecDepth 100000
open Go.RowKit
set_option maxHeartbeats 6400000 in
theorem ifits_2_0 {F : Nat → Prop} {w : World} {m : Ms} {a13 a14 a15 a16 : Option Addr} {c13 c14 c15 c16 : Nat} (h : Fx F w m a13 a14 a15 a16 c13 c14 c15 c16) (hk : m.k = 2) (K : Nat) (eK : K = if nullB m.rq then 0 else 1) (t1 : (onlyB m { v := true, s := true, r := true, g := true }) = false) : Fit w m a13 a14 a15 a16 c13 c14 c15 c16 false := by
 obtain ⟨wa, HA, hw0, hx⟩ := msA_new m a13 a14 a15 a16 c13 c14 c15 c16 48 w
 have H0 := hid (And.intro hx (Below.refl wa.heap.size wa))
 clear hx
 have HW : Hid (inB m.ep 0 60 = true) := hid (by rw [inB, decide_eq_true h.h0, decide_eq_true h.h1]; rfl)
 have q1 := q_no (n := 1) hk (by decide); have q2 := q_yes hk
 have HT1 := hid ((tOnly71 h t1).up hw0)
 have HX := hid (tAsk m.rq K eK wa)
 have HW0 := hid hw0
 clear t1 h hk hw0 eK
 unfold Fit msA
 simp only [msA] at HA
 replace HA := hid HA
 go_enter Tryz.func135, Tryz.ntmps135
 try simp only [List.append]
 go_upto_region 1 with fail
 rw [HA.out]
 obtain ⟨y0, y1, y2, y3, y4, y5, y6, y7, y8, y9, y10, y11, y12, y13, y14, y15, y16⟩ := msA_at H0.out.1
 go_wp2_with (go_at_call 160; refine (iwithin_any _ _ _ _).mono ?_; rintro e w1 ⟨rfl, hw⟩; rw [HW.out]; replace hw := hw.symm; subst hw)
 clear y0 y1 y2 y3 y4 y5 y6 y7 y8 y9 y10 y11 y12 y13 y14 y15 y16
 go_simp
 obtain ⟨d0, d1, d2, d3, d4, d5, d6, d7, d8, d9, d10, d11, d12, d13, d14, d15, d16⟩ := msA_all H0.out.1
 haveI := Cls.ne wa
 refine wp_region_cls wa (by kernel_rfl) (by kernel_rfl) ?_
 iterate 9 (go_big_quiet_step ((first
   | (go_at_call 161; exact Cls.of _ (fun u hu => HT1.out u hu))
   | (go_at_call 165; exact Cls.of _ (fun u hu => HX.out u hu)))))
 as_aux_lemma =>
   repeat (go_big_quiet_step ((first
     | (go_at_call 161; exact Cls.of _ (fun u hu => HT1.out u hu))
     | (go_at_call 165; exact Cls.of _ (fun u hu => HX.out u hu)))))
   refine wpQuiet_nil ?_
   rintro _ ⟨x, rfl⟩
   go_wp2
   go_ret
   exact ⟨by simp, HW0.out.trans (x.2.mono HW0.out.size)⟩
set_option maxHeartbeats 6400000 in
theorem ifits_2_1 {F : Nat → Prop} {w : World} {m : Ms} {a13 a14 a15 a16 : Option Addr} {c13 c14 c15 c16 : Nat} (h : Fx F w m a13 a14 a15 a16 c13 c14 c15 c16) (hk : m.k = 2) (K : Nat) (eK : K = if nullB m.rq then 0 else 1) (t1 : (onlyB m { v := true, s := true, r := true, g := true }) = true) (t2 : (placeB m) = false) : Fit w m a13 a14 a15 a16 c13 c14 c15 c16 false := by
 obtain ⟨wa, HA, hw0, hx⟩ := msA_new m a13 a14 a15 a16 c13 c14 c15 c16 48 w
 have H0 := hid (And.intro hx (Below.refl wa.heap.size wa))
 clear hx
 have HW : Hid (inB m.ep 0 60 = true) := hid (by rw [inB, decide_eq_true h.h0, decide_eq_true h.h1]; rfl)
 have q1 := q_no (n := 1) hk (by decide); have q2 := q_yes hk
 have HT1 := hid ((tOnly71 h t1).up hw0)
 have HT2 := hid ((tPlaced h t2).up hw0)
 have HX := hid (tAsk m.rq K eK wa)
 have HW0 := hid hw0
 clear t1 t2 h hk hw0 eK
 unfold Fit msA
 simp only [msA] at HA
 replace HA := hid HA
 go_enter Tryz.func135, Tryz.ntmps135
 try simp only [List.append]
 go_upto_region 1 with fail
 rw [HA.out]
 obtain ⟨y0, y1, y2, y3, y4, y5, y6, y7, y8, y9, y10, y11, y12, y13, y14, y15, y16⟩ := msA_at H0.out.1
 go_wp2_with (go_at_call 160; refine (iwithin_any _ _ _ _).mono ?_; rintro e w1 ⟨rfl, hw⟩; rw [HW.out]; replace hw := hw.symm; subst hw)
 clear y0 y1 y2 y3 y4 y5 y6 y7 y8 y9 y10 y11 y12 y13 y14 y15 y16
 go_simp
 obtain ⟨d0, d1, d2, d3, d4, d5, d6, d7, d8, d9, d10, d11, d12, d13, d14, d15, d16⟩ := msA_all H0.out.1
 haveI := Cls.ne wa
 refine wp_region_cls wa (by kernel_rfl) (by kernel_rfl) ?_
 iterate 9 (go_big_quiet_step ((first
   | (go_at_call 161; exact Cls.of _ (fun u hu => HT1.out u hu))
   | (go_at_call 163; exact Cls.of _ (fun u hu => HT2.out u hu))
   | (go_at_call 165; exact Cls.of _ (fun u hu => HX.out u hu)))))
 as_aux_lemma =>
   repeat (go_big_quiet_step ((first
     | (go_at_call 161; exact Cls.of _ (fun u hu => HT1.out u hu))
     | (go_at_call 163; exact Cls.of _ (fun u hu => HT2.out u hu))
     | (go_at_call 165; exact Cls.of _ (fun u hu => HX.out u hu)))))
   refine wpQuiet_nil ?_
   rintro _ ⟨x, rfl⟩
   go_wp2
   go_ret
   exact ⟨by simp, HW0.out.trans (x.2.mono HW0.out.size)⟩
set_option maxHeartbeats 6400000 in
theorem ifits_2_2 {F : Nat → Prop} {w : World} {m : Ms} {a13 a14 a15 a16 : Option Addr} {c13 c14 c15 c16 : Nat} (h : Fx F w m a13 a14 a15 a16 c13 c14 c15 c16) (hk : m.k = 2) (K : Nat) (eK : K = if nullB m.rq then 0 else 1) (t1 : (onlyB m { v := true, s := true, r := true, g := true }) = true) (t2 : (placeB m) = true) (t3 : (askB m.rq) = false) : Fit w m a13 a14 a15 a16 c13 c14 c15 c16 false := by
 obtain ⟨wa, HA, hw0, hx⟩ := msA_new m a13 a14 a15 a16 c13 c14 c15 c16 48 w
 have H0 := hid (And.intro hx (Below.refl wa.heap.size wa))
 clear hx
 have HW : Hid (inB m.ep 0 60 = true) := hid (by rw [inB, decide_eq_true h.h0, decide_eq_true h.h1]; rfl)
 have q1 := q_no (n := 1) hk (by decide); have q2 := q_yes hk
 have HT1 := hid ((tOnly71 h t1).up hw0)
 have HT2 := hid ((tPlaced h t2).up hw0)
 have HT3 := hid ((tDeed h t3).up hw0)
 have HX := hid (tAsk m.rq K eK wa)
 have HW0 := hid hw0
 clear t1 t2 t3 h hk hw0 eK
 unfold Fit msA
 simp only [msA] at HA
 replace HA := hid HA
 go_enter Tryz.func135, Tryz.ntmps135
 try simp only [List.append]
 go_upto_region 1 with fail
 rw [HA.out]
 obtain ⟨y0, y1, y2, y3, y4, y5, y6, y7, y8, y9, y10, y11, y12, y13, y14, y15, y16⟩ := msA_at H0.out.1
 go_wp2_with (go_at_call 160; refine (iwithin_any _ _ _ _).mono ?_; rintro e w1 ⟨rfl, hw⟩; rw [HW.out]; replace hw := hw.symm; subst hw)
 clear y0 y1 y2 y3 y4 y5 y6 y7 y8 y9 y10 y11 y12 y13 y14 y15 y16
 go_simp
 obtain ⟨d0, d1, d2, d3, d4, d5, d6, d7, d8, d9, d10, d11, d12, d13, d14, d15, d16⟩ := msA_all H0.out.1
 haveI := Cls.ne wa
 refine wp_region_cls wa (by kernel_rfl) (by kernel_rfl) ?_
 iterate 9 (go_big_quiet_step ((first
   | (go_at_call 161; exact Cls.of _ (fun u hu => HT1.out u hu))
   | (go_at_call 163; exact Cls.of _ (fun u hu => HT2.out u hu))
   | (go_at_call 164; exact Cls.of _ (fun u hu => HT3.out u hu))
   | (go_at_call 165; exact Cls.of _ (fun u hu => HX.out u hu)))))
 as_aux_lemma =>
   repeat (go_big_quiet_step ((first
     | (go_at_call 161; exact Cls.of _ (fun u hu => HT1.out u hu))
     | (go_at_call 163; exact Cls.of _ (fun u hu => HT2.out u hu))
     | (go_at_call 164; exact Cls.of _ (fun u hu => HT3.out u hu))
     | (go_at_call 165; exact Cls.of _ (fun u hu => HX.out u hu)))))
   refine wpQuiet_nil ?_
   rintro _ ⟨x, rfl⟩
   go_wp2
   go_ret
   exact ⟨by simp, HW0.out.trans (x.2.mono HW0.out.size)⟩
end Go.Proofs.YtoepppkadpjonaaGreat
