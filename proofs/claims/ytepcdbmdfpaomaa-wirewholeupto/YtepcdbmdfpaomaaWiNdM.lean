/- The program's test of messages, kind by kind. -/
import Derived.Test.YtepcdbmdfpaomaaWiNzM
namespace Go.Proofs.Ytepcdbmdfpaomaa
open Go.RowKit
set_option maxRecDepth 100000 in
set_option maxHeartbeats 6400000 in
theorem ifits_5_0 {F : Nat → Prop} (m : Ms) (hB : MsB m) (h0 : 0 ≤ m.ep) (h1 : m.ep ≤ 60) (hk : m.k = 5) (a13 a14 a15 a16 : Option Addr) (c13 c14 c15 c16 : Nat) (w : World) (hL : MsL F w m (.slice a13 m.nx.length c13) (.slice a14 m.sg.length c14) (.slice a15 m.cg.length c15) (.slice a16 m.ln.length c16)) (t1 : (onlyB m { s := true, t := true, n := true, g := true }) = false) :
    Calls Try.prog 15 #[.agg #[.int .i64 m.k, .int .i64 m.ep, .int .i64 m.v, .int .i64 m.sl, .int .i64 m.rq.c, .int .i64 m.rq.st, .int .i64 m.rq.k, .string m.rq.key, .float .f64 m.rq.b, .int .i64 m.rq.id, .int .i64 m.rs.1, .float .f64 m.rs.2, .string m.tx, .slice a13 m.nx.length c13, .slice a14 m.sg.length c14, .slice a15 m.cg.length c15, .slice a16 m.ln.length c16]] w fun e w' => e = .returned (.bool false) ∧ Below w.heap.size w w' := by
  have _ := hB
  have hS : PairsIn w a14 m.sg := (slice_pairs hL.sg)
  have hI : IntsIn w a13 m.nx := (slice_ints hL.nx)
  have hC := hL.cg
  have hK := hL.ln
  obtain ⟨wa, ewa⟩ : ∃ wa, wa = w.alloc (.cells #[.int .i64 m.k, .int .i64 m.ep, .int .i64 m.v, .int .i64 m.sl, .int .i64 m.rq.c, .int .i64 m.rq.st, .int .i64 m.rq.k, .string m.rq.key, .float .f64 m.rq.b, .int .i64 m.rq.id, .int .i64 m.rs.1, .float .f64 m.rs.2, .string m.tx, .slice a13 m.nx.length c13, .slice a14 m.sg.length c14, .slice a15 m.cg.length c15, .slice a16 m.ln.length c16] 34) := ⟨_, rfl⟩
  have hw0 : Below w.heap.size w wa := by rw [ewa]; exact (Below.refl w.heap.size w).alloc (Nat.le_refl _) _
  have H0 : Hid (BxAt wa w.heap.size [.int .i64 m.k, .int .i64 m.ep, .int .i64 m.v, .int .i64 m.sl, .int .i64 m.rq.c, .int .i64 m.rq.st, .int .i64 m.rq.k, .string m.rq.key, .float .f64 m.rq.b, .int .i64 m.rq.id, .int .i64 m.rs.1, .float .f64 m.rs.2, .string m.tx, .slice a13 m.nx.length c13, .slice a14 m.sg.length c14, .slice a15 m.cg.length c15, .slice a16 m.ln.length c16] 34 ∧ Below wa.heap.size wa wa) := hid ⟨by rw [ewa]; exact heap_alloc_last w _, Below.refl _ _⟩
  have HA : Hid (w.alloc (.cells #[.int .i64 m.k, .int .i64 m.ep, .int .i64 m.v, .int .i64 m.sl, .int .i64 m.rq.c, .int .i64 m.rq.st, .int .i64 m.rq.k, .string m.rq.key, .float .f64 m.rq.b, .int .i64 m.rq.id, .int .i64 m.rs.1, .float .f64 m.rs.2, .string m.tx, .slice a13 m.nx.length c13, .slice a14 m.sg.length c14, .slice a15 m.cg.length c15, .slice a16 m.ln.length c16] 34) = wa) := hid ewa.symm
  clear ewa
  have z1 : (w.alloc (.cells #[.int .i64 m.k, .int .i64 m.ep, .int .i64 m.v, .int .i64 m.sl, .int .i64 m.rq.c, .int .i64 m.rq.st, .int .i64 m.rq.k, .string m.rq.key, .float .f64 m.rq.b, .int .i64 m.rq.id, .int .i64 m.rs.1, .float .f64 m.rs.2, .string m.tx, .slice a13 m.nx.length c13, .slice a14 m.sg.length c14, .slice a15 m.cg.length c15, .slice a16 m.ln.length c16] 34)).cell? ⟨w.heap.size, 1, none⟩ = some (.int .i64 m.ep) := by rw [HA.out]; exact H0.out.1.cell 1 _ rfl
  have HW : Hid (inB m.ep 0 60 = true) := hid (by rw [inB, decide_eq_true h0, decide_eq_true h1]; rfl)
  have HW0 := hid hw0
  have q1 : (m.k == 1) = false := by rw [hk]; rfl
  have q2 : (m.k == 2) = false := by rw [hk]; rfl
  have q3 : (m.k == 3) = false := by rw [hk]; rfl
  have q4 : (m.k == 4) = false := by rw [hk]; rfl
  have q5 : (m.k == 5) = true := by rw [hk]; rfl
  have HT1 : Hid (∀ u : World, Below wa.heap.size wa u → Calls Try.prog 27 #[.agg #[.int .i64 m.k, .int .i64 m.ep, .int .i64 m.v, .int .i64 m.sl, .int .i64 m.rq.c, .int .i64 m.rq.st, .int .i64 m.rq.k, .string m.rq.key, .float .f64 m.rq.b, .int .i64 m.rq.id, .int .i64 m.rs.1, .float .f64 m.rs.2, .string m.tx, .slice a13 m.nx.length c13, .slice a14 m.sg.length c14, .slice a15 m.cg.length c15, .slice a16 m.ln.length c16], .int .i64 114] u fun e w' => e = .returned (.bool false) ∧ Below u.heap.size u w') := hid (fun u hv => by have hu := hw0.trans (hv.mono hw0.size); rw [← t1]; exact ionly_114 m a13 a14 a15 a16 c13 c14 c15 c16 u)
  have HX : Hid (∀ u : World, Below wa.heap.size wa u → Calls Try.prog 33 #[.int .i64 m.ep] u fun e w' => e = .returned (.int .i64 (4 * (m.ep + 1))) ∧ Below u.heap.size u w') := hid (fun u hv => by exact (iend_any m.ep (by omega) h1 u).mono fun e w' ⟨h1, h2⟩ => ⟨h1, by rw [h2]; exact Below.refl _ _⟩)
  clear t1 hS hI hC hK hL hB hw0 h0 h1 hk
  go_enter Try.func15, Try.ntmps15
  try simp only [List.append]
  go_wp2_with (go_at_call 26; refine (iwithin_any _ _ _ _).mono ?_; rintro e w1 ⟨rfl, hw⟩; rw [HW.out]; replace hw := (hw.trans HA.out).symm; subst hw; clear z1; have y0 := H0.out.1.cell 0 _ rfl; have y1 := H0.out.1.cell 1 _ rfl; have y2 := H0.out.1.cell 2 _ rfl; have y3 := H0.out.1.cell 3 _ rfl; have y4 := H0.out.1.cell 4 _ rfl; have y5 := H0.out.1.cell 5 _ rfl; have y6 := H0.out.1.cell 6 _ rfl; have y7 := H0.out.1.cell 7 _ rfl; have y8 := H0.out.1.cell 8 _ rfl; have y9 := H0.out.1.cell 9 _ rfl; have y10 := H0.out.1.cell 10 _ rfl; have y11 := H0.out.1.cell 11 _ rfl; have y12 := H0.out.1.cell 12 _ rfl; have y13 := H0.out.1.cell 13 _ rfl; have y14 := H0.out.1.cell 14 _ rfl; have y15 := H0.out.1.cell 15 _ rfl; have y16 := H0.out.1.cell 16 _ rfl)
  clear y0 y1 y2 y3 y4 y5 y6 y7 y8 y9 y10 y11 y12 y13 y14 y15 y16
  go_simp
  have HBx : Hid (∀ x : Cls wa, BxAt x.1 w.heap.size [.int .i64 m.k, .int .i64 m.ep, .int .i64 m.v, .int .i64 m.sl, .int .i64 m.rq.c, .int .i64 m.rq.st, .int .i64 m.rq.k, .string m.rq.key, .float .f64 m.rq.b, .int .i64 m.rq.id, .int .i64 m.rs.1, .float .f64 m.rs.2, .string m.tx, .slice a13 m.nx.length c13, .slice a14 m.sg.length c14, .slice a15 m.cg.length c15, .slice a16 m.ln.length c16] 34) := hid (fun x => H0.out.1.keep x.2)
  have d0 : ∀ x : Cls wa, x.1.cell? ⟨w.heap.size, 0, none⟩ = some (.int .i64 m.k) := fun x => (HBx.out x).cell 0 _ rfl
  have d1 : ∀ x : Cls wa, x.1.cell? ⟨w.heap.size, 1, none⟩ = some (.int .i64 m.ep) := fun x => (HBx.out x).cell 1 _ rfl
  have d2 : ∀ x : Cls wa, x.1.cell? ⟨w.heap.size, 2, none⟩ = some (.int .i64 m.v) := fun x => (HBx.out x).cell 2 _ rfl
  have d3 : ∀ x : Cls wa, x.1.cell? ⟨w.heap.size, 3, none⟩ = some (.int .i64 m.sl) := fun x => (HBx.out x).cell 3 _ rfl
  have d4 : ∀ x : Cls wa, x.1.cell? ⟨w.heap.size, 4, none⟩ = some (.int .i64 m.rq.c) := fun x => (HBx.out x).cell 4 _ rfl
  have d5 : ∀ x : Cls wa, x.1.cell? ⟨w.heap.size, 5, none⟩ = some (.int .i64 m.rq.st) := fun x => (HBx.out x).cell 5 _ rfl
  have d6 : ∀ x : Cls wa, x.1.cell? ⟨w.heap.size, 6, none⟩ = some (.int .i64 m.rq.k) := fun x => (HBx.out x).cell 6 _ rfl
  have d7 : ∀ x : Cls wa, x.1.cell? ⟨w.heap.size, 7, none⟩ = some (.string m.rq.key) := fun x => (HBx.out x).cell 7 _ rfl
  have d8 : ∀ x : Cls wa, x.1.cell? ⟨w.heap.size, 8, none⟩ = some (.float .f64 m.rq.b) := fun x => (HBx.out x).cell 8 _ rfl
  have d9 : ∀ x : Cls wa, x.1.cell? ⟨w.heap.size, 9, none⟩ = some (.int .i64 m.rq.id) := fun x => (HBx.out x).cell 9 _ rfl
  have d10 : ∀ x : Cls wa, x.1.cell? ⟨w.heap.size, 10, none⟩ = some (.int .i64 m.rs.1) := fun x => (HBx.out x).cell 10 _ rfl
  have d11 : ∀ x : Cls wa, x.1.cell? ⟨w.heap.size, 11, none⟩ = some (.float .f64 m.rs.2) := fun x => (HBx.out x).cell 11 _ rfl
  have d12 : ∀ x : Cls wa, x.1.cell? ⟨w.heap.size, 12, none⟩ = some (.string m.tx) := fun x => (HBx.out x).cell 12 _ rfl
  have d13 : ∀ x : Cls wa, x.1.cell? ⟨w.heap.size, 13, none⟩ = some (.slice a13 m.nx.length c13) := fun x => (HBx.out x).cell 13 _ rfl
  have d14 : ∀ x : Cls wa, x.1.cell? ⟨w.heap.size, 14, none⟩ = some (.slice a14 m.sg.length c14) := fun x => (HBx.out x).cell 14 _ rfl
  have d15 : ∀ x : Cls wa, x.1.cell? ⟨w.heap.size, 15, none⟩ = some (.slice a15 m.cg.length c15) := fun x => (HBx.out x).cell 15 _ rfl
  have d16 : ∀ x : Cls wa, x.1.cell? ⟨w.heap.size, 16, none⟩ = some (.slice a16 m.ln.length c16) := fun x => (HBx.out x).cell 16 _ rfl
  haveI := Cls.ne wa
  refine wp_region_cls wa (by kernel_rfl) (by kernel_rfl) ?_
  repeat (go_big_quiet_step ((first
    | (go_at_call 27; exact Cls.of _ (fun u hu => HT1.out u hu))
    | (go_at_call 33; exact Cls.of _ (fun u hu => HX.out u hu)))))
  refine wpQuiet_nil ?_
  rintro _ ⟨x, rfl⟩
  go_wp2
  go_ret
  exact ⟨by simp, HW0.out.trans (x.2.mono HW0.out.size)⟩
set_option maxRecDepth 100000 in
set_option maxHeartbeats 6400000 in
theorem ifits_5_1 {F : Nat → Prop} (m : Ms) (hB : MsB m) (h0 : 0 ≤ m.ep) (h1 : m.ep ≤ 60) (hk : m.k = 5) (a13 a14 a15 a16 : Option Addr) (c13 c14 c15 c16 : Nat) (w : World) (hL : MsL F w m (.slice a13 m.nx.length c13) (.slice a14 m.sg.length c14) (.slice a15 m.cg.length c15) (.slice a16 m.ln.length c16)) (t1 : (onlyB m { s := true, t := true, n := true, g := true }) = true) (t2 : (decide (m.sl = 4 * (m.ep + 1))) = false) :
    Calls Try.prog 15 #[.agg #[.int .i64 m.k, .int .i64 m.ep, .int .i64 m.v, .int .i64 m.sl, .int .i64 m.rq.c, .int .i64 m.rq.st, .int .i64 m.rq.k, .string m.rq.key, .float .f64 m.rq.b, .int .i64 m.rq.id, .int .i64 m.rs.1, .float .f64 m.rs.2, .string m.tx, .slice a13 m.nx.length c13, .slice a14 m.sg.length c14, .slice a15 m.cg.length c15, .slice a16 m.ln.length c16]] w fun e w' => e = .returned (.bool false) ∧ Below w.heap.size w w' := by
  have _ := hB
  have hS : PairsIn w a14 m.sg := (slice_pairs hL.sg)
  have hI : IntsIn w a13 m.nx := (slice_ints hL.nx)
  have hC := hL.cg
  have hK := hL.ln
  obtain ⟨wa, ewa⟩ : ∃ wa, wa = w.alloc (.cells #[.int .i64 m.k, .int .i64 m.ep, .int .i64 m.v, .int .i64 m.sl, .int .i64 m.rq.c, .int .i64 m.rq.st, .int .i64 m.rq.k, .string m.rq.key, .float .f64 m.rq.b, .int .i64 m.rq.id, .int .i64 m.rs.1, .float .f64 m.rs.2, .string m.tx, .slice a13 m.nx.length c13, .slice a14 m.sg.length c14, .slice a15 m.cg.length c15, .slice a16 m.ln.length c16] 34) := ⟨_, rfl⟩
  have hw0 : Below w.heap.size w wa := by rw [ewa]; exact (Below.refl w.heap.size w).alloc (Nat.le_refl _) _
  have H0 : Hid (BxAt wa w.heap.size [.int .i64 m.k, .int .i64 m.ep, .int .i64 m.v, .int .i64 m.sl, .int .i64 m.rq.c, .int .i64 m.rq.st, .int .i64 m.rq.k, .string m.rq.key, .float .f64 m.rq.b, .int .i64 m.rq.id, .int .i64 m.rs.1, .float .f64 m.rs.2, .string m.tx, .slice a13 m.nx.length c13, .slice a14 m.sg.length c14, .slice a15 m.cg.length c15, .slice a16 m.ln.length c16] 34 ∧ Below wa.heap.size wa wa) := hid ⟨by rw [ewa]; exact heap_alloc_last w _, Below.refl _ _⟩
  have HA : Hid (w.alloc (.cells #[.int .i64 m.k, .int .i64 m.ep, .int .i64 m.v, .int .i64 m.sl, .int .i64 m.rq.c, .int .i64 m.rq.st, .int .i64 m.rq.k, .string m.rq.key, .float .f64 m.rq.b, .int .i64 m.rq.id, .int .i64 m.rs.1, .float .f64 m.rs.2, .string m.tx, .slice a13 m.nx.length c13, .slice a14 m.sg.length c14, .slice a15 m.cg.length c15, .slice a16 m.ln.length c16] 34) = wa) := hid ewa.symm
  clear ewa
  have z1 : (w.alloc (.cells #[.int .i64 m.k, .int .i64 m.ep, .int .i64 m.v, .int .i64 m.sl, .int .i64 m.rq.c, .int .i64 m.rq.st, .int .i64 m.rq.k, .string m.rq.key, .float .f64 m.rq.b, .int .i64 m.rq.id, .int .i64 m.rs.1, .float .f64 m.rs.2, .string m.tx, .slice a13 m.nx.length c13, .slice a14 m.sg.length c14, .slice a15 m.cg.length c15, .slice a16 m.ln.length c16] 34)).cell? ⟨w.heap.size, 1, none⟩ = some (.int .i64 m.ep) := by rw [HA.out]; exact H0.out.1.cell 1 _ rfl
  have HW : Hid (inB m.ep 0 60 = true) := hid (by rw [inB, decide_eq_true h0, decide_eq_true h1]; rfl)
  have HW0 := hid hw0
  have q1 : (m.k == 1) = false := by rw [hk]; rfl
  have q2 : (m.k == 2) = false := by rw [hk]; rfl
  have q3 : (m.k == 3) = false := by rw [hk]; rfl
  have q4 : (m.k == 4) = false := by rw [hk]; rfl
  have q5 : (m.k == 5) = true := by rw [hk]; rfl
  have HT1 : Hid (∀ u : World, Below wa.heap.size wa u → Calls Try.prog 27 #[.agg #[.int .i64 m.k, .int .i64 m.ep, .int .i64 m.v, .int .i64 m.sl, .int .i64 m.rq.c, .int .i64 m.rq.st, .int .i64 m.rq.k, .string m.rq.key, .float .f64 m.rq.b, .int .i64 m.rq.id, .int .i64 m.rs.1, .float .f64 m.rs.2, .string m.tx, .slice a13 m.nx.length c13, .slice a14 m.sg.length c14, .slice a15 m.cg.length c15, .slice a16 m.ln.length c16], .int .i64 114] u fun e w' => e = .returned (.bool true) ∧ Below u.heap.size u w') := hid (fun u hv => by have hu := hw0.trans (hv.mono hw0.size); rw [← t1]; exact ionly_114 m a13 a14 a15 a16 c13 c14 c15 c16 u)
  have b2 : (m.sl == 4 * (m.ep + 1)) = false := by rw [beq_eq_false_iff_ne]; exact of_decide_eq_false t2
  have HX : Hid (∀ u : World, Below wa.heap.size wa u → Calls Try.prog 33 #[.int .i64 m.ep] u fun e w' => e = .returned (.int .i64 (4 * (m.ep + 1))) ∧ Below u.heap.size u w') := hid (fun u hv => by exact (iend_any m.ep (by omega) h1 u).mono fun e w' ⟨h1, h2⟩ => ⟨h1, by rw [h2]; exact Below.refl _ _⟩)
  clear t1 t2 hS hI hC hK hL hB hw0 h0 h1 hk
  go_enter Try.func15, Try.ntmps15
  try simp only [List.append]
  go_wp2_with (go_at_call 26; refine (iwithin_any _ _ _ _).mono ?_; rintro e w1 ⟨rfl, hw⟩; rw [HW.out]; replace hw := (hw.trans HA.out).symm; subst hw; clear z1; have y0 := H0.out.1.cell 0 _ rfl; have y1 := H0.out.1.cell 1 _ rfl; have y2 := H0.out.1.cell 2 _ rfl; have y3 := H0.out.1.cell 3 _ rfl; have y4 := H0.out.1.cell 4 _ rfl; have y5 := H0.out.1.cell 5 _ rfl; have y6 := H0.out.1.cell 6 _ rfl; have y7 := H0.out.1.cell 7 _ rfl; have y8 := H0.out.1.cell 8 _ rfl; have y9 := H0.out.1.cell 9 _ rfl; have y10 := H0.out.1.cell 10 _ rfl; have y11 := H0.out.1.cell 11 _ rfl; have y12 := H0.out.1.cell 12 _ rfl; have y13 := H0.out.1.cell 13 _ rfl; have y14 := H0.out.1.cell 14 _ rfl; have y15 := H0.out.1.cell 15 _ rfl; have y16 := H0.out.1.cell 16 _ rfl)
  clear y0 y1 y2 y3 y4 y5 y6 y7 y8 y9 y10 y11 y12 y13 y14 y15 y16
  go_simp
  have HBx : Hid (∀ x : Cls wa, BxAt x.1 w.heap.size [.int .i64 m.k, .int .i64 m.ep, .int .i64 m.v, .int .i64 m.sl, .int .i64 m.rq.c, .int .i64 m.rq.st, .int .i64 m.rq.k, .string m.rq.key, .float .f64 m.rq.b, .int .i64 m.rq.id, .int .i64 m.rs.1, .float .f64 m.rs.2, .string m.tx, .slice a13 m.nx.length c13, .slice a14 m.sg.length c14, .slice a15 m.cg.length c15, .slice a16 m.ln.length c16] 34) := hid (fun x => H0.out.1.keep x.2)
  have d0 : ∀ x : Cls wa, x.1.cell? ⟨w.heap.size, 0, none⟩ = some (.int .i64 m.k) := fun x => (HBx.out x).cell 0 _ rfl
  have d1 : ∀ x : Cls wa, x.1.cell? ⟨w.heap.size, 1, none⟩ = some (.int .i64 m.ep) := fun x => (HBx.out x).cell 1 _ rfl
  have d2 : ∀ x : Cls wa, x.1.cell? ⟨w.heap.size, 2, none⟩ = some (.int .i64 m.v) := fun x => (HBx.out x).cell 2 _ rfl
  have d3 : ∀ x : Cls wa, x.1.cell? ⟨w.heap.size, 3, none⟩ = some (.int .i64 m.sl) := fun x => (HBx.out x).cell 3 _ rfl
  have d4 : ∀ x : Cls wa, x.1.cell? ⟨w.heap.size, 4, none⟩ = some (.int .i64 m.rq.c) := fun x => (HBx.out x).cell 4 _ rfl
  have d5 : ∀ x : Cls wa, x.1.cell? ⟨w.heap.size, 5, none⟩ = some (.int .i64 m.rq.st) := fun x => (HBx.out x).cell 5 _ rfl
  have d6 : ∀ x : Cls wa, x.1.cell? ⟨w.heap.size, 6, none⟩ = some (.int .i64 m.rq.k) := fun x => (HBx.out x).cell 6 _ rfl
  have d7 : ∀ x : Cls wa, x.1.cell? ⟨w.heap.size, 7, none⟩ = some (.string m.rq.key) := fun x => (HBx.out x).cell 7 _ rfl
  have d8 : ∀ x : Cls wa, x.1.cell? ⟨w.heap.size, 8, none⟩ = some (.float .f64 m.rq.b) := fun x => (HBx.out x).cell 8 _ rfl
  have d9 : ∀ x : Cls wa, x.1.cell? ⟨w.heap.size, 9, none⟩ = some (.int .i64 m.rq.id) := fun x => (HBx.out x).cell 9 _ rfl
  have d10 : ∀ x : Cls wa, x.1.cell? ⟨w.heap.size, 10, none⟩ = some (.int .i64 m.rs.1) := fun x => (HBx.out x).cell 10 _ rfl
  have d11 : ∀ x : Cls wa, x.1.cell? ⟨w.heap.size, 11, none⟩ = some (.float .f64 m.rs.2) := fun x => (HBx.out x).cell 11 _ rfl
  have d12 : ∀ x : Cls wa, x.1.cell? ⟨w.heap.size, 12, none⟩ = some (.string m.tx) := fun x => (HBx.out x).cell 12 _ rfl
  have d13 : ∀ x : Cls wa, x.1.cell? ⟨w.heap.size, 13, none⟩ = some (.slice a13 m.nx.length c13) := fun x => (HBx.out x).cell 13 _ rfl
  have d14 : ∀ x : Cls wa, x.1.cell? ⟨w.heap.size, 14, none⟩ = some (.slice a14 m.sg.length c14) := fun x => (HBx.out x).cell 14 _ rfl
  have d15 : ∀ x : Cls wa, x.1.cell? ⟨w.heap.size, 15, none⟩ = some (.slice a15 m.cg.length c15) := fun x => (HBx.out x).cell 15 _ rfl
  have d16 : ∀ x : Cls wa, x.1.cell? ⟨w.heap.size, 16, none⟩ = some (.slice a16 m.ln.length c16) := fun x => (HBx.out x).cell 16 _ rfl
  haveI := Cls.ne wa
  refine wp_region_cls wa (by kernel_rfl) (by kernel_rfl) ?_
  repeat (go_big_quiet_step ((first
    | (go_at_call 27; exact Cls.of _ (fun u hu => HT1.out u hu))
    | (go_at_call 33; exact Cls.of _ (fun u hu => HX.out u hu)))))
  refine wpQuiet_nil ?_
  rintro _ ⟨x, rfl⟩
  go_wp2
  go_ret
  exact ⟨by simp, HW0.out.trans (x.2.mono HW0.out.size)⟩
set_option maxRecDepth 100000 in
set_option maxHeartbeats 6400000 in
theorem ifits_5_2 {F : Nat → Prop} (m : Ms) (hB : MsB m) (h0 : 0 ≤ m.ep) (h1 : m.ep ≤ 60) (hk : m.k = 5) (a13 a14 a15 a16 : Option Addr) (c13 c14 c15 c16 : Nat) (w : World) (hL : MsL F w m (.slice a13 m.nx.length c13) (.slice a14 m.sg.length c14) (.slice a15 m.cg.length c15) (.slice a16 m.ln.length c16)) (t1 : (onlyB m { s := true, t := true, n := true, g := true }) = true) (t2 : (decide (m.sl = 4 * (m.ep + 1))) = true) (t3 : (!decide (m.tx.size = 0)) = false) :
    Calls Try.prog 15 #[.agg #[.int .i64 m.k, .int .i64 m.ep, .int .i64 m.v, .int .i64 m.sl, .int .i64 m.rq.c, .int .i64 m.rq.st, .int .i64 m.rq.k, .string m.rq.key, .float .f64 m.rq.b, .int .i64 m.rq.id, .int .i64 m.rs.1, .float .f64 m.rs.2, .string m.tx, .slice a13 m.nx.length c13, .slice a14 m.sg.length c14, .slice a15 m.cg.length c15, .slice a16 m.ln.length c16]] w fun e w' => e = .returned (.bool false) ∧ Below w.heap.size w w' := by
  have _ := hB
  have hS : PairsIn w a14 m.sg := (slice_pairs hL.sg)
  have hI : IntsIn w a13 m.nx := (slice_ints hL.nx)
  have hC := hL.cg
  have hK := hL.ln
  obtain ⟨wa, ewa⟩ : ∃ wa, wa = w.alloc (.cells #[.int .i64 m.k, .int .i64 m.ep, .int .i64 m.v, .int .i64 m.sl, .int .i64 m.rq.c, .int .i64 m.rq.st, .int .i64 m.rq.k, .string m.rq.key, .float .f64 m.rq.b, .int .i64 m.rq.id, .int .i64 m.rs.1, .float .f64 m.rs.2, .string m.tx, .slice a13 m.nx.length c13, .slice a14 m.sg.length c14, .slice a15 m.cg.length c15, .slice a16 m.ln.length c16] 34) := ⟨_, rfl⟩
  have hw0 : Below w.heap.size w wa := by rw [ewa]; exact (Below.refl w.heap.size w).alloc (Nat.le_refl _) _
  have H0 : Hid (BxAt wa w.heap.size [.int .i64 m.k, .int .i64 m.ep, .int .i64 m.v, .int .i64 m.sl, .int .i64 m.rq.c, .int .i64 m.rq.st, .int .i64 m.rq.k, .string m.rq.key, .float .f64 m.rq.b, .int .i64 m.rq.id, .int .i64 m.rs.1, .float .f64 m.rs.2, .string m.tx, .slice a13 m.nx.length c13, .slice a14 m.sg.length c14, .slice a15 m.cg.length c15, .slice a16 m.ln.length c16] 34 ∧ Below wa.heap.size wa wa) := hid ⟨by rw [ewa]; exact heap_alloc_last w _, Below.refl _ _⟩
  have HA : Hid (w.alloc (.cells #[.int .i64 m.k, .int .i64 m.ep, .int .i64 m.v, .int .i64 m.sl, .int .i64 m.rq.c, .int .i64 m.rq.st, .int .i64 m.rq.k, .string m.rq.key, .float .f64 m.rq.b, .int .i64 m.rq.id, .int .i64 m.rs.1, .float .f64 m.rs.2, .string m.tx, .slice a13 m.nx.length c13, .slice a14 m.sg.length c14, .slice a15 m.cg.length c15, .slice a16 m.ln.length c16] 34) = wa) := hid ewa.symm
  clear ewa
  have z1 : (w.alloc (.cells #[.int .i64 m.k, .int .i64 m.ep, .int .i64 m.v, .int .i64 m.sl, .int .i64 m.rq.c, .int .i64 m.rq.st, .int .i64 m.rq.k, .string m.rq.key, .float .f64 m.rq.b, .int .i64 m.rq.id, .int .i64 m.rs.1, .float .f64 m.rs.2, .string m.tx, .slice a13 m.nx.length c13, .slice a14 m.sg.length c14, .slice a15 m.cg.length c15, .slice a16 m.ln.length c16] 34)).cell? ⟨w.heap.size, 1, none⟩ = some (.int .i64 m.ep) := by rw [HA.out]; exact H0.out.1.cell 1 _ rfl
  have HW : Hid (inB m.ep 0 60 = true) := hid (by rw [inB, decide_eq_true h0, decide_eq_true h1]; rfl)
  have HW0 := hid hw0
  have q1 : (m.k == 1) = false := by rw [hk]; rfl
  have q2 : (m.k == 2) = false := by rw [hk]; rfl
  have q3 : (m.k == 3) = false := by rw [hk]; rfl
  have q4 : (m.k == 4) = false := by rw [hk]; rfl
  have q5 : (m.k == 5) = true := by rw [hk]; rfl
  have HT1 : Hid (∀ u : World, Below wa.heap.size wa u → Calls Try.prog 27 #[.agg #[.int .i64 m.k, .int .i64 m.ep, .int .i64 m.v, .int .i64 m.sl, .int .i64 m.rq.c, .int .i64 m.rq.st, .int .i64 m.rq.k, .string m.rq.key, .float .f64 m.rq.b, .int .i64 m.rq.id, .int .i64 m.rs.1, .float .f64 m.rs.2, .string m.tx, .slice a13 m.nx.length c13, .slice a14 m.sg.length c14, .slice a15 m.cg.length c15, .slice a16 m.ln.length c16], .int .i64 114] u fun e w' => e = .returned (.bool true) ∧ Below u.heap.size u w') := hid (fun u hv => by have hu := hw0.trans (hv.mono hw0.size); rw [← t1]; exact ionly_114 m a13 a14 a15 a16 c13 c14 c15 c16 u)
  have b2 : (m.sl == 4 * (m.ep + 1)) = true := by rw [beq_iff_eq]; exact of_decide_eq_true t2
  have ht := none_size m.tx
  rw [show decide (m.tx.size = 0) = true by simpa using t3] at ht
  have HX : Hid (∀ u : World, Below wa.heap.size wa u → Calls Try.prog 33 #[.int .i64 m.ep] u fun e w' => e = .returned (.int .i64 (4 * (m.ep + 1))) ∧ Below u.heap.size u w') := hid (fun u hv => by exact (iend_any m.ep (by omega) h1 u).mono fun e w' ⟨h1, h2⟩ => ⟨h1, by rw [h2]; exact Below.refl _ _⟩)
  clear t1 t2 t3 hS hI hC hK hL hB hw0 h0 h1 hk
  go_enter Try.func15, Try.ntmps15
  try simp only [List.append]
  go_wp2_with (go_at_call 26; refine (iwithin_any _ _ _ _).mono ?_; rintro e w1 ⟨rfl, hw⟩; rw [HW.out]; replace hw := (hw.trans HA.out).symm; subst hw; clear z1; have y0 := H0.out.1.cell 0 _ rfl; have y1 := H0.out.1.cell 1 _ rfl; have y2 := H0.out.1.cell 2 _ rfl; have y3 := H0.out.1.cell 3 _ rfl; have y4 := H0.out.1.cell 4 _ rfl; have y5 := H0.out.1.cell 5 _ rfl; have y6 := H0.out.1.cell 6 _ rfl; have y7 := H0.out.1.cell 7 _ rfl; have y8 := H0.out.1.cell 8 _ rfl; have y9 := H0.out.1.cell 9 _ rfl; have y10 := H0.out.1.cell 10 _ rfl; have y11 := H0.out.1.cell 11 _ rfl; have y12 := H0.out.1.cell 12 _ rfl; have y13 := H0.out.1.cell 13 _ rfl; have y14 := H0.out.1.cell 14 _ rfl; have y15 := H0.out.1.cell 15 _ rfl; have y16 := H0.out.1.cell 16 _ rfl)
  clear y0 y1 y2 y3 y4 y5 y6 y7 y8 y9 y10 y11 y12 y13 y14 y15 y16
  go_simp
  have HBx : Hid (∀ x : Cls wa, BxAt x.1 w.heap.size [.int .i64 m.k, .int .i64 m.ep, .int .i64 m.v, .int .i64 m.sl, .int .i64 m.rq.c, .int .i64 m.rq.st, .int .i64 m.rq.k, .string m.rq.key, .float .f64 m.rq.b, .int .i64 m.rq.id, .int .i64 m.rs.1, .float .f64 m.rs.2, .string m.tx, .slice a13 m.nx.length c13, .slice a14 m.sg.length c14, .slice a15 m.cg.length c15, .slice a16 m.ln.length c16] 34) := hid (fun x => H0.out.1.keep x.2)
  have d0 : ∀ x : Cls wa, x.1.cell? ⟨w.heap.size, 0, none⟩ = some (.int .i64 m.k) := fun x => (HBx.out x).cell 0 _ rfl
  have d1 : ∀ x : Cls wa, x.1.cell? ⟨w.heap.size, 1, none⟩ = some (.int .i64 m.ep) := fun x => (HBx.out x).cell 1 _ rfl
  have d2 : ∀ x : Cls wa, x.1.cell? ⟨w.heap.size, 2, none⟩ = some (.int .i64 m.v) := fun x => (HBx.out x).cell 2 _ rfl
  have d3 : ∀ x : Cls wa, x.1.cell? ⟨w.heap.size, 3, none⟩ = some (.int .i64 m.sl) := fun x => (HBx.out x).cell 3 _ rfl
  have d4 : ∀ x : Cls wa, x.1.cell? ⟨w.heap.size, 4, none⟩ = some (.int .i64 m.rq.c) := fun x => (HBx.out x).cell 4 _ rfl
  have d5 : ∀ x : Cls wa, x.1.cell? ⟨w.heap.size, 5, none⟩ = some (.int .i64 m.rq.st) := fun x => (HBx.out x).cell 5 _ rfl
  have d6 : ∀ x : Cls wa, x.1.cell? ⟨w.heap.size, 6, none⟩ = some (.int .i64 m.rq.k) := fun x => (HBx.out x).cell 6 _ rfl
  have d7 : ∀ x : Cls wa, x.1.cell? ⟨w.heap.size, 7, none⟩ = some (.string m.rq.key) := fun x => (HBx.out x).cell 7 _ rfl
  have d8 : ∀ x : Cls wa, x.1.cell? ⟨w.heap.size, 8, none⟩ = some (.float .f64 m.rq.b) := fun x => (HBx.out x).cell 8 _ rfl
  have d9 : ∀ x : Cls wa, x.1.cell? ⟨w.heap.size, 9, none⟩ = some (.int .i64 m.rq.id) := fun x => (HBx.out x).cell 9 _ rfl
  have d10 : ∀ x : Cls wa, x.1.cell? ⟨w.heap.size, 10, none⟩ = some (.int .i64 m.rs.1) := fun x => (HBx.out x).cell 10 _ rfl
  have d11 : ∀ x : Cls wa, x.1.cell? ⟨w.heap.size, 11, none⟩ = some (.float .f64 m.rs.2) := fun x => (HBx.out x).cell 11 _ rfl
  have d12 : ∀ x : Cls wa, x.1.cell? ⟨w.heap.size, 12, none⟩ = some (.string m.tx) := fun x => (HBx.out x).cell 12 _ rfl
  have d13 : ∀ x : Cls wa, x.1.cell? ⟨w.heap.size, 13, none⟩ = some (.slice a13 m.nx.length c13) := fun x => (HBx.out x).cell 13 _ rfl
  have d14 : ∀ x : Cls wa, x.1.cell? ⟨w.heap.size, 14, none⟩ = some (.slice a14 m.sg.length c14) := fun x => (HBx.out x).cell 14 _ rfl
  have d15 : ∀ x : Cls wa, x.1.cell? ⟨w.heap.size, 15, none⟩ = some (.slice a15 m.cg.length c15) := fun x => (HBx.out x).cell 15 _ rfl
  have d16 : ∀ x : Cls wa, x.1.cell? ⟨w.heap.size, 16, none⟩ = some (.slice a16 m.ln.length c16) := fun x => (HBx.out x).cell 16 _ rfl
  haveI := Cls.ne wa
  refine wp_region_cls wa (by kernel_rfl) (by kernel_rfl) ?_
  repeat (go_big_quiet_step ((first
    | (go_at_call 27; exact Cls.of _ (fun u hu => HT1.out u hu))
    | (go_at_call 33; exact Cls.of _ (fun u hu => HX.out u hu)))))
  refine wpQuiet_nil ?_
  rintro _ ⟨x, rfl⟩
  go_wp2
  go_ret
  exact ⟨by simp, HW0.out.trans (x.2.mono HW0.out.size)⟩
set_option maxRecDepth 100000 in
set_option maxHeartbeats 6400000 in
theorem ifits_5_3 {F : Nat → Prop} (m : Ms) (hB : MsB m) (h0 : 0 ≤ m.ep) (h1 : m.ep ≤ 60) (hk : m.k = 5) (a13 a14 a15 a16 : Option Addr) (c13 c14 c15 c16 : Nat) (w : World) (hL : MsL F w m (.slice a13 m.nx.length c13) (.slice a14 m.sg.length c14) (.slice a15 m.cg.length c15) (.slice a16 m.ln.length c16)) (t1 : (onlyB m { s := true, t := true, n := true, g := true }) = true) (t2 : (decide (m.sl = 4 * (m.ep + 1))) = true) (t3 : (!decide (m.tx.size = 0)) = true) (t4 : (memB m.nx) = false) :
    Calls Try.prog 15 #[.agg #[.int .i64 m.k, .int .i64 m.ep, .int .i64 m.v, .int .i64 m.sl, .int .i64 m.rq.c, .int .i64 m.rq.st, .int .i64 m.rq.k, .string m.rq.key, .float .f64 m.rq.b, .int .i64 m.rq.id, .int .i64 m.rs.1, .float .f64 m.rs.2, .string m.tx, .slice a13 m.nx.length c13, .slice a14 m.sg.length c14, .slice a15 m.cg.length c15, .slice a16 m.ln.length c16]] w fun e w' => e = .returned (.bool false) ∧ Below w.heap.size w w' := by
  have _ := hB
  have hS : PairsIn w a14 m.sg := (slice_pairs hL.sg)
  have hI : IntsIn w a13 m.nx := (slice_ints hL.nx)
  have hC := hL.cg
  have hK := hL.ln
  obtain ⟨wa, ewa⟩ : ∃ wa, wa = w.alloc (.cells #[.int .i64 m.k, .int .i64 m.ep, .int .i64 m.v, .int .i64 m.sl, .int .i64 m.rq.c, .int .i64 m.rq.st, .int .i64 m.rq.k, .string m.rq.key, .float .f64 m.rq.b, .int .i64 m.rq.id, .int .i64 m.rs.1, .float .f64 m.rs.2, .string m.tx, .slice a13 m.nx.length c13, .slice a14 m.sg.length c14, .slice a15 m.cg.length c15, .slice a16 m.ln.length c16] 34) := ⟨_, rfl⟩
  have hw0 : Below w.heap.size w wa := by rw [ewa]; exact (Below.refl w.heap.size w).alloc (Nat.le_refl _) _
  have H0 : Hid (BxAt wa w.heap.size [.int .i64 m.k, .int .i64 m.ep, .int .i64 m.v, .int .i64 m.sl, .int .i64 m.rq.c, .int .i64 m.rq.st, .int .i64 m.rq.k, .string m.rq.key, .float .f64 m.rq.b, .int .i64 m.rq.id, .int .i64 m.rs.1, .float .f64 m.rs.2, .string m.tx, .slice a13 m.nx.length c13, .slice a14 m.sg.length c14, .slice a15 m.cg.length c15, .slice a16 m.ln.length c16] 34 ∧ Below wa.heap.size wa wa) := hid ⟨by rw [ewa]; exact heap_alloc_last w _, Below.refl _ _⟩
  have HA : Hid (w.alloc (.cells #[.int .i64 m.k, .int .i64 m.ep, .int .i64 m.v, .int .i64 m.sl, .int .i64 m.rq.c, .int .i64 m.rq.st, .int .i64 m.rq.k, .string m.rq.key, .float .f64 m.rq.b, .int .i64 m.rq.id, .int .i64 m.rs.1, .float .f64 m.rs.2, .string m.tx, .slice a13 m.nx.length c13, .slice a14 m.sg.length c14, .slice a15 m.cg.length c15, .slice a16 m.ln.length c16] 34) = wa) := hid ewa.symm
  clear ewa
  have z1 : (w.alloc (.cells #[.int .i64 m.k, .int .i64 m.ep, .int .i64 m.v, .int .i64 m.sl, .int .i64 m.rq.c, .int .i64 m.rq.st, .int .i64 m.rq.k, .string m.rq.key, .float .f64 m.rq.b, .int .i64 m.rq.id, .int .i64 m.rs.1, .float .f64 m.rs.2, .string m.tx, .slice a13 m.nx.length c13, .slice a14 m.sg.length c14, .slice a15 m.cg.length c15, .slice a16 m.ln.length c16] 34)).cell? ⟨w.heap.size, 1, none⟩ = some (.int .i64 m.ep) := by rw [HA.out]; exact H0.out.1.cell 1 _ rfl
  have HW : Hid (inB m.ep 0 60 = true) := hid (by rw [inB, decide_eq_true h0, decide_eq_true h1]; rfl)
  have HW0 := hid hw0
  have q1 : (m.k == 1) = false := by rw [hk]; rfl
  have q2 : (m.k == 2) = false := by rw [hk]; rfl
  have q3 : (m.k == 3) = false := by rw [hk]; rfl
  have q4 : (m.k == 4) = false := by rw [hk]; rfl
  have q5 : (m.k == 5) = true := by rw [hk]; rfl
  have HT1 : Hid (∀ u : World, Below wa.heap.size wa u → Calls Try.prog 27 #[.agg #[.int .i64 m.k, .int .i64 m.ep, .int .i64 m.v, .int .i64 m.sl, .int .i64 m.rq.c, .int .i64 m.rq.st, .int .i64 m.rq.k, .string m.rq.key, .float .f64 m.rq.b, .int .i64 m.rq.id, .int .i64 m.rs.1, .float .f64 m.rs.2, .string m.tx, .slice a13 m.nx.length c13, .slice a14 m.sg.length c14, .slice a15 m.cg.length c15, .slice a16 m.ln.length c16], .int .i64 114] u fun e w' => e = .returned (.bool true) ∧ Below u.heap.size u w') := hid (fun u hv => by have hu := hw0.trans (hv.mono hw0.size); rw [← t1]; exact ionly_114 m a13 a14 a15 a16 c13 c14 c15 c16 u)
  have b2 : (m.sl == 4 * (m.ep + 1)) = true := by rw [beq_iff_eq]; exact of_decide_eq_true t2
  have ht := none_size m.tx
  rw [show decide (m.tx.size = 0) = false by simpa using t3] at ht
  have HT4 : Hid (∀ u : World, Below wa.heap.size wa u → Calls Try.prog 34 #[.slice a13 m.nx.length c13] u fun e w' => e = .returned (.bool false) ∧ Below u.heap.size u w') := hid (fun u hv => by have hu := hw0.trans (hv.mono hw0.size); rw [← t4]; exact imembers_any a13 _ c13 m.nx rfl hB.nx.1 u (hI.keep hu (Nat.le_refl _)))
  have HX : Hid (∀ u : World, Below wa.heap.size wa u → Calls Try.prog 33 #[.int .i64 m.ep] u fun e w' => e = .returned (.int .i64 (4 * (m.ep + 1))) ∧ Below u.heap.size u w') := hid (fun u hv => by exact (iend_any m.ep (by omega) h1 u).mono fun e w' ⟨h1, h2⟩ => ⟨h1, by rw [h2]; exact Below.refl _ _⟩)
  clear t1 t2 t3 t4 hS hI hC hK hL hB hw0 h0 h1 hk
  go_enter Try.func15, Try.ntmps15
  try simp only [List.append]
  go_wp2_with (go_at_call 26; refine (iwithin_any _ _ _ _).mono ?_; rintro e w1 ⟨rfl, hw⟩; rw [HW.out]; replace hw := (hw.trans HA.out).symm; subst hw; clear z1; have y0 := H0.out.1.cell 0 _ rfl; have y1 := H0.out.1.cell 1 _ rfl; have y2 := H0.out.1.cell 2 _ rfl; have y3 := H0.out.1.cell 3 _ rfl; have y4 := H0.out.1.cell 4 _ rfl; have y5 := H0.out.1.cell 5 _ rfl; have y6 := H0.out.1.cell 6 _ rfl; have y7 := H0.out.1.cell 7 _ rfl; have y8 := H0.out.1.cell 8 _ rfl; have y9 := H0.out.1.cell 9 _ rfl; have y10 := H0.out.1.cell 10 _ rfl; have y11 := H0.out.1.cell 11 _ rfl; have y12 := H0.out.1.cell 12 _ rfl; have y13 := H0.out.1.cell 13 _ rfl; have y14 := H0.out.1.cell 14 _ rfl; have y15 := H0.out.1.cell 15 _ rfl; have y16 := H0.out.1.cell 16 _ rfl)
  clear y0 y1 y2 y3 y4 y5 y6 y7 y8 y9 y10 y11 y12 y13 y14 y15 y16
  go_simp
  have HBx : Hid (∀ x : Cls wa, BxAt x.1 w.heap.size [.int .i64 m.k, .int .i64 m.ep, .int .i64 m.v, .int .i64 m.sl, .int .i64 m.rq.c, .int .i64 m.rq.st, .int .i64 m.rq.k, .string m.rq.key, .float .f64 m.rq.b, .int .i64 m.rq.id, .int .i64 m.rs.1, .float .f64 m.rs.2, .string m.tx, .slice a13 m.nx.length c13, .slice a14 m.sg.length c14, .slice a15 m.cg.length c15, .slice a16 m.ln.length c16] 34) := hid (fun x => H0.out.1.keep x.2)
  have d0 : ∀ x : Cls wa, x.1.cell? ⟨w.heap.size, 0, none⟩ = some (.int .i64 m.k) := fun x => (HBx.out x).cell 0 _ rfl
  have d1 : ∀ x : Cls wa, x.1.cell? ⟨w.heap.size, 1, none⟩ = some (.int .i64 m.ep) := fun x => (HBx.out x).cell 1 _ rfl
  have d2 : ∀ x : Cls wa, x.1.cell? ⟨w.heap.size, 2, none⟩ = some (.int .i64 m.v) := fun x => (HBx.out x).cell 2 _ rfl
  have d3 : ∀ x : Cls wa, x.1.cell? ⟨w.heap.size, 3, none⟩ = some (.int .i64 m.sl) := fun x => (HBx.out x).cell 3 _ rfl
  have d4 : ∀ x : Cls wa, x.1.cell? ⟨w.heap.size, 4, none⟩ = some (.int .i64 m.rq.c) := fun x => (HBx.out x).cell 4 _ rfl
  have d5 : ∀ x : Cls wa, x.1.cell? ⟨w.heap.size, 5, none⟩ = some (.int .i64 m.rq.st) := fun x => (HBx.out x).cell 5 _ rfl
  have d6 : ∀ x : Cls wa, x.1.cell? ⟨w.heap.size, 6, none⟩ = some (.int .i64 m.rq.k) := fun x => (HBx.out x).cell 6 _ rfl
  have d7 : ∀ x : Cls wa, x.1.cell? ⟨w.heap.size, 7, none⟩ = some (.string m.rq.key) := fun x => (HBx.out x).cell 7 _ rfl
  have d8 : ∀ x : Cls wa, x.1.cell? ⟨w.heap.size, 8, none⟩ = some (.float .f64 m.rq.b) := fun x => (HBx.out x).cell 8 _ rfl
  have d9 : ∀ x : Cls wa, x.1.cell? ⟨w.heap.size, 9, none⟩ = some (.int .i64 m.rq.id) := fun x => (HBx.out x).cell 9 _ rfl
  have d10 : ∀ x : Cls wa, x.1.cell? ⟨w.heap.size, 10, none⟩ = some (.int .i64 m.rs.1) := fun x => (HBx.out x).cell 10 _ rfl
  have d11 : ∀ x : Cls wa, x.1.cell? ⟨w.heap.size, 11, none⟩ = some (.float .f64 m.rs.2) := fun x => (HBx.out x).cell 11 _ rfl
  have d12 : ∀ x : Cls wa, x.1.cell? ⟨w.heap.size, 12, none⟩ = some (.string m.tx) := fun x => (HBx.out x).cell 12 _ rfl
  have d13 : ∀ x : Cls wa, x.1.cell? ⟨w.heap.size, 13, none⟩ = some (.slice a13 m.nx.length c13) := fun x => (HBx.out x).cell 13 _ rfl
  have d14 : ∀ x : Cls wa, x.1.cell? ⟨w.heap.size, 14, none⟩ = some (.slice a14 m.sg.length c14) := fun x => (HBx.out x).cell 14 _ rfl
  have d15 : ∀ x : Cls wa, x.1.cell? ⟨w.heap.size, 15, none⟩ = some (.slice a15 m.cg.length c15) := fun x => (HBx.out x).cell 15 _ rfl
  have d16 : ∀ x : Cls wa, x.1.cell? ⟨w.heap.size, 16, none⟩ = some (.slice a16 m.ln.length c16) := fun x => (HBx.out x).cell 16 _ rfl
  haveI := Cls.ne wa
  refine wp_region_cls wa (by kernel_rfl) (by kernel_rfl) ?_
  repeat (go_big_quiet_step ((first
    | (go_at_call 27; exact Cls.of _ (fun u hu => HT1.out u hu))
    | (go_at_call 34; exact Cls.of _ (fun u hu => HT4.out u hu))
    | (go_at_call 33; exact Cls.of _ (fun u hu => HX.out u hu)))))
  refine wpQuiet_nil ?_
  rintro _ ⟨x, rfl⟩
  go_wp2
  go_ret
  exact ⟨by simp, HW0.out.trans (x.2.mono HW0.out.size)⟩
set_option maxRecDepth 100000 in
set_option maxHeartbeats 6400000 in
theorem ifits_5_4 {F : Nat → Prop} (m : Ms) (hB : MsB m) (h0 : 0 ≤ m.ep) (h1 : m.ep ≤ 60) (hk : m.k = 5) (a13 a14 a15 a16 : Option Addr) (c13 c14 c15 c16 : Nat) (w : World) (hL : MsL F w m (.slice a13 m.nx.length c13) (.slice a14 m.sg.length c14) (.slice a15 m.cg.length c15) (.slice a16 m.ln.length c16)) (t1 : (onlyB m { s := true, t := true, n := true, g := true }) = true) (t2 : (decide (m.sl = 4 * (m.ep + 1))) = true) (t3 : (!decide (m.tx.size = 0)) = true) (t4 : (memB m.nx) = true) (t5 : (oneB m.sg 2) = false) :
    Calls Try.prog 15 #[.agg #[.int .i64 m.k, .int .i64 m.ep, .int .i64 m.v, .int .i64 m.sl, .int .i64 m.rq.c, .int .i64 m.rq.st, .int .i64 m.rq.k, .string m.rq.key, .float .f64 m.rq.b, .int .i64 m.rq.id, .int .i64 m.rs.1, .float .f64 m.rs.2, .string m.tx, .slice a13 m.nx.length c13, .slice a14 m.sg.length c14, .slice a15 m.cg.length c15, .slice a16 m.ln.length c16]] w fun e w' => e = .returned (.bool false) ∧ Below w.heap.size w w' := by
  have _ := hB
  have hS : PairsIn w a14 m.sg := (slice_pairs hL.sg)
  have hI : IntsIn w a13 m.nx := (slice_ints hL.nx)
  have hC := hL.cg
  have hK := hL.ln
  obtain ⟨wa, ewa⟩ : ∃ wa, wa = w.alloc (.cells #[.int .i64 m.k, .int .i64 m.ep, .int .i64 m.v, .int .i64 m.sl, .int .i64 m.rq.c, .int .i64 m.rq.st, .int .i64 m.rq.k, .string m.rq.key, .float .f64 m.rq.b, .int .i64 m.rq.id, .int .i64 m.rs.1, .float .f64 m.rs.2, .string m.tx, .slice a13 m.nx.length c13, .slice a14 m.sg.length c14, .slice a15 m.cg.length c15, .slice a16 m.ln.length c16] 34) := ⟨_, rfl⟩
  have hw0 : Below w.heap.size w wa := by rw [ewa]; exact (Below.refl w.heap.size w).alloc (Nat.le_refl _) _
  have H0 : Hid (BxAt wa w.heap.size [.int .i64 m.k, .int .i64 m.ep, .int .i64 m.v, .int .i64 m.sl, .int .i64 m.rq.c, .int .i64 m.rq.st, .int .i64 m.rq.k, .string m.rq.key, .float .f64 m.rq.b, .int .i64 m.rq.id, .int .i64 m.rs.1, .float .f64 m.rs.2, .string m.tx, .slice a13 m.nx.length c13, .slice a14 m.sg.length c14, .slice a15 m.cg.length c15, .slice a16 m.ln.length c16] 34 ∧ Below wa.heap.size wa wa) := hid ⟨by rw [ewa]; exact heap_alloc_last w _, Below.refl _ _⟩
  have HA : Hid (w.alloc (.cells #[.int .i64 m.k, .int .i64 m.ep, .int .i64 m.v, .int .i64 m.sl, .int .i64 m.rq.c, .int .i64 m.rq.st, .int .i64 m.rq.k, .string m.rq.key, .float .f64 m.rq.b, .int .i64 m.rq.id, .int .i64 m.rs.1, .float .f64 m.rs.2, .string m.tx, .slice a13 m.nx.length c13, .slice a14 m.sg.length c14, .slice a15 m.cg.length c15, .slice a16 m.ln.length c16] 34) = wa) := hid ewa.symm
  clear ewa
  have z1 : (w.alloc (.cells #[.int .i64 m.k, .int .i64 m.ep, .int .i64 m.v, .int .i64 m.sl, .int .i64 m.rq.c, .int .i64 m.rq.st, .int .i64 m.rq.k, .string m.rq.key, .float .f64 m.rq.b, .int .i64 m.rq.id, .int .i64 m.rs.1, .float .f64 m.rs.2, .string m.tx, .slice a13 m.nx.length c13, .slice a14 m.sg.length c14, .slice a15 m.cg.length c15, .slice a16 m.ln.length c16] 34)).cell? ⟨w.heap.size, 1, none⟩ = some (.int .i64 m.ep) := by rw [HA.out]; exact H0.out.1.cell 1 _ rfl
  have HW : Hid (inB m.ep 0 60 = true) := hid (by rw [inB, decide_eq_true h0, decide_eq_true h1]; rfl)
  have HW0 := hid hw0
  have q1 : (m.k == 1) = false := by rw [hk]; rfl
  have q2 : (m.k == 2) = false := by rw [hk]; rfl
  have q3 : (m.k == 3) = false := by rw [hk]; rfl
  have q4 : (m.k == 4) = false := by rw [hk]; rfl
  have q5 : (m.k == 5) = true := by rw [hk]; rfl
  have HT1 : Hid (∀ u : World, Below wa.heap.size wa u → Calls Try.prog 27 #[.agg #[.int .i64 m.k, .int .i64 m.ep, .int .i64 m.v, .int .i64 m.sl, .int .i64 m.rq.c, .int .i64 m.rq.st, .int .i64 m.rq.k, .string m.rq.key, .float .f64 m.rq.b, .int .i64 m.rq.id, .int .i64 m.rs.1, .float .f64 m.rs.2, .string m.tx, .slice a13 m.nx.length c13, .slice a14 m.sg.length c14, .slice a15 m.cg.length c15, .slice a16 m.ln.length c16], .int .i64 114] u fun e w' => e = .returned (.bool true) ∧ Below u.heap.size u w') := hid (fun u hv => by have hu := hw0.trans (hv.mono hw0.size); rw [← t1]; exact ionly_114 m a13 a14 a15 a16 c13 c14 c15 c16 u)
  have b2 : (m.sl == 4 * (m.ep + 1)) = true := by rw [beq_iff_eq]; exact of_decide_eq_true t2
  have ht := none_size m.tx
  rw [show decide (m.tx.size = 0) = false by simpa using t3] at ht
  have HT4 : Hid (∀ u : World, Below wa.heap.size wa u → Calls Try.prog 34 #[.slice a13 m.nx.length c13] u fun e w' => e = .returned (.bool true) ∧ Below u.heap.size u w') := hid (fun u hv => by have hu := hw0.trans (hv.mono hw0.size); rw [← t4]; exact imembers_any a13 _ c13 m.nx rfl hB.nx.1 u (hI.keep hu (Nat.le_refl _)))
  have HT5 : Hid (∀ u : World, Below wa.heap.size wa u → Calls Try.prog 29 #[.slice a14 m.sg.length c14, .int .i64 2] u fun e w' => e = .returned (.bool false) ∧ Below u.heap.size u w') := hid (fun u hv => by have hu := hw0.trans (hv.mono hw0.size); rw [← t5]; exact iareSigs_any a14 _ c14 m.sg rfl hB.sg.1 2 u (hS.keep hu (Nat.le_refl _)))
  have HX : Hid (∀ u : World, Below wa.heap.size wa u → Calls Try.prog 33 #[.int .i64 m.ep] u fun e w' => e = .returned (.int .i64 (4 * (m.ep + 1))) ∧ Below u.heap.size u w') := hid (fun u hv => by exact (iend_any m.ep (by omega) h1 u).mono fun e w' ⟨h1, h2⟩ => ⟨h1, by rw [h2]; exact Below.refl _ _⟩)
  clear t1 t2 t3 t4 t5 hS hI hC hK hL hB hw0 h0 h1 hk
  go_enter Try.func15, Try.ntmps15
  try simp only [List.append]
  go_wp2_with (go_at_call 26; refine (iwithin_any _ _ _ _).mono ?_; rintro e w1 ⟨rfl, hw⟩; rw [HW.out]; replace hw := (hw.trans HA.out).symm; subst hw; clear z1; have y0 := H0.out.1.cell 0 _ rfl; have y1 := H0.out.1.cell 1 _ rfl; have y2 := H0.out.1.cell 2 _ rfl; have y3 := H0.out.1.cell 3 _ rfl; have y4 := H0.out.1.cell 4 _ rfl; have y5 := H0.out.1.cell 5 _ rfl; have y6 := H0.out.1.cell 6 _ rfl; have y7 := H0.out.1.cell 7 _ rfl; have y8 := H0.out.1.cell 8 _ rfl; have y9 := H0.out.1.cell 9 _ rfl; have y10 := H0.out.1.cell 10 _ rfl; have y11 := H0.out.1.cell 11 _ rfl; have y12 := H0.out.1.cell 12 _ rfl; have y13 := H0.out.1.cell 13 _ rfl; have y14 := H0.out.1.cell 14 _ rfl; have y15 := H0.out.1.cell 15 _ rfl; have y16 := H0.out.1.cell 16 _ rfl)
  clear y0 y1 y2 y3 y4 y5 y6 y7 y8 y9 y10 y11 y12 y13 y14 y15 y16
  go_simp
  have HBx : Hid (∀ x : Cls wa, BxAt x.1 w.heap.size [.int .i64 m.k, .int .i64 m.ep, .int .i64 m.v, .int .i64 m.sl, .int .i64 m.rq.c, .int .i64 m.rq.st, .int .i64 m.rq.k, .string m.rq.key, .float .f64 m.rq.b, .int .i64 m.rq.id, .int .i64 m.rs.1, .float .f64 m.rs.2, .string m.tx, .slice a13 m.nx.length c13, .slice a14 m.sg.length c14, .slice a15 m.cg.length c15, .slice a16 m.ln.length c16] 34) := hid (fun x => H0.out.1.keep x.2)
  have d0 : ∀ x : Cls wa, x.1.cell? ⟨w.heap.size, 0, none⟩ = some (.int .i64 m.k) := fun x => (HBx.out x).cell 0 _ rfl
  have d1 : ∀ x : Cls wa, x.1.cell? ⟨w.heap.size, 1, none⟩ = some (.int .i64 m.ep) := fun x => (HBx.out x).cell 1 _ rfl
  have d2 : ∀ x : Cls wa, x.1.cell? ⟨w.heap.size, 2, none⟩ = some (.int .i64 m.v) := fun x => (HBx.out x).cell 2 _ rfl
  have d3 : ∀ x : Cls wa, x.1.cell? ⟨w.heap.size, 3, none⟩ = some (.int .i64 m.sl) := fun x => (HBx.out x).cell 3 _ rfl
  have d4 : ∀ x : Cls wa, x.1.cell? ⟨w.heap.size, 4, none⟩ = some (.int .i64 m.rq.c) := fun x => (HBx.out x).cell 4 _ rfl
  have d5 : ∀ x : Cls wa, x.1.cell? ⟨w.heap.size, 5, none⟩ = some (.int .i64 m.rq.st) := fun x => (HBx.out x).cell 5 _ rfl
  have d6 : ∀ x : Cls wa, x.1.cell? ⟨w.heap.size, 6, none⟩ = some (.int .i64 m.rq.k) := fun x => (HBx.out x).cell 6 _ rfl
  have d7 : ∀ x : Cls wa, x.1.cell? ⟨w.heap.size, 7, none⟩ = some (.string m.rq.key) := fun x => (HBx.out x).cell 7 _ rfl
  have d8 : ∀ x : Cls wa, x.1.cell? ⟨w.heap.size, 8, none⟩ = some (.float .f64 m.rq.b) := fun x => (HBx.out x).cell 8 _ rfl
  have d9 : ∀ x : Cls wa, x.1.cell? ⟨w.heap.size, 9, none⟩ = some (.int .i64 m.rq.id) := fun x => (HBx.out x).cell 9 _ rfl
  have d10 : ∀ x : Cls wa, x.1.cell? ⟨w.heap.size, 10, none⟩ = some (.int .i64 m.rs.1) := fun x => (HBx.out x).cell 10 _ rfl
  have d11 : ∀ x : Cls wa, x.1.cell? ⟨w.heap.size, 11, none⟩ = some (.float .f64 m.rs.2) := fun x => (HBx.out x).cell 11 _ rfl
  have d12 : ∀ x : Cls wa, x.1.cell? ⟨w.heap.size, 12, none⟩ = some (.string m.tx) := fun x => (HBx.out x).cell 12 _ rfl
  have d13 : ∀ x : Cls wa, x.1.cell? ⟨w.heap.size, 13, none⟩ = some (.slice a13 m.nx.length c13) := fun x => (HBx.out x).cell 13 _ rfl
  have d14 : ∀ x : Cls wa, x.1.cell? ⟨w.heap.size, 14, none⟩ = some (.slice a14 m.sg.length c14) := fun x => (HBx.out x).cell 14 _ rfl
  have d15 : ∀ x : Cls wa, x.1.cell? ⟨w.heap.size, 15, none⟩ = some (.slice a15 m.cg.length c15) := fun x => (HBx.out x).cell 15 _ rfl
  have d16 : ∀ x : Cls wa, x.1.cell? ⟨w.heap.size, 16, none⟩ = some (.slice a16 m.ln.length c16) := fun x => (HBx.out x).cell 16 _ rfl
  haveI := Cls.ne wa
  refine wp_region_cls wa (by kernel_rfl) (by kernel_rfl) ?_
  repeat (go_big_quiet_step ((first
    | (go_at_call 27; exact Cls.of _ (fun u hu => HT1.out u hu))
    | (go_at_call 34; exact Cls.of _ (fun u hu => HT4.out u hu))
    | (go_at_call 29; exact Cls.of _ (fun u hu => HT5.out u hu))
    | (go_at_call 33; exact Cls.of _ (fun u hu => HX.out u hu)))))
  refine wpQuiet_nil ?_
  rintro _ ⟨x, rfl⟩
  go_wp2
  go_ret
  exact ⟨by simp, HW0.out.trans (x.2.mono HW0.out.size)⟩
set_option maxRecDepth 100000 in
set_option maxHeartbeats 6400000 in
theorem ifits_5_5 {F : Nat → Prop} (m : Ms) (hB : MsB m) (h0 : 0 ≤ m.ep) (h1 : m.ep ≤ 60) (hk : m.k = 5) (a13 a14 a15 a16 : Option Addr) (c13 c14 c15 c16 : Nat) (w : World) (hL : MsL F w m (.slice a13 m.nx.length c13) (.slice a14 m.sg.length c14) (.slice a15 m.cg.length c15) (.slice a16 m.ln.length c16)) (t1 : (onlyB m { s := true, t := true, n := true, g := true }) = true) (t2 : (decide (m.sl = 4 * (m.ep + 1))) = true) (t3 : (!decide (m.tx.size = 0)) = true) (t4 : (memB m.nx) = true) (t5 : (oneB m.sg 2) = true) :
    Calls Try.prog 15 #[.agg #[.int .i64 m.k, .int .i64 m.ep, .int .i64 m.v, .int .i64 m.sl, .int .i64 m.rq.c, .int .i64 m.rq.st, .int .i64 m.rq.k, .string m.rq.key, .float .f64 m.rq.b, .int .i64 m.rq.id, .int .i64 m.rs.1, .float .f64 m.rs.2, .string m.tx, .slice a13 m.nx.length c13, .slice a14 m.sg.length c14, .slice a15 m.cg.length c15, .slice a16 m.ln.length c16]] w fun e w' => e = .returned (.bool true) ∧ Below w.heap.size w w' := by
  have _ := hB
  have hS : PairsIn w a14 m.sg := (slice_pairs hL.sg)
  have hI : IntsIn w a13 m.nx := (slice_ints hL.nx)
  have hC := hL.cg
  have hK := hL.ln
  obtain ⟨wa, ewa⟩ : ∃ wa, wa = w.alloc (.cells #[.int .i64 m.k, .int .i64 m.ep, .int .i64 m.v, .int .i64 m.sl, .int .i64 m.rq.c, .int .i64 m.rq.st, .int .i64 m.rq.k, .string m.rq.key, .float .f64 m.rq.b, .int .i64 m.rq.id, .int .i64 m.rs.1, .float .f64 m.rs.2, .string m.tx, .slice a13 m.nx.length c13, .slice a14 m.sg.length c14, .slice a15 m.cg.length c15, .slice a16 m.ln.length c16] 34) := ⟨_, rfl⟩
  have hw0 : Below w.heap.size w wa := by rw [ewa]; exact (Below.refl w.heap.size w).alloc (Nat.le_refl _) _
  have H0 : Hid (BxAt wa w.heap.size [.int .i64 m.k, .int .i64 m.ep, .int .i64 m.v, .int .i64 m.sl, .int .i64 m.rq.c, .int .i64 m.rq.st, .int .i64 m.rq.k, .string m.rq.key, .float .f64 m.rq.b, .int .i64 m.rq.id, .int .i64 m.rs.1, .float .f64 m.rs.2, .string m.tx, .slice a13 m.nx.length c13, .slice a14 m.sg.length c14, .slice a15 m.cg.length c15, .slice a16 m.ln.length c16] 34 ∧ Below wa.heap.size wa wa) := hid ⟨by rw [ewa]; exact heap_alloc_last w _, Below.refl _ _⟩
  have HA : Hid (w.alloc (.cells #[.int .i64 m.k, .int .i64 m.ep, .int .i64 m.v, .int .i64 m.sl, .int .i64 m.rq.c, .int .i64 m.rq.st, .int .i64 m.rq.k, .string m.rq.key, .float .f64 m.rq.b, .int .i64 m.rq.id, .int .i64 m.rs.1, .float .f64 m.rs.2, .string m.tx, .slice a13 m.nx.length c13, .slice a14 m.sg.length c14, .slice a15 m.cg.length c15, .slice a16 m.ln.length c16] 34) = wa) := hid ewa.symm
  clear ewa
  have z1 : (w.alloc (.cells #[.int .i64 m.k, .int .i64 m.ep, .int .i64 m.v, .int .i64 m.sl, .int .i64 m.rq.c, .int .i64 m.rq.st, .int .i64 m.rq.k, .string m.rq.key, .float .f64 m.rq.b, .int .i64 m.rq.id, .int .i64 m.rs.1, .float .f64 m.rs.2, .string m.tx, .slice a13 m.nx.length c13, .slice a14 m.sg.length c14, .slice a15 m.cg.length c15, .slice a16 m.ln.length c16] 34)).cell? ⟨w.heap.size, 1, none⟩ = some (.int .i64 m.ep) := by rw [HA.out]; exact H0.out.1.cell 1 _ rfl
  have HW : Hid (inB m.ep 0 60 = true) := hid (by rw [inB, decide_eq_true h0, decide_eq_true h1]; rfl)
  have HW0 := hid hw0
  have q1 : (m.k == 1) = false := by rw [hk]; rfl
  have q2 : (m.k == 2) = false := by rw [hk]; rfl
  have q3 : (m.k == 3) = false := by rw [hk]; rfl
  have q4 : (m.k == 4) = false := by rw [hk]; rfl
  have q5 : (m.k == 5) = true := by rw [hk]; rfl
  have HT1 : Hid (∀ u : World, Below wa.heap.size wa u → Calls Try.prog 27 #[.agg #[.int .i64 m.k, .int .i64 m.ep, .int .i64 m.v, .int .i64 m.sl, .int .i64 m.rq.c, .int .i64 m.rq.st, .int .i64 m.rq.k, .string m.rq.key, .float .f64 m.rq.b, .int .i64 m.rq.id, .int .i64 m.rs.1, .float .f64 m.rs.2, .string m.tx, .slice a13 m.nx.length c13, .slice a14 m.sg.length c14, .slice a15 m.cg.length c15, .slice a16 m.ln.length c16], .int .i64 114] u fun e w' => e = .returned (.bool true) ∧ Below u.heap.size u w') := hid (fun u hv => by have hu := hw0.trans (hv.mono hw0.size); rw [← t1]; exact ionly_114 m a13 a14 a15 a16 c13 c14 c15 c16 u)
  have b2 : (m.sl == 4 * (m.ep + 1)) = true := by rw [beq_iff_eq]; exact of_decide_eq_true t2
  have ht := none_size m.tx
  rw [show decide (m.tx.size = 0) = false by simpa using t3] at ht
  have HT4 : Hid (∀ u : World, Below wa.heap.size wa u → Calls Try.prog 34 #[.slice a13 m.nx.length c13] u fun e w' => e = .returned (.bool true) ∧ Below u.heap.size u w') := hid (fun u hv => by have hu := hw0.trans (hv.mono hw0.size); rw [← t4]; exact imembers_any a13 _ c13 m.nx rfl hB.nx.1 u (hI.keep hu (Nat.le_refl _)))
  have HT5 : Hid (∀ u : World, Below wa.heap.size wa u → Calls Try.prog 29 #[.slice a14 m.sg.length c14, .int .i64 2] u fun e w' => e = .returned (.bool true) ∧ Below u.heap.size u w') := hid (fun u hv => by have hu := hw0.trans (hv.mono hw0.size); rw [← t5]; exact iareSigs_any a14 _ c14 m.sg rfl hB.sg.1 2 u (hS.keep hu (Nat.le_refl _)))
  have HX : Hid (∀ u : World, Below wa.heap.size wa u → Calls Try.prog 33 #[.int .i64 m.ep] u fun e w' => e = .returned (.int .i64 (4 * (m.ep + 1))) ∧ Below u.heap.size u w') := hid (fun u hv => by exact (iend_any m.ep (by omega) h1 u).mono fun e w' ⟨h1, h2⟩ => ⟨h1, by rw [h2]; exact Below.refl _ _⟩)
  clear t1 t2 t3 t4 t5 hS hI hC hK hL hB hw0 h0 h1 hk
  go_enter Try.func15, Try.ntmps15
  try simp only [List.append]
  go_wp2_with (go_at_call 26; refine (iwithin_any _ _ _ _).mono ?_; rintro e w1 ⟨rfl, hw⟩; rw [HW.out]; replace hw := (hw.trans HA.out).symm; subst hw; clear z1; have y0 := H0.out.1.cell 0 _ rfl; have y1 := H0.out.1.cell 1 _ rfl; have y2 := H0.out.1.cell 2 _ rfl; have y3 := H0.out.1.cell 3 _ rfl; have y4 := H0.out.1.cell 4 _ rfl; have y5 := H0.out.1.cell 5 _ rfl; have y6 := H0.out.1.cell 6 _ rfl; have y7 := H0.out.1.cell 7 _ rfl; have y8 := H0.out.1.cell 8 _ rfl; have y9 := H0.out.1.cell 9 _ rfl; have y10 := H0.out.1.cell 10 _ rfl; have y11 := H0.out.1.cell 11 _ rfl; have y12 := H0.out.1.cell 12 _ rfl; have y13 := H0.out.1.cell 13 _ rfl; have y14 := H0.out.1.cell 14 _ rfl; have y15 := H0.out.1.cell 15 _ rfl; have y16 := H0.out.1.cell 16 _ rfl)
  clear y0 y1 y2 y3 y4 y5 y6 y7 y8 y9 y10 y11 y12 y13 y14 y15 y16
  go_simp
  have HBx : Hid (∀ x : Cls wa, BxAt x.1 w.heap.size [.int .i64 m.k, .int .i64 m.ep, .int .i64 m.v, .int .i64 m.sl, .int .i64 m.rq.c, .int .i64 m.rq.st, .int .i64 m.rq.k, .string m.rq.key, .float .f64 m.rq.b, .int .i64 m.rq.id, .int .i64 m.rs.1, .float .f64 m.rs.2, .string m.tx, .slice a13 m.nx.length c13, .slice a14 m.sg.length c14, .slice a15 m.cg.length c15, .slice a16 m.ln.length c16] 34) := hid (fun x => H0.out.1.keep x.2)
  have d0 : ∀ x : Cls wa, x.1.cell? ⟨w.heap.size, 0, none⟩ = some (.int .i64 m.k) := fun x => (HBx.out x).cell 0 _ rfl
  have d1 : ∀ x : Cls wa, x.1.cell? ⟨w.heap.size, 1, none⟩ = some (.int .i64 m.ep) := fun x => (HBx.out x).cell 1 _ rfl
  have d2 : ∀ x : Cls wa, x.1.cell? ⟨w.heap.size, 2, none⟩ = some (.int .i64 m.v) := fun x => (HBx.out x).cell 2 _ rfl
  have d3 : ∀ x : Cls wa, x.1.cell? ⟨w.heap.size, 3, none⟩ = some (.int .i64 m.sl) := fun x => (HBx.out x).cell 3 _ rfl
  have d4 : ∀ x : Cls wa, x.1.cell? ⟨w.heap.size, 4, none⟩ = some (.int .i64 m.rq.c) := fun x => (HBx.out x).cell 4 _ rfl
  have d5 : ∀ x : Cls wa, x.1.cell? ⟨w.heap.size, 5, none⟩ = some (.int .i64 m.rq.st) := fun x => (HBx.out x).cell 5 _ rfl
  have d6 : ∀ x : Cls wa, x.1.cell? ⟨w.heap.size, 6, none⟩ = some (.int .i64 m.rq.k) := fun x => (HBx.out x).cell 6 _ rfl
  have d7 : ∀ x : Cls wa, x.1.cell? ⟨w.heap.size, 7, none⟩ = some (.string m.rq.key) := fun x => (HBx.out x).cell 7 _ rfl
  have d8 : ∀ x : Cls wa, x.1.cell? ⟨w.heap.size, 8, none⟩ = some (.float .f64 m.rq.b) := fun x => (HBx.out x).cell 8 _ rfl
  have d9 : ∀ x : Cls wa, x.1.cell? ⟨w.heap.size, 9, none⟩ = some (.int .i64 m.rq.id) := fun x => (HBx.out x).cell 9 _ rfl
  have d10 : ∀ x : Cls wa, x.1.cell? ⟨w.heap.size, 10, none⟩ = some (.int .i64 m.rs.1) := fun x => (HBx.out x).cell 10 _ rfl
  have d11 : ∀ x : Cls wa, x.1.cell? ⟨w.heap.size, 11, none⟩ = some (.float .f64 m.rs.2) := fun x => (HBx.out x).cell 11 _ rfl
  have d12 : ∀ x : Cls wa, x.1.cell? ⟨w.heap.size, 12, none⟩ = some (.string m.tx) := fun x => (HBx.out x).cell 12 _ rfl
  have d13 : ∀ x : Cls wa, x.1.cell? ⟨w.heap.size, 13, none⟩ = some (.slice a13 m.nx.length c13) := fun x => (HBx.out x).cell 13 _ rfl
  have d14 : ∀ x : Cls wa, x.1.cell? ⟨w.heap.size, 14, none⟩ = some (.slice a14 m.sg.length c14) := fun x => (HBx.out x).cell 14 _ rfl
  have d15 : ∀ x : Cls wa, x.1.cell? ⟨w.heap.size, 15, none⟩ = some (.slice a15 m.cg.length c15) := fun x => (HBx.out x).cell 15 _ rfl
  have d16 : ∀ x : Cls wa, x.1.cell? ⟨w.heap.size, 16, none⟩ = some (.slice a16 m.ln.length c16) := fun x => (HBx.out x).cell 16 _ rfl
  haveI := Cls.ne wa
  refine wp_region_cls wa (by kernel_rfl) (by kernel_rfl) ?_
  repeat (go_big_quiet_step ((first
    | (go_at_call 27; exact Cls.of _ (fun u hu => HT1.out u hu))
    | (go_at_call 34; exact Cls.of _ (fun u hu => HT4.out u hu))
    | (go_at_call 29; exact Cls.of _ (fun u hu => HT5.out u hu))
    | (go_at_call 33; exact Cls.of _ (fun u hu => HX.out u hu)))))
  refine wpQuiet_nil ?_
  rintro _ ⟨x, rfl⟩
  go_wp2
  go_ret
  exact ⟨by simp, HW0.out.trans (x.2.mono HW0.out.size)⟩
theorem ifits_5 {F : Nat → Prop} (m : Ms) (hB : MsB m) (h0 : 0 ≤ m.ep) (h1 : m.ep ≤ 60) (hk : m.k = 5) (a13 a14 a15 a16 : Option Addr) (c13 c14 c15 c16 : Nat) (w : World) (hL : MsL F w m (.slice a13 m.nx.length c13) (.slice a14 m.sg.length c14) (.slice a15 m.cg.length c15) (.slice a16 m.ln.length c16)) :
    Calls Try.prog 15 #[.agg #[.int .i64 m.k, .int .i64 m.ep, .int .i64 m.v, .int .i64 m.sl, .int .i64 m.rq.c, .int .i64 m.rq.st, .int .i64 m.rq.k, .string m.rq.key, .float .f64 m.rq.b, .int .i64 m.rq.id, .int .i64 m.rs.1, .float .f64 m.rs.2, .string m.tx, .slice a13 m.nx.length c13, .slice a14 m.sg.length c14, .slice a15 m.cg.length c15, .slice a16 m.ln.length c16]] w fun e w' => e = .returned (.bool (kindB m)) ∧ Below w.heap.size w w' := by
  have hV : kindB m = ((onlyB m { s := true, t := true, n := true, g := true }) && ((decide (m.sl = 4 * (m.ep + 1))) && ((!decide (m.tx.size = 0)) && ((memB m.nx) && ((oneB m.sg 2)))))) := by
    unfold kindB
    rw [if_neg (by rw [hk]; decide)]; rw [if_neg (by rw [hk]; decide)]; rw [if_neg (by rw [hk]; decide)]; rw [if_neg (by rw [hk]; decide)]; rw [if_pos hk]
  cases t1 : (onlyB m { s := true, t := true, n := true, g := true }) with
  | false =>
    rw [show kindB m = false by rw [hV, t1] <;> rfl]
    exact ifits_5_0 m hB h0 h1 hk a13 a14 a15 a16 c13 c14 c15 c16 w hL t1
  | true =>
    cases t2 : (decide (m.sl = 4 * (m.ep + 1))) with
    | false =>
      rw [show kindB m = false by rw [hV, t1, t2] <;> rfl]
      exact ifits_5_1 m hB h0 h1 hk a13 a14 a15 a16 c13 c14 c15 c16 w hL t1 t2
    | true =>
      cases t3 : (!decide (m.tx.size = 0)) with
      | false =>
        rw [show kindB m = false by rw [hV, t1, t2, t3] <;> rfl]
        exact ifits_5_2 m hB h0 h1 hk a13 a14 a15 a16 c13 c14 c15 c16 w hL t1 t2 t3
      | true =>
        cases t4 : (memB m.nx) with
        | false =>
          rw [show kindB m = false by rw [hV, t1, t2, t3, t4] <;> rfl]
          exact ifits_5_3 m hB h0 h1 hk a13 a14 a15 a16 c13 c14 c15 c16 w hL t1 t2 t3 t4
        | true =>
          cases t5 : (oneB m.sg 2) with
          | false =>
            rw [show kindB m = false by rw [hV, t1, t2, t3, t4, t5] <;> rfl]
            exact ifits_5_4 m hB h0 h1 hk a13 a14 a15 a16 c13 c14 c15 c16 w hL t1 t2 t3 t4 t5
          | true =>
            rw [show kindB m = true by rw [hV, t1, t2, t3, t4, t5] <;> rfl]
            exact ifits_5_5 m hB h0 h1 hk a13 a14 a15 a16 c13 c14 c15 c16 w hL t1 t2 t3 t4 t5
end Go.Proofs.Ytepcdbmdfpaomaa
