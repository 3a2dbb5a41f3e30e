/- The program's test of messages, kind by kind. -/
import Derived.Test.YtepcdbmdfpaomaaWiNzM
namespace Go.Proofs.Ytepcdbmdfpaomaa
open Go.RowKit
set_option maxRecDepth 100000 in
set_option maxHeartbeats 6400000 in
theorem ifits_2_0 {F : Nat → Prop} (m : Ms) (hB : MsB m) (h0 : 0 ≤ m.ep) (h1 : m.ep ≤ 60) (hk : m.k = 2) (a13 a14 a15 a16 : Option Addr) (c13 c14 c15 c16 : Nat) (w : World) (hL : MsL F w m (.slice a13 m.nx.length c13) (.slice a14 m.sg.length c14) (.slice a15 m.cg.length c15) (.slice a16 m.ln.length c16)) (K : Nat) (eK : K = if nullB m.rq then 0 else 1) (t1 : (onlyB m { v := true, s := true, r := true, g := true }) = false) :
    Calls Try.prog 15 #[.agg #[.int .i64 m.k, .int .i64 m.ep, .int .i64 m.v, .int .i64 m.sl, .int .i64 m.rq.c, .int .i64 m.rq.st, .int .i64 m.rq.k, .string m.rq.key, .float .f64 m.rq.b, .int .i64 m.rq.id, .int .i64 m.rs.1, .float .f64 m.rs.2, .string m.tx, .slice a13 m.nx.length c13, .slice a14 m.sg.length c14, .slice a15 m.cg.length c15, .slice a16 m.ln.length c16]] w fun e w' => e = .returned (.bool false) ∧ Below w.heap.size w w' := by
  have _ := hB
  have hS : PairsIn w a14 m.sg := (slice_pairs hL.sg)
  have hI : IntsIn w a13 m.nx := (slice_ints hL.nx)
  have hC := hL.cg
  have hK := hL.ln
  obtain ⟨wa, ewa⟩ : ∃ wa, wa = w.alloc (.cells #[.int .i64 m.k, .int .i64 m.ep, .int .i64 m.v, .int .i64 m.sl, .int .i64 m.rq.c, .int .i64 m.rq.st, .int .i64 m.rq.k, .string m.rq.key, .float .f64 m.rq.b, .int .i64 m.rq.id, .int .i64 m.rs.1, .float .f64 m.rs.2, .string m.tx, .slice a13 m.nx.length c13, .slice a14 m.sg.length c14, .slice a15 m.cg.length c15, .slice a16 m.ln.length c16] 34) := ⟨_, rfl⟩
  have hw0 : Below w.heap.size w wa := by rw [ewa]; exact (Below.refl w.heap.size w).alloc (Nat.le_refl _) _
  have H0 : Hid (BxAt wa w.heap.size [.int .i64 m.k, .int .i64 m.ep, .int .i64 m.v, .int .i64 m.sl, .int .i64 m.rq.c, .int .i64 m.rq.st, .int .i64 m.rq.k, .string m.rq.key, .float .f64 m.rq.b, .int .i64 m.rq.id, .int .i64 m.rs.1, .float .f64 m.rs.2, .string m.tx, .slice a13 m.nx.length c13, .slice a14 m.sg.length c14, .slice a15 m.cg.length c15, .slice a16 m.ln.length c16] 34 ∧ Below wa.heap.size wa wa) := hid ⟨by rw [ewa]; exact heap_alloc_last w _, Below.refl _ _⟩
  have HA : Hid (w.alloc (.cells #[.int .i64 m.k, .int .i64 m.ep, .int .i64 m.v, .int .i64 m.sl, .int .i64 m.rq.c, .int .i64 m.rq.st, .int .i64 m.rq.k, .string m.rq.key, .float .f64 m.rq.b, .int .i64 m.rq.id, .int .i64 m.rs.1, .float .f64 m.rs.2, .string m.tx, .slice a13 m.nx.length c13, .slice a14 m.sg.length c14, .slice a15 m.cg.length c15, .slice a16 m.ln.length c16] 34) = wa) := hid ewa.symm
  clear ewa
  have z1 : (w.alloc (.cells #[.int .i64 m.k, .int .i64 m.ep, .int .i64 m.v, .int .i64 m.sl, .int .i64 m.rq.c, .int .i64 m.rq.st, .int .i64 m.rq.k, .string m.rq.key, .float .f64 m.rq.b, .int .i64 m.rq.id, .int .i64 m.rs.1, .float .f64 m.rs.2, .string m.tx, .slice a13 m.nx.length c13, .slice a14 m.sg.length c14, .slice a15 m.cg.length c15, .slice a16 m.ln.length c16] 34)).cell? ⟨w.heap.size, 1, none⟩ = some (.int .i64 m.ep) := by rw [HA.out]; exact H0.out.1.cell 1 _ rfl
  have HW : Hid (inB m.ep 0 60 = true) := hid (by rw [inB, decide_eq_true h0, decide_eq_true h1]; rfl)
  have HW0 := hid hw0
  have q1 : (m.k == 1) = false := by rw [hk]; rfl
  have q2 : (m.k == 2) = true := by rw [hk]; rfl
  have HT1 : Hid (∀ u : World, Below wa.heap.size wa u → Calls Try.prog 27 #[.agg #[.int .i64 m.k, .int .i64 m.ep, .int .i64 m.v, .int .i64 m.sl, .int .i64 m.rq.c, .int .i64 m.rq.st, .int .i64 m.rq.k, .string m.rq.key, .float .f64 m.rq.b, .int .i64 m.rq.id, .int .i64 m.rs.1, .float .f64 m.rs.2, .string m.tx, .slice a13 m.nx.length c13, .slice a14 m.sg.length c14, .slice a15 m.cg.length c15, .slice a16 m.ln.length c16], .int .i64 71] u fun e w' => e = .returned (.bool false) ∧ Below u.heap.size u w') := hid (fun u hv => by have hu := hw0.trans (hv.mono hw0.size); rw [← t1]; exact ionly_71 m a13 a14 a15 a16 c13 c14 c15 c16 u)
  have HX : Hid (∀ u : World, Below wa.heap.size wa u → Calls Try.prog 32 #[.agg #[.int .i64 m.rq.c, .int .i64 m.rq.st, .int .i64 m.rq.k, .string m.rq.key, .float .f64 m.rq.b, .int .i64 m.rq.id]] u fun e w' => e = .returned (.int .i64 (K : Int)) ∧ Below u.heap.size u w') := hid (fun u hv => by rw [eK]; exact iaskers_any m.rq u)
  clear t1 hS hI hC hK hL hB hw0 h0 h1 hk eK
  go_enter Try.func15, Try.ntmps15
  try simp only [List.append]
  go_wp2_with (go_at_call 26; refine (iwithin_any _ _ _ _).mono ?_; rintro e w1 ⟨rfl, hw⟩; rw [HW.out]; replace hw := (hw.trans HA.out).symm; subst hw; clear z1; have y0 := H0.out.1.cell 0 _ rfl; have y1 := H0.out.1.cell 1 _ rfl; have y2 := H0.out.1.cell 2 _ rfl; have y3 := H0.out.1.cell 3 _ rfl; have y4 := H0.out.1.cell 4 _ rfl; have y5 := H0.out.1.cell 5 _ rfl; have y6 := H0.out.1.cell 6 _ rfl; have y7 := H0.out.1.cell 7 _ rfl; have y8 := H0.out.1.cell 8 _ rfl; have y9 := H0.out.1.cell 9 _ rfl; have y10 := H0.out.1.cell 10 _ rfl; have y11 := H0.out.1.cell 11 _ rfl; have y12 := H0.out.1.cell 12 _ rfl; have y13 := H0.out.1.cell 13 _ rfl; have y14 := H0.out.1.cell 14 _ rfl; have y15 := H0.out.1.cell 15 _ rfl; have y16 := H0.out.1.cell 16 _ rfl)
  clear y0 y1 y2 y3 y4 y5 y6 y7 y8 y9 y10 y11 y12 y13 y14 y15 y16
  go_simp
  have HBx : Hid (∀ x : Cls wa, BxAt x.1 w.heap.size [.int .i64 m.k, .int .i64 m.ep, .int .i64 m.v, .int .i64 m.sl, .int .i64 m.rq.c, .int .i64 m.rq.st, .int .i64 m.rq.k, .string m.rq.key, .float .f64 m.rq.b, .int .i64 m.rq.id, .int .i64 m.rs.1, .float .f64 m.rs.2, .string m.tx, .slice a13 m.nx.length c13, .slice a14 m.sg.length c14, .slice a15 m.cg.length c15, .slice a16 m.ln.length c16] 34) := hid (fun x => H0.out.1.keep x.2)
  have d0 : ∀ x : Cls wa, x.1.cell? ⟨w.heap.size, 0, none⟩ = some (.int .i64 m.k) := fun x => (HBx.out x).cell 0 _ rfl
  have d1 : ∀ x : Cls wa, x.1.cell? ⟨w.heap.size, 1, none⟩ = some (.int .i64 m.ep) := fun x => (HBx.out x).cell 1 _ rfl
  have d2 : ∀ x : Cls wa, x.1.cell? ⟨w.heap.size, 2, none⟩ = some (.int .i64 m.v) := fun x => (HBx.out x).cell 2 _ rfl
  have d3 : ∀ x : Cls wa, x.1.cell? ⟨w.heap.size, 3, none⟩ = some (.int .i64 m.sl) := fun x => (HBx.out x).cell 3 _ rfl
  have d4 : ∀ x : Cls wa, x.1.cell? ⟨w.heap.size, 4, none⟩ = some (.int .i64 m.rq.c) := fun x => (HBx.out x).cell 4 _ rfl
  have d5 : ∀ x : Cls wa, x.1.cell? ⟨w.heap.size, 5, none⟩ = some (.int .i64 m.rq.st) := fun x => (HBx.out x).cell 5 _ rfl
  have d6 : ∀ x : Cls wa, x.1.cell? ⟨w.heap.size, 6, none⟩ = some (.int .i64 m.rq.k) := fun x => (HBx.out x).cell 6 _ rfl
  have d7 : ∀ x : Cls wa, x.1.cell? ⟨w.heap.size, 7, none⟩ = some (.string m.rq.key) := fun x => (HBx.out x).cell 7 _ rfl
  have d8 : ∀ x : Cls wa, x.1.cell? ⟨w.heap.size, 8, none⟩ = some (.float .f64 m.rq.b) := fun x => (HBx.out x).cell 8 _ rfl
  have d9 : ∀ x : Cls wa, x.1.cell? ⟨w.heap.size, 9, none⟩ = some (.int .i64 m.rq.id) := fun x => (HBx.out x).cell 9 _ rfl
  have d10 : ∀ x : Cls wa, x.1.cell? ⟨w.heap.size, 10, none⟩ = some (.int .i64 m.rs.1) := fun x => (HBx.out x).cell 10 _ rfl
  have d11 : ∀ x : Cls wa, x.1.cell? ⟨w.heap.size, 11, none⟩ = some (.float .f64 m.rs.2) := fun x => (HBx.out x).cell 11 _ rfl
  have d12 : ∀ x : Cls wa, x.1.cell? ⟨w.heap.size, 12, none⟩ = some (.string m.tx) := fun x => (HBx.out x).cell 12 _ rfl
  have d13 : ∀ x : Cls wa, x.1.cell? ⟨w.heap.size, 13, none⟩ = some (.slice a13 m.nx.length c13) := fun x => (HBx.out x).cell 13 _ rfl
  have d14 : ∀ x : Cls wa, x.1.cell? ⟨w.heap.size, 14, none⟩ = some (.slice a14 m.sg.length c14) := fun x => (HBx.out x).cell 14 _ rfl
  have d15 : ∀ x : Cls wa, x.1.cell? ⟨w.heap.size, 15, none⟩ = some (.slice a15 m.cg.length c15) := fun x => (HBx.out x).cell 15 _ rfl
  have d16 : ∀ x : Cls wa, x.1.cell? ⟨w.heap.size, 16, none⟩ = some (.slice a16 m.ln.length c16) := fun x => (HBx.out x).cell 16 _ rfl
  haveI := Cls.ne wa
  refine wp_region_cls wa (by kernel_rfl) (by kernel_rfl) ?_
  repeat (go_big_quiet_step ((first
    | (go_at_call 27; exact Cls.of _ (fun u hu => HT1.out u hu))
    | (go_at_call 32; exact Cls.of _ (fun u hu => HX.out u hu)))))
  refine wpQuiet_nil ?_
  rintro _ ⟨x, rfl⟩
  go_wp2
  go_ret
  exact ⟨by simp, HW0.out.trans (x.2.mono HW0.out.size)⟩
set_option maxRecDepth 100000 in
set_option maxHeartbeats 6400000 in
theorem ifits_2_1 {F : Nat → Prop} (m : Ms) (hB : MsB m) (h0 : 0 ≤ m.ep) (h1 : m.ep ≤ 60) (hk : m.k = 2) (a13 a14 a15 a16 : Option Addr) (c13 c14 c15 c16 : Nat) (w : World) (hL : MsL F w m (.slice a13 m.nx.length c13) (.slice a14 m.sg.length c14) (.slice a15 m.cg.length c15) (.slice a16 m.ln.length c16)) (K : Nat) (eK : K = if nullB m.rq then 0 else 1) (t1 : (onlyB m { v := true, s := true, r := true, g := true }) = true) (t2 : (placeB m) = false) :
    Calls Try.prog 15 #[.agg #[.int .i64 m.k, .int .i64 m.ep, .int .i64 m.v, .int .i64 m.sl, .int .i64 m.rq.c, .int .i64 m.rq.st, .int .i64 m.rq.k, .string m.rq.key, .float .f64 m.rq.b, .int .i64 m.rq.id, .int .i64 m.rs.1, .float .f64 m.rs.2, .string m.tx, .slice a13 m.nx.length c13, .slice a14 m.sg.length c14, .slice a15 m.cg.length c15, .slice a16 m.ln.length c16]] w fun e w' => e = .returned (.bool false) ∧ Below w.heap.size w w' := by
  have _ := hB
  have hS : PairsIn w a14 m.sg := (slice_pairs hL.sg)
  have hI : IntsIn w a13 m.nx := (slice_ints hL.nx)
  have hC := hL.cg
  have hK := hL.ln
  obtain ⟨wa, ewa⟩ : ∃ wa, wa = w.alloc (.cells #[.int .i64 m.k, .int .i64 m.ep, .int .i64 m.v, .int .i64 m.sl, .int .i64 m.rq.c, .int .i64 m.rq.st, .int .i64 m.rq.k, .string m.rq.key, .float .f64 m.rq.b, .int .i64 m.rq.id, .int .i64 m.rs.1, .float .f64 m.rs.2, .string m.tx, .slice a13 m.nx.length c13, .slice a14 m.sg.length c14, .slice a15 m.cg.length c15, .slice a16 m.ln.length c16] 34) := ⟨_, rfl⟩
  have hw0 : Below w.heap.size w wa := by rw [ewa]; exact (Below.refl w.heap.size w).alloc (Nat.le_refl _) _
  have H0 : Hid (BxAt wa w.heap.size [.int .i64 m.k, .int .i64 m.ep, .int .i64 m.v, .int .i64 m.sl, .int .i64 m.rq.c, .int .i64 m.rq.st, .int .i64 m.rq.k, .string m.rq.key, .float .f64 m.rq.b, .int .i64 m.rq.id, .int .i64 m.rs.1, .float .f64 m.rs.2, .string m.tx, .slice a13 m.nx.length c13, .slice a14 m.sg.length c14, .slice a15 m.cg.length c15, .slice a16 m.ln.length c16] 34 ∧ Below wa.heap.size wa wa) := hid ⟨by rw [ewa]; exact heap_alloc_last w _, Below.refl _ _⟩
  have HA : Hid (w.alloc (.cells #[.int .i64 m.k, .int .i64 m.ep, .int .i64 m.v, .int .i64 m.sl, .int .i64 m.rq.c, .int .i64 m.rq.st, .int .i64 m.rq.k, .string m.rq.key, .float .f64 m.rq.b, .int .i64 m.rq.id, .int .i64 m.rs.1, .float .f64 m.rs.2, .string m.tx, .slice a13 m.nx.length c13, .slice a14 m.sg.length c14, .slice a15 m.cg.length c15, .slice a16 m.ln.length c16] 34) = wa) := hid ewa.symm
  clear ewa
  have z1 : (w.alloc (.cells #[.int .i64 m.k, .int .i64 m.ep, .int .i64 m.v, .int .i64 m.sl, .int .i64 m.rq.c, .int .i64 m.rq.st, .int .i64 m.rq.k, .string m.rq.key, .float .f64 m.rq.b, .int .i64 m.rq.id, .int .i64 m.rs.1, .float .f64 m.rs.2, .string m.tx, .slice a13 m.nx.length c13, .slice a14 m.sg.length c14, .slice a15 m.cg.length c15, .slice a16 m.ln.length c16] 34)).cell? ⟨w.heap.size, 1, none⟩ = some (.int .i64 m.ep) := by rw [HA.out]; exact H0.out.1.cell 1 _ rfl
  have HW : Hid (inB m.ep 0 60 = true) := hid (by rw [inB, decide_eq_true h0, decide_eq_true h1]; rfl)
  have HW0 := hid hw0
  have q1 : (m.k == 1) = false := by rw [hk]; rfl
  have q2 : (m.k == 2) = true := by rw [hk]; rfl
  have HT1 : Hid (∀ u : World, Below wa.heap.size wa u → Calls Try.prog 27 #[.agg #[.int .i64 m.k, .int .i64 m.ep, .int .i64 m.v, .int .i64 m.sl, .int .i64 m.rq.c, .int .i64 m.rq.st, .int .i64 m.rq.k, .string m.rq.key, .float .f64 m.rq.b, .int .i64 m.rq.id, .int .i64 m.rs.1, .float .f64 m.rs.2, .string m.tx, .slice a13 m.nx.length c13, .slice a14 m.sg.length c14, .slice a15 m.cg.length c15, .slice a16 m.ln.length c16], .int .i64 71] u fun e w' => e = .returned (.bool true) ∧ Below u.heap.size u w') := hid (fun u hv => by have hu := hw0.trans (hv.mono hw0.size); rw [← t1]; exact ionly_71 m a13 a14 a15 a16 c13 c14 c15 c16 u)
  have HT2 : Hid (∀ u : World, Below wa.heap.size wa u → Calls Try.prog 30 #[.agg #[.int .i64 m.k, .int .i64 m.ep, .int .i64 m.v, .int .i64 m.sl, .int .i64 m.rq.c, .int .i64 m.rq.st, .int .i64 m.rq.k, .string m.rq.key, .float .f64 m.rq.b, .int .i64 m.rq.id, .int .i64 m.rs.1, .float .f64 m.rs.2, .string m.tx, .slice a13 m.nx.length c13, .slice a14 m.sg.length c14, .slice a15 m.cg.length c15, .slice a16 m.ln.length c16]] u fun e w' => e = .returned (.bool false) ∧ Below u.heap.size u w') := hid (fun u hv => by have hu := hw0.trans (hv.mono hw0.size); rw [← t2]; exact iplaced_any m h0 h1 _ _ _ _ u)
  have HX : Hid (∀ u : World, Below wa.heap.size wa u → Calls Try.prog 32 #[.agg #[.int .i64 m.rq.c, .int .i64 m.rq.st, .int .i64 m.rq.k, .string m.rq.key, .float .f64 m.rq.b, .int .i64 m.rq.id]] u fun e w' => e = .returned (.int .i64 (K : Int)) ∧ Below u.heap.size u w') := hid (fun u hv => by rw [eK]; exact iaskers_any m.rq u)
  clear t1 t2 hS hI hC hK hL hB hw0 h0 h1 hk eK
  go_enter Try.func15, Try.ntmps15
  try simp only [List.append]
  go_wp2_with (go_at_call 26; refine (iwithin_any _ _ _ _).mono ?_; rintro e w1 ⟨rfl, hw⟩; rw [HW.out]; replace hw := (hw.trans HA.out).symm; subst hw; clear z1; have y0 := H0.out.1.cell 0 _ rfl; have y1 := H0.out.1.cell 1 _ rfl; have y2 := H0.out.1.cell 2 _ rfl; have y3 := H0.out.1.cell 3 _ rfl; have y4 := H0.out.1.cell 4 _ rfl; have y5 := H0.out.1.cell 5 _ rfl; have y6 := H0.out.1.cell 6 _ rfl; have y7 := H0.out.1.cell 7 _ rfl; have y8 := H0.out.1.cell 8 _ rfl; have y9 := H0.out.1.cell 9 _ rfl; have y10 := H0.out.1.cell 10 _ rfl; have y11 := H0.out.1.cell 11 _ rfl; have y12 := H0.out.1.cell 12 _ rfl; have y13 := H0.out.1.cell 13 _ rfl; have y14 := H0.out.1.cell 14 _ rfl; have y15 := H0.out.1.cell 15 _ rfl; have y16 := H0.out.1.cell 16 _ rfl)
  clear y0 y1 y2 y3 y4 y5 y6 y7 y8 y9 y10 y11 y12 y13 y14 y15 y16
  go_simp
  have HBx : Hid (∀ x : Cls wa, BxAt x.1 w.heap.size [.int .i64 m.k, .int .i64 m.ep, .int .i64 m.v, .int .i64 m.sl, .int .i64 m.rq.c, .int .i64 m.rq.st, .int .i64 m.rq.k, .string m.rq.key, .float .f64 m.rq.b, .int .i64 m.rq.id, .int .i64 m.rs.1, .float .f64 m.rs.2, .string m.tx, .slice a13 m.nx.length c13, .slice a14 m.sg.length c14, .slice a15 m.cg.length c15, .slice a16 m.ln.length c16] 34) := hid (fun x => H0.out.1.keep x.2)
  have d0 : ∀ x : Cls wa, x.1.cell? ⟨w.heap.size, 0, none⟩ = some (.int .i64 m.k) := fun x => (HBx.out x).cell 0 _ rfl
  have d1 : ∀ x : Cls wa, x.1.cell? ⟨w.heap.size, 1, none⟩ = some (.int .i64 m.ep) := fun x => (HBx.out x).cell 1 _ rfl
  have d2 : ∀ x : Cls wa, x.1.cell? ⟨w.heap.size, 2, none⟩ = some (.int .i64 m.v) := fun x => (HBx.out x).cell 2 _ rfl
  have d3 : ∀ x : Cls wa, x.1.cell? ⟨w.heap.size, 3, none⟩ = some (.int .i64 m.sl) := fun x => (HBx.out x).cell 3 _ rfl
  have d4 : ∀ x : Cls wa, x.1.cell? ⟨w.heap.size, 4, none⟩ = some (.int .i64 m.rq.c) := fun x => (HBx.out x).cell 4 _ rfl
  have d5 : ∀ x : Cls wa, x.1.cell? ⟨w.heap.size, 5, none⟩ = some (.int .i64 m.rq.st) := fun x => (HBx.out x).cell 5 _ rfl
  have d6 : ∀ x : Cls wa, x.1.cell? ⟨w.heap.size, 6, none⟩ = some (.int .i64 m.rq.k) := fun x => (HBx.out x).cell 6 _ rfl
  have d7 : ∀ x : Cls wa, x.1.cell? ⟨w.heap.size, 7, none⟩ = some (.string m.rq.key) := fun x => (HBx.out x).cell 7 _ rfl
  have d8 : ∀ x : Cls wa, x.1.cell? ⟨w.heap.size, 8, none⟩ = some (.float .f64 m.rq.b) := fun x => (HBx.out x).cell 8 _ rfl
  have d9 : ∀ x : Cls wa, x.1.cell? ⟨w.heap.size, 9, none⟩ = some (.int .i64 m.rq.id) := fun x => (HBx.out x).cell 9 _ rfl
  have d10 : ∀ x : Cls wa, x.1.cell? ⟨w.heap.size, 10, none⟩ = some (.int .i64 m.rs.1) := fun x => (HBx.out x).cell 10 _ rfl
  have d11 : ∀ x : Cls wa, x.1.cell? ⟨w.heap.size, 11, none⟩ = some (.float .f64 m.rs.2) := fun x => (HBx.out x).cell 11 _ rfl
  have d12 : ∀ x : Cls wa, x.1.cell? ⟨w.heap.size, 12, none⟩ = some (.string m.tx) := fun x => (HBx.out x).cell 12 _ rfl
  have d13 : ∀ x : Cls wa, x.1.cell? ⟨w.heap.size, 13, none⟩ = some (.slice a13 m.nx.length c13) := fun x => (HBx.out x).cell 13 _ rfl
  have d14 : ∀ x : Cls wa, x.1.cell? ⟨w.heap.size, 14, none⟩ = some (.slice a14 m.sg.length c14) := fun x => (HBx.out x).cell 14 _ rfl
  have d15 : ∀ x : Cls wa, x.1.cell? ⟨w.heap.size, 15, none⟩ = some (.slice a15 m.cg.length c15) := fun x => (HBx.out x).cell 15 _ rfl
  have d16 : ∀ x : Cls wa, x.1.cell? ⟨w.heap.size, 16, none⟩ = some (.slice a16 m.ln.length c16) := fun x => (HBx.out x).cell 16 _ rfl
  haveI := Cls.ne wa
  refine wp_region_cls wa (by kernel_rfl) (by kernel_rfl) ?_
  repeat (go_big_quiet_step ((first
    | (go_at_call 27; exact Cls.of _ (fun u hu => HT1.out u hu))
    | (go_at_call 30; exact Cls.of _ (fun u hu => HT2.out u hu))
    | (go_at_call 32; exact Cls.of _ (fun u hu => HX.out u hu)))))
  refine wpQuiet_nil ?_
  rintro _ ⟨x, rfl⟩
  go_wp2
  go_ret
  exact ⟨by simp, HW0.out.trans (x.2.mono HW0.out.size)⟩
set_option maxRecDepth 100000 in
set_option maxHeartbeats 6400000 in
theorem ifits_2_2 {F : Nat → Prop} (m : Ms) (hB : MsB m) (h0 : 0 ≤ m.ep) (h1 : m.ep ≤ 60) (hk : m.k = 2) (a13 a14 a15 a16 : Option Addr) (c13 c14 c15 c16 : Nat) (w : World) (hL : MsL F w m (.slice a13 m.nx.length c13) (.slice a14 m.sg.length c14) (.slice a15 m.cg.length c15) (.slice a16 m.ln.length c16)) (K : Nat) (eK : K = if nullB m.rq then 0 else 1) (t1 : (onlyB m { v := true, s := true, r := true, g := true }) = true) (t2 : (placeB m) = true) (t3 : (askB m.rq) = false) :
    Calls Try.prog 15 #[.agg #[.int .i64 m.k, .int .i64 m.ep, .int .i64 m.v, .int .i64 m.sl, .int .i64 m.rq.c, .int .i64 m.rq.st, .int .i64 m.rq.k, .string m.rq.key, .float .f64 m.rq.b, .int .i64 m.rq.id, .int .i64 m.rs.1, .float .f64 m.rs.2, .string m.tx, .slice a13 m.nx.length c13, .slice a14 m.sg.length c14, .slice a15 m.cg.length c15, .slice a16 m.ln.length c16]] w fun e w' => e = .returned (.bool false) ∧ Below w.heap.size w w' := by
  have _ := hB
  have hS : PairsIn w a14 m.sg := (slice_pairs hL.sg)
  have hI : IntsIn w a13 m.nx := (slice_ints hL.nx)
  have hC := hL.cg
  have hK := hL.ln
  obtain ⟨wa, ewa⟩ : ∃ wa, wa = w.alloc (.cells #[.int .i64 m.k, .int .i64 m.ep, .int .i64 m.v, .int .i64 m.sl, .int .i64 m.rq.c, .int .i64 m.rq.st, .int .i64 m.rq.k, .string m.rq.key, .float .f64 m.rq.b, .int .i64 m.rq.id, .int .i64 m.rs.1, .float .f64 m.rs.2, .string m.tx, .slice a13 m.nx.length c13, .slice a14 m.sg.length c14, .slice a15 m.cg.length c15, .slice a16 m.ln.length c16] 34) := ⟨_, rfl⟩
  have hw0 : Below w.heap.size w wa := by rw [ewa]; exact (Below.refl w.heap.size w).alloc (Nat.le_refl _) _
  have H0 : Hid (BxAt wa w.heap.size [.int .i64 m.k, .int .i64 m.ep, .int .i64 m.v, .int .i64 m.sl, .int .i64 m.rq.c, .int .i64 m.rq.st, .int .i64 m.rq.k, .string m.rq.key, .float .f64 m.rq.b, .int .i64 m.rq.id, .int .i64 m.rs.1, .float .f64 m.rs.2, .string m.tx, .slice a13 m.nx.length c13, .slice a14 m.sg.length c14, .slice a15 m.cg.length c15, .slice a16 m.ln.length c16] 34 ∧ Below wa.heap.size wa wa) := hid ⟨by rw [ewa]; exact heap_alloc_last w _, Below.refl _ _⟩
  have HA : Hid (w.alloc (.cells #[.int .i64 m.k, .int .i64 m.ep, .int .i64 m.v, .int .i64 m.sl, .int .i64 m.rq.c, .int .i64 m.rq.st, .int .i64 m.rq.k, .string m.rq.key, .float .f64 m.rq.b, .int .i64 m.rq.id, .int .i64 m.rs.1, .float .f64 m.rs.2, .string m.tx, .slice a13 m.nx.length c13, .slice a14 m.sg.length c14, .slice a15 m.cg.length c15, .slice a16 m.ln.length c16] 34) = wa) := hid ewa.symm
  clear ewa
  have z1 : (w.alloc (.cells #[.int .i64 m.k, .int .i64 m.ep, .int .i64 m.v, .int .i64 m.sl, .int .i64 m.rq.c, .int .i64 m.rq.st, .int .i64 m.rq.k, .string m.rq.key, .float .f64 m.rq.b, .int .i64 m.rq.id, .int .i64 m.rs.1, .float .f64 m.rs.2, .string m.tx, .slice a13 m.nx.length c13, .slice a14 m.sg.length c14, .slice a15 m.cg.length c15, .slice a16 m.ln.length c16] 34)).cell? ⟨w.heap.size, 1, none⟩ = some (.int .i64 m.ep) := by rw [HA.out]; exact H0.out.1.cell 1 _ rfl
  have HW : Hid (inB m.ep 0 60 = true) := hid (by rw [inB, decide_eq_true h0, decide_eq_true h1]; rfl)
  have HW0 := hid hw0
  have q1 : (m.k == 1) = false := by rw [hk]; rfl
  have q2 : (m.k == 2) = true := by rw [hk]; rfl
  have HT1 : Hid (∀ u : World, Below wa.heap.size wa u → Calls Try.prog 27 #[.agg #[.int .i64 m.k, .int .i64 m.ep, .int .i64 m.v, .int .i64 m.sl, .int .i64 m.rq.c, .int .i64 m.rq.st, .int .i64 m.rq.k, .string m.rq.key, .float .f64 m.rq.b, .int .i64 m.rq.id, .int .i64 m.rs.1, .float .f64 m.rs.2, .string m.tx, .slice a13 m.nx.length c13, .slice a14 m.sg.length c14, .slice a15 m.cg.length c15, .slice a16 m.ln.length c16], .int .i64 71] u fun e w' => e = .returned (.bool true) ∧ Below u.heap.size u w') := hid (fun u hv => by have hu := hw0.trans (hv.mono hw0.size); rw [← t1]; exact ionly_71 m a13 a14 a15 a16 c13 c14 c15 c16 u)
  have HT2 : Hid (∀ u : World, Below wa.heap.size wa u → Calls Try.prog 30 #[.agg #[.int .i64 m.k, .int .i64 m.ep, .int .i64 m.v, .int .i64 m.sl, .int .i64 m.rq.c, .int .i64 m.rq.st, .int .i64 m.rq.k, .string m.rq.key, .float .f64 m.rq.b, .int .i64 m.rq.id, .int .i64 m.rs.1, .float .f64 m.rs.2, .string m.tx, .slice a13 m.nx.length c13, .slice a14 m.sg.length c14, .slice a15 m.cg.length c15, .slice a16 m.ln.length c16]] u fun e w' => e = .returned (.bool true) ∧ Below u.heap.size u w') := hid (fun u hv => by have hu := hw0.trans (hv.mono hw0.size); rw [← t2]; exact iplaced_any m h0 h1 _ _ _ _ u)
  have HT3 : Hid (∀ u : World, Below wa.heap.size wa u → Calls Try.prog 31 #[.agg #[.int .i64 m.rq.c, .int .i64 m.rq.st, .int .i64 m.rq.k, .string m.rq.key, .float .f64 m.rq.b, .int .i64 m.rq.id]] u fun e w' => e = .returned (.bool false) ∧ Below u.heap.size u w') := hid (fun u hv => by have hu := hw0.trans (hv.mono hw0.size); rw [← t3]; exact ideed_any m.rq u)
  have HX : Hid (∀ u : World, Below wa.heap.size wa u → Calls Try.prog 32 #[.agg #[.int .i64 m.rq.c, .int .i64 m.rq.st, .int .i64 m.rq.k, .string m.rq.key, .float .f64 m.rq.b, .int .i64 m.rq.id]] u fun e w' => e = .returned (.int .i64 (K : Int)) ∧ Below u.heap.size u w') := hid (fun u hv => by rw [eK]; exact iaskers_any m.rq u)
  clear t1 t2 t3 hS hI hC hK hL hB hw0 h0 h1 hk eK
  go_enter Try.func15, Try.ntmps15
  try simp only [List.append]
  go_wp2_with (go_at_call 26; refine (iwithin_any _ _ _ _).mono ?_; rintro e w1 ⟨rfl, hw⟩; rw [HW.out]; replace hw := (hw.trans HA.out).symm; subst hw; clear z1; have y0 := H0.out.1.cell 0 _ rfl; have y1 := H0.out.1.cell 1 _ rfl; have y2 := H0.out.1.cell 2 _ rfl; have y3 := H0.out.1.cell 3 _ rfl; have y4 := H0.out.1.cell 4 _ rfl; have y5 := H0.out.1.cell 5 _ rfl; have y6 := H0.out.1.cell 6 _ rfl; have y7 := H0.out.1.cell 7 _ rfl; have y8 := H0.out.1.cell 8 _ rfl; have y9 := H0.out.1.cell 9 _ rfl; have y10 := H0.out.1.cell 10 _ rfl; have y11 := H0.out.1.cell 11 _ rfl; have y12 := H0.out.1.cell 12 _ rfl; have y13 := H0.out.1.cell 13 _ rfl; have y14 := H0.out.1.cell 14 _ rfl; have y15 := H0.out.1.cell 15 _ rfl; have y16 := H0.out.1.cell 16 _ rfl)
  clear y0 y1 y2 y3 y4 y5 y6 y7 y8 y9 y10 y11 y12 y13 y14 y15 y16
  go_simp
  have HBx : Hid (∀ x : Cls wa, BxAt x.1 w.heap.size [.int .i64 m.k, .int .i64 m.ep, .int .i64 m.v, .int .i64 m.sl, .int .i64 m.rq.c, .int .i64 m.rq.st, .int .i64 m.rq.k, .string m.rq.key, .float .f64 m.rq.b, .int .i64 m.rq.id, .int .i64 m.rs.1, .float .f64 m.rs.2, .string m.tx, .slice a13 m.nx.length c13, .slice a14 m.sg.length c14, .slice a15 m.cg.length c15, .slice a16 m.ln.length c16] 34) := hid (fun x => H0.out.1.keep x.2)
  have d0 : ∀ x : Cls wa, x.1.cell? ⟨w.heap.size, 0, none⟩ = some (.int .i64 m.k) := fun x => (HBx.out x).cell 0 _ rfl
  have d1 : ∀ x : Cls wa, x.1.cell? ⟨w.heap.size, 1, none⟩ = some (.int .i64 m.ep) := fun x => (HBx.out x).cell 1 _ rfl
  have d2 : ∀ x : Cls wa, x.1.cell? ⟨w.heap.size, 2, none⟩ = some (.int .i64 m.v) := fun x => (HBx.out x).cell 2 _ rfl
  have d3 : ∀ x : Cls wa, x.1.cell? ⟨w.heap.size, 3, none⟩ = some (.int .i64 m.sl) := fun x => (HBx.out x).cell 3 _ rfl
  have d4 : ∀ x : Cls wa, x.1.cell? ⟨w.heap.size, 4, none⟩ = some (.int .i64 m.rq.c) := fun x => (HBx.out x).cell 4 _ rfl
  have d5 : ∀ x : Cls wa, x.1.cell? ⟨w.heap.size, 5, none⟩ = some (.int .i64 m.rq.st) := fun x => (HBx.out x).cell 5 _ rfl
  have d6 : ∀ x : Cls wa, x.1.cell? ⟨w.heap.size, 6, none⟩ = some (.int .i64 m.rq.k) := fun x => (HBx.out x).cell 6 _ rfl
  have d7 : ∀ x : Cls wa, x.1.cell? ⟨w.heap.size, 7, none⟩ = some (.string m.rq.key) := fun x => (HBx.out x).cell 7 _ rfl
  have d8 : ∀ x : Cls wa, x.1.cell? ⟨w.heap.size, 8, none⟩ = some (.float .f64 m.rq.b) := fun x => (HBx.out x).cell 8 _ rfl
  have d9 : ∀ x : Cls wa, x.1.cell? ⟨w.heap.size, 9, none⟩ = some (.int .i64 m.rq.id) := fun x => (HBx.out x).cell 9 _ rfl
  have d10 : ∀ x : Cls wa, x.1.cell? ⟨w.heap.size, 10, none⟩ = some (.int .i64 m.rs.1) := fun x => (HBx.out x).cell 10 _ rfl
  have d11 : ∀ x : Cls wa, x.1.cell? ⟨w.heap.size, 11, none⟩ = some (.float .f64 m.rs.2) := fun x => (HBx.out x).cell 11 _ rfl
  have d12 : ∀ x : Cls wa, x.1.cell? ⟨w.heap.size, 12, none⟩ = some (.string m.tx) := fun x => (HBx.out x).cell 12 _ rfl
  have d13 : ∀ x : Cls wa, x.1.cell? ⟨w.heap.size, 13, none⟩ = some (.slice a13 m.nx.length c13) := fun x => (HBx.out x).cell 13 _ rfl
  have d14 : ∀ x : Cls wa, x.1.cell? ⟨w.heap.size, 14, none⟩ = some (.slice a14 m.sg.length c14) := fun x => (HBx.out x).cell 14 _ rfl
  have d15 : ∀ x : Cls wa, x.1.cell? ⟨w.heap.size, 15, none⟩ = some (.slice a15 m.cg.length c15) := fun x => (HBx.out x).cell 15 _ rfl
  have d16 : ∀ x : Cls wa, x.1.cell? ⟨w.heap.size, 16, none⟩ = some (.slice a16 m.ln.length c16) := fun x => (HBx.out x).cell 16 _ rfl
  haveI := Cls.ne wa
  refine wp_region_cls wa (by kernel_rfl) (by kernel_rfl) ?_
  repeat (go_big_quiet_step ((first
    | (go_at_call 27; exact Cls.of _ (fun u hu => HT1.out u hu))
    | (go_at_call 30; exact Cls.of _ (fun u hu => HT2.out u hu))
    | (go_at_call 31; exact Cls.of _ (fun u hu => HT3.out u hu))
    | (go_at_call 32; exact Cls.of _ (fun u hu => HX.out u hu)))))
  refine wpQuiet_nil ?_
  rintro _ ⟨x, rfl⟩
  go_wp2
  go_ret
  exact ⟨by simp, HW0.out.trans (x.2.mono HW0.out.size)⟩
set_option maxRecDepth 100000 in
set_option maxHeartbeats 6400000 in
theorem ifits_2_3 {F : Nat → Prop} (m : Ms) (hB : MsB m) (h0 : 0 ≤ m.ep) (h1 : m.ep ≤ 60) (hk : m.k = 2) (a13 a14 a15 a16 : Option Addr) (c13 c14 c15 c16 : Nat) (w : World) (hL : MsL F w m (.slice a13 m.nx.length c13) (.slice a14 m.sg.length c14) (.slice a15 m.cg.length c15) (.slice a16 m.ln.length c16)) (K : Nat) (eK : K = if nullB m.rq then 0 else 1) (t1 : (onlyB m { v := true, s := true, r := true, g := true }) = true) (t2 : (placeB m) = true) (t3 : (askB m.rq) = true) (t4 : (oneB m.sg K) = false) :
    Calls Try.prog 15 #[.agg #[.int .i64 m.k, .int .i64 m.ep, .int .i64 m.v, .int .i64 m.sl, .int .i64 m.rq.c, .int .i64 m.rq.st, .int .i64 m.rq.k, .string m.rq.key, .float .f64 m.rq.b, .int .i64 m.rq.id, .int .i64 m.rs.1, .float .f64 m.rs.2, .string m.tx, .slice a13 m.nx.length c13, .slice a14 m.sg.length c14, .slice a15 m.cg.length c15, .slice a16 m.ln.length c16]] w fun e w' => e = .returned (.bool false) ∧ Below w.heap.size w w' := by
  have _ := hB
  have hS : PairsIn w a14 m.sg := (slice_pairs hL.sg)
  have hI : IntsIn w a13 m.nx := (slice_ints hL.nx)
  have hC := hL.cg
  have hK := hL.ln
  obtain ⟨wa, ewa⟩ : ∃ wa, wa = w.alloc (.cells #[.int .i64 m.k, .int .i64 m.ep, .int .i64 m.v, .int .i64 m.sl, .int .i64 m.rq.c, .int .i64 m.rq.st, .int .i64 m.rq.k, .string m.rq.key, .float .f64 m.rq.b, .int .i64 m.rq.id, .int .i64 m.rs.1, .float .f64 m.rs.2, .string m.tx, .slice a13 m.nx.length c13, .slice a14 m.sg.length c14, .slice a15 m.cg.length c15, .slice a16 m.ln.length c16] 34) := ⟨_, rfl⟩
  have hw0 : Below w.heap.size w wa := by rw [ewa]; exact (Below.refl w.heap.size w).alloc (Nat.le_refl _) _
  have H0 : Hid (BxAt wa w.heap.size [.int .i64 m.k, .int .i64 m.ep, .int .i64 m.v, .int .i64 m.sl, .int .i64 m.rq.c, .int .i64 m.rq.st, .int .i64 m.rq.k, .string m.rq.key, .float .f64 m.rq.b, .int .i64 m.rq.id, .int .i64 m.rs.1, .float .f64 m.rs.2, .string m.tx, .slice a13 m.nx.length c13, .slice a14 m.sg.length c14, .slice a15 m.cg.length c15, .slice a16 m.ln.length c16] 34 ∧ Below wa.heap.size wa wa) := hid ⟨by rw [ewa]; exact heap_alloc_last w _, Below.refl _ _⟩
  have HA : Hid (w.alloc (.cells #[.int .i64 m.k, .int .i64 m.ep, .int .i64 m.v, .int .i64 m.sl, .int .i64 m.rq.c, .int .i64 m.rq.st, .int .i64 m.rq.k, .string m.rq.key, .float .f64 m.rq.b, .int .i64 m.rq.id, .int .i64 m.rs.1, .float .f64 m.rs.2, .string m.tx, .slice a13 m.nx.length c13, .slice a14 m.sg.length c14, .slice a15 m.cg.length c15, .slice a16 m.ln.length c16] 34) = wa) := hid ewa.symm
  clear ewa
  have z1 : (w.alloc (.cells #[.int .i64 m.k, .int .i64 m.ep, .int .i64 m.v, .int .i64 m.sl, .int .i64 m.rq.c, .int .i64 m.rq.st, .int .i64 m.rq.k, .string m.rq.key, .float .f64 m.rq.b, .int .i64 m.rq.id, .int .i64 m.rs.1, .float .f64 m.rs.2, .string m.tx, .slice a13 m.nx.length c13, .slice a14 m.sg.length c14, .slice a15 m.cg.length c15, .slice a16 m.ln.length c16] 34)).cell? ⟨w.heap.size, 1, none⟩ = some (.int .i64 m.ep) := by rw [HA.out]; exact H0.out.1.cell 1 _ rfl
  have HW : Hid (inB m.ep 0 60 = true) := hid (by rw [inB, decide_eq_true h0, decide_eq_true h1]; rfl)
  have HW0 := hid hw0
  have q1 : (m.k == 1) = false := by rw [hk]; rfl
  have q2 : (m.k == 2) = true := by rw [hk]; rfl
  have HT1 : Hid (∀ u : World, Below wa.heap.size wa u → Calls Try.prog 27 #[.agg #[.int .i64 m.k, .int .i64 m.ep, .int .i64 m.v, .int .i64 m.sl, .int .i64 m.rq.c, .int .i64 m.rq.st, .int .i64 m.rq.k, .string m.rq.key, .float .f64 m.rq.b, .int .i64 m.rq.id, .int .i64 m.rs.1, .float .f64 m.rs.2, .string m.tx, .slice a13 m.nx.length c13, .slice a14 m.sg.length c14, .slice a15 m.cg.length c15, .slice a16 m.ln.length c16], .int .i64 71] u fun e w' => e = .returned (.bool true) ∧ Below u.heap.size u w') := hid (fun u hv => by have hu := hw0.trans (hv.mono hw0.size); rw [← t1]; exact ionly_71 m a13 a14 a15 a16 c13 c14 c15 c16 u)
  have HT2 : Hid (∀ u : World, Below wa.heap.size wa u → Calls Try.prog 30 #[.agg #[.int .i64 m.k, .int .i64 m.ep, .int .i64 m.v, .int .i64 m.sl, .int .i64 m.rq.c, .int .i64 m.rq.st, .int .i64 m.rq.k, .string m.rq.key, .float .f64 m.rq.b, .int .i64 m.rq.id, .int .i64 m.rs.1, .float .f64 m.rs.2, .string m.tx, .slice a13 m.nx.length c13, .slice a14 m.sg.length c14, .slice a15 m.cg.length c15, .slice a16 m.ln.length c16]] u fun e w' => e = .returned (.bool true) ∧ Below u.heap.size u w') := hid (fun u hv => by have hu := hw0.trans (hv.mono hw0.size); rw [← t2]; exact iplaced_any m h0 h1 _ _ _ _ u)
  have HT3 : Hid (∀ u : World, Below wa.heap.size wa u → Calls Try.prog 31 #[.agg #[.int .i64 m.rq.c, .int .i64 m.rq.st, .int .i64 m.rq.k, .string m.rq.key, .float .f64 m.rq.b, .int .i64 m.rq.id]] u fun e w' => e = .returned (.bool true) ∧ Below u.heap.size u w') := hid (fun u hv => by have hu := hw0.trans (hv.mono hw0.size); rw [← t3]; exact ideed_any m.rq u)
  have HT4 : Hid (∀ u : World, Below wa.heap.size wa u → Calls Try.prog 29 #[.slice a14 m.sg.length c14, .int .i64 (K : Int)] u fun e w' => e = .returned (.bool false) ∧ Below u.heap.size u w') := hid (fun u hv => by have hu := hw0.trans (hv.mono hw0.size); rw [← t4]; exact iareSigs_any a14 _ c14 m.sg rfl hB.sg.1 _ u (hS.keep hu (Nat.le_refl _)))
  have HX : Hid (∀ u : World, Below wa.heap.size wa u → Calls Try.prog 32 #[.agg #[.int .i64 m.rq.c, .int .i64 m.rq.st, .int .i64 m.rq.k, .string m.rq.key, .float .f64 m.rq.b, .int .i64 m.rq.id]] u fun e w' => e = .returned (.int .i64 (K : Int)) ∧ Below u.heap.size u w') := hid (fun u hv => by rw [eK]; exact iaskers_any m.rq u)
  clear t1 t2 t3 t4 hS hI hC hK hL hB hw0 h0 h1 hk eK
  go_enter Try.func15, Try.ntmps15
  try simp only [List.append]
  go_wp2_with (go_at_call 26; refine (iwithin_any _ _ _ _).mono ?_; rintro e w1 ⟨rfl, hw⟩; rw [HW.out]; replace hw := (hw.trans HA.out).symm; subst hw; clear z1; have y0 := H0.out.1.cell 0 _ rfl; have y1 := H0.out.1.cell 1 _ rfl; have y2 := H0.out.1.cell 2 _ rfl; have y3 := H0.out.1.cell 3 _ rfl; have y4 := H0.out.1.cell 4 _ rfl; have y5 := H0.out.1.cell 5 _ rfl; have y6 := H0.out.1.cell 6 _ rfl; have y7 := H0.out.1.cell 7 _ rfl; have y8 := H0.out.1.cell 8 _ rfl; have y9 := H0.out.1.cell 9 _ rfl; have y10 := H0.out.1.cell 10 _ rfl; have y11 := H0.out.1.cell 11 _ rfl; have y12 := H0.out.1.cell 12 _ rfl; have y13 := H0.out.1.cell 13 _ rfl; have y14 := H0.out.1.cell 14 _ rfl; have y15 := H0.out.1.cell 15 _ rfl; have y16 := H0.out.1.cell 16 _ rfl)
  clear y0 y1 y2 y3 y4 y5 y6 y7 y8 y9 y10 y11 y12 y13 y14 y15 y16
  go_simp
  have HBx : Hid (∀ x : Cls wa, BxAt x.1 w.heap.size [.int .i64 m.k, .int .i64 m.ep, .int .i64 m.v, .int .i64 m.sl, .int .i64 m.rq.c, .int .i64 m.rq.st, .int .i64 m.rq.k, .string m.rq.key, .float .f64 m.rq.b, .int .i64 m.rq.id, .int .i64 m.rs.1, .float .f64 m.rs.2, .string m.tx, .slice a13 m.nx.length c13, .slice a14 m.sg.length c14, .slice a15 m.cg.length c15, .slice a16 m.ln.length c16] 34) := hid (fun x => H0.out.1.keep x.2)
  have d0 : ∀ x : Cls wa, x.1.cell? ⟨w.heap.size, 0, none⟩ = some (.int .i64 m.k) := fun x => (HBx.out x).cell 0 _ rfl
  have d1 : ∀ x : Cls wa, x.1.cell? ⟨w.heap.size, 1, none⟩ = some (.int .i64 m.ep) := fun x => (HBx.out x).cell 1 _ rfl
  have d2 : ∀ x : Cls wa, x.1.cell? ⟨w.heap.size, 2, none⟩ = some (.int .i64 m.v) := fun x => (HBx.out x).cell 2 _ rfl
  have d3 : ∀ x : Cls wa, x.1.cell? ⟨w.heap.size, 3, none⟩ = some (.int .i64 m.sl) := fun x => (HBx.out x).cell 3 _ rfl
  have d4 : ∀ x : Cls wa, x.1.cell? ⟨w.heap.size, 4, none⟩ = some (.int .i64 m.rq.c) := fun x => (HBx.out x).cell 4 _ rfl
  have d5 : ∀ x : Cls wa, x.1.cell? ⟨w.heap.size, 5, none⟩ = some (.int .i64 m.rq.st) := fun x => (HBx.out x).cell 5 _ rfl
  have d6 : ∀ x : Cls wa, x.1.cell? ⟨w.heap.size, 6, none⟩ = some (.int .i64 m.rq.k) := fun x => (HBx.out x).cell 6 _ rfl
  have d7 : ∀ x : Cls wa, x.1.cell? ⟨w.heap.size, 7, none⟩ = some (.string m.rq.key) := fun x => (HBx.out x).cell 7 _ rfl
  have d8 : ∀ x : Cls wa, x.1.cell? ⟨w.heap.size, 8, none⟩ = some (.float .f64 m.rq.b) := fun x => (HBx.out x).cell 8 _ rfl
  have d9 : ∀ x : Cls wa, x.1.cell? ⟨w.heap.size, 9, none⟩ = some (.int .i64 m.rq.id) := fun x => (HBx.out x).cell 9 _ rfl
  have d10 : ∀ x : Cls wa, x.1.cell? ⟨w.heap.size, 10, none⟩ = some (.int .i64 m.rs.1) := fun x => (HBx.out x).cell 10 _ rfl
  have d11 : ∀ x : Cls wa, x.1.cell? ⟨w.heap.size, 11, none⟩ = some (.float .f64 m.rs.2) := fun x => (HBx.out x).cell 11 _ rfl
  have d12 : ∀ x : Cls wa, x.1.cell? ⟨w.heap.size, 12, none⟩ = some (.string m.tx) := fun x => (HBx.out x).cell 12 _ rfl
  have d13 : ∀ x : Cls wa, x.1.cell? ⟨w.heap.size, 13, none⟩ = some (.slice a13 m.nx.length c13) := fun x => (HBx.out x).cell 13 _ rfl
  have d14 : ∀ x : Cls wa, x.1.cell? ⟨w.heap.size, 14, none⟩ = some (.slice a14 m.sg.length c14) := fun x => (HBx.out x).cell 14 _ rfl
  have d15 : ∀ x : Cls wa, x.1.cell? ⟨w.heap.size, 15, none⟩ = some (.slice a15 m.cg.length c15) := fun x => (HBx.out x).cell 15 _ rfl
  have d16 : ∀ x : Cls wa, x.1.cell? ⟨w.heap.size, 16, none⟩ = some (.slice a16 m.ln.length c16) := fun x => (HBx.out x).cell 16 _ rfl
  haveI := Cls.ne wa
  refine wp_region_cls wa (by kernel_rfl) (by kernel_rfl) ?_
  repeat (go_big_quiet_step ((first
    | (go_at_call 27; exact Cls.of _ (fun u hu => HT1.out u hu))
    | (go_at_call 30; exact Cls.of _ (fun u hu => HT2.out u hu))
    | (go_at_call 31; exact Cls.of _ (fun u hu => HT3.out u hu))
    | (go_at_call 29; exact Cls.of _ (fun u hu => HT4.out u hu))
    | (go_at_call 32; exact Cls.of _ (fun u hu => HX.out u hu)))))
  refine wpQuiet_nil ?_
  rintro _ ⟨x, rfl⟩
  go_wp2
  go_ret
  exact ⟨by simp, HW0.out.trans (x.2.mono HW0.out.size)⟩
set_option maxRecDepth 100000 in
set_option maxHeartbeats 6400000 in
theorem ifits_2_4 {F : Nat → Prop} (m : Ms) (hB : MsB m) (h0 : 0 ≤ m.ep) (h1 : m.ep ≤ 60) (hk : m.k = 2) (a13 a14 a15 a16 : Option Addr) (c13 c14 c15 c16 : Nat) (w : World) (hL : MsL F w m (.slice a13 m.nx.length c13) (.slice a14 m.sg.length c14) (.slice a15 m.cg.length c15) (.slice a16 m.ln.length c16)) (K : Nat) (eK : K = if nullB m.rq then 0 else 1) (t1 : (onlyB m { v := true, s := true, r := true, g := true }) = true) (t2 : (placeB m) = true) (t3 : (askB m.rq) = true) (t4 : (oneB m.sg K) = true) :
    Calls Try.prog 15 #[.agg #[.int .i64 m.k, .int .i64 m.ep, .int .i64 m.v, .int .i64 m.sl, .int .i64 m.rq.c, .int .i64 m.rq.st, .int .i64 m.rq.k, .string m.rq.key, .float .f64 m.rq.b, .int .i64 m.rq.id, .int .i64 m.rs.1, .float .f64 m.rs.2, .string m.tx, .slice a13 m.nx.length c13, .slice a14 m.sg.length c14, .slice a15 m.cg.length c15, .slice a16 m.ln.length c16]] w fun e w' => e = .returned (.bool true) ∧ Below w.heap.size w w' := by
  have _ := hB
  have hS : PairsIn w a14 m.sg := (slice_pairs hL.sg)
  have hI : IntsIn w a13 m.nx := (slice_ints hL.nx)
  have hC := hL.cg
  have hK := hL.ln
  obtain ⟨wa, ewa⟩ : ∃ wa, wa = w.alloc (.cells #[.int .i64 m.k, .int .i64 m.ep, .int .i64 m.v, .int .i64 m.sl, .int .i64 m.rq.c, .int .i64 m.rq.st, .int .i64 m.rq.k, .string m.rq.key, .float .f64 m.rq.b, .int .i64 m.rq.id, .int .i64 m.rs.1, .float .f64 m.rs.2, .string m.tx, .slice a13 m.nx.length c13, .slice a14 m.sg.length c14, .slice a15 m.cg.length c15, .slice a16 m.ln.length c16] 34) := ⟨_, rfl⟩
  have hw0 : Below w.heap.size w wa := by rw [ewa]; exact (Below.refl w.heap.size w).alloc (Nat.le_refl _) _
  have H0 : Hid (BxAt wa w.heap.size [.int .i64 m.k, .int .i64 m.ep, .int .i64 m.v, .int .i64 m.sl, .int .i64 m.rq.c, .int .i64 m.rq.st, .int .i64 m.rq.k, .string m.rq.key, .float .f64 m.rq.b, .int .i64 m.rq.id, .int .i64 m.rs.1, .float .f64 m.rs.2, .string m.tx, .slice a13 m.nx.length c13, .slice a14 m.sg.length c14, .slice a15 m.cg.length c15, .slice a16 m.ln.length c16] 34 ∧ Below wa.heap.size wa wa) := hid ⟨by rw [ewa]; exact heap_alloc_last w _, Below.refl _ _⟩
  have HA : Hid (w.alloc (.cells #[.int .i64 m.k, .int .i64 m.ep, .int .i64 m.v, .int .i64 m.sl, .int .i64 m.rq.c, .int .i64 m.rq.st, .int .i64 m.rq.k, .string m.rq.key, .float .f64 m.rq.b, .int .i64 m.rq.id, .int .i64 m.rs.1, .float .f64 m.rs.2, .string m.tx, .slice a13 m.nx.length c13, .slice a14 m.sg.length c14, .slice a15 m.cg.length c15, .slice a16 m.ln.length c16] 34) = wa) := hid ewa.symm
  clear ewa
  have z1 : (w.alloc (.cells #[.int .i64 m.k, .int .i64 m.ep, .int .i64 m.v, .int .i64 m.sl, .int .i64 m.rq.c, .int .i64 m.rq.st, .int .i64 m.rq.k, .string m.rq.key, .float .f64 m.rq.b, .int .i64 m.rq.id, .int .i64 m.rs.1, .float .f64 m.rs.2, .string m.tx, .slice a13 m.nx.length c13, .slice a14 m.sg.length c14, .slice a15 m.cg.length c15, .slice a16 m.ln.length c16] 34)).cell? ⟨w.heap.size, 1, none⟩ = some (.int .i64 m.ep) := by rw [HA.out]; exact H0.out.1.cell 1 _ rfl
  have HW : Hid (inB m.ep 0 60 = true) := hid (by rw [inB, decide_eq_true h0, decide_eq_true h1]; rfl)
  have HW0 := hid hw0
  have q1 : (m.k == 1) = false := by rw [hk]; rfl
  have q2 : (m.k == 2) = true := by rw [hk]; rfl
  have HT1 : Hid (∀ u : World, Below wa.heap.size wa u → Calls Try.prog 27 #[.agg #[.int .i64 m.k, .int .i64 m.ep, .int .i64 m.v, .int .i64 m.sl, .int .i64 m.rq.c, .int .i64 m.rq.st, .int .i64 m.rq.k, .string m.rq.key, .float .f64 m.rq.b, .int .i64 m.rq.id, .int .i64 m.rs.1, .float .f64 m.rs.2, .string m.tx, .slice a13 m.nx.length c13, .slice a14 m.sg.length c14, .slice a15 m.cg.length c15, .slice a16 m.ln.length c16], .int .i64 71] u fun e w' => e = .returned (.bool true) ∧ Below u.heap.size u w') := hid (fun u hv => by have hu := hw0.trans (hv.mono hw0.size); rw [← t1]; exact ionly_71 m a13 a14 a15 a16 c13 c14 c15 c16 u)
  have HT2 : Hid (∀ u : World, Below wa.heap.size wa u → Calls Try.prog 30 #[.agg #[.int .i64 m.k, .int .i64 m.ep, .int .i64 m.v, .int .i64 m.sl, .int .i64 m.rq.c, .int .i64 m.rq.st, .int .i64 m.rq.k, .string m.rq.key, .float .f64 m.rq.b, .int .i64 m.rq.id, .int .i64 m.rs.1, .float .f64 m.rs.2, .string m.tx, .slice a13 m.nx.length c13, .slice a14 m.sg.length c14, .slice a15 m.cg.length c15, .slice a16 m.ln.length c16]] u fun e w' => e = .returned (.bool true) ∧ Below u.heap.size u w') := hid (fun u hv => by have hu := hw0.trans (hv.mono hw0.size); rw [← t2]; exact iplaced_any m h0 h1 _ _ _ _ u)
  have HT3 : Hid (∀ u : World, Below wa.heap.size wa u → Calls Try.prog 31 #[.agg #[.int .i64 m.rq.c, .int .i64 m.rq.st, .int .i64 m.rq.k, .string m.rq.key, .float .f64 m.rq.b, .int .i64 m.rq.id]] u fun e w' => e = .returned (.bool true) ∧ Below u.heap.size u w') := hid (fun u hv => by have hu := hw0.trans (hv.mono hw0.size); rw [← t3]; exact ideed_any m.rq u)
  have HT4 : Hid (∀ u : World, Below wa.heap.size wa u → Calls Try.prog 29 #[.slice a14 m.sg.length c14, .int .i64 (K : Int)] u fun e w' => e = .returned (.bool true) ∧ Below u.heap.size u w') := hid (fun u hv => by have hu := hw0.trans (hv.mono hw0.size); rw [← t4]; exact iareSigs_any a14 _ c14 m.sg rfl hB.sg.1 _ u (hS.keep hu (Nat.le_refl _)))
  have HX : Hid (∀ u : World, Below wa.heap.size wa u → Calls Try.prog 32 #[.agg #[.int .i64 m.rq.c, .int .i64 m.rq.st, .int .i64 m.rq.k, .string m.rq.key, .float .f64 m.rq.b, .int .i64 m.rq.id]] u fun e w' => e = .returned (.int .i64 (K : Int)) ∧ Below u.heap.size u w') := hid (fun u hv => by rw [eK]; exact iaskers_any m.rq u)
  clear t1 t2 t3 t4 hS hI hC hK hL hB hw0 h0 h1 hk eK
  go_enter Try.func15, Try.ntmps15
  try simp only [List.append]
  go_wp2_with (go_at_call 26; refine (iwithin_any _ _ _ _).mono ?_; rintro e w1 ⟨rfl, hw⟩; rw [HW.out]; replace hw := (hw.trans HA.out).symm; subst hw; clear z1; have y0 := H0.out.1.cell 0 _ rfl; have y1 := H0.out.1.cell 1 _ rfl; have y2 := H0.out.1.cell 2 _ rfl; have y3 := H0.out.1.cell 3 _ rfl; have y4 := H0.out.1.cell 4 _ rfl; have y5 := H0.out.1.cell 5 _ rfl; have y6 := H0.out.1.cell 6 _ rfl; have y7 := H0.out.1.cell 7 _ rfl; have y8 := H0.out.1.cell 8 _ rfl; have y9 := H0.out.1.cell 9 _ rfl; have y10 := H0.out.1.cell 10 _ rfl; have y11 := H0.out.1.cell 11 _ rfl; have y12 := H0.out.1.cell 12 _ rfl; have y13 := H0.out.1.cell 13 _ rfl; have y14 := H0.out.1.cell 14 _ rfl; have y15 := H0.out.1.cell 15 _ rfl; have y16 := H0.out.1.cell 16 _ rfl)
  clear y0 y1 y2 y3 y4 y5 y6 y7 y8 y9 y10 y11 y12 y13 y14 y15 y16
  go_simp
  have HBx : Hid (∀ x : Cls wa, BxAt x.1 w.heap.size [.int .i64 m.k, .int .i64 m.ep, .int .i64 m.v, .int .i64 m.sl, .int .i64 m.rq.c, .int .i64 m.rq.st, .int .i64 m.rq.k, .string m.rq.key, .float .f64 m.rq.b, .int .i64 m.rq.id, .int .i64 m.rs.1, .float .f64 m.rs.2, .string m.tx, .slice a13 m.nx.length c13, .slice a14 m.sg.length c14, .slice a15 m.cg.length c15, .slice a16 m.ln.length c16] 34) := hid (fun x => H0.out.1.keep x.2)
  have d0 : ∀ x : Cls wa, x.1.cell? ⟨w.heap.size, 0, none⟩ = some (.int .i64 m.k) := fun x => (HBx.out x).cell 0 _ rfl
  have d1 : ∀ x : Cls wa, x.1.cell? ⟨w.heap.size, 1, none⟩ = some (.int .i64 m.ep) := fun x => (HBx.out x).cell 1 _ rfl
  have d2 : ∀ x : Cls wa, x.1.cell? ⟨w.heap.size, 2, none⟩ = some (.int .i64 m.v) := fun x => (HBx.out x).cell 2 _ rfl
  have d3 : ∀ x : Cls wa, x.1.cell? ⟨w.heap.size, 3, none⟩ = some (.int .i64 m.sl) := fun x => (HBx.out x).cell 3 _ rfl
  have d4 : ∀ x : Cls wa, x.1.cell? ⟨w.heap.size, 4, none⟩ = some (.int .i64 m.rq.c) := fun x => (HBx.out x).cell 4 _ rfl
  have d5 : ∀ x : Cls wa, x.1.cell? ⟨w.heap.size, 5, none⟩ = some (.int .i64 m.rq.st) := fun x => (HBx.out x).cell 5 _ rfl
  have d6 : ∀ x : Cls wa, x.1.cell? ⟨w.heap.size, 6, none⟩ = some (.int .i64 m.rq.k) := fun x => (HBx.out x).cell 6 _ rfl
  have d7 : ∀ x : Cls wa, x.1.cell? ⟨w.heap.size, 7, none⟩ = some (.string m.rq.key) := fun x => (HBx.out x).cell 7 _ rfl
  have d8 : ∀ x : Cls wa, x.1.cell? ⟨w.heap.size, 8, none⟩ = some (.float .f64 m.rq.b) := fun x => (HBx.out x).cell 8 _ rfl
  have d9 : ∀ x : Cls wa, x.1.cell? ⟨w.heap.size, 9, none⟩ = some (.int .i64 m.rq.id) := fun x => (HBx.out x).cell 9 _ rfl
  have d10 : ∀ x : Cls wa, x.1.cell? ⟨w.heap.size, 10, none⟩ = some (.int .i64 m.rs.1) := fun x => (HBx.out x).cell 10 _ rfl
  have d11 : ∀ x : Cls wa, x.1.cell? ⟨w.heap.size, 11, none⟩ = some (.float .f64 m.rs.2) := fun x => (HBx.out x).cell 11 _ rfl
  have d12 : ∀ x : Cls wa, x.1.cell? ⟨w.heap.size, 12, none⟩ = some (.string m.tx) := fun x => (HBx.out x).cell 12 _ rfl
  have d13 : ∀ x : Cls wa, x.1.cell? ⟨w.heap.size, 13, none⟩ = some (.slice a13 m.nx.length c13) := fun x => (HBx.out x).cell 13 _ rfl
  have d14 : ∀ x : Cls wa, x.1.cell? ⟨w.heap.size, 14, none⟩ = some (.slice a14 m.sg.length c14) := fun x => (HBx.out x).cell 14 _ rfl
  have d15 : ∀ x : Cls wa, x.1.cell? ⟨w.heap.size, 15, none⟩ = some (.slice a15 m.cg.length c15) := fun x => (HBx.out x).cell 15 _ rfl
  have d16 : ∀ x : Cls wa, x.1.cell? ⟨w.heap.size, 16, none⟩ = some (.slice a16 m.ln.length c16) := fun x => (HBx.out x).cell 16 _ rfl
  haveI := Cls.ne wa
  refine wp_region_cls wa (by kernel_rfl) (by kernel_rfl) ?_
  repeat (go_big_quiet_step ((first
    | (go_at_call 27; exact Cls.of _ (fun u hu => HT1.out u hu))
    | (go_at_call 30; exact Cls.of _ (fun u hu => HT2.out u hu))
    | (go_at_call 31; exact Cls.of _ (fun u hu => HT3.out u hu))
    | (go_at_call 29; exact Cls.of _ (fun u hu => HT4.out u hu))
    | (go_at_call 32; exact Cls.of _ (fun u hu => HX.out u hu)))))
  refine wpQuiet_nil ?_
  rintro _ ⟨x, rfl⟩
  go_wp2
  go_ret
  exact ⟨by simp, HW0.out.trans (x.2.mono HW0.out.size)⟩
theorem ifits_2 {F : Nat → Prop} (m : Ms) (hB : MsB m) (h0 : 0 ≤ m.ep) (h1 : m.ep ≤ 60) (hk : m.k = 2) (a13 a14 a15 a16 : Option Addr) (c13 c14 c15 c16 : Nat) (w : World) (hL : MsL F w m (.slice a13 m.nx.length c13) (.slice a14 m.sg.length c14) (.slice a15 m.cg.length c15) (.slice a16 m.ln.length c16)) :
    Calls Try.prog 15 #[.agg #[.int .i64 m.k, .int .i64 m.ep, .int .i64 m.v, .int .i64 m.sl, .int .i64 m.rq.c, .int .i64 m.rq.st, .int .i64 m.rq.k, .string m.rq.key, .float .f64 m.rq.b, .int .i64 m.rq.id, .int .i64 m.rs.1, .float .f64 m.rs.2, .string m.tx, .slice a13 m.nx.length c13, .slice a14 m.sg.length c14, .slice a15 m.cg.length c15, .slice a16 m.ln.length c16]] w fun e w' => e = .returned (.bool (kindB m)) ∧ Below w.heap.size w w' := by
  obtain ⟨K, eK⟩ : ∃ K : Nat, K = if nullB m.rq then 0 else 1 := ⟨_, rfl⟩
  have hV : kindB m = ((onlyB m { v := true, s := true, r := true, g := true }) && ((placeB m) && ((askB m.rq) && ((oneB m.sg K))))) := by
    unfold kindB
    rw [if_neg (by rw [hk]; decide)]; rw [if_pos hk]; rw [eK]
  cases t1 : (onlyB m { v := true, s := true, r := true, g := true }) with
  | false =>
    rw [show kindB m = false by rw [hV, t1] <;> rfl]
    exact ifits_2_0 m hB h0 h1 hk a13 a14 a15 a16 c13 c14 c15 c16 w hL K eK t1
  | true =>
    cases t2 : (placeB m) with
    | false =>
      rw [show kindB m = false by rw [hV, t1, t2] <;> rfl]
      exact ifits_2_1 m hB h0 h1 hk a13 a14 a15 a16 c13 c14 c15 c16 w hL K eK t1 t2
    | true =>
      cases t3 : (askB m.rq) with
      | false =>
        rw [show kindB m = false by rw [hV, t1, t2, t3] <;> rfl]
        exact ifits_2_2 m hB h0 h1 hk a13 a14 a15 a16 c13 c14 c15 c16 w hL K eK t1 t2 t3
      | true =>
        cases t4 : (oneB m.sg K) with
        | false =>
          rw [show kindB m = false by rw [hV, t1, t2, t3, t4] <;> rfl]
          exact ifits_2_3 m hB h0 h1 hk a13 a14 a15 a16 c13 c14 c15 c16 w hL K eK t1 t2 t3 t4
        | true =>
          rw [show kindB m = true by rw [hV, t1, t2, t3, t4] <;> rfl]
          exact ifits_2_4 m hB h0 h1 hk a13 a14 a15 a16 c13 c14 c15 c16 w hL K eK t1 t2 t3 t4
end Go.Proofs.Ytepcdbmdfpaomaa
