/- The program's test of messages, kind by kind. -/
import Derived.Test.YtepcdbmdfpaomaaWiNzM
namespace Go.Proofs.Ytepcdbmdfpaomaa
open Go.RowKit
set_option maxRecDepth 100000 in
set_option maxHeartbeats 6400000 in
theorem ifits_1_0 {F : Nat → Prop} (m : Ms) (hB : MsB m) (h0 : 0 ≤ m.ep) (h1 : m.ep ≤ 60) (hk : m.k = 1) (a13 a14 a15 a16 : Option Addr) (c13 c14 c15 c16 : Nat) (w : World) (hL : MsL F w m (.slice a13 m.nx.length c13) (.slice a14 m.sg.length c14) (.slice a15 m.cg.length c15) (.slice a16 m.ln.length c16)) (t1 : (onlyB m { r := true, g := true }) = false) :
    Calls Try.prog 15 #[.agg #[.int .i64 m.k, .int .i64 m.ep, .int .i64 m.v, .int .i64 m.sl, .int .i64 m.rq.c, .int .i64 m.rq.st, .int .i64 m.rq.k, .string m.rq.key, .float .f64 m.rq.b, .int .i64 m.rq.id, .int .i64 m.rs.1, .float .f64 m.rs.2, .string m.tx, .slice a13 m.nx.length c13, .slice a14 m.sg.length c14, .slice a15 m.cg.length c15, .slice a16 m.ln.length c16]] w fun e w' => e = .returned (.bool false) ∧ Below w.heap.size w w' := by
  have _ := hB
  have hS : PairsIn w a14 m.sg := (slice_pairs hL.sg)
  have hI : IntsIn w a13 m.nx := (slice_ints hL.nx)
  have hC := hL.cg
  have hK := hL.ln
  obtain ⟨wa, ewa⟩ : ∃ wa, wa = w.alloc (.cells #[.int .i64 m.k, .int .i64 m.ep, .int .i64 m.v, .int .i64 m.sl, .int .i64 m.rq.c, .int .i64 m.rq.st, .int .i64 m.rq.k, .string m.rq.key, .float .f64 m.rq.b, .int .i64 m.rq.id, .int .i64 m.rs.1, .float .f64 m.rs.2, .string m.tx, .slice a13 m.nx.length c13, .slice a14 m.sg.length c14, .slice a15 m.cg.length c15, .slice a16 m.ln.length c16] 34) := ⟨_, rfl⟩
  have hw0 : Below w.heap.size w wa := by rw [ewa]; exact (Below.refl w.heap.size w).alloc (Nat.le_refl _) _
  have H0 : Hid (BxAt wa w.heap.size [.int .i64 m.k, .int .i64 m.ep, .int .i64 m.v, .int .i64 m.sl, .int .i64 m.rq.c, .int .i64 m.rq.st, .int .i64 m.rq.k, .string m.rq.key, .float .f64 m.rq.b, .int .i64 m.rq.id, .int .i64 m.rs.1, .float .f64 m.rs.2, .string m.tx, .slice a13 m.nx.length c13, .slice a14 m.sg.length c14, .slice a15 m.cg.length c15, .slice a16 m.ln.length c16] 34 ∧ Below wa.heap.size wa wa) := hid ⟨by rw [ewa]; exact heap_alloc_last w _, Below.refl _ _⟩
  have HA : Hid (w.alloc (.cells #[.int .i64 m.k, .int .i64 m.ep, .int .i64 m.v, .int .i64 m.sl, .int .i64 m.rq.c, .int .i64 m.rq.st, .int .i64 m.rq.k, .string m.rq.key, .float .f64 m.rq.b, .int .i64 m.rq.id, .int .i64 m.rs.1, .float .f64 m.rs.2, .string m.tx, .slice a13 m.nx.length c13, .slice a14 m.sg.length c14, .slice a15 m.cg.length c15, .slice a16 m.ln.length c16] 34) = wa) := hid ewa.symm
  clear ewa
  have z1 : (w.alloc (.cells #[.int .i64 m.k, .int .i64 m.ep, .int .i64 m.v, .int .i64 m.sl, .int .i64 m.rq.c, .int .i64 m.rq.st, .int .i64 m.rq.k, .string m.rq.key, .float .f64 m.rq.b, .int .i64 m.rq.id, .int .i64 m.rs.1, .float .f64 m.rs.2, .string m.tx, .slice a13 m.nx.length c13, .slice a14 m.sg.length c14, .slice a15 m.cg.length c15, .slice a16 m.ln.length c16] 34)).cell? ⟨w.heap.size, 1, none⟩ = some (.int .i64 m.ep) := by rw [HA.out]; exact H0.out.1.cell 1 _ rfl
  have HW : Hid (inB m.ep 0 60 = true) := hid (by rw [inB, decide_eq_true h0, decide_eq_true h1]; rfl)
  have HW0 := hid hw0
  have q1 : (m.k == 1) = true := by rw [hk]; rfl
  have HT1 : Hid (∀ u : World, Below wa.heap.size wa u → Calls Try.prog 27 #[.agg #[.int .i64 m.k, .int .i64 m.ep, .int .i64 m.v, .int .i64 m.sl, .int .i64 m.rq.c, .int .i64 m.rq.st, .int .i64 m.rq.k, .string m.rq.key, .float .f64 m.rq.b, .int .i64 m.rq.id, .int .i64 m.rs.1, .float .f64 m.rs.2, .string m.tx, .slice a13 m.nx.length c13, .slice a14 m.sg.length c14, .slice a15 m.cg.length c15, .slice a16 m.ln.length c16], .int .i64 68] u fun e w' => e = .returned (.bool false) ∧ Below u.heap.size u w') := hid (fun u hv => by have hu := hw0.trans (hv.mono hw0.size); rw [← t1]; exact ionly_68 m a13 a14 a15 a16 c13 c14 c15 c16 u)
  clear t1 hS hI hC hK hL hB hw0 h0 h1 hk
  go_enter Try.func15, Try.ntmps15
  try simp only [List.append]
  go_wp2_with (first
    | (have := H0; go_at_call 27; refine (HT1.out _ H0.out.2).mono ?_; rintro e w1 ⟨rfl, hb⟩; have H1 := hid (And.intro (H0.out.1.keep hb) (H0.out.2.trans (hb.mono H0.out.2.size))); clear hb y0 y1 y2 y3 y4 y5 y6 y7 y8 y9 y10 y11 y12 y13 y14 y15 y16; have y0 := H1.out.1.cell 0 _ rfl; have y1 := H1.out.1.cell 1 _ rfl; have y2 := H1.out.1.cell 2 _ rfl; have y3 := H1.out.1.cell 3 _ rfl; have y4 := H1.out.1.cell 4 _ rfl; have y5 := H1.out.1.cell 5 _ rfl; have y6 := H1.out.1.cell 6 _ rfl; have y7 := H1.out.1.cell 7 _ rfl; have y8 := H1.out.1.cell 8 _ rfl; have y9 := H1.out.1.cell 9 _ rfl; have y10 := H1.out.1.cell 10 _ rfl; have y11 := H1.out.1.cell 11 _ rfl; have y12 := H1.out.1.cell 12 _ rfl; have y13 := H1.out.1.cell 13 _ rfl; have y14 := H1.out.1.cell 14 _ rfl; have y15 := H1.out.1.cell 15 _ rfl; have y16 := H1.out.1.cell 16 _ rfl)
    | (go_at_call 26; refine (iwithin_any _ _ _ _).mono ?_; rintro e w1 ⟨rfl, hw⟩; rw [HW.out]; replace hw := (hw.trans HA.out).symm; subst hw; clear z1; have y0 := H0.out.1.cell 0 _ rfl; have y1 := H0.out.1.cell 1 _ rfl; have y2 := H0.out.1.cell 2 _ rfl; have y3 := H0.out.1.cell 3 _ rfl; have y4 := H0.out.1.cell 4 _ rfl; have y5 := H0.out.1.cell 5 _ rfl; have y6 := H0.out.1.cell 6 _ rfl; have y7 := H0.out.1.cell 7 _ rfl; have y8 := H0.out.1.cell 8 _ rfl; have y9 := H0.out.1.cell 9 _ rfl; have y10 := H0.out.1.cell 10 _ rfl; have y11 := H0.out.1.cell 11 _ rfl; have y12 := H0.out.1.cell 12 _ rfl; have y13 := H0.out.1.cell 13 _ rfl; have y14 := H0.out.1.cell 14 _ rfl; have y15 := H0.out.1.cell 15 _ rfl; have y16 := H0.out.1.cell 16 _ rfl))
  go_ret
  exact ⟨by simp, HW0.out.trans (H1.out.2.mono HW0.out.size)⟩
set_option maxRecDepth 100000 in
set_option maxHeartbeats 6400000 in
theorem ifits_1_1 {F : Nat → Prop} (m : Ms) (hB : MsB m) (h0 : 0 ≤ m.ep) (h1 : m.ep ≤ 60) (hk : m.k = 1) (a13 a14 a15 a16 : Option Addr) (c13 c14 c15 c16 : Nat) (w : World) (hL : MsL F w m (.slice a13 m.nx.length c13) (.slice a14 m.sg.length c14) (.slice a15 m.cg.length c15) (.slice a16 m.ln.length c16)) (t1 : (onlyB m { r := true, g := true }) = true) (t2 : (decide (m.ep = 0)) = false) :
    Calls Try.prog 15 #[.agg #[.int .i64 m.k, .int .i64 m.ep, .int .i64 m.v, .int .i64 m.sl, .int .i64 m.rq.c, .int .i64 m.rq.st, .int .i64 m.rq.k, .string m.rq.key, .float .f64 m.rq.b, .int .i64 m.rq.id, .int .i64 m.rs.1, .float .f64 m.rs.2, .string m.tx, .slice a13 m.nx.length c13, .slice a14 m.sg.length c14, .slice a15 m.cg.length c15, .slice a16 m.ln.length c16]] w fun e w' => e = .returned (.bool false) ∧ Below w.heap.size w w' := by
  have _ := hB
  have hS : PairsIn w a14 m.sg := (slice_pairs hL.sg)
  have hI : IntsIn w a13 m.nx := (slice_ints hL.nx)
  have hC := hL.cg
  have hK := hL.ln
  obtain ⟨wa, ewa⟩ : ∃ wa, wa = w.alloc (.cells #[.int .i64 m.k, .int .i64 m.ep, .int .i64 m.v, .int .i64 m.sl, .int .i64 m.rq.c, .int .i64 m.rq.st, .int .i64 m.rq.k, .string m.rq.key, .float .f64 m.rq.b, .int .i64 m.rq.id, .int .i64 m.rs.1, .float .f64 m.rs.2, .string m.tx, .slice a13 m.nx.length c13, .slice a14 m.sg.length c14, .slice a15 m.cg.length c15, .slice a16 m.ln.length c16] 34) := ⟨_, rfl⟩
  have hw0 : Below w.heap.size w wa := by rw [ewa]; exact (Below.refl w.heap.size w).alloc (Nat.le_refl _) _
  have H0 : Hid (BxAt wa w.heap.size [.int .i64 m.k, .int .i64 m.ep, .int .i64 m.v, .int .i64 m.sl, .int .i64 m.rq.c, .int .i64 m.rq.st, .int .i64 m.rq.k, .string m.rq.key, .float .f64 m.rq.b, .int .i64 m.rq.id, .int .i64 m.rs.1, .float .f64 m.rs.2, .string m.tx, .slice a13 m.nx.length c13, .slice a14 m.sg.length c14, .slice a15 m.cg.length c15, .slice a16 m.ln.length c16] 34 ∧ Below wa.heap.size wa wa) := hid ⟨by rw [ewa]; exact heap_alloc_last w _, Below.refl _ _⟩
  have HA : Hid (w.alloc (.cells #[.int .i64 m.k, .int .i64 m.ep, .int .i64 m.v, .int .i64 m.sl, .int .i64 m.rq.c, .int .i64 m.rq.st, .int .i64 m.rq.k, .string m.rq.key, .float .f64 m.rq.b, .int .i64 m.rq.id, .int .i64 m.rs.1, .float .f64 m.rs.2, .string m.tx, .slice a13 m.nx.length c13, .slice a14 m.sg.length c14, .slice a15 m.cg.length c15, .slice a16 m.ln.length c16] 34) = wa) := hid ewa.symm
  clear ewa
  have z1 : (w.alloc (.cells #[.int .i64 m.k, .int .i64 m.ep, .int .i64 m.v, .int .i64 m.sl, .int .i64 m.rq.c, .int .i64 m.rq.st, .int .i64 m.rq.k, .string m.rq.key, .float .f64 m.rq.b, .int .i64 m.rq.id, .int .i64 m.rs.1, .float .f64 m.rs.2, .string m.tx, .slice a13 m.nx.length c13, .slice a14 m.sg.length c14, .slice a15 m.cg.length c15, .slice a16 m.ln.length c16] 34)).cell? ⟨w.heap.size, 1, none⟩ = some (.int .i64 m.ep) := by rw [HA.out]; exact H0.out.1.cell 1 _ rfl
  have HW : Hid (inB m.ep 0 60 = true) := hid (by rw [inB, decide_eq_true h0, decide_eq_true h1]; rfl)
  have HW0 := hid hw0
  have q1 : (m.k == 1) = true := by rw [hk]; rfl
  have HT1 : Hid (∀ u : World, Below wa.heap.size wa u → Calls Try.prog 27 #[.agg #[.int .i64 m.k, .int .i64 m.ep, .int .i64 m.v, .int .i64 m.sl, .int .i64 m.rq.c, .int .i64 m.rq.st, .int .i64 m.rq.k, .string m.rq.key, .float .f64 m.rq.b, .int .i64 m.rq.id, .int .i64 m.rs.1, .float .f64 m.rs.2, .string m.tx, .slice a13 m.nx.length c13, .slice a14 m.sg.length c14, .slice a15 m.cg.length c15, .slice a16 m.ln.length c16], .int .i64 68] u fun e w' => e = .returned (.bool true) ∧ Below u.heap.size u w') := hid (fun u hv => by have hu := hw0.trans (hv.mono hw0.size); rw [← t1]; exact ionly_68 m a13 a14 a15 a16 c13 c14 c15 c16 u)
  have b2 : (m.ep == 0) = false := by rw [beq_eq_false_iff_ne]; exact of_decide_eq_false t2
  clear t1 t2 hS hI hC hK hL hB hw0 h0 h1 hk
  go_enter Try.func15, Try.ntmps15
  try simp only [List.append]
  go_wp2_with (first
    | (have := H0; go_at_call 27; refine (HT1.out _ H0.out.2).mono ?_; rintro e w1 ⟨rfl, hb⟩; have H1 := hid (And.intro (H0.out.1.keep hb) (H0.out.2.trans (hb.mono H0.out.2.size))); clear hb y0 y1 y2 y3 y4 y5 y6 y7 y8 y9 y10 y11 y12 y13 y14 y15 y16; have y0 := H1.out.1.cell 0 _ rfl; have y1 := H1.out.1.cell 1 _ rfl; have y2 := H1.out.1.cell 2 _ rfl; have y3 := H1.out.1.cell 3 _ rfl; have y4 := H1.out.1.cell 4 _ rfl; have y5 := H1.out.1.cell 5 _ rfl; have y6 := H1.out.1.cell 6 _ rfl; have y7 := H1.out.1.cell 7 _ rfl; have y8 := H1.out.1.cell 8 _ rfl; have y9 := H1.out.1.cell 9 _ rfl; have y10 := H1.out.1.cell 10 _ rfl; have y11 := H1.out.1.cell 11 _ rfl; have y12 := H1.out.1.cell 12 _ rfl; have y13 := H1.out.1.cell 13 _ rfl; have y14 := H1.out.1.cell 14 _ rfl; have y15 := H1.out.1.cell 15 _ rfl; have y16 := H1.out.1.cell 16 _ rfl)
    | (go_at_call 26; refine (iwithin_any _ _ _ _).mono ?_; rintro e w1 ⟨rfl, hw⟩; rw [HW.out]; replace hw := (hw.trans HA.out).symm; subst hw; clear z1; have y0 := H0.out.1.cell 0 _ rfl; have y1 := H0.out.1.cell 1 _ rfl; have y2 := H0.out.1.cell 2 _ rfl; have y3 := H0.out.1.cell 3 _ rfl; have y4 := H0.out.1.cell 4 _ rfl; have y5 := H0.out.1.cell 5 _ rfl; have y6 := H0.out.1.cell 6 _ rfl; have y7 := H0.out.1.cell 7 _ rfl; have y8 := H0.out.1.cell 8 _ rfl; have y9 := H0.out.1.cell 9 _ rfl; have y10 := H0.out.1.cell 10 _ rfl; have y11 := H0.out.1.cell 11 _ rfl; have y12 := H0.out.1.cell 12 _ rfl; have y13 := H0.out.1.cell 13 _ rfl; have y14 := H0.out.1.cell 14 _ rfl; have y15 := H0.out.1.cell 15 _ rfl; have y16 := H0.out.1.cell 16 _ rfl))
  go_ret
  exact ⟨by simp, HW0.out.trans (H1.out.2.mono HW0.out.size)⟩
set_option maxRecDepth 100000 in
set_option maxHeartbeats 6400000 in
theorem ifits_1_2 {F : Nat → Prop} (m : Ms) (hB : MsB m) (h0 : 0 ≤ m.ep) (h1 : m.ep ≤ 60) (hk : m.k = 1) (a13 a14 a15 a16 : Option Addr) (c13 c14 c15 c16 : Nat) (w : World) (hL : MsL F w m (.slice a13 m.nx.length c13) (.slice a14 m.sg.length c14) (.slice a15 m.cg.length c15) (.slice a16 m.ln.length c16)) (t1 : (onlyB m { r := true, g := true }) = true) (t2 : (decide (m.ep = 0)) = true) (t3 : (rightB m.rq) = false) :
    Calls Try.prog 15 #[.agg #[.int .i64 m.k, .int .i64 m.ep, .int .i64 m.v, .int .i64 m.sl, .int .i64 m.rq.c, .int .i64 m.rq.st, .int .i64 m.rq.k, .string m.rq.key, .float .f64 m.rq.b, .int .i64 m.rq.id, .int .i64 m.rs.1, .float .f64 m.rs.2, .string m.tx, .slice a13 m.nx.length c13, .slice a14 m.sg.length c14, .slice a15 m.cg.length c15, .slice a16 m.ln.length c16]] w fun e w' => e = .returned (.bool false) ∧ Below w.heap.size w w' := by
  have _ := hB
  have hS : PairsIn w a14 m.sg := (slice_pairs hL.sg)
  have hI : IntsIn w a13 m.nx := (slice_ints hL.nx)
  have hC := hL.cg
  have hK := hL.ln
  obtain ⟨wa, ewa⟩ : ∃ wa, wa = w.alloc (.cells #[.int .i64 m.k, .int .i64 m.ep, .int .i64 m.v, .int .i64 m.sl, .int .i64 m.rq.c, .int .i64 m.rq.st, .int .i64 m.rq.k, .string m.rq.key, .float .f64 m.rq.b, .int .i64 m.rq.id, .int .i64 m.rs.1, .float .f64 m.rs.2, .string m.tx, .slice a13 m.nx.length c13, .slice a14 m.sg.length c14, .slice a15 m.cg.length c15, .slice a16 m.ln.length c16] 34) := ⟨_, rfl⟩
  have hw0 : Below w.heap.size w wa := by rw [ewa]; exact (Below.refl w.heap.size w).alloc (Nat.le_refl _) _
  have H0 : Hid (BxAt wa w.heap.size [.int .i64 m.k, .int .i64 m.ep, .int .i64 m.v, .int .i64 m.sl, .int .i64 m.rq.c, .int .i64 m.rq.st, .int .i64 m.rq.k, .string m.rq.key, .float .f64 m.rq.b, .int .i64 m.rq.id, .int .i64 m.rs.1, .float .f64 m.rs.2, .string m.tx, .slice a13 m.nx.length c13, .slice a14 m.sg.length c14, .slice a15 m.cg.length c15, .slice a16 m.ln.length c16] 34 ∧ Below wa.heap.size wa wa) := hid ⟨by rw [ewa]; exact heap_alloc_last w _, Below.refl _ _⟩
  have HA : Hid (w.alloc (.cells #[.int .i64 m.k, .int .i64 m.ep, .int .i64 m.v, .int .i64 m.sl, .int .i64 m.rq.c, .int .i64 m.rq.st, .int .i64 m.rq.k, .string m.rq.key, .float .f64 m.rq.b, .int .i64 m.rq.id, .int .i64 m.rs.1, .float .f64 m.rs.2, .string m.tx, .slice a13 m.nx.length c13, .slice a14 m.sg.length c14, .slice a15 m.cg.length c15, .slice a16 m.ln.length c16] 34) = wa) := hid ewa.symm
  clear ewa
  have z1 : (w.alloc (.cells #[.int .i64 m.k, .int .i64 m.ep, .int .i64 m.v, .int .i64 m.sl, .int .i64 m.rq.c, .int .i64 m.rq.st, .int .i64 m.rq.k, .string m.rq.key, .float .f64 m.rq.b, .int .i64 m.rq.id, .int .i64 m.rs.1, .float .f64 m.rs.2, .string m.tx, .slice a13 m.nx.length c13, .slice a14 m.sg.length c14, .slice a15 m.cg.length c15, .slice a16 m.ln.length c16] 34)).cell? ⟨w.heap.size, 1, none⟩ = some (.int .i64 m.ep) := by rw [HA.out]; exact H0.out.1.cell 1 _ rfl
  have HW : Hid (inB m.ep 0 60 = true) := hid (by rw [inB, decide_eq_true h0, decide_eq_true h1]; rfl)
  have HW0 := hid hw0
  have q1 : (m.k == 1) = true := by rw [hk]; rfl
  have HT1 : Hid (∀ u : World, Below wa.heap.size wa u → Calls Try.prog 27 #[.agg #[.int .i64 m.k, .int .i64 m.ep, .int .i64 m.v, .int .i64 m.sl, .int .i64 m.rq.c, .int .i64 m.rq.st, .int .i64 m.rq.k, .string m.rq.key, .float .f64 m.rq.b, .int .i64 m.rq.id, .int .i64 m.rs.1, .float .f64 m.rs.2, .string m.tx, .slice a13 m.nx.length c13, .slice a14 m.sg.length c14, .slice a15 m.cg.length c15, .slice a16 m.ln.length c16], .int .i64 68] u fun e w' => e = .returned (.bool true) ∧ Below u.heap.size u w') := hid (fun u hv => by have hu := hw0.trans (hv.mono hw0.size); rw [← t1]; exact ionly_68 m a13 a14 a15 a16 c13 c14 c15 c16 u)
  have b2 : (m.ep == 0) = true := by rw [beq_iff_eq]; exact of_decide_eq_true t2
  have HT3 : Hid (∀ u : World, Below wa.heap.size wa u → Calls Try.prog 28 #[.agg #[.int .i64 m.rq.c, .int .i64 m.rq.st, .int .i64 m.rq.k, .string m.rq.key, .float .f64 m.rq.b, .int .i64 m.rq.id]] u fun e w' => e = .returned (.bool false) ∧ Below u.heap.size u w') := hid (fun u hv => by have hu := hw0.trans (hv.mono hw0.size); rw [← t3]; exact dright_any m.rq u)
  clear t1 t2 t3 hS hI hC hK hL hB hw0 h0 h1 hk
  go_enter Try.func15, Try.ntmps15
  try simp only [List.append]
  go_wp2_with (first
    | (have := H1; go_at_call 28; refine (HT3.out _ H1.out.2).mono ?_; rintro e w2 ⟨rfl, hb⟩; have H2 := hid (And.intro (H1.out.1.keep hb) (H1.out.2.trans (hb.mono H1.out.2.size))); clear hb y0 y1 y2 y3 y4 y5 y6 y7 y8 y9 y10 y11 y12 y13 y14 y15 y16; have y0 := H2.out.1.cell 0 _ rfl; have y1 := H2.out.1.cell 1 _ rfl; have y2 := H2.out.1.cell 2 _ rfl; have y3 := H2.out.1.cell 3 _ rfl; have y4 := H2.out.1.cell 4 _ rfl; have y5 := H2.out.1.cell 5 _ rfl; have y6 := H2.out.1.cell 6 _ rfl; have y7 := H2.out.1.cell 7 _ rfl; have y8 := H2.out.1.cell 8 _ rfl; have y9 := H2.out.1.cell 9 _ rfl; have y10 := H2.out.1.cell 10 _ rfl; have y11 := H2.out.1.cell 11 _ rfl; have y12 := H2.out.1.cell 12 _ rfl; have y13 := H2.out.1.cell 13 _ rfl; have y14 := H2.out.1.cell 14 _ rfl; have y15 := H2.out.1.cell 15 _ rfl; have y16 := H2.out.1.cell 16 _ rfl)
    | (have := H0; go_at_call 27; refine (HT1.out _ H0.out.2).mono ?_; rintro e w1 ⟨rfl, hb⟩; have H1 := hid (And.intro (H0.out.1.keep hb) (H0.out.2.trans (hb.mono H0.out.2.size))); clear hb y0 y1 y2 y3 y4 y5 y6 y7 y8 y9 y10 y11 y12 y13 y14 y15 y16; have y0 := H1.out.1.cell 0 _ rfl; have y1 := H1.out.1.cell 1 _ rfl; have y2 := H1.out.1.cell 2 _ rfl; have y3 := H1.out.1.cell 3 _ rfl; have y4 := H1.out.1.cell 4 _ rfl; have y5 := H1.out.1.cell 5 _ rfl; have y6 := H1.out.1.cell 6 _ rfl; have y7 := H1.out.1.cell 7 _ rfl; have y8 := H1.out.1.cell 8 _ rfl; have y9 := H1.out.1.cell 9 _ rfl; have y10 := H1.out.1.cell 10 _ rfl; have y11 := H1.out.1.cell 11 _ rfl; have y12 := H1.out.1.cell 12 _ rfl; have y13 := H1.out.1.cell 13 _ rfl; have y14 := H1.out.1.cell 14 _ rfl; have y15 := H1.out.1.cell 15 _ rfl; have y16 := H1.out.1.cell 16 _ rfl)
    | (go_at_call 26; refine (iwithin_any _ _ _ _).mono ?_; rintro e w1 ⟨rfl, hw⟩; rw [HW.out]; replace hw := (hw.trans HA.out).symm; subst hw; clear z1; have y0 := H0.out.1.cell 0 _ rfl; have y1 := H0.out.1.cell 1 _ rfl; have y2 := H0.out.1.cell 2 _ rfl; have y3 := H0.out.1.cell 3 _ rfl; have y4 := H0.out.1.cell 4 _ rfl; have y5 := H0.out.1.cell 5 _ rfl; have y6 := H0.out.1.cell 6 _ rfl; have y7 := H0.out.1.cell 7 _ rfl; have y8 := H0.out.1.cell 8 _ rfl; have y9 := H0.out.1.cell 9 _ rfl; have y10 := H0.out.1.cell 10 _ rfl; have y11 := H0.out.1.cell 11 _ rfl; have y12 := H0.out.1.cell 12 _ rfl; have y13 := H0.out.1.cell 13 _ rfl; have y14 := H0.out.1.cell 14 _ rfl; have y15 := H0.out.1.cell 15 _ rfl; have y16 := H0.out.1.cell 16 _ rfl))
  go_ret
  exact ⟨by simp, HW0.out.trans (H2.out.2.mono HW0.out.size)⟩
set_option maxRecDepth 100000 in
set_option maxHeartbeats 6400000 in
theorem ifits_1_3 {F : Nat → Prop} (m : Ms) (hB : MsB m) (h0 : 0 ≤ m.ep) (h1 : m.ep ≤ 60) (hk : m.k = 1) (a13 a14 a15 a16 : Option Addr) (c13 c14 c15 c16 : Nat) (w : World) (hL : MsL F w m (.slice a13 m.nx.length c13) (.slice a14 m.sg.length c14) (.slice a15 m.cg.length c15) (.slice a16 m.ln.length c16)) (t1 : (onlyB m { r := true, g := true }) = true) (t2 : (decide (m.ep = 0)) = true) (t3 : (rightB m.rq) = true) (t4 : (oneB m.sg 1) = false) :
    Calls Try.prog 15 #[.agg #[.int .i64 m.k, .int .i64 m.ep, .int .i64 m.v, .int .i64 m.sl, .int .i64 m.rq.c, .int .i64 m.rq.st, .int .i64 m.rq.k, .string m.rq.key, .float .f64 m.rq.b, .int .i64 m.rq.id, .int .i64 m.rs.1, .float .f64 m.rs.2, .string m.tx, .slice a13 m.nx.length c13, .slice a14 m.sg.length c14, .slice a15 m.cg.length c15, .slice a16 m.ln.length c16]] w fun e w' => e = .returned (.bool false) ∧ Below w.heap.size w w' := by
  have _ := hB
  have hS : PairsIn w a14 m.sg := (slice_pairs hL.sg)
  have hI : IntsIn w a13 m.nx := (slice_ints hL.nx)
  have hC := hL.cg
  have hK := hL.ln
  obtain ⟨wa, ewa⟩ : ∃ wa, wa = w.alloc (.cells #[.int .i64 m.k, .int .i64 m.ep, .int .i64 m.v, .int .i64 m.sl, .int .i64 m.rq.c, .int .i64 m.rq.st, .int .i64 m.rq.k, .string m.rq.key, .float .f64 m.rq.b, .int .i64 m.rq.id, .int .i64 m.rs.1, .float .f64 m.rs.2, .string m.tx, .slice a13 m.nx.length c13, .slice a14 m.sg.length c14, .slice a15 m.cg.length c15, .slice a16 m.ln.length c16] 34) := ⟨_, rfl⟩
  have hw0 : Below w.heap.size w wa := by rw [ewa]; exact (Below.refl w.heap.size w).alloc (Nat.le_refl _) _
  have H0 : Hid (BxAt wa w.heap.size [.int .i64 m.k, .int .i64 m.ep, .int .i64 m.v, .int .i64 m.sl, .int .i64 m.rq.c, .int .i64 m.rq.st, .int .i64 m.rq.k, .string m.rq.key, .float .f64 m.rq.b, .int .i64 m.rq.id, .int .i64 m.rs.1, .float .f64 m.rs.2, .string m.tx, .slice a13 m.nx.length c13, .slice a14 m.sg.length c14, .slice a15 m.cg.length c15, .slice a16 m.ln.length c16] 34 ∧ Below wa.heap.size wa wa) := hid ⟨by rw [ewa]; exact heap_alloc_last w _, Below.refl _ _⟩
  have HA : Hid (w.alloc (.cells #[.int .i64 m.k, .int .i64 m.ep, .int .i64 m.v, .int .i64 m.sl, .int .i64 m.rq.c, .int .i64 m.rq.st, .int .i64 m.rq.k, .string m.rq.key, .float .f64 m.rq.b, .int .i64 m.rq.id, .int .i64 m.rs.1, .float .f64 m.rs.2, .string m.tx, .slice a13 m.nx.length c13, .slice a14 m.sg.length c14, .slice a15 m.cg.length c15, .slice a16 m.ln.length c16] 34) = wa) := hid ewa.symm
  clear ewa
  have z1 : (w.alloc (.cells #[.int .i64 m.k, .int .i64 m.ep, .int .i64 m.v, .int .i64 m.sl, .int .i64 m.rq.c, .int .i64 m.rq.st, .int .i64 m.rq.k, .string m.rq.key, .float .f64 m.rq.b, .int .i64 m.rq.id, .int .i64 m.rs.1, .float .f64 m.rs.2, .string m.tx, .slice a13 m.nx.length c13, .slice a14 m.sg.length c14, .slice a15 m.cg.length c15, .slice a16 m.ln.length c16] 34)).cell? ⟨w.heap.size, 1, none⟩ = some (.int .i64 m.ep) := by rw [HA.out]; exact H0.out.1.cell 1 _ rfl
  have HW : Hid (inB m.ep 0 60 = true) := hid (by rw [inB, decide_eq_true h0, decide_eq_true h1]; rfl)
  have HW0 := hid hw0
  have q1 : (m.k == 1) = true := by rw [hk]; rfl
  have HT1 : Hid (∀ u : World, Below wa.heap.size wa u → Calls Try.prog 27 #[.agg #[.int .i64 m.k, .int .i64 m.ep, .int .i64 m.v, .int .i64 m.sl, .int .i64 m.rq.c, .int .i64 m.rq.st, .int .i64 m.rq.k, .string m.rq.key, .float .f64 m.rq.b, .int .i64 m.rq.id, .int .i64 m.rs.1, .float .f64 m.rs.2, .string m.tx, .slice a13 m.nx.length c13, .slice a14 m.sg.length c14, .slice a15 m.cg.length c15, .slice a16 m.ln.length c16], .int .i64 68] u fun e w' => e = .returned (.bool true) ∧ Below u.heap.size u w') := hid (fun u hv => by have hu := hw0.trans (hv.mono hw0.size); rw [← t1]; exact ionly_68 m a13 a14 a15 a16 c13 c14 c15 c16 u)
  have b2 : (m.ep == 0) = true := by rw [beq_iff_eq]; exact of_decide_eq_true t2
  have HT3 : Hid (∀ u : World, Below wa.heap.size wa u → Calls Try.prog 28 #[.agg #[.int .i64 m.rq.c, .int .i64 m.rq.st, .int .i64 m.rq.k, .string m.rq.key, .float .f64 m.rq.b, .int .i64 m.rq.id]] u fun e w' => e = .returned (.bool true) ∧ Below u.heap.size u w') := hid (fun u hv => by have hu := hw0.trans (hv.mono hw0.size); rw [← t3]; exact dright_any m.rq u)
  have HT4 : Hid (∀ u : World, Below wa.heap.size wa u → Calls Try.prog 29 #[.slice a14 m.sg.length c14, .int .i64 1] u fun e w' => e = .returned (.bool false) ∧ Below u.heap.size u w') := hid (fun u hv => by have hu := hw0.trans (hv.mono hw0.size); rw [← t4]; exact iareSigs_any a14 _ c14 m.sg rfl hB.sg.1 1 u (hS.keep hu (Nat.le_refl _)))
  clear t1 t2 t3 t4 hS hI hC hK hL hB hw0 h0 h1 hk
  go_enter Try.func15, Try.ntmps15
  try simp only [List.append]
  go_wp2_with (first
    | (have := H2; go_at_call 29; refine (HT4.out _ H2.out.2).mono ?_; rintro e w3 ⟨rfl, hb⟩; have H3 := hid (And.intro (H2.out.1.keep hb) (H2.out.2.trans (hb.mono H2.out.2.size))); clear hb y0 y1 y2 y3 y4 y5 y6 y7 y8 y9 y10 y11 y12 y13 y14 y15 y16; have y0 := H3.out.1.cell 0 _ rfl; have y1 := H3.out.1.cell 1 _ rfl; have y2 := H3.out.1.cell 2 _ rfl; have y3 := H3.out.1.cell 3 _ rfl; have y4 := H3.out.1.cell 4 _ rfl; have y5 := H3.out.1.cell 5 _ rfl; have y6 := H3.out.1.cell 6 _ rfl; have y7 := H3.out.1.cell 7 _ rfl; have y8 := H3.out.1.cell 8 _ rfl; have y9 := H3.out.1.cell 9 _ rfl; have y10 := H3.out.1.cell 10 _ rfl; have y11 := H3.out.1.cell 11 _ rfl; have y12 := H3.out.1.cell 12 _ rfl; have y13 := H3.out.1.cell 13 _ rfl; have y14 := H3.out.1.cell 14 _ rfl; have y15 := H3.out.1.cell 15 _ rfl; have y16 := H3.out.1.cell 16 _ rfl)
    | (have := H1; go_at_call 28; refine (HT3.out _ H1.out.2).mono ?_; rintro e w2 ⟨rfl, hb⟩; have H2 := hid (And.intro (H1.out.1.keep hb) (H1.out.2.trans (hb.mono H1.out.2.size))); clear hb y0 y1 y2 y3 y4 y5 y6 y7 y8 y9 y10 y11 y12 y13 y14 y15 y16; have y0 := H2.out.1.cell 0 _ rfl; have y1 := H2.out.1.cell 1 _ rfl; have y2 := H2.out.1.cell 2 _ rfl; have y3 := H2.out.1.cell 3 _ rfl; have y4 := H2.out.1.cell 4 _ rfl; have y5 := H2.out.1.cell 5 _ rfl; have y6 := H2.out.1.cell 6 _ rfl; have y7 := H2.out.1.cell 7 _ rfl; have y8 := H2.out.1.cell 8 _ rfl; have y9 := H2.out.1.cell 9 _ rfl; have y10 := H2.out.1.cell 10 _ rfl; have y11 := H2.out.1.cell 11 _ rfl; have y12 := H2.out.1.cell 12 _ rfl; have y13 := H2.out.1.cell 13 _ rfl; have y14 := H2.out.1.cell 14 _ rfl; have y15 := H2.out.1.cell 15 _ rfl; have y16 := H2.out.1.cell 16 _ rfl)
    | (have := H0; go_at_call 27; refine (HT1.out _ H0.out.2).mono ?_; rintro e w1 ⟨rfl, hb⟩; have H1 := hid (And.intro (H0.out.1.keep hb) (H0.out.2.trans (hb.mono H0.out.2.size))); clear hb y0 y1 y2 y3 y4 y5 y6 y7 y8 y9 y10 y11 y12 y13 y14 y15 y16; have y0 := H1.out.1.cell 0 _ rfl; have y1 := H1.out.1.cell 1 _ rfl; have y2 := H1.out.1.cell 2 _ rfl; have y3 := H1.out.1.cell 3 _ rfl; have y4 := H1.out.1.cell 4 _ rfl; have y5 := H1.out.1.cell 5 _ rfl; have y6 := H1.out.1.cell 6 _ rfl; have y7 := H1.out.1.cell 7 _ rfl; have y8 := H1.out.1.cell 8 _ rfl; have y9 := H1.out.1.cell 9 _ rfl; have y10 := H1.out.1.cell 10 _ rfl; have y11 := H1.out.1.cell 11 _ rfl; have y12 := H1.out.1.cell 12 _ rfl; have y13 := H1.out.1.cell 13 _ rfl; have y14 := H1.out.1.cell 14 _ rfl; have y15 := H1.out.1.cell 15 _ rfl; have y16 := H1.out.1.cell 16 _ rfl)
    | (go_at_call 26; refine (iwithin_any _ _ _ _).mono ?_; rintro e w1 ⟨rfl, hw⟩; rw [HW.out]; replace hw := (hw.trans HA.out).symm; subst hw; clear z1; have y0 := H0.out.1.cell 0 _ rfl; have y1 := H0.out.1.cell 1 _ rfl; have y2 := H0.out.1.cell 2 _ rfl; have y3 := H0.out.1.cell 3 _ rfl; have y4 := H0.out.1.cell 4 _ rfl; have y5 := H0.out.1.cell 5 _ rfl; have y6 := H0.out.1.cell 6 _ rfl; have y7 := H0.out.1.cell 7 _ rfl; have y8 := H0.out.1.cell 8 _ rfl; have y9 := H0.out.1.cell 9 _ rfl; have y10 := H0.out.1.cell 10 _ rfl; have y11 := H0.out.1.cell 11 _ rfl; have y12 := H0.out.1.cell 12 _ rfl; have y13 := H0.out.1.cell 13 _ rfl; have y14 := H0.out.1.cell 14 _ rfl; have y15 := H0.out.1.cell 15 _ rfl; have y16 := H0.out.1.cell 16 _ rfl))
  go_ret
  exact ⟨by simp, HW0.out.trans (H3.out.2.mono HW0.out.size)⟩
set_option maxRecDepth 100000 in
set_option maxHeartbeats 6400000 in
theorem ifits_1_4 {F : Nat → Prop} (m : Ms) (hB : MsB m) (h0 : 0 ≤ m.ep) (h1 : m.ep ≤ 60) (hk : m.k = 1) (a13 a14 a15 a16 : Option Addr) (c13 c14 c15 c16 : Nat) (w : World) (hL : MsL F w m (.slice a13 m.nx.length c13) (.slice a14 m.sg.length c14) (.slice a15 m.cg.length c15) (.slice a16 m.ln.length c16)) (t1 : (onlyB m { r := true, g := true }) = true) (t2 : (decide (m.ep = 0)) = true) (t3 : (rightB m.rq) = true) (t4 : (oneB m.sg 1) = true) :
    Calls Try.prog 15 #[.agg #[.int .i64 m.k, .int .i64 m.ep, .int .i64 m.v, .int .i64 m.sl, .int .i64 m.rq.c, .int .i64 m.rq.st, .int .i64 m.rq.k, .string m.rq.key, .float .f64 m.rq.b, .int .i64 m.rq.id, .int .i64 m.rs.1, .float .f64 m.rs.2, .string m.tx, .slice a13 m.nx.length c13, .slice a14 m.sg.length c14, .slice a15 m.cg.length c15, .slice a16 m.ln.length c16]] w fun e w' => e = .returned (.bool true) ∧ Below w.heap.size w w' := by
  have _ := hB
  have hS : PairsIn w a14 m.sg := (slice_pairs hL.sg)
  have hI : IntsIn w a13 m.nx := (slice_ints hL.nx)
  have hC := hL.cg
  have hK := hL.ln
  obtain ⟨wa, ewa⟩ : ∃ wa, wa = w.alloc (.cells #[.int .i64 m.k, .int .i64 m.ep, .int .i64 m.v, .int .i64 m.sl, .int .i64 m.rq.c, .int .i64 m.rq.st, .int .i64 m.rq.k, .string m.rq.key, .float .f64 m.rq.b, .int .i64 m.rq.id, .int .i64 m.rs.1, .float .f64 m.rs.2, .string m.tx, .slice a13 m.nx.length c13, .slice a14 m.sg.length c14, .slice a15 m.cg.length c15, .slice a16 m.ln.length c16] 34) := ⟨_, rfl⟩
  have hw0 : Below w.heap.size w wa := by rw [ewa]; exact (Below.refl w.heap.size w).alloc (Nat.le_refl _) _
  have H0 : Hid (BxAt wa w.heap.size [.int .i64 m.k, .int .i64 m.ep, .int .i64 m.v, .int .i64 m.sl, .int .i64 m.rq.c, .int .i64 m.rq.st, .int .i64 m.rq.k, .string m.rq.key, .float .f64 m.rq.b, .int .i64 m.rq.id, .int .i64 m.rs.1, .float .f64 m.rs.2, .string m.tx, .slice a13 m.nx.length c13, .slice a14 m.sg.length c14, .slice a15 m.cg.length c15, .slice a16 m.ln.length c16] 34 ∧ Below wa.heap.size wa wa) := hid ⟨by rw [ewa]; exact heap_alloc_last w _, Below.refl _ _⟩
  have HA : Hid (w.alloc (.cells #[.int .i64 m.k, .int .i64 m.ep, .int .i64 m.v, .int .i64 m.sl, .int .i64 m.rq.c, .int .i64 m.rq.st, .int .i64 m.rq.k, .string m.rq.key, .float .f64 m.rq.b, .int .i64 m.rq.id, .int .i64 m.rs.1, .float .f64 m.rs.2, .string m.tx, .slice a13 m.nx.length c13, .slice a14 m.sg.length c14, .slice a15 m.cg.length c15, .slice a16 m.ln.length c16] 34) = wa) := hid ewa.symm
  clear ewa
  have z1 : (w.alloc (.cells #[.int .i64 m.k, .int .i64 m.ep, .int .i64 m.v, .int .i64 m.sl, .int .i64 m.rq.c, .int .i64 m.rq.st, .int .i64 m.rq.k, .string m.rq.key, .float .f64 m.rq.b, .int .i64 m.rq.id, .int .i64 m.rs.1, .float .f64 m.rs.2, .string m.tx, .slice a13 m.nx.length c13, .slice a14 m.sg.length c14, .slice a15 m.cg.length c15, .slice a16 m.ln.length c16] 34)).cell? ⟨w.heap.size, 1, none⟩ = some (.int .i64 m.ep) := by rw [HA.out]; exact H0.out.1.cell 1 _ rfl
  have HW : Hid (inB m.ep 0 60 = true) := hid (by rw [inB, decide_eq_true h0, decide_eq_true h1]; rfl)
  have HW0 := hid hw0
  have q1 : (m.k == 1) = true := by rw [hk]; rfl
  have HT1 : Hid (∀ u : World, Below wa.heap.size wa u → Calls Try.prog 27 #[.agg #[.int .i64 m.k, .int .i64 m.ep, .int .i64 m.v, .int .i64 m.sl, .int .i64 m.rq.c, .int .i64 m.rq.st, .int .i64 m.rq.k, .string m.rq.key, .float .f64 m.rq.b, .int .i64 m.rq.id, .int .i64 m.rs.1, .float .f64 m.rs.2, .string m.tx, .slice a13 m.nx.length c13, .slice a14 m.sg.length c14, .slice a15 m.cg.length c15, .slice a16 m.ln.length c16], .int .i64 68] u fun e w' => e = .returned (.bool true) ∧ Below u.heap.size u w') := hid (fun u hv => by have hu := hw0.trans (hv.mono hw0.size); rw [← t1]; exact ionly_68 m a13 a14 a15 a16 c13 c14 c15 c16 u)
  have b2 : (m.ep == 0) = true := by rw [beq_iff_eq]; exact of_decide_eq_true t2
  have HT3 : Hid (∀ u : World, Below wa.heap.size wa u → Calls Try.prog 28 #[.agg #[.int .i64 m.rq.c, .int .i64 m.rq.st, .int .i64 m.rq.k, .string m.rq.key, .float .f64 m.rq.b, .int .i64 m.rq.id]] u fun e w' => e = .returned (.bool true) ∧ Below u.heap.size u w') := hid (fun u hv => by have hu := hw0.trans (hv.mono hw0.size); rw [← t3]; exact dright_any m.rq u)
  have HT4 : Hid (∀ u : World, Below wa.heap.size wa u → Calls Try.prog 29 #[.slice a14 m.sg.length c14, .int .i64 1] u fun e w' => e = .returned (.bool true) ∧ Below u.heap.size u w') := hid (fun u hv => by have hu := hw0.trans (hv.mono hw0.size); rw [← t4]; exact iareSigs_any a14 _ c14 m.sg rfl hB.sg.1 1 u (hS.keep hu (Nat.le_refl _)))
  clear t1 t2 t3 t4 hS hI hC hK hL hB hw0 h0 h1 hk
  go_enter Try.func15, Try.ntmps15
  try simp only [List.append]
  go_wp2_with (first
    | (have := H2; go_at_call 29; refine (HT4.out _ H2.out.2).mono ?_; rintro e w3 ⟨rfl, hb⟩; have H3 := hid (And.intro (H2.out.1.keep hb) (H2.out.2.trans (hb.mono H2.out.2.size))); clear hb y0 y1 y2 y3 y4 y5 y6 y7 y8 y9 y10 y11 y12 y13 y14 y15 y16; have y0 := H3.out.1.cell 0 _ rfl; have y1 := H3.out.1.cell 1 _ rfl; have y2 := H3.out.1.cell 2 _ rfl; have y3 := H3.out.1.cell 3 _ rfl; have y4 := H3.out.1.cell 4 _ rfl; have y5 := H3.out.1.cell 5 _ rfl; have y6 := H3.out.1.cell 6 _ rfl; have y7 := H3.out.1.cell 7 _ rfl; have y8 := H3.out.1.cell 8 _ rfl; have y9 := H3.out.1.cell 9 _ rfl; have y10 := H3.out.1.cell 10 _ rfl; have y11 := H3.out.1.cell 11 _ rfl; have y12 := H3.out.1.cell 12 _ rfl; have y13 := H3.out.1.cell 13 _ rfl; have y14 := H3.out.1.cell 14 _ rfl; have y15 := H3.out.1.cell 15 _ rfl; have y16 := H3.out.1.cell 16 _ rfl)
    | (have := H1; go_at_call 28; refine (HT3.out _ H1.out.2).mono ?_; rintro e w2 ⟨rfl, hb⟩; have H2 := hid (And.intro (H1.out.1.keep hb) (H1.out.2.trans (hb.mono H1.out.2.size))); clear hb y0 y1 y2 y3 y4 y5 y6 y7 y8 y9 y10 y11 y12 y13 y14 y15 y16; have y0 := H2.out.1.cell 0 _ rfl; have y1 := H2.out.1.cell 1 _ rfl; have y2 := H2.out.1.cell 2 _ rfl; have y3 := H2.out.1.cell 3 _ rfl; have y4 := H2.out.1.cell 4 _ rfl; have y5 := H2.out.1.cell 5 _ rfl; have y6 := H2.out.1.cell 6 _ rfl; have y7 := H2.out.1.cell 7 _ rfl; have y8 := H2.out.1.cell 8 _ rfl; have y9 := H2.out.1.cell 9 _ rfl; have y10 := H2.out.1.cell 10 _ rfl; have y11 := H2.out.1.cell 11 _ rfl; have y12 := H2.out.1.cell 12 _ rfl; have y13 := H2.out.1.cell 13 _ rfl; have y14 := H2.out.1.cell 14 _ rfl; have y15 := H2.out.1.cell 15 _ rfl; have y16 := H2.out.1.cell 16 _ rfl)
    | (have := H0; go_at_call 27; refine (HT1.out _ H0.out.2).mono ?_; rintro e w1 ⟨rfl, hb⟩; have H1 := hid (And.intro (H0.out.1.keep hb) (H0.out.2.trans (hb.mono H0.out.2.size))); clear hb y0 y1 y2 y3 y4 y5 y6 y7 y8 y9 y10 y11 y12 y13 y14 y15 y16; have y0 := H1.out.1.cell 0 _ rfl; have y1 := H1.out.1.cell 1 _ rfl; have y2 := H1.out.1.cell 2 _ rfl; have y3 := H1.out.1.cell 3 _ rfl; have y4 := H1.out.1.cell 4 _ rfl; have y5 := H1.out.1.cell 5 _ rfl; have y6 := H1.out.1.cell 6 _ rfl; have y7 := H1.out.1.cell 7 _ rfl; have y8 := H1.out.1.cell 8 _ rfl; have y9 := H1.out.1.cell 9 _ rfl; have y10 := H1.out.1.cell 10 _ rfl; have y11 := H1.out.1.cell 11 _ rfl; have y12 := H1.out.1.cell 12 _ rfl; have y13 := H1.out.1.cell 13 _ rfl; have y14 := H1.out.1.cell 14 _ rfl; have y15 := H1.out.1.cell 15 _ rfl; have y16 := H1.out.1.cell 16 _ rfl)
    | (go_at_call 26; refine (iwithin_any _ _ _ _).mono ?_; rintro e w1 ⟨rfl, hw⟩; rw [HW.out]; replace hw := (hw.trans HA.out).symm; subst hw; clear z1; have y0 := H0.out.1.cell 0 _ rfl; have y1 := H0.out.1.cell 1 _ rfl; have y2 := H0.out.1.cell 2 _ rfl; have y3 := H0.out.1.cell 3 _ rfl; have y4 := H0.out.1.cell 4 _ rfl; have y5 := H0.out.1.cell 5 _ rfl; have y6 := H0.out.1.cell 6 _ rfl; have y7 := H0.out.1.cell 7 _ rfl; have y8 := H0.out.1.cell 8 _ rfl; have y9 := H0.out.1.cell 9 _ rfl; have y10 := H0.out.1.cell 10 _ rfl; have y11 := H0.out.1.cell 11 _ rfl; have y12 := H0.out.1.cell 12 _ rfl; have y13 := H0.out.1.cell 13 _ rfl; have y14 := H0.out.1.cell 14 _ rfl; have y15 := H0.out.1.cell 15 _ rfl; have y16 := H0.out.1.cell 16 _ rfl))
  go_ret
  exact ⟨by simp, HW0.out.trans (H3.out.2.mono HW0.out.size)⟩
theorem ifits_1 {F : Nat → Prop} (m : Ms) (hB : MsB m) (h0 : 0 ≤ m.ep) (h1 : m.ep ≤ 60) (hk : m.k = 1) (a13 a14 a15 a16 : Option Addr) (c13 c14 c15 c16 : Nat) (w : World) (hL : MsL F w m (.slice a13 m.nx.length c13) (.slice a14 m.sg.length c14) (.slice a15 m.cg.length c15) (.slice a16 m.ln.length c16)) :
    Calls Try.prog 15 #[.agg #[.int .i64 m.k, .int .i64 m.ep, .int .i64 m.v, .int .i64 m.sl, .int .i64 m.rq.c, .int .i64 m.rq.st, .int .i64 m.rq.k, .string m.rq.key, .float .f64 m.rq.b, .int .i64 m.rq.id, .int .i64 m.rs.1, .float .f64 m.rs.2, .string m.tx, .slice a13 m.nx.length c13, .slice a14 m.sg.length c14, .slice a15 m.cg.length c15, .slice a16 m.ln.length c16]] w fun e w' => e = .returned (.bool (kindB m)) ∧ Below w.heap.size w w' := by
  have hV : kindB m = ((onlyB m { r := true, g := true }) && ((decide (m.ep = 0)) && ((rightB m.rq) && ((oneB m.sg 1))))) := by
    unfold kindB
    rw [if_pos hk]
  cases t1 : (onlyB m { r := true, g := true }) with
  | false =>
    rw [show kindB m = false by rw [hV, t1] <;> rfl]
    exact ifits_1_0 m hB h0 h1 hk a13 a14 a15 a16 c13 c14 c15 c16 w hL t1
  | true =>
    cases t2 : (decide (m.ep = 0)) with
    | false =>
      rw [show kindB m = false by rw [hV, t1, t2] <;> rfl]
      exact ifits_1_1 m hB h0 h1 hk a13 a14 a15 a16 c13 c14 c15 c16 w hL t1 t2
    | true =>
      cases t3 : (rightB m.rq) with
      | false =>
        rw [show kindB m = false by rw [hV, t1, t2, t3] <;> rfl]
        exact ifits_1_2 m hB h0 h1 hk a13 a14 a15 a16 c13 c14 c15 c16 w hL t1 t2 t3
      | true =>
        cases t4 : (oneB m.sg 1) with
        | false =>
          rw [show kindB m = false by rw [hV, t1, t2, t3, t4] <;> rfl]
          exact ifits_1_3 m hB h0 h1 hk a13 a14 a15 a16 c13 c14 c15 c16 w hL t1 t2 t3 t4
        | true =>
          rw [show kindB m = true by rw [hV, t1, t2, t3, t4] <;> rfl]
          exact ifits_1_4 m hB h0 h1 hk a13 a14 a15 a16 c13 c14 c15 c16 w hL t1 t2 t3 t4
end Go.Proofs.Ytepcdbmdfpaomaa
