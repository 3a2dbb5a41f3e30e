/- The program's test of messages: those of no kind, of no epoch. -/
import Derived.Test.YtfjcpghepkmbfaaWiNzM
namespace Go.Proofs.Ytfjcpghepkmbfaa
open Go.RowKit
set_option maxRecDepth 100000 in
theorem ifits_no (m : Ms) (h : inB m.ep 0 60 = false) (v13 v14 v15 v16 : Value) (w : World) :
    Calls Try.prog 15 #[.agg #[.int .i64 m.k, .int .i64 m.ep, .int .i64 m.v, .int .i64 m.sl, .int .i64 m.rq.c, .int .i64 m.rq.st, .int .i64 m.rq.k, .string m.rq.key, .float .f64 m.rq.b, .int .i64 m.rq.id, .int .i64 m.rs.1, .float .f64 m.rs.2, .string m.tx, v13, v14, v15, v16]] w fun e w' => e = .returned (.bool false) ∧ Below w.heap.size w w' := by
  have HW := hid h
  clear h
  have z1 : (w.alloc (.cells #[.int .i64 m.k, .int .i64 m.ep, .int .i64 m.v, .int .i64 m.sl, .int .i64 m.rq.c, .int .i64 m.rq.st, .int .i64 m.rq.k, .string m.rq.key, .float .f64 m.rq.b, .int .i64 m.rq.id, .int .i64 m.rs.1, .float .f64 m.rs.2, .string m.tx, v13, v14, v15, v16] 34)).cell? ⟨w.heap.size, 1, none⟩ = some (.int .i64 m.ep) := by
    exact BxAt.cell (L := [.int .i64 m.k, .int .i64 m.ep, .int .i64 m.v, .int .i64 m.sl, .int .i64 m.rq.c, .int .i64 m.rq.st, .int .i64 m.rq.k, .string m.rq.key, .float .f64 m.rq.b, .int .i64 m.rq.id, .int .i64 m.rs.1, .float .f64 m.rs.2, .string m.tx, v13, v14, v15, v16]) (heap_alloc_last w _) 1 _ rfl
  go_enter Try.func15, Try.ntmps15
  go_wp2_with (go_at_call 26; refine (iwithin_any _ _ _ _).mono ?_; rintro e w1 ⟨rfl, hw⟩; rw [HW.out]; replace hw := hw.symm; subst hw; clear z1)
  go_ret
  exact ⟨rfl, (Below.refl w.heap.size w).alloc (Nat.le_refl _) _⟩
set_option maxRecDepth 100000 in
set_option maxHeartbeats 1600000 in
theorem ifits_none (m : Ms) (h : inB m.ep 0 60 = true) (hk : inB m.k 1 10 = false) (v13 v14 v15 v16 : Value) (w : World) :
    Calls Try.prog 15 #[.agg #[.int .i64 m.k, .int .i64 m.ep, .int .i64 m.v, .int .i64 m.sl, .int .i64 m.rq.c, .int .i64 m.rq.st, .int .i64 m.rq.k, .string m.rq.key, .float .f64 m.rq.b, .int .i64 m.rq.id, .int .i64 m.rs.1, .float .f64 m.rs.2, .string m.tx, v13, v14, v15, v16]] w fun e w' => e = .returned (.bool false) ∧ Below w.heap.size w w' := by
  have HW := hid h
  have hn : ∀ z : Int, 1 ≤ z → z ≤ 10 → (m.k == z) = false := fun z h1 h2 => by
    rw [beq_eq_false_iff_ne]
    intro e
    rw [e, inB, decide_eq_true h1, decide_eq_true h2] at hk
    cases hk
  have q1 : (m.k == 1) = false := hn 1 (by decide) (by decide)
  have q2 : (m.k == 2) = false := hn 2 (by decide) (by decide)
  have q3 : (m.k == 3) = false := hn 3 (by decide) (by decide)
  have q4 : (m.k == 4) = false := hn 4 (by decide) (by decide)
  have q5 : (m.k == 5) = false := hn 5 (by decide) (by decide)
  have q6 : (m.k == 6) = false := hn 6 (by decide) (by decide)
  have q7 : (m.k == 7) = false := hn 7 (by decide) (by decide)
  have q8 : (m.k == 8) = false := hn 8 (by decide) (by decide)
  have q9 : (m.k == 9) = false := hn 9 (by decide) (by decide)
  have q10 : (m.k == 10) = false := hn 10 (by decide) (by decide)
  clear h hk hn
  have z1 : (w.alloc (.cells #[.int .i64 m.k, .int .i64 m.ep, .int .i64 m.v, .int .i64 m.sl, .int .i64 m.rq.c, .int .i64 m.rq.st, .int .i64 m.rq.k, .string m.rq.key, .float .f64 m.rq.b, .int .i64 m.rq.id, .int .i64 m.rs.1, .float .f64 m.rs.2, .string m.tx, v13, v14, v15, v16] 34)).cell? ⟨w.heap.size, 1, none⟩ = some (.int .i64 m.ep) := by
    exact BxAt.cell (L := [.int .i64 m.k, .int .i64 m.ep, .int .i64 m.v, .int .i64 m.sl, .int .i64 m.rq.c, .int .i64 m.rq.st, .int .i64 m.rq.k, .string m.rq.key, .float .f64 m.rq.b, .int .i64 m.rq.id, .int .i64 m.rs.1, .float .f64 m.rs.2, .string m.tx, v13, v14, v15, v16]) (heap_alloc_last w _) 1 _ rfl
  have z0 : (w.alloc (.cells #[.int .i64 m.k, .int .i64 m.ep, .int .i64 m.v, .int .i64 m.sl, .int .i64 m.rq.c, .int .i64 m.rq.st, .int .i64 m.rq.k, .string m.rq.key, .float .f64 m.rq.b, .int .i64 m.rq.id, .int .i64 m.rs.1, .float .f64 m.rs.2, .string m.tx, v13, v14, v15, v16] 34)).cell? ⟨w.heap.size, 0, none⟩ = some (.int .i64 m.k) := by
    exact BxAt.cell (L := [.int .i64 m.k, .int .i64 m.ep, .int .i64 m.v, .int .i64 m.sl, .int .i64 m.rq.c, .int .i64 m.rq.st, .int .i64 m.rq.k, .string m.rq.key, .float .f64 m.rq.b, .int .i64 m.rq.id, .int .i64 m.rs.1, .float .f64 m.rs.2, .string m.tx, v13, v14, v15, v16]) (heap_alloc_last w _) 0 _ rfl
  go_enter Try.func15, Try.ntmps15
  go_wp2_with (go_at_call 26; refine (iwithin_any _ _ _ _).mono ?_; rintro e w1 ⟨rfl, hw⟩; rw [HW.out]; replace hw := hw.symm; subst hw)
  go_ret
  exact ⟨rfl, (Below.refl w.heap.size w).alloc (Nat.le_refl _) _⟩
end Go.Proofs.Ytfjcpghepkmbfaa
