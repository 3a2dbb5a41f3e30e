/- The program's small tests of messages. -/
import Derived.Test.YtepcdbmdfpaomaaWiJM
namespace Go.Proofs.Ytepcdbmdfpaomaa
open Go.RowKit
set_option maxRecDepth 100000 in
set_option maxHeartbeats 3200000 in
theorem iplaced_any (m : Ms) (h0 : 0 ≤ m.ep) (h1 : m.ep ≤ 60) (v13 v14 v15 v16 : Value) (w : World) :
    Calls Try.prog 30 #[.agg #[.int .i64 m.k, .int .i64 m.ep, .int .i64 m.v, .int .i64 m.sl, .int .i64 m.rq.c, .int .i64 m.rq.st, .int .i64 m.rq.k, .string m.rq.key, .float .f64 m.rq.b, .int .i64 m.rq.id, .int .i64 m.rs.1, .float .f64 m.rs.2, .string m.tx, v13, v14, v15, v16]] w fun e w' => e = .returned (.bool (placeB m)) ∧ Below w.heap.size w w' := by
  have H0 : Hid (BxAt (w.alloc (.cells #[.int .i64 m.k, .int .i64 m.ep, .int .i64 m.v, .int .i64 m.sl, .int .i64 m.rq.c, .int .i64 m.rq.st, .int .i64 m.rq.k, .string m.rq.key, .float .f64 m.rq.b, .int .i64 m.rq.id, .int .i64 m.rs.1, .float .f64 m.rs.2, .string m.tx, v13, v14, v15, v16] 34)) w.heap.size [.int .i64 m.k, .int .i64 m.ep, .int .i64 m.v, .int .i64 m.sl, .int .i64 m.rq.c, .int .i64 m.rq.st, .int .i64 m.rq.k, .string m.rq.key, .float .f64 m.rq.b, .int .i64 m.rq.id, .int .i64 m.rs.1, .float .f64 m.rs.2, .string m.tx, v13, v14, v15, v16] 34 ∧ Below w.heap.size w (w.alloc (.cells #[.int .i64 m.k, .int .i64 m.ep, .int .i64 m.v, .int .i64 m.sl, .int .i64 m.rq.c, .int .i64 m.rq.st, .int .i64 m.rq.k, .string m.rq.key, .float .f64 m.rq.b, .int .i64 m.rq.id, .int .i64 m.rs.1, .float .f64 m.rs.2, .string m.tx, v13, v14, v15, v16] 34))) := hid ⟨heap_alloc_last w _, (Below.refl w.heap.size w).alloc (Nat.le_refl _) _⟩
  have y0 := H0.out.1.cell 0 _ rfl; have y1 := H0.out.1.cell 1 _ rfl; have y2 := H0.out.1.cell 2 _ rfl; have y3 := H0.out.1.cell 3 _ rfl; have y4 := H0.out.1.cell 4 _ rfl; have y5 := H0.out.1.cell 5 _ rfl; have y6 := H0.out.1.cell 6 _ rfl; have y7 := H0.out.1.cell 7 _ rfl; have y8 := H0.out.1.cell 8 _ rfl; have y9 := H0.out.1.cell 9 _ rfl; have y10 := H0.out.1.cell 10 _ rfl; have y11 := H0.out.1.cell 11 _ rfl; have y12 := H0.out.1.cell 12 _ rfl; have y13 := H0.out.1.cell 13 _ rfl; have y14 := H0.out.1.cell 14 _ rfl; have y15 := H0.out.1.cell 15 _ rfl; have y16 := H0.out.1.cell 16 _ rfl
  obtain ⟨B1, e1⟩ : ∃ B, B = inB m.v 0 15 := ⟨_, rfl⟩
  have HT1 : Hid (∀ u : World, Below w.heap.size w u → Calls Try.prog 57 #[.int .i64 m.v] u fun e w' => e = .returned (.bool B1) ∧ Below u.heap.size u w') := hid (fun u hu => by rw [e1]; exact (iview_any _ u).mono fun e w' ⟨h1, h2⟩ => ⟨h1, by rw [h2]; exact Below.refl _ _⟩)
  obtain ⟨B2, e2⟩ : ∃ B, B = ofB m.ep m.sl := ⟨_, rfl⟩
  have HT2 : Hid (∀ u : World, Below w.heap.size w u → Calls Try.prog 58 #[.int .i64 m.ep, .int .i64 m.sl] u fun e w' => e = .returned (.bool B2) ∧ Below u.heap.size u w') := hid (fun u hu => by rw [e2]; exact (iof_any m.ep _ h0 h1 u).mono fun e w' ⟨h1, h2⟩ => ⟨h1, by rw [h2]; exact Below.refl _ _⟩)
  rw [show placeB m = (B1 && B2) by rw [e1, e2]; rfl]
  clear e1 e2 h0 h1
  cases B1 with
  | false =>
    go_enter Try.func30, Try.ntmps30
    go_wp2_with (first
      | (have := H0; go_at_call 57; refine (HT1.out _ H0.out.2).mono ?_; rintro e w1 ⟨rfl, hb⟩; have H1 := hid (And.intro (H0.out.1.keep hb) (H0.out.2.trans (hb.mono H0.out.2.size))); clear hb y0 y1 y2 y3 y4 y5 y6 y7 y8 y9 y10 y11 y12 y13 y14 y15 y16; have y0 := H1.out.1.cell 0 _ rfl; have y1 := H1.out.1.cell 1 _ rfl; have y2 := H1.out.1.cell 2 _ rfl; have y3 := H1.out.1.cell 3 _ rfl; have y4 := H1.out.1.cell 4 _ rfl; have y5 := H1.out.1.cell 5 _ rfl; have y6 := H1.out.1.cell 6 _ rfl; have y7 := H1.out.1.cell 7 _ rfl; have y8 := H1.out.1.cell 8 _ rfl; have y9 := H1.out.1.cell 9 _ rfl; have y10 := H1.out.1.cell 10 _ rfl; have y11 := H1.out.1.cell 11 _ rfl; have y12 := H1.out.1.cell 12 _ rfl; have y13 := H1.out.1.cell 13 _ rfl; have y14 := H1.out.1.cell 14 _ rfl; have y15 := H1.out.1.cell 15 _ rfl; have y16 := H1.out.1.cell 16 _ rfl))
    go_ret
    exact ⟨by simp, H1.out.2⟩
  | true =>
    cases B2 with
    | false =>
      go_enter Try.func30, Try.ntmps30
      go_wp2_with (first
        | (have := H1; go_at_call 58; refine (HT2.out _ H1.out.2).mono ?_; rintro e w2 ⟨rfl, hb⟩; have H2 := hid (And.intro (H1.out.1.keep hb) (H1.out.2.trans (hb.mono H1.out.2.size))); clear hb y0 y1 y2 y3 y4 y5 y6 y7 y8 y9 y10 y11 y12 y13 y14 y15 y16; have y0 := H2.out.1.cell 0 _ rfl; have y1 := H2.out.1.cell 1 _ rfl; have y2 := H2.out.1.cell 2 _ rfl; have y3 := H2.out.1.cell 3 _ rfl; have y4 := H2.out.1.cell 4 _ rfl; have y5 := H2.out.1.cell 5 _ rfl; have y6 := H2.out.1.cell 6 _ rfl; have y7 := H2.out.1.cell 7 _ rfl; have y8 := H2.out.1.cell 8 _ rfl; have y9 := H2.out.1.cell 9 _ rfl; have y10 := H2.out.1.cell 10 _ rfl; have y11 := H2.out.1.cell 11 _ rfl; have y12 := H2.out.1.cell 12 _ rfl; have y13 := H2.out.1.cell 13 _ rfl; have y14 := H2.out.1.cell 14 _ rfl; have y15 := H2.out.1.cell 15 _ rfl; have y16 := H2.out.1.cell 16 _ rfl)
        | (have := H0; go_at_call 57; refine (HT1.out _ H0.out.2).mono ?_; rintro e w1 ⟨rfl, hb⟩; have H1 := hid (And.intro (H0.out.1.keep hb) (H0.out.2.trans (hb.mono H0.out.2.size))); clear hb y0 y1 y2 y3 y4 y5 y6 y7 y8 y9 y10 y11 y12 y13 y14 y15 y16; have y0 := H1.out.1.cell 0 _ rfl; have y1 := H1.out.1.cell 1 _ rfl; have y2 := H1.out.1.cell 2 _ rfl; have y3 := H1.out.1.cell 3 _ rfl; have y4 := H1.out.1.cell 4 _ rfl; have y5 := H1.out.1.cell 5 _ rfl; have y6 := H1.out.1.cell 6 _ rfl; have y7 := H1.out.1.cell 7 _ rfl; have y8 := H1.out.1.cell 8 _ rfl; have y9 := H1.out.1.cell 9 _ rfl; have y10 := H1.out.1.cell 10 _ rfl; have y11 := H1.out.1.cell 11 _ rfl; have y12 := H1.out.1.cell 12 _ rfl; have y13 := H1.out.1.cell 13 _ rfl; have y14 := H1.out.1.cell 14 _ rfl; have y15 := H1.out.1.cell 15 _ rfl; have y16 := H1.out.1.cell 16 _ rfl))
      go_ret
      exact ⟨by simp, H2.out.2⟩
    | true =>
      go_enter Try.func30, Try.ntmps30
      go_wp2_with (first
        | (have := H1; go_at_call 58; refine (HT2.out _ H1.out.2).mono ?_; rintro e w2 ⟨rfl, hb⟩; have H2 := hid (And.intro (H1.out.1.keep hb) (H1.out.2.trans (hb.mono H1.out.2.size))); clear hb y0 y1 y2 y3 y4 y5 y6 y7 y8 y9 y10 y11 y12 y13 y14 y15 y16; have y0 := H2.out.1.cell 0 _ rfl; have y1 := H2.out.1.cell 1 _ rfl; have y2 := H2.out.1.cell 2 _ rfl; have y3 := H2.out.1.cell 3 _ rfl; have y4 := H2.out.1.cell 4 _ rfl; have y5 := H2.out.1.cell 5 _ rfl; have y6 := H2.out.1.cell 6 _ rfl; have y7 := H2.out.1.cell 7 _ rfl; have y8 := H2.out.1.cell 8 _ rfl; have y9 := H2.out.1.cell 9 _ rfl; have y10 := H2.out.1.cell 10 _ rfl; have y11 := H2.out.1.cell 11 _ rfl; have y12 := H2.out.1.cell 12 _ rfl; have y13 := H2.out.1.cell 13 _ rfl; have y14 := H2.out.1.cell 14 _ rfl; have y15 := H2.out.1.cell 15 _ rfl; have y16 := H2.out.1.cell 16 _ rfl)
        | (have := H0; go_at_call 57; refine (HT1.out _ H0.out.2).mono ?_; rintro e w1 ⟨rfl, hb⟩; have H1 := hid (And.intro (H0.out.1.keep hb) (H0.out.2.trans (hb.mono H0.out.2.size))); clear hb y0 y1 y2 y3 y4 y5 y6 y7 y8 y9 y10 y11 y12 y13 y14 y15 y16; have y0 := H1.out.1.cell 0 _ rfl; have y1 := H1.out.1.cell 1 _ rfl; have y2 := H1.out.1.cell 2 _ rfl; have y3 := H1.out.1.cell 3 _ rfl; have y4 := H1.out.1.cell 4 _ rfl; have y5 := H1.out.1.cell 5 _ rfl; have y6 := H1.out.1.cell 6 _ rfl; have y7 := H1.out.1.cell 7 _ rfl; have y8 := H1.out.1.cell 8 _ rfl; have y9 := H1.out.1.cell 9 _ rfl; have y10 := H1.out.1.cell 10 _ rfl; have y11 := H1.out.1.cell 11 _ rfl; have y12 := H1.out.1.cell 12 _ rfl; have y13 := H1.out.1.cell 13 _ rfl; have y14 := H1.out.1.cell 14 _ rfl; have y15 := H1.out.1.cell 15 _ rfl; have y16 := H1.out.1.cell 16 _ rfl))
      go_ret
      exact ⟨by simp, H2.out.2⟩
theorem ihas_68_1 (w : World) : Calls Try.prog 53 #[.int .i64 68, .int .i64 1] w fun e w' => e = .returned (.bool false) ∧ w' = w := by
  go_enter Try.func53, Try.ntmps53
  go_wp2
  go_ret
  exact ⟨rfl, rfl⟩
theorem ihas_68_2 (w : World) : Calls Try.prog 53 #[.int .i64 68, .int .i64 2] w fun e w' => e = .returned (.bool false) ∧ w' = w := by
  go_enter Try.func53, Try.ntmps53
  go_wp2
  go_ret
  exact ⟨rfl, rfl⟩
theorem ihas_68_4 (w : World) : Calls Try.prog 53 #[.int .i64 68, .int .i64 4] w fun e w' => e = .returned (.bool true) ∧ w' = w := by
  go_enter Try.func53, Try.ntmps53
  go_wp2
  go_ret
  exact ⟨rfl, rfl⟩
theorem ihas_68_8 (w : World) : Calls Try.prog 53 #[.int .i64 68, .int .i64 8] w fun e w' => e = .returned (.bool false) ∧ w' = w := by
  go_enter Try.func53, Try.ntmps53
  go_wp2
  go_ret
  exact ⟨rfl, rfl⟩
theorem ihas_68_16 (w : World) : Calls Try.prog 53 #[.int .i64 68, .int .i64 16] w fun e w' => e = .returned (.bool false) ∧ w' = w := by
  go_enter Try.func53, Try.ntmps53
  go_wp2
  go_ret
  exact ⟨rfl, rfl⟩
theorem ihas_68_32 (w : World) : Calls Try.prog 53 #[.int .i64 68, .int .i64 32] w fun e w' => e = .returned (.bool false) ∧ w' = w := by
  go_enter Try.func53, Try.ntmps53
  go_wp2
  go_ret
  exact ⟨rfl, rfl⟩
theorem ihas_68_64 (w : World) : Calls Try.prog 53 #[.int .i64 68, .int .i64 64] w fun e w' => e = .returned (.bool true) ∧ w' = w := by
  go_enter Try.func53, Try.ntmps53
  go_wp2
  go_ret
  exact ⟨rfl, rfl⟩
theorem ihas_68_128 (w : World) : Calls Try.prog 53 #[.int .i64 68, .int .i64 128] w fun e w' => e = .returned (.bool false) ∧ w' = w := by
  go_enter Try.func53, Try.ntmps53
  go_wp2
  go_ret
  exact ⟨rfl, rfl⟩
theorem ihas_68_256 (w : World) : Calls Try.prog 53 #[.int .i64 68, .int .i64 256] w fun e w' => e = .returned (.bool false) ∧ w' = w := by
  go_enter Try.func53, Try.ntmps53
  go_wp2
  go_ret
  exact ⟨rfl, rfl⟩
theorem ihas_71_1 (w : World) : Calls Try.prog 53 #[.int .i64 71, .int .i64 1] w fun e w' => e = .returned (.bool true) ∧ w' = w := by
  go_enter Try.func53, Try.ntmps53
  go_wp2
  go_ret
  exact ⟨rfl, rfl⟩
theorem ihas_71_2 (w : World) : Calls Try.prog 53 #[.int .i64 71, .int .i64 2] w fun e w' => e = .returned (.bool true) ∧ w' = w := by
  go_enter Try.func53, Try.ntmps53
  go_wp2
  go_ret
  exact ⟨rfl, rfl⟩
theorem ihas_71_4 (w : World) : Calls Try.prog 53 #[.int .i64 71, .int .i64 4] w fun e w' => e = .returned (.bool true) ∧ w' = w := by
  go_enter Try.func53, Try.ntmps53
  go_wp2
  go_ret
  exact ⟨rfl, rfl⟩
theorem ihas_71_8 (w : World) : Calls Try.prog 53 #[.int .i64 71, .int .i64 8] w fun e w' => e = .returned (.bool false) ∧ w' = w := by
  go_enter Try.func53, Try.ntmps53
  go_wp2
  go_ret
  exact ⟨rfl, rfl⟩
theorem ihas_71_16 (w : World) : Calls Try.prog 53 #[.int .i64 71, .int .i64 16] w fun e w' => e = .returned (.bool false) ∧ w' = w := by
  go_enter Try.func53, Try.ntmps53
  go_wp2
  go_ret
  exact ⟨rfl, rfl⟩
theorem ihas_71_32 (w : World) : Calls Try.prog 53 #[.int .i64 71, .int .i64 32] w fun e w' => e = .returned (.bool false) ∧ w' = w := by
  go_enter Try.func53, Try.ntmps53
  go_wp2
  go_ret
  exact ⟨rfl, rfl⟩
theorem ihas_71_64 (w : World) : Calls Try.prog 53 #[.int .i64 71, .int .i64 64] w fun e w' => e = .returned (.bool true) ∧ w' = w := by
  go_enter Try.func53, Try.ntmps53
  go_wp2
  go_ret
  exact ⟨rfl, rfl⟩
theorem ihas_71_128 (w : World) : Calls Try.prog 53 #[.int .i64 71, .int .i64 128] w fun e w' => e = .returned (.bool false) ∧ w' = w := by
  go_enter Try.func53, Try.ntmps53
  go_wp2
  go_ret
  exact ⟨rfl, rfl⟩
theorem ihas_71_256 (w : World) : Calls Try.prog 53 #[.int .i64 71, .int .i64 256] w fun e w' => e = .returned (.bool false) ∧ w' = w := by
  go_enter Try.func53, Try.ntmps53
  go_wp2
  go_ret
  exact ⟨rfl, rfl⟩
theorem ihas_7_1 (w : World) : Calls Try.prog 53 #[.int .i64 7, .int .i64 1] w fun e w' => e = .returned (.bool true) ∧ w' = w := by
  go_enter Try.func53, Try.ntmps53
  go_wp2
  go_ret
  exact ⟨rfl, rfl⟩
theorem ihas_7_2 (w : World) : Calls Try.prog 53 #[.int .i64 7, .int .i64 2] w fun e w' => e = .returned (.bool true) ∧ w' = w := by
  go_enter Try.func53, Try.ntmps53
  go_wp2
  go_ret
  exact ⟨rfl, rfl⟩
theorem ihas_7_4 (w : World) : Calls Try.prog 53 #[.int .i64 7, .int .i64 4] w fun e w' => e = .returned (.bool true) ∧ w' = w := by
  go_enter Try.func53, Try.ntmps53
  go_wp2
  go_ret
  exact ⟨rfl, rfl⟩
theorem ihas_7_8 (w : World) : Calls Try.prog 53 #[.int .i64 7, .int .i64 8] w fun e w' => e = .returned (.bool false) ∧ w' = w := by
  go_enter Try.func53, Try.ntmps53
  go_wp2
  go_ret
  exact ⟨rfl, rfl⟩
theorem ihas_7_16 (w : World) : Calls Try.prog 53 #[.int .i64 7, .int .i64 16] w fun e w' => e = .returned (.bool false) ∧ w' = w := by
  go_enter Try.func53, Try.ntmps53
  go_wp2
  go_ret
  exact ⟨rfl, rfl⟩
theorem ihas_7_32 (w : World) : Calls Try.prog 53 #[.int .i64 7, .int .i64 32] w fun e w' => e = .returned (.bool false) ∧ w' = w := by
  go_enter Try.func53, Try.ntmps53
  go_wp2
  go_ret
  exact ⟨rfl, rfl⟩
theorem ihas_7_64 (w : World) : Calls Try.prog 53 #[.int .i64 7, .int .i64 64] w fun e w' => e = .returned (.bool false) ∧ w' = w := by
  go_enter Try.func53, Try.ntmps53
  go_wp2
  go_ret
  exact ⟨rfl, rfl⟩
theorem ihas_7_128 (w : World) : Calls Try.prog 53 #[.int .i64 7, .int .i64 128] w fun e w' => e = .returned (.bool false) ∧ w' = w := by
  go_enter Try.func53, Try.ntmps53
  go_wp2
  go_ret
  exact ⟨rfl, rfl⟩
theorem ihas_7_256 (w : World) : Calls Try.prog 53 #[.int .i64 7, .int .i64 256] w fun e w' => e = .returned (.bool false) ∧ w' = w := by
  go_enter Try.func53, Try.ntmps53
  go_wp2
  go_ret
  exact ⟨rfl, rfl⟩
theorem ihas_114_1 (w : World) : Calls Try.prog 53 #[.int .i64 114, .int .i64 1] w fun e w' => e = .returned (.bool false) ∧ w' = w := by
  go_enter Try.func53, Try.ntmps53
  go_wp2
  go_ret
  exact ⟨rfl, rfl⟩
theorem ihas_114_2 (w : World) : Calls Try.prog 53 #[.int .i64 114, .int .i64 2] w fun e w' => e = .returned (.bool true) ∧ w' = w := by
  go_enter Try.func53, Try.ntmps53
  go_wp2
  go_ret
  exact ⟨rfl, rfl⟩
theorem ihas_114_4 (w : World) : Calls Try.prog 53 #[.int .i64 114, .int .i64 4] w fun e w' => e = .returned (.bool false) ∧ w' = w := by
  go_enter Try.func53, Try.ntmps53
  go_wp2
  go_ret
  exact ⟨rfl, rfl⟩
theorem ihas_114_8 (w : World) : Calls Try.prog 53 #[.int .i64 114, .int .i64 8] w fun e w' => e = .returned (.bool false) ∧ w' = w := by
  go_enter Try.func53, Try.ntmps53
  go_wp2
  go_ret
  exact ⟨rfl, rfl⟩
theorem ihas_114_16 (w : World) : Calls Try.prog 53 #[.int .i64 114, .int .i64 16] w fun e w' => e = .returned (.bool true) ∧ w' = w := by
  go_enter Try.func53, Try.ntmps53
  go_wp2
  go_ret
  exact ⟨rfl, rfl⟩
theorem ihas_114_32 (w : World) : Calls Try.prog 53 #[.int .i64 114, .int .i64 32] w fun e w' => e = .returned (.bool true) ∧ w' = w := by
  go_enter Try.func53, Try.ntmps53
  go_wp2
  go_ret
  exact ⟨rfl, rfl⟩
theorem ihas_114_64 (w : World) : Calls Try.prog 53 #[.int .i64 114, .int .i64 64] w fun e w' => e = .returned (.bool true) ∧ w' = w := by
  go_enter Try.func53, Try.ntmps53
  go_wp2
  go_ret
  exact ⟨rfl, rfl⟩
theorem ihas_114_128 (w : World) : Calls Try.prog 53 #[.int .i64 114, .int .i64 128] w fun e w' => e = .returned (.bool false) ∧ w' = w := by
  go_enter Try.func53, Try.ntmps53
  go_wp2
  go_ret
  exact ⟨rfl, rfl⟩
theorem ihas_114_256 (w : World) : Calls Try.prog 53 #[.int .i64 114, .int .i64 256] w fun e w' => e = .returned (.bool false) ∧ w' = w := by
  go_enter Try.func53, Try.ntmps53
  go_wp2
  go_ret
  exact ⟨rfl, rfl⟩
theorem ihas_129_1 (w : World) : Calls Try.prog 53 #[.int .i64 129, .int .i64 1] w fun e w' => e = .returned (.bool true) ∧ w' = w := by
  go_enter Try.func53, Try.ntmps53
  go_wp2
  go_ret
  exact ⟨rfl, rfl⟩
theorem ihas_129_2 (w : World) : Calls Try.prog 53 #[.int .i64 129, .int .i64 2] w fun e w' => e = .returned (.bool false) ∧ w' = w := by
  go_enter Try.func53, Try.ntmps53
  go_wp2
  go_ret
  exact ⟨rfl, rfl⟩
theorem ihas_129_4 (w : World) : Calls Try.prog 53 #[.int .i64 129, .int .i64 4] w fun e w' => e = .returned (.bool false) ∧ w' = w := by
  go_enter Try.func53, Try.ntmps53
  go_wp2
  go_ret
  exact ⟨rfl, rfl⟩
theorem ihas_129_8 (w : World) : Calls Try.prog 53 #[.int .i64 129, .int .i64 8] w fun e w' => e = .returned (.bool false) ∧ w' = w := by
  go_enter Try.func53, Try.ntmps53
  go_wp2
  go_ret
  exact ⟨rfl, rfl⟩
theorem ihas_129_16 (w : World) : Calls Try.prog 53 #[.int .i64 129, .int .i64 16] w fun e w' => e = .returned (.bool false) ∧ w' = w := by
  go_enter Try.func53, Try.ntmps53
  go_wp2
  go_ret
  exact ⟨rfl, rfl⟩
theorem ihas_129_32 (w : World) : Calls Try.prog 53 #[.int .i64 129, .int .i64 32] w fun e w' => e = .returned (.bool false) ∧ w' = w := by
  go_enter Try.func53, Try.ntmps53
  go_wp2
  go_ret
  exact ⟨rfl, rfl⟩
theorem ihas_129_64 (w : World) : Calls Try.prog 53 #[.int .i64 129, .int .i64 64] w fun e w' => e = .returned (.bool false) ∧ w' = w := by
  go_enter Try.func53, Try.ntmps53
  go_wp2
  go_ret
  exact ⟨rfl, rfl⟩
theorem ihas_129_128 (w : World) : Calls Try.prog 53 #[.int .i64 129, .int .i64 128] w fun e w' => e = .returned (.bool true) ∧ w' = w := by
  go_enter Try.func53, Try.ntmps53
  go_wp2
  go_ret
  exact ⟨rfl, rfl⟩
theorem ihas_129_256 (w : World) : Calls Try.prog 53 #[.int .i64 129, .int .i64 256] w fun e w' => e = .returned (.bool false) ∧ w' = w := by
  go_enter Try.func53, Try.ntmps53
  go_wp2
  go_ret
  exact ⟨rfl, rfl⟩
theorem ihas_12_1 (w : World) : Calls Try.prog 53 #[.int .i64 12, .int .i64 1] w fun e w' => e = .returned (.bool false) ∧ w' = w := by
  go_enter Try.func53, Try.ntmps53
  go_wp2
  go_ret
  exact ⟨rfl, rfl⟩
theorem ihas_12_2 (w : World) : Calls Try.prog 53 #[.int .i64 12, .int .i64 2] w fun e w' => e = .returned (.bool false) ∧ w' = w := by
  go_enter Try.func53, Try.ntmps53
  go_wp2
  go_ret
  exact ⟨rfl, rfl⟩
theorem ihas_12_4 (w : World) : Calls Try.prog 53 #[.int .i64 12, .int .i64 4] w fun e w' => e = .returned (.bool true) ∧ w' = w := by
  go_enter Try.func53, Try.ntmps53
  go_wp2
  go_ret
  exact ⟨rfl, rfl⟩
theorem ihas_12_8 (w : World) : Calls Try.prog 53 #[.int .i64 12, .int .i64 8] w fun e w' => e = .returned (.bool true) ∧ w' = w := by
  go_enter Try.func53, Try.ntmps53
  go_wp2
  go_ret
  exact ⟨rfl, rfl⟩
theorem ihas_12_16 (w : World) : Calls Try.prog 53 #[.int .i64 12, .int .i64 16] w fun e w' => e = .returned (.bool false) ∧ w' = w := by
  go_enter Try.func53, Try.ntmps53
  go_wp2
  go_ret
  exact ⟨rfl, rfl⟩
theorem ihas_12_32 (w : World) : Calls Try.prog 53 #[.int .i64 12, .int .i64 32] w fun e w' => e = .returned (.bool false) ∧ w' = w := by
  go_enter Try.func53, Try.ntmps53
  go_wp2
  go_ret
  exact ⟨rfl, rfl⟩
theorem ihas_12_64 (w : World) : Calls Try.prog 53 #[.int .i64 12, .int .i64 64] w fun e w' => e = .returned (.bool false) ∧ w' = w := by
  go_enter Try.func53, Try.ntmps53
  go_wp2
  go_ret
  exact ⟨rfl, rfl⟩
theorem ihas_12_128 (w : World) : Calls Try.prog 53 #[.int .i64 12, .int .i64 128] w fun e w' => e = .returned (.bool false) ∧ w' = w := by
  go_enter Try.func53, Try.ntmps53
  go_wp2
  go_ret
  exact ⟨rfl, rfl⟩
theorem ihas_12_256 (w : World) : Calls Try.prog 53 #[.int .i64 12, .int .i64 256] w fun e w' => e = .returned (.bool false) ∧ w' = w := by
  go_enter Try.func53, Try.ntmps53
  go_wp2
  go_ret
  exact ⟨rfl, rfl⟩
theorem ihas_0_1 (w : World) : Calls Try.prog 53 #[.int .i64 0, .int .i64 1] w fun e w' => e = .returned (.bool false) ∧ w' = w := by
  go_enter Try.func53, Try.ntmps53
  go_wp2
  go_ret
  exact ⟨rfl, rfl⟩
theorem ihas_0_2 (w : World) : Calls Try.prog 53 #[.int .i64 0, .int .i64 2] w fun e w' => e = .returned (.bool false) ∧ w' = w := by
  go_enter Try.func53, Try.ntmps53
  go_wp2
  go_ret
  exact ⟨rfl, rfl⟩
theorem ihas_0_4 (w : World) : Calls Try.prog 53 #[.int .i64 0, .int .i64 4] w fun e w' => e = .returned (.bool false) ∧ w' = w := by
  go_enter Try.func53, Try.ntmps53
  go_wp2
  go_ret
  exact ⟨rfl, rfl⟩
theorem ihas_0_8 (w : World) : Calls Try.prog 53 #[.int .i64 0, .int .i64 8] w fun e w' => e = .returned (.bool false) ∧ w' = w := by
  go_enter Try.func53, Try.ntmps53
  go_wp2
  go_ret
  exact ⟨rfl, rfl⟩
theorem ihas_0_16 (w : World) : Calls Try.prog 53 #[.int .i64 0, .int .i64 16] w fun e w' => e = .returned (.bool false) ∧ w' = w := by
  go_enter Try.func53, Try.ntmps53
  go_wp2
  go_ret
  exact ⟨rfl, rfl⟩
theorem ihas_0_32 (w : World) : Calls Try.prog 53 #[.int .i64 0, .int .i64 32] w fun e w' => e = .returned (.bool false) ∧ w' = w := by
  go_enter Try.func53, Try.ntmps53
  go_wp2
  go_ret
  exact ⟨rfl, rfl⟩
theorem ihas_0_64 (w : World) : Calls Try.prog 53 #[.int .i64 0, .int .i64 64] w fun e w' => e = .returned (.bool false) ∧ w' = w := by
  go_enter Try.func53, Try.ntmps53
  go_wp2
  go_ret
  exact ⟨rfl, rfl⟩
theorem ihas_0_128 (w : World) : Calls Try.prog 53 #[.int .i64 0, .int .i64 128] w fun e w' => e = .returned (.bool false) ∧ w' = w := by
  go_enter Try.func53, Try.ntmps53
  go_wp2
  go_ret
  exact ⟨rfl, rfl⟩
theorem ihas_0_256 (w : World) : Calls Try.prog 53 #[.int .i64 0, .int .i64 256] w fun e w' => e = .returned (.bool false) ∧ w' = w := by
  go_enter Try.func53, Try.ntmps53
  go_wp2
  go_ret
  exact ⟨rfl, rfl⟩
theorem ihas_338_1 (w : World) : Calls Try.prog 53 #[.int .i64 338, .int .i64 1] w fun e w' => e = .returned (.bool false) ∧ w' = w := by
  go_enter Try.func53, Try.ntmps53
  go_wp2
  go_ret
  exact ⟨rfl, rfl⟩
theorem ihas_338_2 (w : World) : Calls Try.prog 53 #[.int .i64 338, .int .i64 2] w fun e w' => e = .returned (.bool true) ∧ w' = w := by
  go_enter Try.func53, Try.ntmps53
  go_wp2
  go_ret
  exact ⟨rfl, rfl⟩
theorem ihas_338_4 (w : World) : Calls Try.prog 53 #[.int .i64 338, .int .i64 4] w fun e w' => e = .returned (.bool false) ∧ w' = w := by
  go_enter Try.func53, Try.ntmps53
  go_wp2
  go_ret
  exact ⟨rfl, rfl⟩
theorem ihas_338_8 (w : World) : Calls Try.prog 53 #[.int .i64 338, .int .i64 8] w fun e w' => e = .returned (.bool false) ∧ w' = w := by
  go_enter Try.func53, Try.ntmps53
  go_wp2
  go_ret
  exact ⟨rfl, rfl⟩
theorem ihas_338_16 (w : World) : Calls Try.prog 53 #[.int .i64 338, .int .i64 16] w fun e w' => e = .returned (.bool true) ∧ w' = w := by
  go_enter Try.func53, Try.ntmps53
  go_wp2
  go_ret
  exact ⟨rfl, rfl⟩
theorem ihas_338_32 (w : World) : Calls Try.prog 53 #[.int .i64 338, .int .i64 32] w fun e w' => e = .returned (.bool false) ∧ w' = w := by
  go_enter Try.func53, Try.ntmps53
  go_wp2
  go_ret
  exact ⟨rfl, rfl⟩
theorem ihas_338_64 (w : World) : Calls Try.prog 53 #[.int .i64 338, .int .i64 64] w fun e w' => e = .returned (.bool true) ∧ w' = w := by
  go_enter Try.func53, Try.ntmps53
  go_wp2
  go_ret
  exact ⟨rfl, rfl⟩
theorem ihas_338_128 (w : World) : Calls Try.prog 53 #[.int .i64 338, .int .i64 128] w fun e w' => e = .returned (.bool false) ∧ w' = w := by
  go_enter Try.func53, Try.ntmps53
  go_wp2
  go_ret
  exact ⟨rfl, rfl⟩
theorem ihas_338_256 (w : World) : Calls Try.prog 53 #[.int .i64 338, .int .i64 256] w fun e w' => e = .returned (.bool true) ∧ w' = w := by
  go_enter Try.func53, Try.ntmps53
  go_wp2
  go_ret
  exact ⟨rfl, rfl⟩
end Go.Proofs.Ytepcdbmdfpaomaa
