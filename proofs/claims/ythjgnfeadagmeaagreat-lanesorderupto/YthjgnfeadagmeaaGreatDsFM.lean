/- The document's: are two requests one, are their texts the same; results' texts; what is prepared, states. -/
import Derived.Test.YthjgnfeadagmeaaGreatOa6
import Derived.Test.YthjgnfeadagmeaaGreatOa1
import Derived.Deep.QuietTactic
namespace Go.Proofs.YthjgnfeadagmeaaGreat
open Go.RowKit

theorem text_eq (x y : ByteArray) : (x.toList == y.toList) = decide (x = y) := by
  rw [ByteArray.toList_eq, ByteArray.toList_eq, Bool.eq_iff_iff]
  simp only [beq_iff_eq, decide_eq_true_eq]
  exact ⟨fun h => ByteArray.ext (Array.ext' h), fun h => by rw [h]⟩
/-- Two requests in two variables, one behind the other. -/
structure TwQ (w0 w : World) (x y : Rq) : Prop where
  one : RqAt w w0.heap.size x
  two : RqAt w (w0.heap.size + 1) y
  bel : Below w0.heap.size w0 w
theorem TwQ.keep {w0 w w' : World} {x y : Rq} (h : TwQ w0 w x y) (hb : Below w.heap.size w w') : TwQ w0 w' x y := ⟨h.one.keep hb, h.two.keep hb, h.bel.trans (hb.mono h.bel.size)⟩
theorem twq_new (w : World) (x y : Rq) : TwQ w ((w.alloc (.cells #[.int .i64 x.c, .int .i64 x.st, .int .i64 x.k, .string x.key, .float .f64 x.b, .int .i64 x.id] 41)).alloc (.cells #[.int .i64 y.c, .int .i64 y.st, .int .i64 y.k, .string y.key, .float .f64 y.b, .int .i64 y.id] 41)) x y :=
  ⟨(Below.heap_alloc _ _ _ (by simp)).trans (heap_alloc_last w _), snd_alloc w _ _, ((Below.refl _ _).alloc (Nat.le_refl _) _).alloc (by simp) _⟩
def sameB (x y : Rq) : Bool := (decide (rqE x = 0) && decide (rqE y = 0)) && decide (rqT x = rqT y)
set_option maxRecDepth 100000 in
set_option maxHeartbeats 6400000 in
theorem qwhole_any (x y : Rq) (w : World) : Calls Tryz.prog 81 #[.agg #[.int .i64 x.c, .int .i64 x.st, .int .i64 x.k, .string x.key, .float .f64 x.b, .int .i64 x.id], .agg #[.int .i64 y.c, .int .i64 y.st, .int .i64 y.k, .string y.key, .float .f64 y.b, .int .i64 y.id]] w fun e w' => e = .returned (.bool (wholeB x y)) ∧ Below w.heap.size w w' := by
  have H0 := hid (twq_new w x y)
  have HKB : Hid (∀ (b : Nat) (u : World), Calls Tryz.prog 89 #[.float .f64 b] u fun e w' => e = .returned (.int .u64 (canW b : Nat)) ∧ Below u.heap.size u w') := hid (fun b u => (kbits_any b u).mono fun e w' ⟨h1, h2⟩ => ⟨h1, by rw [h2]; exact Below.refl _ _⟩)
  obtain ⟨B, hB⟩ : ∃ B, wholeB x y = B := ⟨_, rfl⟩
  rw [hB]
  have HBe : Hid (B = (((((decide (x.c = y.c) && decide (x.st = y.st)) && decide (x.k = y.k)) && decide (x.key = y.key)) && decide (x.id = y.id)) && decide (canW x.b = canW y.b))) := hid hB.symm

  clear hB
  obtain ⟨W, eW⟩ : ∃ W, W = (w.alloc (.cells #[.int .i64 x.c, .int .i64 x.st, .int .i64 x.k, .string x.key, .float .f64 x.b, .int .i64 x.id] 41)).alloc (.cells #[.int .i64 y.c, .int .i64 y.st, .int .i64 y.k, .string y.key, .float .f64 y.b, .int .i64 y.id] 41) := ⟨_, rfl⟩
  rw [← eW] at H0
  have q0 : ∀ u : Cls W, u.1.cell? ⟨w.heap.size, 0, none⟩ = some (.int .i64 x.c) := fun u => (H0.out.keep u.2).one.cells.1.1
  have q1 : ∀ u : Cls W, u.1.cell? ⟨w.heap.size, 1, none⟩ = some (.int .i64 x.st) := fun u => (H0.out.keep u.2).one.cells.1.2
  have q2 : ∀ u : Cls W, u.1.cell? ⟨w.heap.size, 2, none⟩ = some (.int .i64 x.k) := fun u => (H0.out.keep u.2).one.cells.2.1
  have q3 : ∀ u : Cls W, u.1.cell? ⟨w.heap.size, 3, none⟩ = some (.string x.key) := fun u => (H0.out.keep u.2).one.cells.2.2.1
  have q4 : ∀ u : Cls W, u.1.cell? ⟨w.heap.size, 4, none⟩ = some (.float .f64 x.b) := fun u => (H0.out.keep u.2).one.cells.2.2.2.1
  have q5 : ∀ u : Cls W, u.1.cell? ⟨w.heap.size, 5, none⟩ = some (.int .i64 x.id) := fun u => (H0.out.keep u.2).one.cells.2.2.2.2
  have hks : ∀ (D : Bool), (x.key.toList == y.key.toList) = D → ∀ u : Cls W, (binOp .eql 9 (.string x.key) (.string y.key)).run Tryz.prog u.1 = .ok (.bool D) u.1 := fun D hD u => by rw [← hD]; go_simp
  have p0 : ∀ u : Cls W, u.1.cell? ⟨w.heap.size + 1, 0, none⟩ = some (.int .i64 y.c) := fun u => (H0.out.keep u.2).two.cells.1.1
  have p1 : ∀ u : Cls W, u.1.cell? ⟨w.heap.size + 1, 1, none⟩ = some (.int .i64 y.st) := fun u => (H0.out.keep u.2).two.cells.1.2
  have p2 : ∀ u : Cls W, u.1.cell? ⟨w.heap.size + 1, 2, none⟩ = some (.int .i64 y.k) := fun u => (H0.out.keep u.2).two.cells.2.1
  have p3 : ∀ u : Cls W, u.1.cell? ⟨w.heap.size + 1, 3, none⟩ = some (.string y.key) := fun u => (H0.out.keep u.2).two.cells.2.2.1
  have p4 : ∀ u : Cls W, u.1.cell? ⟨w.heap.size + 1, 4, none⟩ = some (.float .f64 y.b) := fun u => (H0.out.keep u.2).two.cells.2.2.2.1
  have p5 : ∀ u : Cls W, u.1.cell? ⟨w.heap.size + 1, 5, none⟩ = some (.int .i64 y.id) := fun u => (H0.out.keep u.2).two.cells.2.2.2.2
  by_cases h0 : x.c = y.c
  · have t0 : (x.c == y.c) = true := by simp [h0]
    have HH0 := hid h0
    clear h0
    by_cases h1 : x.st = y.st
    · have t1 : (x.st == y.st) = true := by simp [h1]
      have HH1 := hid h1
      clear h1
      by_cases h2 : x.k = y.k
      · have t2 : (x.k == y.k) = true := by simp [h2]
        have HH2 := hid h2
        clear h2
        by_cases h3 : x.key = y.key
        · have t3 : (x.key.toList == y.key.toList) = true := by simp [h3]
          have HH3 := hid h3
          clear h3
          have hktrue := hks true t3
          clear hks
          by_cases h4 : x.id = y.id
          · have t4 : (x.id == y.id) = true := by simp [h4]
            have HH4 := hid h4
            clear h4
            by_cases h5 : canW x.b = canW y.b
            · have t5 : (((canW x.b : Nat) : Int) == ((canW y.b : Nat) : Int)) = true := by simp [h5]
              have HH5 := hid h5
              clear h5
              go_enter Tryz.func81, Tryz.ntmps81
              go_wp2
              rw [← eW]
              clear eW
              haveI := Cls.ne W
              refine wp_region_cls W (by kernel_rfl) (by kernel_rfl) ?_
              repeat (go_big_quiet_step ((first | (go_at_call 89; exact Cls.of _ (fun u _ => HKB.out _ u)))))
              rintro w' ⟨u, rfl⟩
              go_wp2
              go_ret
              exact ⟨ret_bool (by rw [HBe.out]; simp [HH0.out, HH1.out, HH2.out, HH3.out, HH4.out, HH5.out]), H0.out.bel.trans (u.2.mono H0.out.bel.size)⟩
            · have t5 : (((canW x.b : Nat) : Int) == ((canW y.b : Nat) : Int)) = false := by simp; omega
              have HH5 := hid h5
              clear h5
              go_enter Tryz.func81, Tryz.ntmps81
              go_wp2
              rw [← eW]
              clear eW
              haveI := Cls.ne W
              refine wp_region_cls W (by kernel_rfl) (by kernel_rfl) ?_
              repeat (go_big_quiet_step ((first | (go_at_call 89; exact Cls.of _ (fun u _ => HKB.out _ u)))))
              rintro w' ⟨u, rfl⟩
              go_wp2
              go_ret
              exact ⟨ret_bool (by rw [HBe.out]; simp [HH5.out]), H0.out.bel.trans (u.2.mono H0.out.bel.size)⟩
          · have t4 : (x.id == y.id) = false := by simpa using h4
            have HH4 := hid h4
            clear h4
            go_enter Tryz.func81, Tryz.ntmps81
            go_wp2
            rw [← eW]
            clear eW
            haveI := Cls.ne W
            refine wp_region_cls W (by kernel_rfl) (by kernel_rfl) ?_
            repeat (go_big_quiet_step ((first | (go_at_call 89; exact Cls.of _ (fun u _ => HKB.out _ u)))))
            rintro w' ⟨u, rfl⟩
            go_wp2
            go_ret
            exact ⟨ret_bool (by rw [HBe.out]; simp [HH4.out]), H0.out.bel.trans (u.2.mono H0.out.bel.size)⟩
        · have t3 : (x.key.toList == y.key.toList) = false := by rw [text_eq]; exact decide_eq_false h3
          have HH3 := hid h3
          clear h3
          have hkfalse := hks false t3
          clear hks
          go_enter Tryz.func81, Tryz.ntmps81
          go_wp2
          rw [← eW]
          clear eW
          haveI := Cls.ne W
          refine wp_region_cls W (by kernel_rfl) (by kernel_rfl) ?_
          repeat (go_big_quiet_step ((first | (go_at_call 89; exact Cls.of _ (fun u _ => HKB.out _ u)))))
          rintro w' ⟨u, rfl⟩
          go_wp2
          go_ret
          exact ⟨ret_bool (by rw [HBe.out]; simp [HH3.out]), H0.out.bel.trans (u.2.mono H0.out.bel.size)⟩
      · have t2 : (x.k == y.k) = false := by simpa using h2
        have HH2 := hid h2
        clear h2
        clear hks
        go_enter Tryz.func81, Tryz.ntmps81
        go_wp2
        rw [← eW]
        clear eW
        haveI := Cls.ne W
        refine wp_region_cls W (by kernel_rfl) (by kernel_rfl) ?_
        repeat (go_big_quiet_step ((first | (go_at_call 89; exact Cls.of _ (fun u _ => HKB.out _ u)))))
        rintro w' ⟨u, rfl⟩
        go_wp2
        go_ret
        exact ⟨ret_bool (by rw [HBe.out]; simp [HH2.out]), H0.out.bel.trans (u.2.mono H0.out.bel.size)⟩
    · have t1 : (x.st == y.st) = false := by simpa using h1
      have HH1 := hid h1
      clear h1
      clear hks
      go_enter Tryz.func81, Tryz.ntmps81
      go_wp2
      rw [← eW]
      clear eW
      haveI := Cls.ne W
      refine wp_region_cls W (by kernel_rfl) (by kernel_rfl) ?_
      repeat (go_big_quiet_step ((first | (go_at_call 89; exact Cls.of _ (fun u _ => HKB.out _ u)))))
      rintro w' ⟨u, rfl⟩
      go_wp2
      go_ret
      exact ⟨ret_bool (by rw [HBe.out]; simp [HH1.out]), H0.out.bel.trans (u.2.mono H0.out.bel.size)⟩
  · have t0 : (x.c == y.c) = false := by simpa using h0
    have HH0 := hid h0
    clear h0
    clear hks
    go_enter Tryz.func81, Tryz.ntmps81
    go_wp2
    rw [← eW]
    clear eW
    haveI := Cls.ne W
    refine wp_region_cls W (by kernel_rfl) (by kernel_rfl) ?_
    repeat (go_big_quiet_step ((first | (go_at_call 89; exact Cls.of _ (fun u _ => HKB.out _ u)))))
    rintro w' ⟨u, rfl⟩
    go_wp2
    go_ret
    exact ⟨ret_bool (by rw [HBe.out]; simp [HH0.out]), H0.out.bel.trans (u.2.mono H0.out.bel.size)⟩
set_option maxRecDepth 100000 in
set_option maxHeartbeats 3200000 in
theorem qresultText_any (c : Int) (f : Nat) (hf : f < 18446744073709551616) (w : World) : Calls Tryz.prog 52 #[.agg #[.int .i64 c, .float .f64 f]] w fun e w' => e = .returned (.tuple #[.string (rsT c f), .int .i64 (rsE c)]) ∧ Below w.heap.size w w' := by
  have H0 : Hid (RsAt (w.alloc (.cells #[.int .i64 c, .float .f64 f] 43)) w.heap.size c f ∧ Below w.heap.size w (w.alloc (.cells #[.int .i64 c, .float .f64 f] 43))) := hid ⟨heap_alloc_last w _, (Below.refl _ _).alloc (Nat.le_refl _) _⟩
  cases hB : rsB c with
  | false =>
    rw [show rsT c f = ⟨#[]⟩ by rw [rsT, hB]; rfl, show rsE c = 1 by rw [rsE, hB]; rfl]
    have hc : c < 0 ∨ 8 < c := by
      simp only [rsB, Bool.and_eq_false_iff, decide_eq_false_iff_not] at hB
      omega
    clear hB hf
    rcases hc with h | h
    · go_enter Tryz.func52, Tryz.ntmps52
      go_wp2
      go_ret2
      exact ⟨rfl, H0.out.2⟩
    · have h0 : ¬ (c < 0) := by omega
      go_enter Tryz.func52, Tryz.ntmps52
      go_wp2
      go_ret2
      exact ⟨rfl, H0.out.2⟩
  | true =>
    have hc : 0 ≤ c ∧ c ≤ 8 := by
      simp only [rsB, Bool.and_eq_true, decide_eq_true_eq] at hB
      exact hB
    obtain ⟨C, rfl⟩ : ∃ C : Nat, c = (C : Int) := ⟨c.toNat, by omega⟩
    rw [show rsT (C : Int) f = ⟨(be 1 C ++ be 8 (canW f)).toArray⟩ by rw [rsT, hB]; rfl, show rsE (C : Int) = 0 by rw [rsE, hB]; rfl]
    have HKB : Hid (∀ u, Calls Tryz.prog 89 #[.float .f64 f] u fun e w' => e = .returned (.int .u64 (canW f : Nat)) ∧ w' = u) := hid (fun u => kbits_any f u)
    have HW := hid (canW_lt hf)
    generalize canW f = W8 at HKB HW ⊢
    have hc0 : ¬ ((C : Int) < 0) := by omega
    have hc8 : ¬ ((8 : Int) < (C : Int)) := by omega
    have HC := hid (show C < 256 by omega)
    clear hB hc hf
    go_enter Tryz.func52, Tryz.ntmps52
    go_wp2_with (first
      | (go_at_call 72; refine (txnew 9 (by decide) _).mono ?_; rintro e w3 ⟨rfl, h3⟩; have HQ0 : Hid (RsAt w3 w.heap.size C f) := hid ((h3.2.block _ (lt_of_blk H0.out.1)).trans H0.out.1); have T0 : Hid (TxAt 9 (w.heap.size + 1) (w.alloc (.cells #[.int .i64 (C : Int), .float .f64 f] 43)) w3 []) := hid (by simpa using h3); clear h3; obtain ⟨z0, z1⟩ := HQ0.out.cells)
      | (go_at_call 73; refine (txnum 9 (by decide) (by decide) _ _ _ [] C 1 (by decide) (by have := HC.out; omega) (by decide) (by exact T0.out)).mono ?_; rintro e w4 ⟨rfl, h4⟩; have T1 := hid h4; clear h4 z0 z1; have HQ1 : Hid (RsAt w4 w.heap.size C f) := hid ((T1.out.2.block _ (by omega)).trans H0.out.1); obtain ⟨z0, z1⟩ := HQ1.out.cells)
      | (go_at_call 89; refine (HKB.out _).mono ?_; rintro e w9 ⟨rfl, rfl⟩)
      | (go_at_call 88; refine (txbits 9 (by decide) (by decide) _ _ _ ([] ++ be 1 C) W8 HW.out (by simp only [List.length_append, List.length_nil, be_len]; omega) (by exact T1.out)).mono ?_; rintro e w5 ⟨rfl, h5⟩; have T2 := hid h5; clear h5)
      | (go_at_call 78; refine (txdone 9 _ _ _ _ (by exact T2.out)).mono ?_; rintro e w6 ⟨rfl, h6⟩; have HDn := hid (H0.out.2.trans (h6.mono (by omega))); clear h6))
    go_ret2
    exact ⟨rfl, HDn.out⟩
end Go.Proofs.YthjgnfeadagmeaaGreat
