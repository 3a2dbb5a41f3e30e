/- DeedsBack: what is told is read again as the same; what is read is told as just these bytes. -/
import Derived.Test.YtpgfdnmlkaoigaaDsJ
namespace Go.Proofs.Ytpgfdnmlkaoigaa
open Go.RowKit

set_option maxRecDepth 100000 in
set_option maxHeartbeats 12800000 in
theorem dback_any (a : Rq) (hb : a.b < 18446744073709551616) (t : ByteArray) (ht : t.size ≤ 9223372036854775807) (w : World) : Calls Try.prog 5 #[.agg #[.int .i64 a.c, .int .i64 a.st, .int .i64 a.k, .string a.key, .int .u64 (a.b : Int), .int .i64 a.id], .string t] w fun r w' => r = .returned (.bool true) ∧ Below w.heap.size w w' := by
  have HRq := hid (drequest_any a)
  have HTx : Hid (∀ E, rqE a = E → ∀ u, Calls Try.prog 11 #[.agg #[.int .i64 a.c, .int .i64 a.st, .int .i64 a.k, .string a.key, .float .f64 a.b, .int .i64 a.id]] u fun e w' => e = .returned (.tuple #[.string (rqT a), .int .i64 E]) ∧ Below u.heap.size u w') := hid (fun E hE u => by rw [← hE]; exact dtext_any a hb u)
  have HRt : Hid (∀ B, rightB a = B → ∀ u, Calls Try.prog 13 #[.agg #[.int .i64 a.c, .int .i64 a.st, .int .i64 a.k, .string a.key, .float .f64 a.b, .int .i64 a.id]] u fun e w' => e = .returned (.bool B) ∧ Below u.heap.size u w') := hid (fun B hB u => by rw [← hB]; exact dright_any a u)
  have HNl : Hid (∀ B, nullB a = B → ∀ u, Calls Try.prog 15 #[.agg #[.int .i64 a.c, .int .i64 a.st, .int .i64 a.k, .string a.key, .float .f64 a.b, .int .i64 a.id]] u fun e w' => e = .returned (.bool B) ∧ Below u.heap.size u w') := hid (fun B hB u => by rw [← hB]; exact dnull_any a u)
  have HRd1 : Hid (rqE a = 0 → ∀ u, Calls Try.prog 19 #[.string (rqT a)] u fun e w' => e = .returned (.tuple #[.agg #[.int .i64 (rdR (rqT a)).c, .int .i64 (rdR (rqT a)).st, .int .i64 (rdR (rqT a)).k, .string (rdR (rqT a)).key, .float .f64 (rdR (rqT a)).b, .int .i64 (rdR (rqT a)).id], .int .i64 0]) ∧ Below u.heap.size u w') := hid (fun h u => by
    have := dread_any (rqT a) (Nat.le_trans (rqT_size a) (by decide)) u
    rw [(back_facts h hb).1] at this
    exact this)
  have HSm : Hid (rqE a = 0 → ∀ u, Calls Try.prog 17 #[.agg #[.int .i64 a.c, .int .i64 a.st, .int .i64 a.k, .string a.key, .float .f64 a.b, .int .i64 a.id], .agg #[.int .i64 (rdR (rqT a)).c, .int .i64 (rdR (rqT a)).st, .int .i64 (rdR (rqT a)).k, .string (rdR (rqT a)).key, .float .f64 (rdR (rqT a)).b, .int .i64 (rdR (rqT a)).id]] u fun e w' => e = .returned (.bool true) ∧ Below u.heap.size u w') := hid (fun h u => by
    have := dsame_any a (rdR (rqT a)) hb (back_facts h hb).2.2.2 u
    rw [(back_facts h hb).2.1] at this
    exact this)
  have HRy : Hid (rqE a = 0 → ∀ B, rightB a = B → ∀ u, Calls Try.prog 13 #[.agg #[.int .i64 (rdR (rqT a)).c, .int .i64 (rdR (rqT a)).st, .int .i64 (rdR (rqT a)).k, .string (rdR (rqT a)).key, .float .f64 (rdR (rqT a)).b, .int .i64 (rdR (rqT a)).id]] u fun e w' => e = .returned (.bool B) ∧ Below u.heap.size u w') := hid (fun h B hB u => by
    have := dright_any (rdR (rqT a)) u
    rw [(back_facts h hb).2.2.1, hB] at this
    exact this)
  have HRd2 : Hid (∀ E, rdE t = E → ∀ u, Calls Try.prog 19 #[.string t] u fun e w' => e = .returned (.tuple #[.agg #[.int .i64 (rdR t).c, .int .i64 (rdR t).st, .int .i64 (rdR t).k, .string (rdR t).key, .float .f64 (rdR t).b, .int .i64 (rdR t).id], .int .i64 E]) ∧ Below u.heap.size u w') := hid (fun E hE u => by rw [← hE]; exact dread_any t ht u)
  have HTz : Hid (rdE t = 0 → ∀ u, Calls Try.prog 11 #[.agg #[.int .i64 (rdR t).c, .int .i64 (rdR t).st, .int .i64 (rdR t).k, .string (rdR t).key, .float .f64 (rdR t).b, .int .i64 (rdR t).id]] u fun e w' => e = .returned (.tuple #[.string t, .int .i64 0]) ∧ Below u.heap.size u w') := hid (fun h u => by
    obtain ⟨h1, h2, h3⟩ := told_facts h
    have := dtext_any (rdR t) h3 u
    rw [h1, h2] at this
    exact this)
  have HE : Hid (rqE a = 0 ↔ (nullB a = true ∨ rightB a = true)) := hid (rqE_iff a)
  have HE1 := hid (text_codes a)
  have HC := hid (read_codes t)
  have H0 : Hid (AkAt (w.alloc (.cells #[.int .i64 a.c, .int .i64 a.st, .int .i64 a.k, .string a.key, .int .u64 (a.b : Int), .int .i64 a.id] 24)) w.heap.size a ∧ Below w.heap.size w (w.alloc (.cells #[.int .i64 a.c, .int .i64 a.st, .int .i64 a.k, .string a.key, .int .u64 (a.b : Int), .int .i64 a.id] 24))) := hid ⟨heap_alloc_last w _, (Below.refl _ _).alloc (Nat.le_refl _) _⟩
  clear ht hb
  generalize (rdR (rqT a)) = Y at *
  generalize rqT a = T at *
  generalize (rdR t) = Z at *
  cases hR : rightB a with
  | true =>
    have hE := HE.out.2 (Or.inr hR)
    have HTb := hid (HTx.out 0 hE)
    have HRb := hid (HRt.out _ hR)
    have HDb := hid (HRd1.out hE)
    have HSb := hid (HSm.out hE)
    have HYb := hid (HRy.out hE _ hR)
    clear HTx HRt HNl HRd1 HSm HRy hE HE HE1 hR
    rcases HC.out with hC | hC
    · have HDt := hid (HRd2.out 0 hC)
      have HTt := hid (HTz.out hC)
      clear HRd2 HTz HC hC
      go_enter Try.func5, Try.ntmps5
      go_wp2_with (first
        | (have := H6; refine wl_store_rq rfl _ _ rfl w6.heap.size rfl zeroQ Y rfl (heap_alloc_last w6 _) ?_; intro w7 Hq; have hax := (Below.refl w6.heap.size w6).alloc (Nat.le_refl _) (.cells #[.int .i64 0, .int .i64 0, .int .i64 0, .string ⟨#[]⟩, .float .f64 0, .int .i64 0] 30); have H7 : Hid (AkAt w7 w.heap.size a ∧ RqAt w7 w2.heap.size a ∧ RqAt w7 w6.heap.size Y ∧ Below w.heap.size w w7) := hid ⟨(Hq.out.2.block _ (Nat.ne_of_lt (lt_of_blk H6.out.1))).trans (H6.out.1.keep hax), (Hq.out.2.block _ (Nat.ne_of_lt (lt_of_blk H6.out.2.1))).trans (H6.out.2.1.keep hax), Hq.out.1, Hq.out.2.below (H6.out.2.2.trans (hax.mono H6.out.2.2.size)) H6.out.2.2.size⟩; clear hax Hq; clear c0_0 c0_1 c0_2 c0_3 c0_4 c0_5 c1_0 c1_1 c1_2 c1_3 c1_4 c1_5; obtain ⟨⟨c0_0, c0_1⟩, c0_2, c0_3, c0_4, c0_5⟩ := H7.out.1.cells; obtain ⟨⟨c1_0, c1_1⟩, c1_2, c1_3, c1_4, c1_5⟩ := H7.out.2.1.cells; obtain ⟨⟨c2_0, c2_1⟩, c2_2, c2_3, c2_4, c2_5⟩ := H7.out.2.2.1.cells)
        | (go_at_call 19; have := H5; refine (HDb.out _).mono ?_; rintro e w6 ⟨rfl, hb⟩; have H6 : Hid (AkAt w6 w.heap.size a ∧ RqAt w6 w2.heap.size a ∧ Below w.heap.size w w6) := hid (⟨H5.out.1.keep hb, H5.out.2.1.keep hb, H5.out.2.2.trans (hb.mono H5.out.2.2.size)⟩); clear hb; clear c0_0 c0_1 c0_2 c0_3 c0_4 c0_5 c1_0 c1_1 c1_2 c1_3 c1_4 c1_5; obtain ⟨⟨c0_0, c0_1⟩, c0_2, c0_3, c0_4, c0_5⟩ := H6.out.1.cells; obtain ⟨⟨c1_0, c1_1⟩, c1_2, c1_3, c1_4, c1_5⟩ := H6.out.2.1.cells)
        | (go_at_call 13; have := H4; refine (HRb.out _).mono ?_; rintro e w5 ⟨rfl, hb⟩; have H5 : Hid (AkAt w5 w.heap.size a ∧ RqAt w5 w2.heap.size a ∧ Below w.heap.size w w5) := hid (⟨H4.out.1.keep hb, H4.out.2.1.keep hb, H4.out.2.2.trans (hb.mono H4.out.2.2.size)⟩); clear hb; clear c0_0 c0_1 c0_2 c0_3 c0_4 c0_5 c1_0 c1_1 c1_2 c1_3 c1_4 c1_5; obtain ⟨⟨c0_0, c0_1⟩, c0_2, c0_3, c0_4, c0_5⟩ := H5.out.1.cells; obtain ⟨⟨c1_0, c1_1⟩, c1_2, c1_3, c1_4, c1_5⟩ := H5.out.2.1.cells)
        | (go_at_call 11; have := H3; refine (HTb.out _).mono ?_; rintro e w4 ⟨rfl, hb⟩; have H4 : Hid (AkAt w4 w.heap.size a ∧ RqAt w4 w2.heap.size a ∧ Below w.heap.size w w4) := hid (⟨H3.out.1.keep hb, H3.out.2.1.keep hb, H3.out.2.2.trans (hb.mono H3.out.2.2.size)⟩); clear hb; clear c0_0 c0_1 c0_2 c0_3 c0_4 c0_5 c1_0 c1_1 c1_2 c1_3 c1_4 c1_5; obtain ⟨⟨c0_0, c0_1⟩, c0_2, c0_3, c0_4, c0_5⟩ := H4.out.1.cells; obtain ⟨⟨c1_0, c1_1⟩, c1_2, c1_3, c1_4, c1_5⟩ := H4.out.2.1.cells)
        | (have := H2; refine wl_store_rq rfl _ _ rfl w2.heap.size rfl zeroQ a rfl (heap_alloc_last w2 _) ?_; intro w3 Hq; have hax := (Below.refl w2.heap.size w2).alloc (Nat.le_refl _) (.cells #[.int .i64 0, .int .i64 0, .int .i64 0, .string ⟨#[]⟩, .float .f64 0, .int .i64 0] 30); have H3 : Hid (AkAt w3 w.heap.size a ∧ RqAt w3 w2.heap.size a ∧ Below w.heap.size w w3) := hid ⟨(Hq.out.2.block _ (Nat.ne_of_lt (lt_of_blk H2.out.1))).trans (H2.out.1.keep hax), Hq.out.1, Hq.out.2.below (H2.out.2.trans (hax.mono H2.out.2.size)) H2.out.2.size⟩; clear hax Hq; clear c0_0 c0_1 c0_2 c0_3 c0_4 c0_5; obtain ⟨⟨c0_0, c0_1⟩, c0_2, c0_3, c0_4, c0_5⟩ := H3.out.1.cells; obtain ⟨⟨c1_0, c1_1⟩, c1_2, c1_3, c1_4, c1_5⟩ := H3.out.2.1.cells)
        | (go_at_call 10; have := H1; refine (HRq.out _).mono ?_; rintro e w2 ⟨rfl, hb⟩; have H2 : Hid (AkAt w2 w.heap.size a ∧ Below w.heap.size w w2) := hid (⟨H1.out.1.keep hb, H1.out.2.trans (hb.mono H1.out.2.size)⟩); clear hb; clear c0_0 c0_1 c0_2 c0_3 c0_4 c0_5; obtain ⟨⟨c0_0, c0_1⟩, c0_2, c0_3, c0_4, c0_5⟩ := H2.out.1.cells)
        | (go_at_call 9; have := H0; refine (dlives_any _).mono ?_; rintro e w1 ⟨rfl, hb⟩; have H1 : Hid (AkAt w1 w.heap.size a ∧ Below w.heap.size w w1) := hid (⟨H0.out.1.keep hb, H0.out.2.trans (hb.mono H0.out.2.size)⟩); clear hb; obtain ⟨⟨c0_0, c0_1⟩, c0_2, c0_3, c0_4, c0_5⟩ := H1.out.1.cells))
      clear c0_0 c0_1 c0_2 c0_3 c0_4 c0_5 c1_0 c1_1 c1_2 c1_3 c1_4 c1_5 c2_0 c2_1 c2_2 c2_3 c2_4 c2_5
      haveI := Cls.ne w7
      have q1_0 : ∀ u : Cls w7, u.1.cell? ⟨w2.heap.size, 0, none⟩ = some (.int .i64 a.c) := fun u => (H7.out.2.1.keep u.2).cells.1.1
      have q1_1 : ∀ u : Cls w7, u.1.cell? ⟨w2.heap.size, 1, none⟩ = some (.int .i64 a.st) := fun u => (H7.out.2.1.keep u.2).cells.1.2
      have q1_2 : ∀ u : Cls w7, u.1.cell? ⟨w2.heap.size, 2, none⟩ = some (.int .i64 a.k) := fun u => (H7.out.2.1.keep u.2).cells.2.1
      have q1_3 : ∀ u : Cls w7, u.1.cell? ⟨w2.heap.size, 3, none⟩ = some (.string a.key) := fun u => (H7.out.2.1.keep u.2).cells.2.2.1
      have q1_4 : ∀ u : Cls w7, u.1.cell? ⟨w2.heap.size, 4, none⟩ = some (.float .f64 a.b) := fun u => (H7.out.2.1.keep u.2).cells.2.2.2.1
      have q1_5 : ∀ u : Cls w7, u.1.cell? ⟨w2.heap.size, 5, none⟩ = some (.int .i64 a.id) := fun u => (H7.out.2.1.keep u.2).cells.2.2.2.2
      have q2_0 : ∀ u : Cls w7, u.1.cell? ⟨w6.heap.size, 0, none⟩ = some (.int .i64 Y.c) := fun u => (H7.out.2.2.1.keep u.2).cells.1.1
      have q2_1 : ∀ u : Cls w7, u.1.cell? ⟨w6.heap.size, 1, none⟩ = some (.int .i64 Y.st) := fun u => (H7.out.2.2.1.keep u.2).cells.1.2
      have q2_2 : ∀ u : Cls w7, u.1.cell? ⟨w6.heap.size, 2, none⟩ = some (.int .i64 Y.k) := fun u => (H7.out.2.2.1.keep u.2).cells.2.1
      have q2_3 : ∀ u : Cls w7, u.1.cell? ⟨w6.heap.size, 3, none⟩ = some (.string Y.key) := fun u => (H7.out.2.2.1.keep u.2).cells.2.2.1
      have q2_4 : ∀ u : Cls w7, u.1.cell? ⟨w6.heap.size, 4, none⟩ = some (.float .f64 Y.b) := fun u => (H7.out.2.2.1.keep u.2).cells.2.2.2.1
      have q2_5 : ∀ u : Cls w7, u.1.cell? ⟨w6.heap.size, 5, none⟩ = some (.int .i64 Y.id) := fun u => (H7.out.2.2.1.keep u.2).cells.2.2.2.2
      refine wp_region_cls w7 (by kernel_rfl) (by kernel_rfl) ?_
      repeat (go_big_quiet_step ((first | (go_at_call 17; exact Cls.of _ (fun u _ => HSb.out u)) | (go_at_call_of 13 Y.key; exact Cls.of _ (fun u _ => HYb.out u)) | (go_at_call_of 13 a.key; exact Cls.of _ (fun u _ => HRb.out u)))))
      rintro w8 ⟨u, hu⟩
      have hw : Below w7.heap.size w7 w8 := by first | exact hu ▸ u.2 | (rw [hu]; exact u.2) | (rw [← hu]; exact u.2)
      clear q1_0 q1_1 q1_2 q1_3 q1_4 q1_5 q2_0 q2_1 q2_2 q2_3 q2_4 q2_5 hu u
      have H8 : Hid (AkAt w8 w.heap.size a ∧ RqAt w8 w2.heap.size a ∧ RqAt w8 w6.heap.size Y ∧ Below w.heap.size w w8) := hid ⟨H7.out.1.keep hw, H7.out.2.1.keep hw, H7.out.2.2.1.keep hw, H7.out.2.2.2.trans (hw.mono H7.out.2.2.2.size)⟩
      clear hw
      obtain ⟨⟨c0_0, c0_1⟩, c0_2, c0_3, c0_4, c0_5⟩ := H8.out.1.cells
      obtain ⟨⟨c1_0, c1_1⟩, c1_2, c1_3, c1_4, c1_5⟩ := H8.out.2.1.cells
      obtain ⟨⟨c2_0, c2_1⟩, c2_2, c2_3, c2_4, c2_5⟩ := H8.out.2.2.1.cells
      go_wp2_with (first
        | (go_at_call 11; have := H10; refine (HTt.out _).mono ?_; rintro e w11 ⟨rfl, hb⟩; have H11 : Hid (AkAt w11 w.heap.size a ∧ RqAt w11 w2.heap.size a ∧ RqAt w11 w6.heap.size Y ∧ RqAt w11 w9.heap.size Z ∧ Below w.heap.size w w11) := hid (⟨H10.out.1.keep hb, H10.out.2.1.keep hb, H10.out.2.2.1.keep hb, H10.out.2.2.2.1.keep hb, H10.out.2.2.2.2.trans (hb.mono H10.out.2.2.2.2.size)⟩); clear hb; clear c0_0 c0_1 c0_2 c0_3 c0_4 c0_5 c1_0 c1_1 c1_2 c1_3 c1_4 c1_5 c2_0 c2_1 c2_2 c2_3 c2_4 c2_5 c3_0 c3_1 c3_2 c3_3 c3_4 c3_5; obtain ⟨⟨c0_0, c0_1⟩, c0_2, c0_3, c0_4, c0_5⟩ := H11.out.1.cells; obtain ⟨⟨c1_0, c1_1⟩, c1_2, c1_3, c1_4, c1_5⟩ := H11.out.2.1.cells; obtain ⟨⟨c2_0, c2_1⟩, c2_2, c2_3, c2_4, c2_5⟩ := H11.out.2.2.1.cells; obtain ⟨⟨c3_0, c3_1⟩, c3_2, c3_3, c3_4, c3_5⟩ := H11.out.2.2.2.1.cells)
        | (have := H9; refine wl_store_rq rfl _ _ rfl w9.heap.size rfl zeroQ Z rfl (heap_alloc_last w9 _) ?_; intro w10 Hq; have hax := (Below.refl w9.heap.size w9).alloc (Nat.le_refl _) (.cells #[.int .i64 0, .int .i64 0, .int .i64 0, .string ⟨#[]⟩, .float .f64 0, .int .i64 0] 30); have H10 : Hid (AkAt w10 w.heap.size a ∧ RqAt w10 w2.heap.size a ∧ RqAt w10 w6.heap.size Y ∧ RqAt w10 w9.heap.size Z ∧ Below w.heap.size w w10) := hid ⟨(Hq.out.2.block _ (Nat.ne_of_lt (lt_of_blk H9.out.1))).trans (H9.out.1.keep hax), (Hq.out.2.block _ (Nat.ne_of_lt (lt_of_blk H9.out.2.1))).trans (H9.out.2.1.keep hax), (Hq.out.2.block _ (Nat.ne_of_lt (lt_of_blk H9.out.2.2.1))).trans (H9.out.2.2.1.keep hax), Hq.out.1, Hq.out.2.below (H9.out.2.2.2.trans (hax.mono H9.out.2.2.2.size)) H9.out.2.2.2.size⟩; clear hax Hq; clear c0_0 c0_1 c0_2 c0_3 c0_4 c0_5 c1_0 c1_1 c1_2 c1_3 c1_4 c1_5 c2_0 c2_1 c2_2 c2_3 c2_4 c2_5; obtain ⟨⟨c0_0, c0_1⟩, c0_2, c0_3, c0_4, c0_5⟩ := H10.out.1.cells; obtain ⟨⟨c1_0, c1_1⟩, c1_2, c1_3, c1_4, c1_5⟩ := H10.out.2.1.cells; obtain ⟨⟨c2_0, c2_1⟩, c2_2, c2_3, c2_4, c2_5⟩ := H10.out.2.2.1.cells; obtain ⟨⟨c3_0, c3_1⟩, c3_2, c3_3, c3_4, c3_5⟩ := H10.out.2.2.2.1.cells)
        | (go_at_call 19; have := H8; refine (HDt.out _).mono ?_; rintro e w9 ⟨rfl, hb⟩; have H9 : Hid (AkAt w9 w.heap.size a ∧ RqAt w9 w2.heap.size a ∧ RqAt w9 w6.heap.size Y ∧ Below w.heap.size w w9) := hid (⟨H8.out.1.keep hb, H8.out.2.1.keep hb, H8.out.2.2.1.keep hb, H8.out.2.2.2.trans (hb.mono H8.out.2.2.2.size)⟩); clear hb; clear c0_0 c0_1 c0_2 c0_3 c0_4 c0_5 c1_0 c1_1 c1_2 c1_3 c1_4 c1_5 c2_0 c2_1 c2_2 c2_3 c2_4 c2_5; obtain ⟨⟨c0_0, c0_1⟩, c0_2, c0_3, c0_4, c0_5⟩ := H9.out.1.cells; obtain ⟨⟨c1_0, c1_1⟩, c1_2, c1_3, c1_4, c1_5⟩ := H9.out.2.1.cells; obtain ⟨⟨c2_0, c2_1⟩, c2_2, c2_3, c2_4, c2_5⟩ := H9.out.2.2.1.cells))
      go_ret
      exact ⟨rfl, H11.out.2.2.2.2⟩
    · have HDt := hid (HRd2.out 5 hC)
      clear HRd2 HTz HC hC
      go_enter Try.func5, Try.ntmps5
      go_wp2_with (first
        | (have := H6; refine wl_store_rq rfl _ _ rfl w6.heap.size rfl zeroQ Y rfl (heap_alloc_last w6 _) ?_; intro w7 Hq; have hax := (Below.refl w6.heap.size w6).alloc (Nat.le_refl _) (.cells #[.int .i64 0, .int .i64 0, .int .i64 0, .string ⟨#[]⟩, .float .f64 0, .int .i64 0] 30); have H7 : Hid (AkAt w7 w.heap.size a ∧ RqAt w7 w2.heap.size a ∧ RqAt w7 w6.heap.size Y ∧ Below w.heap.size w w7) := hid ⟨(Hq.out.2.block _ (Nat.ne_of_lt (lt_of_blk H6.out.1))).trans (H6.out.1.keep hax), (Hq.out.2.block _ (Nat.ne_of_lt (lt_of_blk H6.out.2.1))).trans (H6.out.2.1.keep hax), Hq.out.1, Hq.out.2.below (H6.out.2.2.trans (hax.mono H6.out.2.2.size)) H6.out.2.2.size⟩; clear hax Hq; clear c0_0 c0_1 c0_2 c0_3 c0_4 c0_5 c1_0 c1_1 c1_2 c1_3 c1_4 c1_5; obtain ⟨⟨c0_0, c0_1⟩, c0_2, c0_3, c0_4, c0_5⟩ := H7.out.1.cells; obtain ⟨⟨c1_0, c1_1⟩, c1_2, c1_3, c1_4, c1_5⟩ := H7.out.2.1.cells; obtain ⟨⟨c2_0, c2_1⟩, c2_2, c2_3, c2_4, c2_5⟩ := H7.out.2.2.1.cells)
        | (go_at_call 19; have := H5; refine (HDb.out _).mono ?_; rintro e w6 ⟨rfl, hb⟩; have H6 : Hid (AkAt w6 w.heap.size a ∧ RqAt w6 w2.heap.size a ∧ Below w.heap.size w w6) := hid (⟨H5.out.1.keep hb, H5.out.2.1.keep hb, H5.out.2.2.trans (hb.mono H5.out.2.2.size)⟩); clear hb; clear c0_0 c0_1 c0_2 c0_3 c0_4 c0_5 c1_0 c1_1 c1_2 c1_3 c1_4 c1_5; obtain ⟨⟨c0_0, c0_1⟩, c0_2, c0_3, c0_4, c0_5⟩ := H6.out.1.cells; obtain ⟨⟨c1_0, c1_1⟩, c1_2, c1_3, c1_4, c1_5⟩ := H6.out.2.1.cells)
        | (go_at_call 13; have := H4; refine (HRb.out _).mono ?_; rintro e w5 ⟨rfl, hb⟩; have H5 : Hid (AkAt w5 w.heap.size a ∧ RqAt w5 w2.heap.size a ∧ Below w.heap.size w w5) := hid (⟨H4.out.1.keep hb, H4.out.2.1.keep hb, H4.out.2.2.trans (hb.mono H4.out.2.2.size)⟩); clear hb; clear c0_0 c0_1 c0_2 c0_3 c0_4 c0_5 c1_0 c1_1 c1_2 c1_3 c1_4 c1_5; obtain ⟨⟨c0_0, c0_1⟩, c0_2, c0_3, c0_4, c0_5⟩ := H5.out.1.cells; obtain ⟨⟨c1_0, c1_1⟩, c1_2, c1_3, c1_4, c1_5⟩ := H5.out.2.1.cells)
        | (go_at_call 11; have := H3; refine (HTb.out _).mono ?_; rintro e w4 ⟨rfl, hb⟩; have H4 : Hid (AkAt w4 w.heap.size a ∧ RqAt w4 w2.heap.size a ∧ Below w.heap.size w w4) := hid (⟨H3.out.1.keep hb, H3.out.2.1.keep hb, H3.out.2.2.trans (hb.mono H3.out.2.2.size)⟩); clear hb; clear c0_0 c0_1 c0_2 c0_3 c0_4 c0_5 c1_0 c1_1 c1_2 c1_3 c1_4 c1_5; obtain ⟨⟨c0_0, c0_1⟩, c0_2, c0_3, c0_4, c0_5⟩ := H4.out.1.cells; obtain ⟨⟨c1_0, c1_1⟩, c1_2, c1_3, c1_4, c1_5⟩ := H4.out.2.1.cells)
        | (have := H2; refine wl_store_rq rfl _ _ rfl w2.heap.size rfl zeroQ a rfl (heap_alloc_last w2 _) ?_; intro w3 Hq; have hax := (Below.refl w2.heap.size w2).alloc (Nat.le_refl _) (.cells #[.int .i64 0, .int .i64 0, .int .i64 0, .string ⟨#[]⟩, .float .f64 0, .int .i64 0] 30); have H3 : Hid (AkAt w3 w.heap.size a ∧ RqAt w3 w2.heap.size a ∧ Below w.heap.size w w3) := hid ⟨(Hq.out.2.block _ (Nat.ne_of_lt (lt_of_blk H2.out.1))).trans (H2.out.1.keep hax), Hq.out.1, Hq.out.2.below (H2.out.2.trans (hax.mono H2.out.2.size)) H2.out.2.size⟩; clear hax Hq; clear c0_0 c0_1 c0_2 c0_3 c0_4 c0_5; obtain ⟨⟨c0_0, c0_1⟩, c0_2, c0_3, c0_4, c0_5⟩ := H3.out.1.cells; obtain ⟨⟨c1_0, c1_1⟩, c1_2, c1_3, c1_4, c1_5⟩ := H3.out.2.1.cells)
        | (go_at_call 10; have := H1; refine (HRq.out _).mono ?_; rintro e w2 ⟨rfl, hb⟩; have H2 : Hid (AkAt w2 w.heap.size a ∧ Below w.heap.size w w2) := hid (⟨H1.out.1.keep hb, H1.out.2.trans (hb.mono H1.out.2.size)⟩); clear hb; clear c0_0 c0_1 c0_2 c0_3 c0_4 c0_5; obtain ⟨⟨c0_0, c0_1⟩, c0_2, c0_3, c0_4, c0_5⟩ := H2.out.1.cells)
        | (go_at_call 9; have := H0; refine (dlives_any _).mono ?_; rintro e w1 ⟨rfl, hb⟩; have H1 : Hid (AkAt w1 w.heap.size a ∧ Below w.heap.size w w1) := hid (⟨H0.out.1.keep hb, H0.out.2.trans (hb.mono H0.out.2.size)⟩); clear hb; obtain ⟨⟨c0_0, c0_1⟩, c0_2, c0_3, c0_4, c0_5⟩ := H1.out.1.cells))
      clear c0_0 c0_1 c0_2 c0_3 c0_4 c0_5 c1_0 c1_1 c1_2 c1_3 c1_4 c1_5 c2_0 c2_1 c2_2 c2_3 c2_4 c2_5
      haveI := Cls.ne w7
      have q1_0 : ∀ u : Cls w7, u.1.cell? ⟨w2.heap.size, 0, none⟩ = some (.int .i64 a.c) := fun u => (H7.out.2.1.keep u.2).cells.1.1
      have q1_1 : ∀ u : Cls w7, u.1.cell? ⟨w2.heap.size, 1, none⟩ = some (.int .i64 a.st) := fun u => (H7.out.2.1.keep u.2).cells.1.2
      have q1_2 : ∀ u : Cls w7, u.1.cell? ⟨w2.heap.size, 2, none⟩ = some (.int .i64 a.k) := fun u => (H7.out.2.1.keep u.2).cells.2.1
      have q1_3 : ∀ u : Cls w7, u.1.cell? ⟨w2.heap.size, 3, none⟩ = some (.string a.key) := fun u => (H7.out.2.1.keep u.2).cells.2.2.1
      have q1_4 : ∀ u : Cls w7, u.1.cell? ⟨w2.heap.size, 4, none⟩ = some (.float .f64 a.b) := fun u => (H7.out.2.1.keep u.2).cells.2.2.2.1
      have q1_5 : ∀ u : Cls w7, u.1.cell? ⟨w2.heap.size, 5, none⟩ = some (.int .i64 a.id) := fun u => (H7.out.2.1.keep u.2).cells.2.2.2.2
      have q2_0 : ∀ u : Cls w7, u.1.cell? ⟨w6.heap.size, 0, none⟩ = some (.int .i64 Y.c) := fun u => (H7.out.2.2.1.keep u.2).cells.1.1
      have q2_1 : ∀ u : Cls w7, u.1.cell? ⟨w6.heap.size, 1, none⟩ = some (.int .i64 Y.st) := fun u => (H7.out.2.2.1.keep u.2).cells.1.2
      have q2_2 : ∀ u : Cls w7, u.1.cell? ⟨w6.heap.size, 2, none⟩ = some (.int .i64 Y.k) := fun u => (H7.out.2.2.1.keep u.2).cells.2.1
      have q2_3 : ∀ u : Cls w7, u.1.cell? ⟨w6.heap.size, 3, none⟩ = some (.string Y.key) := fun u => (H7.out.2.2.1.keep u.2).cells.2.2.1
      have q2_4 : ∀ u : Cls w7, u.1.cell? ⟨w6.heap.size, 4, none⟩ = some (.float .f64 Y.b) := fun u => (H7.out.2.2.1.keep u.2).cells.2.2.2.1
      have q2_5 : ∀ u : Cls w7, u.1.cell? ⟨w6.heap.size, 5, none⟩ = some (.int .i64 Y.id) := fun u => (H7.out.2.2.1.keep u.2).cells.2.2.2.2
      refine wp_region_cls w7 (by kernel_rfl) (by kernel_rfl) ?_
      repeat (go_big_quiet_step ((first | (go_at_call 17; exact Cls.of _ (fun u _ => HSb.out u)) | (go_at_call_of 13 Y.key; exact Cls.of _ (fun u _ => HYb.out u)) | (go_at_call_of 13 a.key; exact Cls.of _ (fun u _ => HRb.out u)))))
      rintro w8 ⟨u, hu⟩
      have hw : Below w7.heap.size w7 w8 := by first | exact hu ▸ u.2 | (rw [hu]; exact u.2) | (rw [← hu]; exact u.2)
      clear q1_0 q1_1 q1_2 q1_3 q1_4 q1_5 q2_0 q2_1 q2_2 q2_3 q2_4 q2_5 hu u
      have H8 : Hid (AkAt w8 w.heap.size a ∧ RqAt w8 w2.heap.size a ∧ RqAt w8 w6.heap.size Y ∧ Below w.heap.size w w8) := hid ⟨H7.out.1.keep hw, H7.out.2.1.keep hw, H7.out.2.2.1.keep hw, H7.out.2.2.2.trans (hw.mono H7.out.2.2.2.size)⟩
      clear hw
      obtain ⟨⟨c0_0, c0_1⟩, c0_2, c0_3, c0_4, c0_5⟩ := H8.out.1.cells
      obtain ⟨⟨c1_0, c1_1⟩, c1_2, c1_3, c1_4, c1_5⟩ := H8.out.2.1.cells
      obtain ⟨⟨c2_0, c2_1⟩, c2_2, c2_3, c2_4, c2_5⟩ := H8.out.2.2.1.cells
      go_wp2_with (first
        | (have := H9; refine wl_store_rq rfl _ _ rfl w9.heap.size rfl zeroQ Z rfl (heap_alloc_last w9 _) ?_; intro w10 Hq; have hax := (Below.refl w9.heap.size w9).alloc (Nat.le_refl _) (.cells #[.int .i64 0, .int .i64 0, .int .i64 0, .string ⟨#[]⟩, .float .f64 0, .int .i64 0] 30); have H10 : Hid (AkAt w10 w.heap.size a ∧ RqAt w10 w2.heap.size a ∧ RqAt w10 w6.heap.size Y ∧ RqAt w10 w9.heap.size Z ∧ Below w.heap.size w w10) := hid ⟨(Hq.out.2.block _ (Nat.ne_of_lt (lt_of_blk H9.out.1))).trans (H9.out.1.keep hax), (Hq.out.2.block _ (Nat.ne_of_lt (lt_of_blk H9.out.2.1))).trans (H9.out.2.1.keep hax), (Hq.out.2.block _ (Nat.ne_of_lt (lt_of_blk H9.out.2.2.1))).trans (H9.out.2.2.1.keep hax), Hq.out.1, Hq.out.2.below (H9.out.2.2.2.trans (hax.mono H9.out.2.2.2.size)) H9.out.2.2.2.size⟩; clear hax Hq; clear c0_0 c0_1 c0_2 c0_3 c0_4 c0_5 c1_0 c1_1 c1_2 c1_3 c1_4 c1_5 c2_0 c2_1 c2_2 c2_3 c2_4 c2_5; obtain ⟨⟨c0_0, c0_1⟩, c0_2, c0_3, c0_4, c0_5⟩ := H10.out.1.cells; obtain ⟨⟨c1_0, c1_1⟩, c1_2, c1_3, c1_4, c1_5⟩ := H10.out.2.1.cells; obtain ⟨⟨c2_0, c2_1⟩, c2_2, c2_3, c2_4, c2_5⟩ := H10.out.2.2.1.cells; obtain ⟨⟨c3_0, c3_1⟩, c3_2, c3_3, c3_4, c3_5⟩ := H10.out.2.2.2.1.cells)
        | (go_at_call 19; have := H8; refine (HDt.out _).mono ?_; rintro e w9 ⟨rfl, hb⟩; have H9 : Hid (AkAt w9 w.heap.size a ∧ RqAt w9 w2.heap.size a ∧ RqAt w9 w6.heap.size Y ∧ Below w.heap.size w w9) := hid (⟨H8.out.1.keep hb, H8.out.2.1.keep hb, H8.out.2.2.1.keep hb, H8.out.2.2.2.trans (hb.mono H8.out.2.2.2.size)⟩); clear hb; clear c0_0 c0_1 c0_2 c0_3 c0_4 c0_5 c1_0 c1_1 c1_2 c1_3 c1_4 c1_5 c2_0 c2_1 c2_2 c2_3 c2_4 c2_5; obtain ⟨⟨c0_0, c0_1⟩, c0_2, c0_3, c0_4, c0_5⟩ := H9.out.1.cells; obtain ⟨⟨c1_0, c1_1⟩, c1_2, c1_3, c1_4, c1_5⟩ := H9.out.2.1.cells; obtain ⟨⟨c2_0, c2_1⟩, c2_2, c2_3, c2_4, c2_5⟩ := H9.out.2.2.1.cells))
      go_ret
      exact ⟨rfl, H10.out.2.2.2.2⟩
  | false =>
    cases hN : nullB a with
    | true =>
      have hE := HE.out.2 (Or.inl hN)
      have HTb := hid (HTx.out 0 hE)
      have HRb := hid (HRt.out _ hR)
      have HNb := hid (HNl.out _ hN)
      have HDb := hid (HRd1.out hE)
      have HSb := hid (HSm.out hE)
      have HYb := hid (HRy.out hE _ hR)
      clear HTx HRt HNl HRd1 HSm HRy hE HE HE1 hR hN
      rcases HC.out with hC | hC
      · have HDt := hid (HRd2.out 0 hC)
        have HTt := hid (HTz.out hC)
        clear HRd2 HTz HC hC
        go_enter Try.func5, Try.ntmps5
        go_wp2_with (first
          | (have := H7; refine wl_store_rq rfl _ _ rfl w7.heap.size rfl zeroQ Y rfl (heap_alloc_last w7 _) ?_; intro w8 Hq; have hax := (Below.refl w7.heap.size w7).alloc (Nat.le_refl _) (.cells #[.int .i64 0, .int .i64 0, .int .i64 0, .string ⟨#[]⟩, .float .f64 0, .int .i64 0] 30); have H8 : Hid (AkAt w8 w.heap.size a ∧ RqAt w8 w2.heap.size a ∧ RqAt w8 w7.heap.size Y ∧ Below w.heap.size w w8) := hid ⟨(Hq.out.2.block _ (Nat.ne_of_lt (lt_of_blk H7.out.1))).trans (H7.out.1.keep hax), (Hq.out.2.block _ (Nat.ne_of_lt (lt_of_blk H7.out.2.1))).trans (H7.out.2.1.keep hax), Hq.out.1, Hq.out.2.below (H7.out.2.2.trans (hax.mono H7.out.2.2.size)) H7.out.2.2.size⟩; clear hax Hq; clear c0_0 c0_1 c0_2 c0_3 c0_4 c0_5 c1_0 c1_1 c1_2 c1_3 c1_4 c1_5; obtain ⟨⟨c0_0, c0_1⟩, c0_2, c0_3, c0_4, c0_5⟩ := H8.out.1.cells; obtain ⟨⟨c1_0, c1_1⟩, c1_2, c1_3, c1_4, c1_5⟩ := H8.out.2.1.cells; obtain ⟨⟨c2_0, c2_1⟩, c2_2, c2_3, c2_4, c2_5⟩ := H8.out.2.2.1.cells)
          | (go_at_call 19; have := H6; refine (HDb.out _).mono ?_; rintro e w7 ⟨rfl, hb⟩; have H7 : Hid (AkAt w7 w.heap.size a ∧ RqAt w7 w2.heap.size a ∧ Below w.heap.size w w7) := hid (⟨H6.out.1.keep hb, H6.out.2.1.keep hb, H6.out.2.2.trans (hb.mono H6.out.2.2.size)⟩); clear hb; clear c0_0 c0_1 c0_2 c0_3 c0_4 c0_5 c1_0 c1_1 c1_2 c1_3 c1_4 c1_5; obtain ⟨⟨c0_0, c0_1⟩, c0_2, c0_3, c0_4, c0_5⟩ := H7.out.1.cells; obtain ⟨⟨c1_0, c1_1⟩, c1_2, c1_3, c1_4, c1_5⟩ := H7.out.2.1.cells)
          | (go_at_call 15; have := H5; refine (HNb.out _).mono ?_; rintro e w6 ⟨rfl, hb⟩; have H6 : Hid (AkAt w6 w.heap.size a ∧ RqAt w6 w2.heap.size a ∧ Below w.heap.size w w6) := hid (⟨H5.out.1.keep hb, H5.out.2.1.keep hb, H5.out.2.2.trans (hb.mono H5.out.2.2.size)⟩); clear hb; clear c0_0 c0_1 c0_2 c0_3 c0_4 c0_5 c1_0 c1_1 c1_2 c1_3 c1_4 c1_5; obtain ⟨⟨c0_0, c0_1⟩, c0_2, c0_3, c0_4, c0_5⟩ := H6.out.1.cells; obtain ⟨⟨c1_0, c1_1⟩, c1_2, c1_3, c1_4, c1_5⟩ := H6.out.2.1.cells)
          | (go_at_call 13; have := H4; refine (HRb.out _).mono ?_; rintro e w5 ⟨rfl, hb⟩; have H5 : Hid (AkAt w5 w.heap.size a ∧ RqAt w5 w2.heap.size a ∧ Below w.heap.size w w5) := hid (⟨H4.out.1.keep hb, H4.out.2.1.keep hb, H4.out.2.2.trans (hb.mono H4.out.2.2.size)⟩); clear hb; clear c0_0 c0_1 c0_2 c0_3 c0_4 c0_5 c1_0 c1_1 c1_2 c1_3 c1_4 c1_5; obtain ⟨⟨c0_0, c0_1⟩, c0_2, c0_3, c0_4, c0_5⟩ := H5.out.1.cells; obtain ⟨⟨c1_0, c1_1⟩, c1_2, c1_3, c1_4, c1_5⟩ := H5.out.2.1.cells)
          | (go_at_call 11; have := H3; refine (HTb.out _).mono ?_; rintro e w4 ⟨rfl, hb⟩; have H4 : Hid (AkAt w4 w.heap.size a ∧ RqAt w4 w2.heap.size a ∧ Below w.heap.size w w4) := hid (⟨H3.out.1.keep hb, H3.out.2.1.keep hb, H3.out.2.2.trans (hb.mono H3.out.2.2.size)⟩); clear hb; clear c0_0 c0_1 c0_2 c0_3 c0_4 c0_5 c1_0 c1_1 c1_2 c1_3 c1_4 c1_5; obtain ⟨⟨c0_0, c0_1⟩, c0_2, c0_3, c0_4, c0_5⟩ := H4.out.1.cells; obtain ⟨⟨c1_0, c1_1⟩, c1_2, c1_3, c1_4, c1_5⟩ := H4.out.2.1.cells)
          | (have := H2; refine wl_store_rq rfl _ _ rfl w2.heap.size rfl zeroQ a rfl (heap_alloc_last w2 _) ?_; intro w3 Hq; have hax := (Below.refl w2.heap.size w2).alloc (Nat.le_refl _) (.cells #[.int .i64 0, .int .i64 0, .int .i64 0, .string ⟨#[]⟩, .float .f64 0, .int .i64 0] 30); have H3 : Hid (AkAt w3 w.heap.size a ∧ RqAt w3 w2.heap.size a ∧ Below w.heap.size w w3) := hid ⟨(Hq.out.2.block _ (Nat.ne_of_lt (lt_of_blk H2.out.1))).trans (H2.out.1.keep hax), Hq.out.1, Hq.out.2.below (H2.out.2.trans (hax.mono H2.out.2.size)) H2.out.2.size⟩; clear hax Hq; clear c0_0 c0_1 c0_2 c0_3 c0_4 c0_5; obtain ⟨⟨c0_0, c0_1⟩, c0_2, c0_3, c0_4, c0_5⟩ := H3.out.1.cells; obtain ⟨⟨c1_0, c1_1⟩, c1_2, c1_3, c1_4, c1_5⟩ := H3.out.2.1.cells)
          | (go_at_call 10; have := H1; refine (HRq.out _).mono ?_; rintro e w2 ⟨rfl, hb⟩; have H2 : Hid (AkAt w2 w.heap.size a ∧ Below w.heap.size w w2) := hid (⟨H1.out.1.keep hb, H1.out.2.trans (hb.mono H1.out.2.size)⟩); clear hb; clear c0_0 c0_1 c0_2 c0_3 c0_4 c0_5; obtain ⟨⟨c0_0, c0_1⟩, c0_2, c0_3, c0_4, c0_5⟩ := H2.out.1.cells)
          | (go_at_call 9; have := H0; refine (dlives_any _).mono ?_; rintro e w1 ⟨rfl, hb⟩; have H1 : Hid (AkAt w1 w.heap.size a ∧ Below w.heap.size w w1) := hid (⟨H0.out.1.keep hb, H0.out.2.trans (hb.mono H0.out.2.size)⟩); clear hb; obtain ⟨⟨c0_0, c0_1⟩, c0_2, c0_3, c0_4, c0_5⟩ := H1.out.1.cells))
        clear c0_0 c0_1 c0_2 c0_3 c0_4 c0_5 c1_0 c1_1 c1_2 c1_3 c1_4 c1_5 c2_0 c2_1 c2_2 c2_3 c2_4 c2_5
        haveI := Cls.ne w8
        have q1_0 : ∀ u : Cls w8, u.1.cell? ⟨w2.heap.size, 0, none⟩ = some (.int .i64 a.c) := fun u => (H8.out.2.1.keep u.2).cells.1.1
        have q1_1 : ∀ u : Cls w8, u.1.cell? ⟨w2.heap.size, 1, none⟩ = some (.int .i64 a.st) := fun u => (H8.out.2.1.keep u.2).cells.1.2
        have q1_2 : ∀ u : Cls w8, u.1.cell? ⟨w2.heap.size, 2, none⟩ = some (.int .i64 a.k) := fun u => (H8.out.2.1.keep u.2).cells.2.1
        have q1_3 : ∀ u : Cls w8, u.1.cell? ⟨w2.heap.size, 3, none⟩ = some (.string a.key) := fun u => (H8.out.2.1.keep u.2).cells.2.2.1
        have q1_4 : ∀ u : Cls w8, u.1.cell? ⟨w2.heap.size, 4, none⟩ = some (.float .f64 a.b) := fun u => (H8.out.2.1.keep u.2).cells.2.2.2.1
        have q1_5 : ∀ u : Cls w8, u.1.cell? ⟨w2.heap.size, 5, none⟩ = some (.int .i64 a.id) := fun u => (H8.out.2.1.keep u.2).cells.2.2.2.2
        have q2_0 : ∀ u : Cls w8, u.1.cell? ⟨w7.heap.size, 0, none⟩ = some (.int .i64 Y.c) := fun u => (H8.out.2.2.1.keep u.2).cells.1.1
        have q2_1 : ∀ u : Cls w8, u.1.cell? ⟨w7.heap.size, 1, none⟩ = some (.int .i64 Y.st) := fun u => (H8.out.2.2.1.keep u.2).cells.1.2
        have q2_2 : ∀ u : Cls w8, u.1.cell? ⟨w7.heap.size, 2, none⟩ = some (.int .i64 Y.k) := fun u => (H8.out.2.2.1.keep u.2).cells.2.1
        have q2_3 : ∀ u : Cls w8, u.1.cell? ⟨w7.heap.size, 3, none⟩ = some (.string Y.key) := fun u => (H8.out.2.2.1.keep u.2).cells.2.2.1
        have q2_4 : ∀ u : Cls w8, u.1.cell? ⟨w7.heap.size, 4, none⟩ = some (.float .f64 Y.b) := fun u => (H8.out.2.2.1.keep u.2).cells.2.2.2.1
        have q2_5 : ∀ u : Cls w8, u.1.cell? ⟨w7.heap.size, 5, none⟩ = some (.int .i64 Y.id) := fun u => (H8.out.2.2.1.keep u.2).cells.2.2.2.2
        refine wp_region_cls w8 (by kernel_rfl) (by kernel_rfl) ?_
        repeat (go_big_quiet_step ((first | (go_at_call 17; exact Cls.of _ (fun u _ => HSb.out u)) | (go_at_call_of 13 Y.key; exact Cls.of _ (fun u _ => HYb.out u)) | (go_at_call_of 13 a.key; exact Cls.of _ (fun u _ => HRb.out u)))))
        rintro w9 ⟨u, hu⟩
        have hw : Below w8.heap.size w8 w9 := by first | exact hu ▸ u.2 | (rw [hu]; exact u.2) | (rw [← hu]; exact u.2)
        clear q1_0 q1_1 q1_2 q1_3 q1_4 q1_5 q2_0 q2_1 q2_2 q2_3 q2_4 q2_5 hu u
        have H9 : Hid (AkAt w9 w.heap.size a ∧ RqAt w9 w2.heap.size a ∧ RqAt w9 w7.heap.size Y ∧ Below w.heap.size w w9) := hid ⟨H8.out.1.keep hw, H8.out.2.1.keep hw, H8.out.2.2.1.keep hw, H8.out.2.2.2.trans (hw.mono H8.out.2.2.2.size)⟩
        clear hw
        obtain ⟨⟨c0_0, c0_1⟩, c0_2, c0_3, c0_4, c0_5⟩ := H9.out.1.cells
        obtain ⟨⟨c1_0, c1_1⟩, c1_2, c1_3, c1_4, c1_5⟩ := H9.out.2.1.cells
        obtain ⟨⟨c2_0, c2_1⟩, c2_2, c2_3, c2_4, c2_5⟩ := H9.out.2.2.1.cells
        go_wp2_with (first
          | (go_at_call 11; have := H11; refine (HTt.out _).mono ?_; rintro e w12 ⟨rfl, hb⟩; have H12 : Hid (AkAt w12 w.heap.size a ∧ RqAt w12 w2.heap.size a ∧ RqAt w12 w7.heap.size Y ∧ RqAt w12 w10.heap.size Z ∧ Below w.heap.size w w12) := hid (⟨H11.out.1.keep hb, H11.out.2.1.keep hb, H11.out.2.2.1.keep hb, H11.out.2.2.2.1.keep hb, H11.out.2.2.2.2.trans (hb.mono H11.out.2.2.2.2.size)⟩); clear hb; clear c0_0 c0_1 c0_2 c0_3 c0_4 c0_5 c1_0 c1_1 c1_2 c1_3 c1_4 c1_5 c2_0 c2_1 c2_2 c2_3 c2_4 c2_5 c3_0 c3_1 c3_2 c3_3 c3_4 c3_5; obtain ⟨⟨c0_0, c0_1⟩, c0_2, c0_3, c0_4, c0_5⟩ := H12.out.1.cells; obtain ⟨⟨c1_0, c1_1⟩, c1_2, c1_3, c1_4, c1_5⟩ := H12.out.2.1.cells; obtain ⟨⟨c2_0, c2_1⟩, c2_2, c2_3, c2_4, c2_5⟩ := H12.out.2.2.1.cells; obtain ⟨⟨c3_0, c3_1⟩, c3_2, c3_3, c3_4, c3_5⟩ := H12.out.2.2.2.1.cells)
          | (have := H10; refine wl_store_rq rfl _ _ rfl w10.heap.size rfl zeroQ Z rfl (heap_alloc_last w10 _) ?_; intro w11 Hq; have hax := (Below.refl w10.heap.size w10).alloc (Nat.le_refl _) (.cells #[.int .i64 0, .int .i64 0, .int .i64 0, .string ⟨#[]⟩, .float .f64 0, .int .i64 0] 30); have H11 : Hid (AkAt w11 w.heap.size a ∧ RqAt w11 w2.heap.size a ∧ RqAt w11 w7.heap.size Y ∧ RqAt w11 w10.heap.size Z ∧ Below w.heap.size w w11) := hid ⟨(Hq.out.2.block _ (Nat.ne_of_lt (lt_of_blk H10.out.1))).trans (H10.out.1.keep hax), (Hq.out.2.block _ (Nat.ne_of_lt (lt_of_blk H10.out.2.1))).trans (H10.out.2.1.keep hax), (Hq.out.2.block _ (Nat.ne_of_lt (lt_of_blk H10.out.2.2.1))).trans (H10.out.2.2.1.keep hax), Hq.out.1, Hq.out.2.below (H10.out.2.2.2.trans (hax.mono H10.out.2.2.2.size)) H10.out.2.2.2.size⟩; clear hax Hq; clear c0_0 c0_1 c0_2 c0_3 c0_4 c0_5 c1_0 c1_1 c1_2 c1_3 c1_4 c1_5 c2_0 c2_1 c2_2 c2_3 c2_4 c2_5; obtain ⟨⟨c0_0, c0_1⟩, c0_2, c0_3, c0_4, c0_5⟩ := H11.out.1.cells; obtain ⟨⟨c1_0, c1_1⟩, c1_2, c1_3, c1_4, c1_5⟩ := H11.out.2.1.cells; obtain ⟨⟨c2_0, c2_1⟩, c2_2, c2_3, c2_4, c2_5⟩ := H11.out.2.2.1.cells; obtain ⟨⟨c3_0, c3_1⟩, c3_2, c3_3, c3_4, c3_5⟩ := H11.out.2.2.2.1.cells)
          | (go_at_call 19; have := H9; refine (HDt.out _).mono ?_; rintro e w10 ⟨rfl, hb⟩; have H10 : Hid (AkAt w10 w.heap.size a ∧ RqAt w10 w2.heap.size a ∧ RqAt w10 w7.heap.size Y ∧ Below w.heap.size w w10) := hid (⟨H9.out.1.keep hb, H9.out.2.1.keep hb, H9.out.2.2.1.keep hb, H9.out.2.2.2.trans (hb.mono H9.out.2.2.2.size)⟩); clear hb; clear c0_0 c0_1 c0_2 c0_3 c0_4 c0_5 c1_0 c1_1 c1_2 c1_3 c1_4 c1_5 c2_0 c2_1 c2_2 c2_3 c2_4 c2_5; obtain ⟨⟨c0_0, c0_1⟩, c0_2, c0_3, c0_4, c0_5⟩ := H10.out.1.cells; obtain ⟨⟨c1_0, c1_1⟩, c1_2, c1_3, c1_4, c1_5⟩ := H10.out.2.1.cells; obtain ⟨⟨c2_0, c2_1⟩, c2_2, c2_3, c2_4, c2_5⟩ := H10.out.2.2.1.cells))
        go_ret
        exact ⟨rfl, H12.out.2.2.2.2⟩
      · have HDt := hid (HRd2.out 5 hC)
        clear HRd2 HTz HC hC
        go_enter Try.func5, Try.ntmps5
        go_wp2_with (first
          | (have := H7; refine wl_store_rq rfl _ _ rfl w7.heap.size rfl zeroQ Y rfl (heap_alloc_last w7 _) ?_; intro w8 Hq; have hax := (Below.refl w7.heap.size w7).alloc (Nat.le_refl _) (.cells #[.int .i64 0, .int .i64 0, .int .i64 0, .string ⟨#[]⟩, .float .f64 0, .int .i64 0] 30); have H8 : Hid (AkAt w8 w.heap.size a ∧ RqAt w8 w2.heap.size a ∧ RqAt w8 w7.heap.size Y ∧ Below w.heap.size w w8) := hid ⟨(Hq.out.2.block _ (Nat.ne_of_lt (lt_of_blk H7.out.1))).trans (H7.out.1.keep hax), (Hq.out.2.block _ (Nat.ne_of_lt (lt_of_blk H7.out.2.1))).trans (H7.out.2.1.keep hax), Hq.out.1, Hq.out.2.below (H7.out.2.2.trans (hax.mono H7.out.2.2.size)) H7.out.2.2.size⟩; clear hax Hq; clear c0_0 c0_1 c0_2 c0_3 c0_4 c0_5 c1_0 c1_1 c1_2 c1_3 c1_4 c1_5; obtain ⟨⟨c0_0, c0_1⟩, c0_2, c0_3, c0_4, c0_5⟩ := H8.out.1.cells; obtain ⟨⟨c1_0, c1_1⟩, c1_2, c1_3, c1_4, c1_5⟩ := H8.out.2.1.cells; obtain ⟨⟨c2_0, c2_1⟩, c2_2, c2_3, c2_4, c2_5⟩ := H8.out.2.2.1.cells)
          | (go_at_call 19; have := H6; refine (HDb.out _).mono ?_; rintro e w7 ⟨rfl, hb⟩; have H7 : Hid (AkAt w7 w.heap.size a ∧ RqAt w7 w2.heap.size a ∧ Below w.heap.size w w7) := hid (⟨H6.out.1.keep hb, H6.out.2.1.keep hb, H6.out.2.2.trans (hb.mono H6.out.2.2.size)⟩); clear hb; clear c0_0 c0_1 c0_2 c0_3 c0_4 c0_5 c1_0 c1_1 c1_2 c1_3 c1_4 c1_5; obtain ⟨⟨c0_0, c0_1⟩, c0_2, c0_3, c0_4, c0_5⟩ := H7.out.1.cells; obtain ⟨⟨c1_0, c1_1⟩, c1_2, c1_3, c1_4, c1_5⟩ := H7.out.2.1.cells)
          | (go_at_call 15; have := H5; refine (HNb.out _).mono ?_; rintro e w6 ⟨rfl, hb⟩; have H6 : Hid (AkAt w6 w.heap.size a ∧ RqAt w6 w2.heap.size a ∧ Below w.heap.size w w6) := hid (⟨H5.out.1.keep hb, H5.out.2.1.keep hb, H5.out.2.2.trans (hb.mono H5.out.2.2.size)⟩); clear hb; clear c0_0 c0_1 c0_2 c0_3 c0_4 c0_5 c1_0 c1_1 c1_2 c1_3 c1_4 c1_5; obtain ⟨⟨c0_0, c0_1⟩, c0_2, c0_3, c0_4, c0_5⟩ := H6.out.1.cells; obtain ⟨⟨c1_0, c1_1⟩, c1_2, c1_3, c1_4, c1_5⟩ := H6.out.2.1.cells)
          | (go_at_call 13; have := H4; refine (HRb.out _).mono ?_; rintro e w5 ⟨rfl, hb⟩; have H5 : Hid (AkAt w5 w.heap.size a ∧ RqAt w5 w2.heap.size a ∧ Below w.heap.size w w5) := hid (⟨H4.out.1.keep hb, H4.out.2.1.keep hb, H4.out.2.2.trans (hb.mono H4.out.2.2.size)⟩); clear hb; clear c0_0 c0_1 c0_2 c0_3 c0_4 c0_5 c1_0 c1_1 c1_2 c1_3 c1_4 c1_5; obtain ⟨⟨c0_0, c0_1⟩, c0_2, c0_3, c0_4, c0_5⟩ := H5.out.1.cells; obtain ⟨⟨c1_0, c1_1⟩, c1_2, c1_3, c1_4, c1_5⟩ := H5.out.2.1.cells)
          | (go_at_call 11; have := H3; refine (HTb.out _).mono ?_; rintro e w4 ⟨rfl, hb⟩; have H4 : Hid (AkAt w4 w.heap.size a ∧ RqAt w4 w2.heap.size a ∧ Below w.heap.size w w4) := hid (⟨H3.out.1.keep hb, H3.out.2.1.keep hb, H3.out.2.2.trans (hb.mono H3.out.2.2.size)⟩); clear hb; clear c0_0 c0_1 c0_2 c0_3 c0_4 c0_5 c1_0 c1_1 c1_2 c1_3 c1_4 c1_5; obtain ⟨⟨c0_0, c0_1⟩, c0_2, c0_3, c0_4, c0_5⟩ := H4.out.1.cells; obtain ⟨⟨c1_0, c1_1⟩, c1_2, c1_3, c1_4, c1_5⟩ := H4.out.2.1.cells)
          | (have := H2; refine wl_store_rq rfl _ _ rfl w2.heap.size rfl zeroQ a rfl (heap_alloc_last w2 _) ?_; intro w3 Hq; have hax := (Below.refl w2.heap.size w2).alloc (Nat.le_refl _) (.cells #[.int .i64 0, .int .i64 0, .int .i64 0, .string ⟨#[]⟩, .float .f64 0, .int .i64 0] 30); have H3 : Hid (AkAt w3 w.heap.size a ∧ RqAt w3 w2.heap.size a ∧ Below w.heap.size w w3) := hid ⟨(Hq.out.2.block _ (Nat.ne_of_lt (lt_of_blk H2.out.1))).trans (H2.out.1.keep hax), Hq.out.1, Hq.out.2.below (H2.out.2.trans (hax.mono H2.out.2.size)) H2.out.2.size⟩; clear hax Hq; clear c0_0 c0_1 c0_2 c0_3 c0_4 c0_5; obtain ⟨⟨c0_0, c0_1⟩, c0_2, c0_3, c0_4, c0_5⟩ := H3.out.1.cells; obtain ⟨⟨c1_0, c1_1⟩, c1_2, c1_3, c1_4, c1_5⟩ := H3.out.2.1.cells)
          | (go_at_call 10; have := H1; refine (HRq.out _).mono ?_; rintro e w2 ⟨rfl, hb⟩; have H2 : Hid (AkAt w2 w.heap.size a ∧ Below w.heap.size w w2) := hid (⟨H1.out.1.keep hb, H1.out.2.trans (hb.mono H1.out.2.size)⟩); clear hb; clear c0_0 c0_1 c0_2 c0_3 c0_4 c0_5; obtain ⟨⟨c0_0, c0_1⟩, c0_2, c0_3, c0_4, c0_5⟩ := H2.out.1.cells)
          | (go_at_call 9; have := H0; refine (dlives_any _).mono ?_; rintro e w1 ⟨rfl, hb⟩; have H1 : Hid (AkAt w1 w.heap.size a ∧ Below w.heap.size w w1) := hid (⟨H0.out.1.keep hb, H0.out.2.trans (hb.mono H0.out.2.size)⟩); clear hb; obtain ⟨⟨c0_0, c0_1⟩, c0_2, c0_3, c0_4, c0_5⟩ := H1.out.1.cells))
        clear c0_0 c0_1 c0_2 c0_3 c0_4 c0_5 c1_0 c1_1 c1_2 c1_3 c1_4 c1_5 c2_0 c2_1 c2_2 c2_3 c2_4 c2_5
        haveI := Cls.ne w8
        have q1_0 : ∀ u : Cls w8, u.1.cell? ⟨w2.heap.size, 0, none⟩ = some (.int .i64 a.c) := fun u => (H8.out.2.1.keep u.2).cells.1.1
        have q1_1 : ∀ u : Cls w8, u.1.cell? ⟨w2.heap.size, 1, none⟩ = some (.int .i64 a.st) := fun u => (H8.out.2.1.keep u.2).cells.1.2
        have q1_2 : ∀ u : Cls w8, u.1.cell? ⟨w2.heap.size, 2, none⟩ = some (.int .i64 a.k) := fun u => (H8.out.2.1.keep u.2).cells.2.1
        have q1_3 : ∀ u : Cls w8, u.1.cell? ⟨w2.heap.size, 3, none⟩ = some (.string a.key) := fun u => (H8.out.2.1.keep u.2).cells.2.2.1
        have q1_4 : ∀ u : Cls w8, u.1.cell? ⟨w2.heap.size, 4, none⟩ = some (.float .f64 a.b) := fun u => (H8.out.2.1.keep u.2).cells.2.2.2.1
        have q1_5 : ∀ u : Cls w8, u.1.cell? ⟨w2.heap.size, 5, none⟩ = some (.int .i64 a.id) := fun u => (H8.out.2.1.keep u.2).cells.2.2.2.2
        have q2_0 : ∀ u : Cls w8, u.1.cell? ⟨w7.heap.size, 0, none⟩ = some (.int .i64 Y.c) := fun u => (H8.out.2.2.1.keep u.2).cells.1.1
        have q2_1 : ∀ u : Cls w8, u.1.cell? ⟨w7.heap.size, 1, none⟩ = some (.int .i64 Y.st) := fun u => (H8.out.2.2.1.keep u.2).cells.1.2
        have q2_2 : ∀ u : Cls w8, u.1.cell? ⟨w7.heap.size, 2, none⟩ = some (.int .i64 Y.k) := fun u => (H8.out.2.2.1.keep u.2).cells.2.1
        have q2_3 : ∀ u : Cls w8, u.1.cell? ⟨w7.heap.size, 3, none⟩ = some (.string Y.key) := fun u => (H8.out.2.2.1.keep u.2).cells.2.2.1
        have q2_4 : ∀ u : Cls w8, u.1.cell? ⟨w7.heap.size, 4, none⟩ = some (.float .f64 Y.b) := fun u => (H8.out.2.2.1.keep u.2).cells.2.2.2.1
        have q2_5 : ∀ u : Cls w8, u.1.cell? ⟨w7.heap.size, 5, none⟩ = some (.int .i64 Y.id) := fun u => (H8.out.2.2.1.keep u.2).cells.2.2.2.2
        refine wp_region_cls w8 (by kernel_rfl) (by kernel_rfl) ?_
        repeat (go_big_quiet_step ((first | (go_at_call 17; exact Cls.of _ (fun u _ => HSb.out u)) | (go_at_call_of 13 Y.key; exact Cls.of _ (fun u _ => HYb.out u)) | (go_at_call_of 13 a.key; exact Cls.of _ (fun u _ => HRb.out u)))))
        rintro w9 ⟨u, hu⟩
        have hw : Below w8.heap.size w8 w9 := by first | exact hu ▸ u.2 | (rw [hu]; exact u.2) | (rw [← hu]; exact u.2)
        clear q1_0 q1_1 q1_2 q1_3 q1_4 q1_5 q2_0 q2_1 q2_2 q2_3 q2_4 q2_5 hu u
        have H9 : Hid (AkAt w9 w.heap.size a ∧ RqAt w9 w2.heap.size a ∧ RqAt w9 w7.heap.size Y ∧ Below w.heap.size w w9) := hid ⟨H8.out.1.keep hw, H8.out.2.1.keep hw, H8.out.2.2.1.keep hw, H8.out.2.2.2.trans (hw.mono H8.out.2.2.2.size)⟩
        clear hw
        obtain ⟨⟨c0_0, c0_1⟩, c0_2, c0_3, c0_4, c0_5⟩ := H9.out.1.cells
        obtain ⟨⟨c1_0, c1_1⟩, c1_2, c1_3, c1_4, c1_5⟩ := H9.out.2.1.cells
        obtain ⟨⟨c2_0, c2_1⟩, c2_2, c2_3, c2_4, c2_5⟩ := H9.out.2.2.1.cells
        go_wp2_with (first
          | (have := H10; refine wl_store_rq rfl _ _ rfl w10.heap.size rfl zeroQ Z rfl (heap_alloc_last w10 _) ?_; intro w11 Hq; have hax := (Below.refl w10.heap.size w10).alloc (Nat.le_refl _) (.cells #[.int .i64 0, .int .i64 0, .int .i64 0, .string ⟨#[]⟩, .float .f64 0, .int .i64 0] 30); have H11 : Hid (AkAt w11 w.heap.size a ∧ RqAt w11 w2.heap.size a ∧ RqAt w11 w7.heap.size Y ∧ RqAt w11 w10.heap.size Z ∧ Below w.heap.size w w11) := hid ⟨(Hq.out.2.block _ (Nat.ne_of_lt (lt_of_blk H10.out.1))).trans (H10.out.1.keep hax), (Hq.out.2.block _ (Nat.ne_of_lt (lt_of_blk H10.out.2.1))).trans (H10.out.2.1.keep hax), (Hq.out.2.block _ (Nat.ne_of_lt (lt_of_blk H10.out.2.2.1))).trans (H10.out.2.2.1.keep hax), Hq.out.1, Hq.out.2.below (H10.out.2.2.2.trans (hax.mono H10.out.2.2.2.size)) H10.out.2.2.2.size⟩; clear hax Hq; clear c0_0 c0_1 c0_2 c0_3 c0_4 c0_5 c1_0 c1_1 c1_2 c1_3 c1_4 c1_5 c2_0 c2_1 c2_2 c2_3 c2_4 c2_5; obtain ⟨⟨c0_0, c0_1⟩, c0_2, c0_3, c0_4, c0_5⟩ := H11.out.1.cells; obtain ⟨⟨c1_0, c1_1⟩, c1_2, c1_3, c1_4, c1_5⟩ := H11.out.2.1.cells; obtain ⟨⟨c2_0, c2_1⟩, c2_2, c2_3, c2_4, c2_5⟩ := H11.out.2.2.1.cells; obtain ⟨⟨c3_0, c3_1⟩, c3_2, c3_3, c3_4, c3_5⟩ := H11.out.2.2.2.1.cells)
          | (go_at_call 19; have := H9; refine (HDt.out _).mono ?_; rintro e w10 ⟨rfl, hb⟩; have H10 : Hid (AkAt w10 w.heap.size a ∧ RqAt w10 w2.heap.size a ∧ RqAt w10 w7.heap.size Y ∧ Below w.heap.size w w10) := hid (⟨H9.out.1.keep hb, H9.out.2.1.keep hb, H9.out.2.2.1.keep hb, H9.out.2.2.2.trans (hb.mono H9.out.2.2.2.size)⟩); clear hb; clear c0_0 c0_1 c0_2 c0_3 c0_4 c0_5 c1_0 c1_1 c1_2 c1_3 c1_4 c1_5 c2_0 c2_1 c2_2 c2_3 c2_4 c2_5; obtain ⟨⟨c0_0, c0_1⟩, c0_2, c0_3, c0_4, c0_5⟩ := H10.out.1.cells; obtain ⟨⟨c1_0, c1_1⟩, c1_2, c1_3, c1_4, c1_5⟩ := H10.out.2.1.cells; obtain ⟨⟨c2_0, c2_1⟩, c2_2, c2_3, c2_4, c2_5⟩ := H10.out.2.2.1.cells))
        go_ret
        exact ⟨rfl, H11.out.2.2.2.2⟩
    | false =>
      have hE : rqE a = 1 := HE1.out.resolve_left (fun h => by
        rcases HE.out.1 h with h | h
        · rw [hN] at h; cases h
        · rw [hR] at h; cases h)
      have HTb := hid (HTx.out 1 hE)
      have HRb := hid (HRt.out _ hR)
      have HNb := hid (HNl.out _ hN)
      clear HTx HRt HNl HRd1 HSm HRy hE HE HE1 hR hN
      rcases HC.out with hC | hC
      · have HDt := hid (HRd2.out 0 hC)
        have HTt := hid (HTz.out hC)
        clear HRd2 HTz HC hC
        go_enter Try.func5, Try.ntmps5
        go_wp2_with (first
          | (go_at_call 11; have := H8; refine (HTt.out _).mono ?_; rintro e w9 ⟨rfl, hb⟩; have H9 : Hid (AkAt w9 w.heap.size a ∧ RqAt w9 w2.heap.size a ∧ RqAt w9 w7.heap.size Z ∧ Below w.heap.size w w9) := hid (⟨H8.out.1.keep hb, H8.out.2.1.keep hb, H8.out.2.2.1.keep hb, H8.out.2.2.2.trans (hb.mono H8.out.2.2.2.size)⟩); clear hb; clear c0_0 c0_1 c0_2 c0_3 c0_4 c0_5 c1_0 c1_1 c1_2 c1_3 c1_4 c1_5 c2_0 c2_1 c2_2 c2_3 c2_4 c2_5; obtain ⟨⟨c0_0, c0_1⟩, c0_2, c0_3, c0_4, c0_5⟩ := H9.out.1.cells; obtain ⟨⟨c1_0, c1_1⟩, c1_2, c1_3, c1_4, c1_5⟩ := H9.out.2.1.cells; obtain ⟨⟨c2_0, c2_1⟩, c2_2, c2_3, c2_4, c2_5⟩ := H9.out.2.2.1.cells)
          | (have := H7; refine wl_store_rq rfl _ _ rfl w7.heap.size rfl zeroQ Z rfl (heap_alloc_last w7 _) ?_; intro w8 Hq; have hax := (Below.refl w7.heap.size w7).alloc (Nat.le_refl _) (.cells #[.int .i64 0, .int .i64 0, .int .i64 0, .string ⟨#[]⟩, .float .f64 0, .int .i64 0] 30); have H8 : Hid (AkAt w8 w.heap.size a ∧ RqAt w8 w2.heap.size a ∧ RqAt w8 w7.heap.size Z ∧ Below w.heap.size w w8) := hid ⟨(Hq.out.2.block _ (Nat.ne_of_lt (lt_of_blk H7.out.1))).trans (H7.out.1.keep hax), (Hq.out.2.block _ (Nat.ne_of_lt (lt_of_blk H7.out.2.1))).trans (H7.out.2.1.keep hax), Hq.out.1, Hq.out.2.below (H7.out.2.2.trans (hax.mono H7.out.2.2.size)) H7.out.2.2.size⟩; clear hax Hq; clear c0_0 c0_1 c0_2 c0_3 c0_4 c0_5 c1_0 c1_1 c1_2 c1_3 c1_4 c1_5; obtain ⟨⟨c0_0, c0_1⟩, c0_2, c0_3, c0_4, c0_5⟩ := H8.out.1.cells; obtain ⟨⟨c1_0, c1_1⟩, c1_2, c1_3, c1_4, c1_5⟩ := H8.out.2.1.cells; obtain ⟨⟨c2_0, c2_1⟩, c2_2, c2_3, c2_4, c2_5⟩ := H8.out.2.2.1.cells)
          | (go_at_call 19; have := H6; refine (HDt.out _).mono ?_; rintro e w7 ⟨rfl, hb⟩; have H7 : Hid (AkAt w7 w.heap.size a ∧ RqAt w7 w2.heap.size a ∧ Below w.heap.size w w7) := hid (⟨H6.out.1.keep hb, H6.out.2.1.keep hb, H6.out.2.2.trans (hb.mono H6.out.2.2.size)⟩); clear hb; clear c0_0 c0_1 c0_2 c0_3 c0_4 c0_5 c1_0 c1_1 c1_2 c1_3 c1_4 c1_5; obtain ⟨⟨c0_0, c0_1⟩, c0_2, c0_3, c0_4, c0_5⟩ := H7.out.1.cells; obtain ⟨⟨c1_0, c1_1⟩, c1_2, c1_3, c1_4, c1_5⟩ := H7.out.2.1.cells)
          | (go_at_call 15; have := H5; refine (HNb.out _).mono ?_; rintro e w6 ⟨rfl, hb⟩; have H6 : Hid (AkAt w6 w.heap.size a ∧ RqAt w6 w2.heap.size a ∧ Below w.heap.size w w6) := hid (⟨H5.out.1.keep hb, H5.out.2.1.keep hb, H5.out.2.2.trans (hb.mono H5.out.2.2.size)⟩); clear hb; clear c0_0 c0_1 c0_2 c0_3 c0_4 c0_5 c1_0 c1_1 c1_2 c1_3 c1_4 c1_5; obtain ⟨⟨c0_0, c0_1⟩, c0_2, c0_3, c0_4, c0_5⟩ := H6.out.1.cells; obtain ⟨⟨c1_0, c1_1⟩, c1_2, c1_3, c1_4, c1_5⟩ := H6.out.2.1.cells)
          | (go_at_call 13; have := H4; refine (HRb.out _).mono ?_; rintro e w5 ⟨rfl, hb⟩; have H5 : Hid (AkAt w5 w.heap.size a ∧ RqAt w5 w2.heap.size a ∧ Below w.heap.size w w5) := hid (⟨H4.out.1.keep hb, H4.out.2.1.keep hb, H4.out.2.2.trans (hb.mono H4.out.2.2.size)⟩); clear hb; clear c0_0 c0_1 c0_2 c0_3 c0_4 c0_5 c1_0 c1_1 c1_2 c1_3 c1_4 c1_5; obtain ⟨⟨c0_0, c0_1⟩, c0_2, c0_3, c0_4, c0_5⟩ := H5.out.1.cells; obtain ⟨⟨c1_0, c1_1⟩, c1_2, c1_3, c1_4, c1_5⟩ := H5.out.2.1.cells)
          | (go_at_call 11; have := H3; refine (HTb.out _).mono ?_; rintro e w4 ⟨rfl, hb⟩; have H4 : Hid (AkAt w4 w.heap.size a ∧ RqAt w4 w2.heap.size a ∧ Below w.heap.size w w4) := hid (⟨H3.out.1.keep hb, H3.out.2.1.keep hb, H3.out.2.2.trans (hb.mono H3.out.2.2.size)⟩); clear hb; clear c0_0 c0_1 c0_2 c0_3 c0_4 c0_5 c1_0 c1_1 c1_2 c1_3 c1_4 c1_5; obtain ⟨⟨c0_0, c0_1⟩, c0_2, c0_3, c0_4, c0_5⟩ := H4.out.1.cells; obtain ⟨⟨c1_0, c1_1⟩, c1_2, c1_3, c1_4, c1_5⟩ := H4.out.2.1.cells)
          | (have := H2; refine wl_store_rq rfl _ _ rfl w2.heap.size rfl zeroQ a rfl (heap_alloc_last w2 _) ?_; intro w3 Hq; have hax := (Below.refl w2.heap.size w2).alloc (Nat.le_refl _) (.cells #[.int .i64 0, .int .i64 0, .int .i64 0, .string ⟨#[]⟩, .float .f64 0, .int .i64 0] 30); have H3 : Hid (AkAt w3 w.heap.size a ∧ RqAt w3 w2.heap.size a ∧ Below w.heap.size w w3) := hid ⟨(Hq.out.2.block _ (Nat.ne_of_lt (lt_of_blk H2.out.1))).trans (H2.out.1.keep hax), Hq.out.1, Hq.out.2.below (H2.out.2.trans (hax.mono H2.out.2.size)) H2.out.2.size⟩; clear hax Hq; clear c0_0 c0_1 c0_2 c0_3 c0_4 c0_5; obtain ⟨⟨c0_0, c0_1⟩, c0_2, c0_3, c0_4, c0_5⟩ := H3.out.1.cells; obtain ⟨⟨c1_0, c1_1⟩, c1_2, c1_3, c1_4, c1_5⟩ := H3.out.2.1.cells)
          | (go_at_call 10; have := H1; refine (HRq.out _).mono ?_; rintro e w2 ⟨rfl, hb⟩; have H2 : Hid (AkAt w2 w.heap.size a ∧ Below w.heap.size w w2) := hid (⟨H1.out.1.keep hb, H1.out.2.trans (hb.mono H1.out.2.size)⟩); clear hb; clear c0_0 c0_1 c0_2 c0_3 c0_4 c0_5; obtain ⟨⟨c0_0, c0_1⟩, c0_2, c0_3, c0_4, c0_5⟩ := H2.out.1.cells)
          | (go_at_call 9; have := H0; refine (dlives_any _).mono ?_; rintro e w1 ⟨rfl, hb⟩; have H1 : Hid (AkAt w1 w.heap.size a ∧ Below w.heap.size w w1) := hid (⟨H0.out.1.keep hb, H0.out.2.trans (hb.mono H0.out.2.size)⟩); clear hb; obtain ⟨⟨c0_0, c0_1⟩, c0_2, c0_3, c0_4, c0_5⟩ := H1.out.1.cells))
        go_ret
        exact ⟨rfl, H9.out.2.2.2⟩
      · have HDt := hid (HRd2.out 5 hC)
        clear HRd2 HTz HC hC
        go_enter Try.func5, Try.ntmps5
        go_wp2_with (first
          | (have := H7; refine wl_store_rq rfl _ _ rfl w7.heap.size rfl zeroQ Z rfl (heap_alloc_last w7 _) ?_; intro w8 Hq; have hax := (Below.refl w7.heap.size w7).alloc (Nat.le_refl _) (.cells #[.int .i64 0, .int .i64 0, .int .i64 0, .string ⟨#[]⟩, .float .f64 0, .int .i64 0] 30); have H8 : Hid (AkAt w8 w.heap.size a ∧ RqAt w8 w2.heap.size a ∧ RqAt w8 w7.heap.size Z ∧ Below w.heap.size w w8) := hid ⟨(Hq.out.2.block _ (Nat.ne_of_lt (lt_of_blk H7.out.1))).trans (H7.out.1.keep hax), (Hq.out.2.block _ (Nat.ne_of_lt (lt_of_blk H7.out.2.1))).trans (H7.out.2.1.keep hax), Hq.out.1, Hq.out.2.below (H7.out.2.2.trans (hax.mono H7.out.2.2.size)) H7.out.2.2.size⟩; clear hax Hq; clear c0_0 c0_1 c0_2 c0_3 c0_4 c0_5 c1_0 c1_1 c1_2 c1_3 c1_4 c1_5; obtain ⟨⟨c0_0, c0_1⟩, c0_2, c0_3, c0_4, c0_5⟩ := H8.out.1.cells; obtain ⟨⟨c1_0, c1_1⟩, c1_2, c1_3, c1_4, c1_5⟩ := H8.out.2.1.cells; obtain ⟨⟨c2_0, c2_1⟩, c2_2, c2_3, c2_4, c2_5⟩ := H8.out.2.2.1.cells)
          | (go_at_call 19; have := H6; refine (HDt.out _).mono ?_; rintro e w7 ⟨rfl, hb⟩; have H7 : Hid (AkAt w7 w.heap.size a ∧ RqAt w7 w2.heap.size a ∧ Below w.heap.size w w7) := hid (⟨H6.out.1.keep hb, H6.out.2.1.keep hb, H6.out.2.2.trans (hb.mono H6.out.2.2.size)⟩); clear hb; clear c0_0 c0_1 c0_2 c0_3 c0_4 c0_5 c1_0 c1_1 c1_2 c1_3 c1_4 c1_5; obtain ⟨⟨c0_0, c0_1⟩, c0_2, c0_3, c0_4, c0_5⟩ := H7.out.1.cells; obtain ⟨⟨c1_0, c1_1⟩, c1_2, c1_3, c1_4, c1_5⟩ := H7.out.2.1.cells)
          | (go_at_call 15; have := H5; refine (HNb.out _).mono ?_; rintro e w6 ⟨rfl, hb⟩; have H6 : Hid (AkAt w6 w.heap.size a ∧ RqAt w6 w2.heap.size a ∧ Below w.heap.size w w6) := hid (⟨H5.out.1.keep hb, H5.out.2.1.keep hb, H5.out.2.2.trans (hb.mono H5.out.2.2.size)⟩); clear hb; clear c0_0 c0_1 c0_2 c0_3 c0_4 c0_5 c1_0 c1_1 c1_2 c1_3 c1_4 c1_5; obtain ⟨⟨c0_0, c0_1⟩, c0_2, c0_3, c0_4, c0_5⟩ := H6.out.1.cells; obtain ⟨⟨c1_0, c1_1⟩, c1_2, c1_3, c1_4, c1_5⟩ := H6.out.2.1.cells)
          | (go_at_call 13; have := H4; refine (HRb.out _).mono ?_; rintro e w5 ⟨rfl, hb⟩; have H5 : Hid (AkAt w5 w.heap.size a ∧ RqAt w5 w2.heap.size a ∧ Below w.heap.size w w5) := hid (⟨H4.out.1.keep hb, H4.out.2.1.keep hb, H4.out.2.2.trans (hb.mono H4.out.2.2.size)⟩); clear hb; clear c0_0 c0_1 c0_2 c0_3 c0_4 c0_5 c1_0 c1_1 c1_2 c1_3 c1_4 c1_5; obtain ⟨⟨c0_0, c0_1⟩, c0_2, c0_3, c0_4, c0_5⟩ := H5.out.1.cells; obtain ⟨⟨c1_0, c1_1⟩, c1_2, c1_3, c1_4, c1_5⟩ := H5.out.2.1.cells)
          | (go_at_call 11; have := H3; refine (HTb.out _).mono ?_; rintro e w4 ⟨rfl, hb⟩; have H4 : Hid (AkAt w4 w.heap.size a ∧ RqAt w4 w2.heap.size a ∧ Below w.heap.size w w4) := hid (⟨H3.out.1.keep hb, H3.out.2.1.keep hb, H3.out.2.2.trans (hb.mono H3.out.2.2.size)⟩); clear hb; clear c0_0 c0_1 c0_2 c0_3 c0_4 c0_5 c1_0 c1_1 c1_2 c1_3 c1_4 c1_5; obtain ⟨⟨c0_0, c0_1⟩, c0_2, c0_3, c0_4, c0_5⟩ := H4.out.1.cells; obtain ⟨⟨c1_0, c1_1⟩, c1_2, c1_3, c1_4, c1_5⟩ := H4.out.2.1.cells)
          | (have := H2; refine wl_store_rq rfl _ _ rfl w2.heap.size rfl zeroQ a rfl (heap_alloc_last w2 _) ?_; intro w3 Hq; have hax := (Below.refl w2.heap.size w2).alloc (Nat.le_refl _) (.cells #[.int .i64 0, .int .i64 0, .int .i64 0, .string ⟨#[]⟩, .float .f64 0, .int .i64 0] 30); have H3 : Hid (AkAt w3 w.heap.size a ∧ RqAt w3 w2.heap.size a ∧ Below w.heap.size w w3) := hid ⟨(Hq.out.2.block _ (Nat.ne_of_lt (lt_of_blk H2.out.1))).trans (H2.out.1.keep hax), Hq.out.1, Hq.out.2.below (H2.out.2.trans (hax.mono H2.out.2.size)) H2.out.2.size⟩; clear hax Hq; clear c0_0 c0_1 c0_2 c0_3 c0_4 c0_5; obtain ⟨⟨c0_0, c0_1⟩, c0_2, c0_3, c0_4, c0_5⟩ := H3.out.1.cells; obtain ⟨⟨c1_0, c1_1⟩, c1_2, c1_3, c1_4, c1_5⟩ := H3.out.2.1.cells)
          | (go_at_call 10; have := H1; refine (HRq.out _).mono ?_; rintro e w2 ⟨rfl, hb⟩; have H2 : Hid (AkAt w2 w.heap.size a ∧ Below w.heap.size w w2) := hid (⟨H1.out.1.keep hb, H1.out.2.trans (hb.mono H1.out.2.size)⟩); clear hb; clear c0_0 c0_1 c0_2 c0_3 c0_4 c0_5; obtain ⟨⟨c0_0, c0_1⟩, c0_2, c0_3, c0_4, c0_5⟩ := H2.out.1.cells)
          | (go_at_call 9; have := H0; refine (dlives_any _).mono ?_; rintro e w1 ⟨rfl, hb⟩; have H1 : Hid (AkAt w1 w.heap.size a ∧ Below w.heap.size w w1) := hid (⟨H0.out.1.keep hb, H0.out.2.trans (hb.mono H0.out.2.size)⟩); clear hb; obtain ⟨⟨c0_0, c0_1⟩, c0_2, c0_3, c0_4, c0_5⟩ := H1.out.1.cells))
        go_ret
        exact ⟨rfl, H8.out.2.2.2⟩
end Go.Proofs.Ytpgfdnmlkaoigaa
