/- DeedsResults: results' texts are what the document says, and come back. -/
import Derived.Test.YtpgfdnmlkaoigaaDsI
namespace Go.Proofs.Ytpgfdnmlkaoigaa
open Go.RowKit

theorem can_twice (f : Nat) (h : f < 18446744073709551616) (c : Int) (hc : rsB c = true) : sameS c f (rsC (rsT c f)) (rsF (rsT c f)) = true := by
  obtain ⟨_, h2, h3⟩ := rs_back hc h
  rw [h2, h3]
  simp [sameS, canW_idem]
set_option maxRecDepth 100000 in
set_option maxHeartbeats 6400000 in
theorem dresults_any (c : Int) (f : Nat) (hf : f < 18446744073709551616) (t : ByteArray) (w : World) : Calls Try.prog 7 #[.int .i64 c, .int .u64 (f : Int), .string t] w fun r w' => r = .returned (.bool true) ∧ Below w.heap.size w w' := by
  have HT1 := hid (dresultText_any c f hf)
  have HT2 := hid (qresultText_any c f hf)
  have HR : Hid (∀ G, rsR t = G → ∀ u, Calls Try.prog 21 #[.string t] u fun e w' => e = .returned (.tuple #[.agg #[.int .i64 (rsC t), .float .f64 (rsF t)], .int .i64 G]) ∧ Below u.heap.size u w') := hid (fun G hG u => by rw [← hG]; exact dreadResult_any t u)
  have HTt : Hid (okRs t = true → ∀ u, Calls Try.prog 26 #[.agg #[.int .i64 (rsC t), .float .f64 (rsF t)]] u fun e w' => e = .returned (.tuple #[.string t, .int .i64 0]) ∧ Below u.heap.size u w') := hid (fun h u => by
    obtain ⟨h1, h2, h3⟩ := rs_told h
    have := dresultText_any (rsC t) (rsF t) h3 u
    rw [h2, rsE, if_pos h1] at this
    exact this)
  have HBk : Hid (rsB c = true → (∀ u, Calls Try.prog 21 #[.string (rsT c f)] u fun e w' => e = .returned (.tuple #[.agg #[.int .i64 (rsC (rsT c f)), .float .f64 (rsF (rsT c f))], .int .i64 0]) ∧ Below u.heap.size u w') ∧ (∀ u, Calls Try.prog 24 #[.agg #[.int .i64 c, .float .f64 f], .agg #[.int .i64 (rsC (rsT c f)), .float .f64 (rsF (rsT c f))]] u fun e w' => e = .returned (.bool true) ∧ Below u.heap.size u w')) := hid (fun h => ⟨fun u => by
      have := dreadResult_any (rsT c f) u
      rw [show rsR (rsT c f) = 0 by rw [rsR, if_pos (rs_back h hf).1]] at this
      exact this, fun u => by
      have := qsameResult_any c f (rsC (rsT c f)) (rsF (rsT c f)) u
      rw [can_twice f hf c h] at this
      exact this⟩)
  generalize rsC (rsT c f) = C1 at *
  generalize rsF (rsT c f) = F1 at *
  generalize rsT c f = T at *
  have H0 : Hid (Below w.heap.size w w) := hid (Below.refl _ _)
  clear hf
  cases hc : rsB c with
  | true =>
    have HB1 := hid (HBk.out hc)
    rw [rsE, if_pos hc] at HT1 HT2
    clear hc HBk
    cases ht : okRs t with
    | true =>
      have HRb := hid (HR.out 0 (by rw [rsR, if_pos ht]))
      have HTb := hid (HTt.out ht)
      generalize rsC t = C at *
      generalize rsF t = F at *
      clear ht HR HTt
      go_enter Try.func7, Try.ntmps7
      go_wp2_with (first
        | (go_at_call 26; have := H9; refine (HTb.out _).mono ?_; rintro e w10 ⟨rfl, hb⟩; have H10 : Hid (RsAt w10 w1.heap.size c f ∧ RsAt w10 w5.heap.size C1 F1 ∧ RsAt w10 w8.heap.size C F ∧ Below w.heap.size w w10) := hid (⟨H9.out.1.keep hb, H9.out.2.1.keep hb, H9.out.2.2.1.keep hb, H9.out.2.2.2.trans (hb.mono H9.out.2.2.2.size)⟩); clear hb; clear c0_0 c0_1 c1_0 c1_1 c2_0 c2_1; obtain ⟨c0_0, c0_1⟩ := H10.out.1.cells; obtain ⟨c1_0, c1_1⟩ := H10.out.2.1.cells; obtain ⟨c2_0, c2_1⟩ := H10.out.2.2.1.cells)
        | (have := H8; refine wl_store_rs rfl _ _ rfl w8.heap.size rfl 0 C 0 F rfl (heap_alloc_last w8 _) ?_; intro w9 Hq; have hax := (Below.refl w8.heap.size w8).alloc (Nat.le_refl _) (.cells #[.int .i64 0, .float .f64 0] 41); have H9 : Hid (RsAt w9 w1.heap.size c f ∧ RsAt w9 w5.heap.size C1 F1 ∧ RsAt w9 w8.heap.size C F ∧ Below w.heap.size w w9) := hid ⟨(Hq.out.2.block _ (Nat.ne_of_lt (lt_of_blk H8.out.1))).trans (H8.out.1.keep hax), (Hq.out.2.block _ (Nat.ne_of_lt (lt_of_blk H8.out.2.1))).trans (H8.out.2.1.keep hax), Hq.out.1, Hq.out.2.below (H8.out.2.2.trans (hax.mono H8.out.2.2.size)) H8.out.2.2.size⟩; clear hax Hq; clear c0_0 c0_1 c1_0 c1_1; obtain ⟨c0_0, c0_1⟩ := H9.out.1.cells; obtain ⟨c1_0, c1_1⟩ := H9.out.2.1.cells; obtain ⟨c2_0, c2_1⟩ := H9.out.2.2.1.cells)
        | (go_at_call 21; have := H7; refine (HRb.out _).mono ?_; rintro e w8 ⟨rfl, hb⟩; have H8 : Hid (RsAt w8 w1.heap.size c f ∧ RsAt w8 w5.heap.size C1 F1 ∧ Below w.heap.size w w8) := hid (⟨H7.out.1.keep hb, H7.out.2.1.keep hb, H7.out.2.2.trans (hb.mono H7.out.2.2.size)⟩); clear hb; clear c0_0 c0_1 c1_0 c1_1; obtain ⟨c0_0, c0_1⟩ := H8.out.1.cells; obtain ⟨c1_0, c1_1⟩ := H8.out.2.1.cells)
        | (go_at_call 24; have := H6; refine (HB1.out.2 _).mono ?_; rintro e w7 ⟨rfl, hb⟩; have H7 : Hid (RsAt w7 w1.heap.size c f ∧ RsAt w7 w5.heap.size C1 F1 ∧ Below w.heap.size w w7) := hid (⟨H6.out.1.keep hb, H6.out.2.1.keep hb, H6.out.2.2.trans (hb.mono H6.out.2.2.size)⟩); clear hb; clear c0_0 c0_1 c1_0 c1_1; obtain ⟨c0_0, c0_1⟩ := H7.out.1.cells; obtain ⟨c1_0, c1_1⟩ := H7.out.2.1.cells)
        | (have := H5; refine wl_store_rs rfl _ _ rfl w5.heap.size rfl 0 C1 0 F1 rfl (heap_alloc_last w5 _) ?_; intro w6 Hq; have hax := (Below.refl w5.heap.size w5).alloc (Nat.le_refl _) (.cells #[.int .i64 0, .float .f64 0] 41); have H6 : Hid (RsAt w6 w1.heap.size c f ∧ RsAt w6 w5.heap.size C1 F1 ∧ Below w.heap.size w w6) := hid ⟨(Hq.out.2.block _ (Nat.ne_of_lt (lt_of_blk H5.out.1))).trans (H5.out.1.keep hax), Hq.out.1, Hq.out.2.below (H5.out.2.trans (hax.mono H5.out.2.size)) H5.out.2.size⟩; clear hax Hq; clear c0_0 c0_1; obtain ⟨c0_0, c0_1⟩ := H6.out.1.cells; obtain ⟨c1_0, c1_1⟩ := H6.out.2.1.cells)
        | (go_at_call 21; have := H4; refine (HB1.out.1 _).mono ?_; rintro e w5 ⟨rfl, hb⟩; have H5 : Hid (RsAt w5 w1.heap.size c f ∧ Below w.heap.size w w5) := hid (⟨H4.out.1.keep hb, H4.out.2.trans (hb.mono H4.out.2.size)⟩); clear hb; clear c0_0 c0_1; obtain ⟨c0_0, c0_1⟩ := H5.out.1.cells)
        | (go_at_call 27; have := H3; refine (HT2.out _).mono ?_; rintro e w4 ⟨rfl, hb⟩; have H4 : Hid (RsAt w4 w1.heap.size c f ∧ Below w.heap.size w w4) := hid (⟨H3.out.1.keep hb, H3.out.2.trans (hb.mono H3.out.2.size)⟩); clear hb; clear c0_0 c0_1; obtain ⟨c0_0, c0_1⟩ := H4.out.1.cells)
        | (go_at_call 26; have := H2; refine (HT1.out _).mono ?_; rintro e w3 ⟨rfl, hb⟩; have H3 : Hid (RsAt w3 w1.heap.size c f ∧ Below w.heap.size w w3) := hid (⟨H2.out.1.keep hb, H2.out.2.trans (hb.mono H2.out.2.size)⟩); clear hb; clear c0_0 c0_1; obtain ⟨c0_0, c0_1⟩ := H3.out.1.cells)
        | (have := H1; refine wl_store_rs rfl _ _ rfl w1.heap.size rfl 0 c 0 f rfl (heap_alloc_last w1 _) ?_; intro w2 Hq; have hax := (Below.refl w1.heap.size w1).alloc (Nat.le_refl _) (.cells #[.int .i64 0, .float .f64 0] 41); have H2 : Hid (RsAt w2 w1.heap.size c f ∧ Below w.heap.size w w2) := hid ⟨Hq.out.1, Hq.out.2.below (H1.out.trans (hax.mono H1.out.size)) H1.out.size⟩; clear hax Hq; obtain ⟨c0_0, c0_1⟩ := H2.out.1.cells)
        | (go_at_call 9; have := H0; refine (dlives_any _).mono ?_; rintro e w1 ⟨rfl, hb⟩; have H1 : Hid (Below w.heap.size w w1) := hid (H0.out.trans (hb.mono H0.out.size)); clear hb)
        | rw [ff_run])
      go_ret
      exact ⟨rfl, H10.out.2.2.2⟩
    | false =>
      have HRb := hid (HR.out 5 (by rw [rsR, ht]; rfl))
      generalize rsC t = C at *
      generalize rsF t = F at *
      clear ht HR HTt
      go_enter Try.func7, Try.ntmps7
      go_wp2_with (first
        | (have := H8; refine wl_store_rs rfl _ _ rfl w8.heap.size rfl 0 C 0 F rfl (heap_alloc_last w8 _) ?_; intro w9 Hq; have hax := (Below.refl w8.heap.size w8).alloc (Nat.le_refl _) (.cells #[.int .i64 0, .float .f64 0] 41); have H9 : Hid (RsAt w9 w1.heap.size c f ∧ RsAt w9 w5.heap.size C1 F1 ∧ RsAt w9 w8.heap.size C F ∧ Below w.heap.size w w9) := hid ⟨(Hq.out.2.block _ (Nat.ne_of_lt (lt_of_blk H8.out.1))).trans (H8.out.1.keep hax), (Hq.out.2.block _ (Nat.ne_of_lt (lt_of_blk H8.out.2.1))).trans (H8.out.2.1.keep hax), Hq.out.1, Hq.out.2.below (H8.out.2.2.trans (hax.mono H8.out.2.2.size)) H8.out.2.2.size⟩; clear hax Hq; clear c0_0 c0_1 c1_0 c1_1; obtain ⟨c0_0, c0_1⟩ := H9.out.1.cells; obtain ⟨c1_0, c1_1⟩ := H9.out.2.1.cells; obtain ⟨c2_0, c2_1⟩ := H9.out.2.2.1.cells)
        | (go_at_call 21; have := H7; refine (HRb.out _).mono ?_; rintro e w8 ⟨rfl, hb⟩; have H8 : Hid (RsAt w8 w1.heap.size c f ∧ RsAt w8 w5.heap.size C1 F1 ∧ Below w.heap.size w w8) := hid (⟨H7.out.1.keep hb, H7.out.2.1.keep hb, H7.out.2.2.trans (hb.mono H7.out.2.2.size)⟩); clear hb; clear c0_0 c0_1 c1_0 c1_1; obtain ⟨c0_0, c0_1⟩ := H8.out.1.cells; obtain ⟨c1_0, c1_1⟩ := H8.out.2.1.cells)
        | (go_at_call 24; have := H6; refine (HB1.out.2 _).mono ?_; rintro e w7 ⟨rfl, hb⟩; have H7 : Hid (RsAt w7 w1.heap.size c f ∧ RsAt w7 w5.heap.size C1 F1 ∧ Below w.heap.size w w7) := hid (⟨H6.out.1.keep hb, H6.out.2.1.keep hb, H6.out.2.2.trans (hb.mono H6.out.2.2.size)⟩); clear hb; clear c0_0 c0_1 c1_0 c1_1; obtain ⟨c0_0, c0_1⟩ := H7.out.1.cells; obtain ⟨c1_0, c1_1⟩ := H7.out.2.1.cells)
        | (have := H5; refine wl_store_rs rfl _ _ rfl w5.heap.size rfl 0 C1 0 F1 rfl (heap_alloc_last w5 _) ?_; intro w6 Hq; have hax := (Below.refl w5.heap.size w5).alloc (Nat.le_refl _) (.cells #[.int .i64 0, .float .f64 0] 41); have H6 : Hid (RsAt w6 w1.heap.size c f ∧ RsAt w6 w5.heap.size C1 F1 ∧ Below w.heap.size w w6) := hid ⟨(Hq.out.2.block _ (Nat.ne_of_lt (lt_of_blk H5.out.1))).trans (H5.out.1.keep hax), Hq.out.1, Hq.out.2.below (H5.out.2.trans (hax.mono H5.out.2.size)) H5.out.2.size⟩; clear hax Hq; clear c0_0 c0_1; obtain ⟨c0_0, c0_1⟩ := H6.out.1.cells; obtain ⟨c1_0, c1_1⟩ := H6.out.2.1.cells)
        | (go_at_call 21; have := H4; refine (HB1.out.1 _).mono ?_; rintro e w5 ⟨rfl, hb⟩; have H5 : Hid (RsAt w5 w1.heap.size c f ∧ Below w.heap.size w w5) := hid (⟨H4.out.1.keep hb, H4.out.2.trans (hb.mono H4.out.2.size)⟩); clear hb; clear c0_0 c0_1; obtain ⟨c0_0, c0_1⟩ := H5.out.1.cells)
        | (go_at_call 27; have := H3; refine (HT2.out _).mono ?_; rintro e w4 ⟨rfl, hb⟩; have H4 : Hid (RsAt w4 w1.heap.size c f ∧ Below w.heap.size w w4) := hid (⟨H3.out.1.keep hb, H3.out.2.trans (hb.mono H3.out.2.size)⟩); clear hb; clear c0_0 c0_1; obtain ⟨c0_0, c0_1⟩ := H4.out.1.cells)
        | (go_at_call 26; have := H2; refine (HT1.out _).mono ?_; rintro e w3 ⟨rfl, hb⟩; have H3 : Hid (RsAt w3 w1.heap.size c f ∧ Below w.heap.size w w3) := hid (⟨H2.out.1.keep hb, H2.out.2.trans (hb.mono H2.out.2.size)⟩); clear hb; clear c0_0 c0_1; obtain ⟨c0_0, c0_1⟩ := H3.out.1.cells)
        | (have := H1; refine wl_store_rs rfl _ _ rfl w1.heap.size rfl 0 c 0 f rfl (heap_alloc_last w1 _) ?_; intro w2 Hq; have hax := (Below.refl w1.heap.size w1).alloc (Nat.le_refl _) (.cells #[.int .i64 0, .float .f64 0] 41); have H2 : Hid (RsAt w2 w1.heap.size c f ∧ Below w.heap.size w w2) := hid ⟨Hq.out.1, Hq.out.2.below (H1.out.trans (hax.mono H1.out.size)) H1.out.size⟩; clear hax Hq; obtain ⟨c0_0, c0_1⟩ := H2.out.1.cells)
        | (go_at_call 9; have := H0; refine (dlives_any _).mono ?_; rintro e w1 ⟨rfl, hb⟩; have H1 : Hid (Below w.heap.size w w1) := hid (H0.out.trans (hb.mono H0.out.size)); clear hb)
        | rw [ff_run])
      go_ret
      exact ⟨rfl, H9.out.2.2.2⟩
  | false =>
    rw [show rsE c = 1 by rw [rsE, hc]; rfl] at HT1 HT2
    clear hc HBk
    cases ht : okRs t with
    | true =>
      have HRb := hid (HR.out 0 (by rw [rsR, if_pos ht]))
      have HTb := hid (HTt.out ht)
      generalize rsC t = C at *
      generalize rsF t = F at *
      clear ht HR HTt
      go_enter Try.func7, Try.ntmps7
      go_wp2_with (first
        | (go_at_call 26; have := H6; refine (HTb.out _).mono ?_; rintro e w7 ⟨rfl, hb⟩; have H7 : Hid (RsAt w7 w1.heap.size c f ∧ RsAt w7 w5.heap.size C F ∧ Below w.heap.size w w7) := hid (⟨H6.out.1.keep hb, H6.out.2.1.keep hb, H6.out.2.2.trans (hb.mono H6.out.2.2.size)⟩); clear hb; clear c0_0 c0_1 c1_0 c1_1; obtain ⟨c0_0, c0_1⟩ := H7.out.1.cells; obtain ⟨c1_0, c1_1⟩ := H7.out.2.1.cells)
        | (have := H5; refine wl_store_rs rfl _ _ rfl w5.heap.size rfl 0 C 0 F rfl (heap_alloc_last w5 _) ?_; intro w6 Hq; have hax := (Below.refl w5.heap.size w5).alloc (Nat.le_refl _) (.cells #[.int .i64 0, .float .f64 0] 41); have H6 : Hid (RsAt w6 w1.heap.size c f ∧ RsAt w6 w5.heap.size C F ∧ Below w.heap.size w w6) := hid ⟨(Hq.out.2.block _ (Nat.ne_of_lt (lt_of_blk H5.out.1))).trans (H5.out.1.keep hax), Hq.out.1, Hq.out.2.below (H5.out.2.trans (hax.mono H5.out.2.size)) H5.out.2.size⟩; clear hax Hq; clear c0_0 c0_1; obtain ⟨c0_0, c0_1⟩ := H6.out.1.cells; obtain ⟨c1_0, c1_1⟩ := H6.out.2.1.cells)
        | (go_at_call 21; have := H4; refine (HRb.out _).mono ?_; rintro e w5 ⟨rfl, hb⟩; have H5 : Hid (RsAt w5 w1.heap.size c f ∧ Below w.heap.size w w5) := hid (⟨H4.out.1.keep hb, H4.out.2.trans (hb.mono H4.out.2.size)⟩); clear hb; clear c0_0 c0_1; obtain ⟨c0_0, c0_1⟩ := H5.out.1.cells)
        | (go_at_call 27; have := H3; refine (HT2.out _).mono ?_; rintro e w4 ⟨rfl, hb⟩; have H4 : Hid (RsAt w4 w1.heap.size c f ∧ Below w.heap.size w w4) := hid (⟨H3.out.1.keep hb, H3.out.2.trans (hb.mono H3.out.2.size)⟩); clear hb; clear c0_0 c0_1; obtain ⟨c0_0, c0_1⟩ := H4.out.1.cells)
        | (go_at_call 26; have := H2; refine (HT1.out _).mono ?_; rintro e w3 ⟨rfl, hb⟩; have H3 : Hid (RsAt w3 w1.heap.size c f ∧ Below w.heap.size w w3) := hid (⟨H2.out.1.keep hb, H2.out.2.trans (hb.mono H2.out.2.size)⟩); clear hb; clear c0_0 c0_1; obtain ⟨c0_0, c0_1⟩ := H3.out.1.cells)
        | (have := H1; refine wl_store_rs rfl _ _ rfl w1.heap.size rfl 0 c 0 f rfl (heap_alloc_last w1 _) ?_; intro w2 Hq; have hax := (Below.refl w1.heap.size w1).alloc (Nat.le_refl _) (.cells #[.int .i64 0, .float .f64 0] 41); have H2 : Hid (RsAt w2 w1.heap.size c f ∧ Below w.heap.size w w2) := hid ⟨Hq.out.1, Hq.out.2.below (H1.out.trans (hax.mono H1.out.size)) H1.out.size⟩; clear hax Hq; obtain ⟨c0_0, c0_1⟩ := H2.out.1.cells)
        | (go_at_call 9; have := H0; refine (dlives_any _).mono ?_; rintro e w1 ⟨rfl, hb⟩; have H1 : Hid (Below w.heap.size w w1) := hid (H0.out.trans (hb.mono H0.out.size)); clear hb)
        | rw [ff_run])
      go_ret
      exact ⟨rfl, H7.out.2.2⟩
    | false =>
      have HRb := hid (HR.out 5 (by rw [rsR, ht]; rfl))
      generalize rsC t = C at *
      generalize rsF t = F at *
      clear ht HR HTt
      go_enter Try.func7, Try.ntmps7
      go_wp2_with (first
        | (have := H5; refine wl_store_rs rfl _ _ rfl w5.heap.size rfl 0 C 0 F rfl (heap_alloc_last w5 _) ?_; intro w6 Hq; have hax := (Below.refl w5.heap.size w5).alloc (Nat.le_refl _) (.cells #[.int .i64 0, .float .f64 0] 41); have H6 : Hid (RsAt w6 w1.heap.size c f ∧ RsAt w6 w5.heap.size C F ∧ Below w.heap.size w w6) := hid ⟨(Hq.out.2.block _ (Nat.ne_of_lt (lt_of_blk H5.out.1))).trans (H5.out.1.keep hax), Hq.out.1, Hq.out.2.below (H5.out.2.trans (hax.mono H5.out.2.size)) H5.out.2.size⟩; clear hax Hq; clear c0_0 c0_1; obtain ⟨c0_0, c0_1⟩ := H6.out.1.cells; obtain ⟨c1_0, c1_1⟩ := H6.out.2.1.cells)
        | (go_at_call 21; have := H4; refine (HRb.out _).mono ?_; rintro e w5 ⟨rfl, hb⟩; have H5 : Hid (RsAt w5 w1.heap.size c f ∧ Below w.heap.size w w5) := hid (⟨H4.out.1.keep hb, H4.out.2.trans (hb.mono H4.out.2.size)⟩); clear hb; clear c0_0 c0_1; obtain ⟨c0_0, c0_1⟩ := H5.out.1.cells)
        | (go_at_call 27; have := H3; refine (HT2.out _).mono ?_; rintro e w4 ⟨rfl, hb⟩; have H4 : Hid (RsAt w4 w1.heap.size c f ∧ Below w.heap.size w w4) := hid (⟨H3.out.1.keep hb, H3.out.2.trans (hb.mono H3.out.2.size)⟩); clear hb; clear c0_0 c0_1; obtain ⟨c0_0, c0_1⟩ := H4.out.1.cells)
        | (go_at_call 26; have := H2; refine (HT1.out _).mono ?_; rintro e w3 ⟨rfl, hb⟩; have H3 : Hid (RsAt w3 w1.heap.size c f ∧ Below w.heap.size w w3) := hid (⟨H2.out.1.keep hb, H2.out.2.trans (hb.mono H2.out.2.size)⟩); clear hb; clear c0_0 c0_1; obtain ⟨c0_0, c0_1⟩ := H3.out.1.cells)
        | (have := H1; refine wl_store_rs rfl _ _ rfl w1.heap.size rfl 0 c 0 f rfl (heap_alloc_last w1 _) ?_; intro w2 Hq; have hax := (Below.refl w1.heap.size w1).alloc (Nat.le_refl _) (.cells #[.int .i64 0, .float .f64 0] 41); have H2 : Hid (RsAt w2 w1.heap.size c f ∧ Below w.heap.size w w2) := hid ⟨Hq.out.1, Hq.out.2.below (H1.out.trans (hax.mono H1.out.size)) H1.out.size⟩; clear hax Hq; obtain ⟨c0_0, c0_1⟩ := H2.out.1.cells)
        | (go_at_call 9; have := H0; refine (dlives_any _).mono ?_; rintro e w1 ⟨rfl, hb⟩; have H1 : Hid (Below w.heap.size w w1) := hid (H0.out.trans (hb.mono H0.out.size)); clear hb)
        | rw [ff_run])
      go_ret
      exact ⟨rfl, H6.out.2.2⟩
end Go.Proofs.Ytpgfdnmlkaoigaa
