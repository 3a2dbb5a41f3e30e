/- What the program reads any bytes as: a request, a result. -/
import Derived.Test.YtpgfdnmlkaoigaaDtC
namespace Go.Proofs.Ytpgfdnmlkaoigaa
open Go.RowKit

theorem rq_c {w : World} {b : Nat} {r : Rq} (h : RqAt w b r) (v : Int) : RqAt (w.setCell ⟨b, 0, none⟩ (.int .i64 v)) b { r with c := v } := (blk_set h 0 _).trans (by simp)
/-- While bytes are read: the result's block, the program's reader at x. -/
structure QrSt (w0 w : World) (x : Rd) : Prop where
  res : RqAt w w0.heap.size zeroQ
  rd : RdAt w (w0.heap.size + 1) x.s x.sh
  bel : Below w0.heap.size w0 w
theorem QrSt.kept {w0 w w' : World} {x y : Rd} (h : QrSt w0 w x) (k : Kept (w0.heap.size + 1) none w w') (hr : RdAt w' (w0.heap.size + 1) y.s y.sh) : QrSt w0 w' y :=
  ⟨(k.block _ (lt_of_blk h.res) (by omega) (by simp)).trans h.res, hr, h.bel.trans (k.below (Nat.le_of_lt (lt_of_blk h.res)) (by omega) (fun g hg => by cases hg))⟩
theorem QrSt.keep {w0 w w' : World} {x : Rd} (h : QrSt w0 w x) (hb : Below w.heap.size w w') : QrSt w0 w' x :=
  ⟨h.res.keep hb, (hb.block _ (lt_of_blk h.rd)).trans h.rd, h.bel.trans (hb.mono h.bel.size)⟩
theorem QrSt.put {w0 w : World} {x : Rd} (h : QrSt w0 w x) {b : Nat} (hb : w0.heap.size + 2 ≤ b) (o : Nat) (v : Value) : QrSt w0 (w.setCell ⟨b, o, none⟩ v) x :=
  ⟨(Below.heap_setCell _ _ _ _ (by simp; omega)).trans h.res, (Below.heap_setCell _ _ _ _ (by simp; omega)).trans h.rd, h.bel.setCell (p := ⟨b, o, none⟩) (by simp; omega) v⟩
/-- .. and what is read so far, at block b. -/
structure QxSt (w0 w : World) (x : Rd) (b : Nat) (r : Rq) : Prop where
  st : QrSt w0 w x
  rq : RqAt w b r
  hb : w0.heap.size + 2 ≤ b
theorem QxSt.st0 {w0 w : World} {x : Rd} {b : Nat} {r : Rq} (h : QxSt w0 w x b r) (v : Int) : QxSt w0 (w.setCell ⟨b, 0, none⟩ (.int .i64 v)) x b { r with c := v } := ⟨h.st.put h.hb 0 _, rq_c h.rq v, h.hb⟩
theorem QxSt.st1 {w0 w : World} {x : Rd} {b : Nat} {r : Rq} (h : QxSt w0 w x b r) (v : Int) : QxSt w0 (w.setCell ⟨b, 1, none⟩ (.int .i64 v)) x b { r with st := v } := ⟨h.st.put h.hb 1 _, rq_st h.rq v, h.hb⟩
theorem QxSt.st2 {w0 w : World} {x : Rd} {b : Nat} {r : Rq} (h : QxSt w0 w x b r) (v : Int) : QxSt w0 (w.setCell ⟨b, 2, none⟩ (.int .i64 v)) x b { r with k := v } := ⟨h.st.put h.hb 2 _, rq_k h.rq v, h.hb⟩
theorem QxSt.st3 {w0 w : World} {x : Rd} {b : Nat} {r : Rq} (h : QxSt w0 w x b r) (v : ByteArray) : QxSt w0 (w.setCell ⟨b, 3, none⟩ (.string v)) x b { r with key := v } := ⟨h.st.put h.hb 3 _, rq_key h.rq v, h.hb⟩
theorem QxSt.st4 {w0 w : World} {x : Rd} {b : Nat} {r : Rq} (h : QxSt w0 w x b r) (v : Nat) : QxSt w0 (w.setCell ⟨b, 4, none⟩ (.float .f64 v)) x b { r with b := v } := ⟨h.st.put h.hb 4 _, rq_b h.rq v, h.hb⟩
theorem QxSt.st5 {w0 w : World} {x : Rd} {b : Nat} {r : Rq} (h : QxSt w0 w x b r) (v : Int) : QxSt w0 (w.setCell ⟨b, 5, none⟩ (.int .i64 v)) x b { r with id := v } := ⟨h.st.put h.hb 5 _, rq_id h.rq v, h.hb⟩
theorem QxSt.kept {w0 w w' : World} {x y : Rd} {b : Nat} {r : Rq} (h : QxSt w0 w x b r) (k : Kept (w0.heap.size + 1) none w w') (hr : RdAt w' (w0.heap.size + 1) y.s y.sh) : QxSt w0 w' y b r :=
  ⟨h.st.kept k hr, (k.block _ (lt_of_blk h.rq) (by have := h.hb; omega) (by simp)).trans h.rq, h.hb⟩
theorem QxSt.keep {w0 w w' : World} {x : Rd} {b : Nat} {r : Rq} (h : QxSt w0 w x b r) (hb : Below w.heap.size w w') : QxSt w0 w' x b r := ⟨h.st.keep hb, h.rq.keep hb, h.hb⟩
set_option maxRecDepth 100000 in
set_option maxHeartbeats 12800000 in
theorem dread_any (t : ByteArray) (_ht : t.size ≤ 9223372036854775807) (w : World) : Calls Try.prog 19 #[.string t] w fun e w' => e = .returned (.tuple #[.agg #[.int .i64 (rdR t).c, .int .i64 (rdR t).st, .int .i64 (rdR t).k, .string (rdR t).key, .float .f64 (rdR t).b, .int .i64 (rdR t).id], .int .i64 (rdE t)]) ∧ Below w.heap.size w w' := by
  have H0 : Hid (RqAt (w.alloc (.cells #[.int .i64 0, .int .i64 0, .int .i64 0, .string ⟨#[]⟩, .float .f64 0, .int .i64 0] 30)) w.heap.size zeroQ ∧ Below w.heap.size w (w.alloc (.cells #[.int .i64 0, .int .i64 0, .int .i64 0, .string ⟨#[]⟩, .float .f64 0, .int .i64 0] 30))) := hid ⟨heap_alloc_last w _, (Below.refl _ _).alloc (Nat.le_refl _) _⟩
  cases hn : isNul t with
  | true =>
    have hn2 : (t.toList == [0]) = true := by rw [ByteArray.toList_eq]; simpa [isNul] using hn
    rw [show rdR t = zeroQ by rw [rdR, if_pos hn], show rdE t = 0 by rw [rdE, if_pos hn]]
    clear hn
    go_enter Try.func19, Try.ntmps19
    go_wp2_with (refine wl_store_rq rfl _ _ rfl w.heap.size rfl zeroQ zeroQ rfl H0.out.1 ?_; intro w1 H1)
    refine ret_pair (s := 2) (s2 := 3) (ad := ⟨w.heap.size, 0, none⟩) rfl rfl (load_rq _ _ zeroQ H1.out.1) rfl rfl ?_
    exact ⟨rfl, H1.out.2.below H0.out.2 (Nat.le_refl _)⟩
  | false =>
    have hn2 : (t.toList == [0]) = false := by rw [ByteArray.toList_eq]; simpa [isNul] using hn
    have HRd : Hid (rdR t = (if okq t then rdq t else zeroQ) ∧ rdE t = (if okq t then 0 else 5)) := hid ⟨by rw [rdR, hn]; rfl, by rw [rdE, hn]; rfl⟩
    have HOk : Hid (okq t = (((decide (rdHead t = 1) && (canW (rdBits t) == rdBits t)) && decide (endOf (rd7 t).s (rd7 t).sh = 0)) && rightB (rdq t))) := hid rfl
    have HR : Hid (∀ (X : Bool), rightB (rdq t) = X → ∀ u, Calls Try.prog 13 #[.agg #[.int .i64 (rdq t).c, .int .i64 (rdq t).st, .int .i64 (rdq t).k, .string (rdq t).key, .float .f64 (rdq t).b, .int .i64 (rdq t).id]] u fun e w' => e = .returned (.bool X) ∧ Below u.heap.size u w') := hid (fun X hX u => by rw [← hX]; exact dright_any (rdq t) u)
    have HFr : Hid (∀ (X : Bool), (canW (rdBits t) == rdBits t) = X → ∀ u, Calls Try.prog 53 #[.int .u64 ((rdBits t : Nat) : Int)] u fun e w' => e = .returned (.tuple #[.float .f64 (fromW (rdBits t)), .bool X]) ∧ w' = u) := hid (fun X hX u => by rw [← hX]; exact from_any (rdBits t) u)
    have hbx := (Below.refl (w.alloc (.cells #[.int .i64 0, .int .i64 0, .int .i64 0, .string ⟨#[]⟩, .float .f64 0, .int .i64 0] 30)).heap.size (w.alloc (.cells #[.int .i64 0, .int .i64 0, .int .i64 0, .string ⟨#[]⟩, .float .f64 0, .int .i64 0] 30))).alloc (Nat.le_refl _) (.cells #[.string t, .bool false] 93)
    have H1 : Hid (QrSt w ((w.alloc (.cells #[.int .i64 0, .int .i64 0, .int .i64 0, .string ⟨#[]⟩, .float .f64 0, .int .i64 0] 30)).alloc (.cells #[.string t, .bool false] 93)) ⟨t, false⟩) := hid ⟨H0.out.1.keep hbx, snd_alloc w _ _, H0.out.2.trans (hbx.mono (by simp))⟩
    clear hn hbx
    by_cases he : endOf (rd7 t).s (rd7 t).sh = 0
    · have heb : (endOf (rd7 t).s (rd7 t).sh != 0) = false := by rw [he]; rfl
      by_cases hh : rdHead t = 1
      · have hhb : ((rN t false 1 : Int) != 1) = false := by have : rN t false 1 = 1 := hh; rw [this]; rfl
        cases hD : (canW (rdBits t) == rdBits t) with
        | false =>
          have HFb := hid (HFr.out _ hD)
          have HV : Hid (rdR t = zeroQ ∧ rdE t = 5) := hid (by rw [HRd.out.1, HRd.out.2, HOk.out, hD]; simp)
          clear hD hh HFr HR HRd HOk he
          go_enter Try.func19, Try.ntmps19
          go_wp2_with (first
            | (have := HRs; refine wl_store_rq rfl _ _ rfl w.heap.size rfl zeroQ zeroQ rfl HRs.out.1 ?_; intro wz Hz)
            | (go_at_call 13; refine (HRb.out _).mono ?_; rintro e w10 ⟨rfl, hb10⟩; have H10 := hid (H9s.out.keep hb10); clear hb10; (try clear z0 z1 z2 z3 z4 z5); obtain ⟨⟨z0, z1⟩, z2, z3, z4, z5⟩ := H10.out.rq.cells; have HRs : Hid (RqAt w10 w.heap.size zeroQ ∧ Below w.heap.size w w10) := hid ⟨H10.out.st.res, H10.out.st.bel⟩)
            | (go_at_call 55; refine (end_any _ _ _ _ H9s.out.st.rd).mono ?_; rintro e w11 ⟨rfl, rfl⟩)
            | (go_at_call 50; have := H8s; refine (rbyte_any _ _ _ _ H8s.out.st.rd).mono ?_; rintro e w9 ⟨rfl, hr, hk⟩; have H9 := hid (H8s.out.kept (y := rd7 t) hk hr); have H9s := hid (H9.out.st5 (rN (rd6 t).s (rd6 t).sh 1 : Int)); clear hr hk; (try clear z0 z1 z2 z3 z4 z5); obtain ⟨⟨z0, z1⟩, z2, z3, z4, z5⟩ := H9.out.rq.cells; have f5 := free_at H9.out.rq 5; have HRs : Hid (RqAt (w9.setCell ⟨w2.heap.size, 5, none⟩ (.int .i64 (rN (rd6 t).s (rd6 t).sh 1 : Int))) w.heap.size zeroQ ∧ Below w.heap.size w (w9.setCell ⟨w2.heap.size, 5, none⟩ (.int .i64 (rN (rd6 t).s (rd6 t).sh 1 : Int)))) := hid ⟨H9s.out.st.res, H9s.out.st.bel⟩)
            | (have := H8; refine wl_store_f rfl _ _ rfl w2.heap.size 4 rfl (fromW (rdBits t)) rfl _ z4 f4 ?_; have H8s := hid (H8.out.st4 (fromW (rdBits t))))
            | (go_at_call 53; refine (HFb.out _).mono ?_; rintro e w12 ⟨rfl, rfl⟩)
            | (go_at_call 54; have := H7s; refine (rbits_any _ _ _ _ H7s.out.st.rd).mono ?_; rintro e w8 ⟨rfl, hr, hk⟩; have H8 := hid (H7s.out.kept (y := rd6 t) hk hr); clear hr hk; (try clear z0 z1 z2 z3 z4 z5); obtain ⟨⟨z0, z1⟩, z2, z3, z4, z5⟩ := H8.out.rq.cells; have f4 := free_at H8.out.rq 4; clear z0 z1 z2 z3 z5)
            | (go_at_call 52; have := H6s; refine (rtext_any _ _ _ _ H6s.out.st.rd).mono ?_; rintro e w7 ⟨rfl, hr, hk⟩; have H7 := hid (H6s.out.kept (y := rd5 t) hk hr); have H7s := hid (H7.out.st3 (tT (rd4 t).s (rd4 t).sh)); clear hr hk; (try clear z0 z1 z2 z3 z4 z5); obtain ⟨⟨z0, z1⟩, z2, z3, z4, z5⟩ := H7.out.rq.cells; have f3 := free_at H7.out.rq 3; clear z0 z1 z2 z4 z5)
            | (go_at_call 50; have := H5s; refine (rbyte_any _ _ _ _ H5s.out.st.rd).mono ?_; rintro e w6 ⟨rfl, hr, hk⟩; have H6 := hid (H5s.out.kept (y := rd4 t) hk hr); have H6s := hid (H6.out.st2 (rN (rd3 t).s (rd3 t).sh 1 : Int)); clear hr hk; (try clear z0 z1 z2 z3 z4 z5); obtain ⟨⟨z0, z1⟩, z2, z3, z4, z5⟩ := H6.out.rq.cells; have f2 := free_at H6.out.rq 2; clear z0 z1 z3 z4 z5)
            | (go_at_call 51; have := H4s; refine (rlong_any _ _ _ _ H4s.out.st.rd).mono ?_; rintro e w5 ⟨rfl, hr, hk⟩; have H5 := hid (H4s.out.kept (y := rd3 t) hk hr); have H5s := hid (H5.out.st1 (rN (rd2 t).s (rd2 t).sh 4 : Int)); clear hr hk; (try clear z0 z1 z2 z3 z4 z5); obtain ⟨⟨z0, z1⟩, z2, z3, z4, z5⟩ := H5.out.rq.cells; have f1 := free_at H5.out.rq 1; clear z0 z2 z3 z4 z5)
            | (go_at_call 50; have := H3; refine (rbyte_any _ _ _ _ H3.out.st.rd).mono ?_; rintro e w4 ⟨rfl, hr, hk⟩; have H4 := hid (H3.out.kept (y := rd2 t) hk hr); have H4s := hid (H4.out.st0 (rN (rd1 t).s (rd1 t).sh 1 : Int)); clear hr hk; (try clear z0 z1 z2 z3 z4 z5); obtain ⟨⟨z0, z1⟩, z2, z3, z4, z5⟩ := H4.out.rq.cells; have f0 := free_at H4.out.rq 0; clear z1 z2 z3 z4 z5)
            | (go_at_call 50; refine (rbyte_any _ _ _ _ H1.out.rd).mono ?_; rintro e w2 ⟨rfl, hr, hk⟩; have H2 := hid (H1.out.kept (y := rd1 t) hk hr); clear hr hk; have hax := (Below.refl w2.heap.size w2).alloc (Nat.le_refl _) (.cells #[.int .i64 0, .int .i64 0, .int .i64 0, .string ⟨#[]⟩, .float .f64 0, .int .i64 0] 30); have H3 : Hid (QxSt w (w2.alloc (.cells #[.int .i64 0, .int .i64 0, .int .i64 0, .string ⟨#[]⟩, .float .f64 0, .int .i64 0] 30)) (rd1 t) w2.heap.size zeroQ) := hid ⟨H2.out.keep hax, heap_alloc_last w2 _, lt_of_blk H2.out.rd⟩; clear hax)
            | (go_at_call 49; refine (read_any _ _).mono ?_; rintro e w1 ⟨rfl, rfl⟩))
          refine ret_pair (s := 2) (s2 := 3) (ad := ⟨w.heap.size, 0, none⟩) rfl rfl (load_rq _ _ zeroQ Hz.out.1) rfl rfl ?_
          refine ⟨?_, Hz.out.2.below HRs.out.2 (Nat.le_refl _)⟩
          rw [HV.out.1, HV.out.2]
          rfl
        | true =>
          have HFb := hid (HFr.out _ hD)
          cases hX : rightB (rdq t) with
          | false =>
            have HRb := hid (HR.out _ hX)
            have HV : Hid (rdR t = zeroQ ∧ rdE t = 5) := hid (by rw [HRd.out.1, HRd.out.2, HOk.out, hX]; simp)
            clear hD hh HFr HR HRd HOk hX he
            go_enter Try.func19, Try.ntmps19
            go_wp2_with (first
              | (have := HRs; refine wl_store_rq rfl _ _ rfl w.heap.size rfl zeroQ zeroQ rfl HRs.out.1 ?_; intro wz Hz)
              | (go_at_call 13; refine (HRb.out _).mono ?_; rintro e w10 ⟨rfl, hb10⟩; have H10 := hid (H9s.out.keep hb10); clear hb10; (try clear z0 z1 z2 z3 z4 z5); obtain ⟨⟨z0, z1⟩, z2, z3, z4, z5⟩ := H10.out.rq.cells; have HRs : Hid (RqAt w10 w.heap.size zeroQ ∧ Below w.heap.size w w10) := hid ⟨H10.out.st.res, H10.out.st.bel⟩)
              | (go_at_call 55; refine (end_any _ _ _ _ H9s.out.st.rd).mono ?_; rintro e w11 ⟨rfl, rfl⟩)
              | (go_at_call 50; have := H8s; refine (rbyte_any _ _ _ _ H8s.out.st.rd).mono ?_; rintro e w9 ⟨rfl, hr, hk⟩; have H9 := hid (H8s.out.kept (y := rd7 t) hk hr); have H9s := hid (H9.out.st5 (rN (rd6 t).s (rd6 t).sh 1 : Int)); clear hr hk; (try clear z0 z1 z2 z3 z4 z5); obtain ⟨⟨z0, z1⟩, z2, z3, z4, z5⟩ := H9.out.rq.cells; have f5 := free_at H9.out.rq 5; have HRs : Hid (RqAt (w9.setCell ⟨w2.heap.size, 5, none⟩ (.int .i64 (rN (rd6 t).s (rd6 t).sh 1 : Int))) w.heap.size zeroQ ∧ Below w.heap.size w (w9.setCell ⟨w2.heap.size, 5, none⟩ (.int .i64 (rN (rd6 t).s (rd6 t).sh 1 : Int)))) := hid ⟨H9s.out.st.res, H9s.out.st.bel⟩)
              | (have := H8; refine wl_store_f rfl _ _ rfl w2.heap.size 4 rfl (fromW (rdBits t)) rfl _ z4 f4 ?_; have H8s := hid (H8.out.st4 (fromW (rdBits t))))
              | (go_at_call 53; refine (HFb.out _).mono ?_; rintro e w12 ⟨rfl, rfl⟩)
              | (go_at_call 54; have := H7s; refine (rbits_any _ _ _ _ H7s.out.st.rd).mono ?_; rintro e w8 ⟨rfl, hr, hk⟩; have H8 := hid (H7s.out.kept (y := rd6 t) hk hr); clear hr hk; (try clear z0 z1 z2 z3 z4 z5); obtain ⟨⟨z0, z1⟩, z2, z3, z4, z5⟩ := H8.out.rq.cells; have f4 := free_at H8.out.rq 4; clear z0 z1 z2 z3 z5)
              | (go_at_call 52; have := H6s; refine (rtext_any _ _ _ _ H6s.out.st.rd).mono ?_; rintro e w7 ⟨rfl, hr, hk⟩; have H7 := hid (H6s.out.kept (y := rd5 t) hk hr); have H7s := hid (H7.out.st3 (tT (rd4 t).s (rd4 t).sh)); clear hr hk; (try clear z0 z1 z2 z3 z4 z5); obtain ⟨⟨z0, z1⟩, z2, z3, z4, z5⟩ := H7.out.rq.cells; have f3 := free_at H7.out.rq 3; clear z0 z1 z2 z4 z5)
              | (go_at_call 50; have := H5s; refine (rbyte_any _ _ _ _ H5s.out.st.rd).mono ?_; rintro e w6 ⟨rfl, hr, hk⟩; have H6 := hid (H5s.out.kept (y := rd4 t) hk hr); have H6s := hid (H6.out.st2 (rN (rd3 t).s (rd3 t).sh 1 : Int)); clear hr hk; (try clear z0 z1 z2 z3 z4 z5); obtain ⟨⟨z0, z1⟩, z2, z3, z4, z5⟩ := H6.out.rq.cells; have f2 := free_at H6.out.rq 2; clear z0 z1 z3 z4 z5)
              | (go_at_call 51; have := H4s; refine (rlong_any _ _ _ _ H4s.out.st.rd).mono ?_; rintro e w5 ⟨rfl, hr, hk⟩; have H5 := hid (H4s.out.kept (y := rd3 t) hk hr); have H5s := hid (H5.out.st1 (rN (rd2 t).s (rd2 t).sh 4 : Int)); clear hr hk; (try clear z0 z1 z2 z3 z4 z5); obtain ⟨⟨z0, z1⟩, z2, z3, z4, z5⟩ := H5.out.rq.cells; have f1 := free_at H5.out.rq 1; clear z0 z2 z3 z4 z5)
              | (go_at_call 50; have := H3; refine (rbyte_any _ _ _ _ H3.out.st.rd).mono ?_; rintro e w4 ⟨rfl, hr, hk⟩; have H4 := hid (H3.out.kept (y := rd2 t) hk hr); have H4s := hid (H4.out.st0 (rN (rd1 t).s (rd1 t).sh 1 : Int)); clear hr hk; (try clear z0 z1 z2 z3 z4 z5); obtain ⟨⟨z0, z1⟩, z2, z3, z4, z5⟩ := H4.out.rq.cells; have f0 := free_at H4.out.rq 0; clear z1 z2 z3 z4 z5)
              | (go_at_call 50; refine (rbyte_any _ _ _ _ H1.out.rd).mono ?_; rintro e w2 ⟨rfl, hr, hk⟩; have H2 := hid (H1.out.kept (y := rd1 t) hk hr); clear hr hk; have hax := (Below.refl w2.heap.size w2).alloc (Nat.le_refl _) (.cells #[.int .i64 0, .int .i64 0, .int .i64 0, .string ⟨#[]⟩, .float .f64 0, .int .i64 0] 30); have H3 : Hid (QxSt w (w2.alloc (.cells #[.int .i64 0, .int .i64 0, .int .i64 0, .string ⟨#[]⟩, .float .f64 0, .int .i64 0] 30)) (rd1 t) w2.heap.size zeroQ) := hid ⟨H2.out.keep hax, heap_alloc_last w2 _, lt_of_blk H2.out.rd⟩; clear hax)
              | (go_at_call 49; refine (read_any _ _).mono ?_; rintro e w1 ⟨rfl, rfl⟩))
            refine ret_pair (s := 2) (s2 := 3) (ad := ⟨w.heap.size, 0, none⟩) rfl rfl (load_rq _ _ zeroQ Hz.out.1) rfl rfl ?_
            refine ⟨?_, Hz.out.2.below HRs.out.2 (Nat.le_refl _)⟩
            rw [HV.out.1, HV.out.2]
            rfl
          | true =>
            have HRb := hid (HR.out _ hX)
            have HV : Hid (rdR t = rdq t ∧ rdE t = 0) := hid (by rw [HRd.out.1, HRd.out.2, HOk.out, hX, hD, hh, he]; simp)
            clear hD hh HFr HR HRd HOk hX he
            go_enter Try.func19, Try.ntmps19
            go_wp2_with (first
              | (have := HRs; refine wl_store_rq rfl _ _ rfl w.heap.size rfl zeroQ (rdq t) rfl HRs.out.1 ?_; intro wz Hz)
              | (go_at_call 13; refine (HRb.out _).mono ?_; rintro e w10 ⟨rfl, hb10⟩; have H10 := hid (H9s.out.keep hb10); clear hb10; (try clear z0 z1 z2 z3 z4 z5); obtain ⟨⟨z0, z1⟩, z2, z3, z4, z5⟩ := H10.out.rq.cells; have HRs : Hid (RqAt w10 w.heap.size zeroQ ∧ Below w.heap.size w w10) := hid ⟨H10.out.st.res, H10.out.st.bel⟩)
              | (go_at_call 55; refine (end_any _ _ _ _ H9s.out.st.rd).mono ?_; rintro e w11 ⟨rfl, rfl⟩)
              | (go_at_call 50; have := H8s; refine (rbyte_any _ _ _ _ H8s.out.st.rd).mono ?_; rintro e w9 ⟨rfl, hr, hk⟩; have H9 := hid (H8s.out.kept (y := rd7 t) hk hr); have H9s := hid (H9.out.st5 (rN (rd6 t).s (rd6 t).sh 1 : Int)); clear hr hk; (try clear z0 z1 z2 z3 z4 z5); obtain ⟨⟨z0, z1⟩, z2, z3, z4, z5⟩ := H9.out.rq.cells; have f5 := free_at H9.out.rq 5; have HRs : Hid (RqAt (w9.setCell ⟨w2.heap.size, 5, none⟩ (.int .i64 (rN (rd6 t).s (rd6 t).sh 1 : Int))) w.heap.size zeroQ ∧ Below w.heap.size w (w9.setCell ⟨w2.heap.size, 5, none⟩ (.int .i64 (rN (rd6 t).s (rd6 t).sh 1 : Int)))) := hid ⟨H9s.out.st.res, H9s.out.st.bel⟩)
              | (have := H8; refine wl_store_f rfl _ _ rfl w2.heap.size 4 rfl (fromW (rdBits t)) rfl _ z4 f4 ?_; have H8s := hid (H8.out.st4 (fromW (rdBits t))))
              | (go_at_call 53; refine (HFb.out _).mono ?_; rintro e w12 ⟨rfl, rfl⟩)
              | (go_at_call 54; have := H7s; refine (rbits_any _ _ _ _ H7s.out.st.rd).mono ?_; rintro e w8 ⟨rfl, hr, hk⟩; have H8 := hid (H7s.out.kept (y := rd6 t) hk hr); clear hr hk; (try clear z0 z1 z2 z3 z4 z5); obtain ⟨⟨z0, z1⟩, z2, z3, z4, z5⟩ := H8.out.rq.cells; have f4 := free_at H8.out.rq 4; clear z0 z1 z2 z3 z5)
              | (go_at_call 52; have := H6s; refine (rtext_any _ _ _ _ H6s.out.st.rd).mono ?_; rintro e w7 ⟨rfl, hr, hk⟩; have H7 := hid (H6s.out.kept (y := rd5 t) hk hr); have H7s := hid (H7.out.st3 (tT (rd4 t).s (rd4 t).sh)); clear hr hk; (try clear z0 z1 z2 z3 z4 z5); obtain ⟨⟨z0, z1⟩, z2, z3, z4, z5⟩ := H7.out.rq.cells; have f3 := free_at H7.out.rq 3; clear z0 z1 z2 z4 z5)
              | (go_at_call 50; have := H5s; refine (rbyte_any _ _ _ _ H5s.out.st.rd).mono ?_; rintro e w6 ⟨rfl, hr, hk⟩; have H6 := hid (H5s.out.kept (y := rd4 t) hk hr); have H6s := hid (H6.out.st2 (rN (rd3 t).s (rd3 t).sh 1 : Int)); clear hr hk; (try clear z0 z1 z2 z3 z4 z5); obtain ⟨⟨z0, z1⟩, z2, z3, z4, z5⟩ := H6.out.rq.cells; have f2 := free_at H6.out.rq 2; clear z0 z1 z3 z4 z5)
              | (go_at_call 51; have := H4s; refine (rlong_any _ _ _ _ H4s.out.st.rd).mono ?_; rintro e w5 ⟨rfl, hr, hk⟩; have H5 := hid (H4s.out.kept (y := rd3 t) hk hr); have H5s := hid (H5.out.st1 (rN (rd2 t).s (rd2 t).sh 4 : Int)); clear hr hk; (try clear z0 z1 z2 z3 z4 z5); obtain ⟨⟨z0, z1⟩, z2, z3, z4, z5⟩ := H5.out.rq.cells; have f1 := free_at H5.out.rq 1; clear z0 z2 z3 z4 z5)
              | (go_at_call 50; have := H3; refine (rbyte_any _ _ _ _ H3.out.st.rd).mono ?_; rintro e w4 ⟨rfl, hr, hk⟩; have H4 := hid (H3.out.kept (y := rd2 t) hk hr); have H4s := hid (H4.out.st0 (rN (rd1 t).s (rd1 t).sh 1 : Int)); clear hr hk; (try clear z0 z1 z2 z3 z4 z5); obtain ⟨⟨z0, z1⟩, z2, z3, z4, z5⟩ := H4.out.rq.cells; have f0 := free_at H4.out.rq 0; clear z1 z2 z3 z4 z5)
              | (go_at_call 50; refine (rbyte_any _ _ _ _ H1.out.rd).mono ?_; rintro e w2 ⟨rfl, hr, hk⟩; have H2 := hid (H1.out.kept (y := rd1 t) hk hr); clear hr hk; have hax := (Below.refl w2.heap.size w2).alloc (Nat.le_refl _) (.cells #[.int .i64 0, .int .i64 0, .int .i64 0, .string ⟨#[]⟩, .float .f64 0, .int .i64 0] 30); have H3 : Hid (QxSt w (w2.alloc (.cells #[.int .i64 0, .int .i64 0, .int .i64 0, .string ⟨#[]⟩, .float .f64 0, .int .i64 0] 30)) (rd1 t) w2.heap.size zeroQ) := hid ⟨H2.out.keep hax, heap_alloc_last w2 _, lt_of_blk H2.out.rd⟩; clear hax)
              | (go_at_call 49; refine (read_any _ _).mono ?_; rintro e w1 ⟨rfl, rfl⟩))
            refine ret_pair (s := 2) (s2 := 3) (ad := ⟨w.heap.size, 0, none⟩) rfl rfl (load_rq _ _ (rdq t) Hz.out.1) rfl rfl ?_
            refine ⟨?_, Hz.out.2.below HRs.out.2 (Nat.le_refl _)⟩
            rw [HV.out.1, HV.out.2]
            rfl
      · have hhb : ((rN t false 1 : Int) != 1) = true := by
          have : rN t false 1 ≠ 1 := hh
          simp
          omega
        have HFb := hid (HFr.out _ rfl)
        have HV : Hid (rdR t = zeroQ ∧ rdE t = 5) := hid (by rw [HRd.out.1, HRd.out.2, HOk.out]; simp [hh])
        clear hh HFr HR HRd HOk he
        go_enter Try.func19, Try.ntmps19
        go_wp2_with (first
          | (have := HRs; refine wl_store_rq rfl _ _ rfl w.heap.size rfl zeroQ zeroQ rfl HRs.out.1 ?_; intro wz Hz)
          | (go_at_call 13; refine (HRb.out _).mono ?_; rintro e w10 ⟨rfl, hb10⟩; have H10 := hid (H9s.out.keep hb10); clear hb10; (try clear z0 z1 z2 z3 z4 z5); obtain ⟨⟨z0, z1⟩, z2, z3, z4, z5⟩ := H10.out.rq.cells; have HRs : Hid (RqAt w10 w.heap.size zeroQ ∧ Below w.heap.size w w10) := hid ⟨H10.out.st.res, H10.out.st.bel⟩)
          | (go_at_call 55; refine (end_any _ _ _ _ H9s.out.st.rd).mono ?_; rintro e w11 ⟨rfl, rfl⟩)
          | (go_at_call 50; have := H8s; refine (rbyte_any _ _ _ _ H8s.out.st.rd).mono ?_; rintro e w9 ⟨rfl, hr, hk⟩; have H9 := hid (H8s.out.kept (y := rd7 t) hk hr); have H9s := hid (H9.out.st5 (rN (rd6 t).s (rd6 t).sh 1 : Int)); clear hr hk; (try clear z0 z1 z2 z3 z4 z5); obtain ⟨⟨z0, z1⟩, z2, z3, z4, z5⟩ := H9.out.rq.cells; have f5 := free_at H9.out.rq 5; have HRs : Hid (RqAt (w9.setCell ⟨w2.heap.size, 5, none⟩ (.int .i64 (rN (rd6 t).s (rd6 t).sh 1 : Int))) w.heap.size zeroQ ∧ Below w.heap.size w (w9.setCell ⟨w2.heap.size, 5, none⟩ (.int .i64 (rN (rd6 t).s (rd6 t).sh 1 : Int)))) := hid ⟨H9s.out.st.res, H9s.out.st.bel⟩)
          | (have := H8; refine wl_store_f rfl _ _ rfl w2.heap.size 4 rfl (fromW (rdBits t)) rfl _ z4 f4 ?_; have H8s := hid (H8.out.st4 (fromW (rdBits t))))
          | (go_at_call 53; refine (HFb.out _).mono ?_; rintro e w12 ⟨rfl, rfl⟩)
          | (go_at_call 54; have := H7s; refine (rbits_any _ _ _ _ H7s.out.st.rd).mono ?_; rintro e w8 ⟨rfl, hr, hk⟩; have H8 := hid (H7s.out.kept (y := rd6 t) hk hr); clear hr hk; (try clear z0 z1 z2 z3 z4 z5); obtain ⟨⟨z0, z1⟩, z2, z3, z4, z5⟩ := H8.out.rq.cells; have f4 := free_at H8.out.rq 4; clear z0 z1 z2 z3 z5)
          | (go_at_call 52; have := H6s; refine (rtext_any _ _ _ _ H6s.out.st.rd).mono ?_; rintro e w7 ⟨rfl, hr, hk⟩; have H7 := hid (H6s.out.kept (y := rd5 t) hk hr); have H7s := hid (H7.out.st3 (tT (rd4 t).s (rd4 t).sh)); clear hr hk; (try clear z0 z1 z2 z3 z4 z5); obtain ⟨⟨z0, z1⟩, z2, z3, z4, z5⟩ := H7.out.rq.cells; have f3 := free_at H7.out.rq 3; clear z0 z1 z2 z4 z5)
          | (go_at_call 50; have := H5s; refine (rbyte_any _ _ _ _ H5s.out.st.rd).mono ?_; rintro e w6 ⟨rfl, hr, hk⟩; have H6 := hid (H5s.out.kept (y := rd4 t) hk hr); have H6s := hid (H6.out.st2 (rN (rd3 t).s (rd3 t).sh 1 : Int)); clear hr hk; (try clear z0 z1 z2 z3 z4 z5); obtain ⟨⟨z0, z1⟩, z2, z3, z4, z5⟩ := H6.out.rq.cells; have f2 := free_at H6.out.rq 2; clear z0 z1 z3 z4 z5)
          | (go_at_call 51; have := H4s; refine (rlong_any _ _ _ _ H4s.out.st.rd).mono ?_; rintro e w5 ⟨rfl, hr, hk⟩; have H5 := hid (H4s.out.kept (y := rd3 t) hk hr); have H5s := hid (H5.out.st1 (rN (rd2 t).s (rd2 t).sh 4 : Int)); clear hr hk; (try clear z0 z1 z2 z3 z4 z5); obtain ⟨⟨z0, z1⟩, z2, z3, z4, z5⟩ := H5.out.rq.cells; have f1 := free_at H5.out.rq 1; clear z0 z2 z3 z4 z5)
          | (go_at_call 50; have := H3; refine (rbyte_any _ _ _ _ H3.out.st.rd).mono ?_; rintro e w4 ⟨rfl, hr, hk⟩; have H4 := hid (H3.out.kept (y := rd2 t) hk hr); have H4s := hid (H4.out.st0 (rN (rd1 t).s (rd1 t).sh 1 : Int)); clear hr hk; (try clear z0 z1 z2 z3 z4 z5); obtain ⟨⟨z0, z1⟩, z2, z3, z4, z5⟩ := H4.out.rq.cells; have f0 := free_at H4.out.rq 0; clear z1 z2 z3 z4 z5)
          | (go_at_call 50; refine (rbyte_any _ _ _ _ H1.out.rd).mono ?_; rintro e w2 ⟨rfl, hr, hk⟩; have H2 := hid (H1.out.kept (y := rd1 t) hk hr); clear hr hk; have hax := (Below.refl w2.heap.size w2).alloc (Nat.le_refl _) (.cells #[.int .i64 0, .int .i64 0, .int .i64 0, .string ⟨#[]⟩, .float .f64 0, .int .i64 0] 30); have H3 : Hid (QxSt w (w2.alloc (.cells #[.int .i64 0, .int .i64 0, .int .i64 0, .string ⟨#[]⟩, .float .f64 0, .int .i64 0] 30)) (rd1 t) w2.heap.size zeroQ) := hid ⟨H2.out.keep hax, heap_alloc_last w2 _, lt_of_blk H2.out.rd⟩; clear hax)
          | (go_at_call 49; refine (read_any _ _).mono ?_; rintro e w1 ⟨rfl, rfl⟩))
        refine ret_pair (s := 2) (s2 := 3) (ad := ⟨w.heap.size, 0, none⟩) rfl rfl (load_rq _ _ zeroQ Hz.out.1) rfl rfl ?_
        refine ⟨?_, Hz.out.2.below HRs.out.2 (Nat.le_refl _)⟩
        rw [HV.out.1, HV.out.2]
        rfl
    · have heb : (endOf (rd7 t).s (rd7 t).sh != 0) = true := by simpa using he
      have HFb := hid (HFr.out _ rfl)
      have HV : Hid (rdR t = zeroQ ∧ rdE t = 5) := hid (by rw [HRd.out.1, HRd.out.2, HOk.out]; simp [he])
      clear HFr HR HRd HOk he
      go_enter Try.func19, Try.ntmps19
      go_wp2_with (first
        | (have := HRs; refine wl_store_rq rfl _ _ rfl w.heap.size rfl zeroQ zeroQ rfl HRs.out.1 ?_; intro wz Hz)
        | (go_at_call 13; refine (HRb.out _).mono ?_; rintro e w10 ⟨rfl, hb10⟩; have H10 := hid (H9s.out.keep hb10); clear hb10; (try clear z0 z1 z2 z3 z4 z5); obtain ⟨⟨z0, z1⟩, z2, z3, z4, z5⟩ := H10.out.rq.cells; have HRs : Hid (RqAt w10 w.heap.size zeroQ ∧ Below w.heap.size w w10) := hid ⟨H10.out.st.res, H10.out.st.bel⟩)
        | (go_at_call 55; refine (end_any _ _ _ _ H9s.out.st.rd).mono ?_; rintro e w11 ⟨rfl, rfl⟩)
        | (go_at_call 50; have := H8s; refine (rbyte_any _ _ _ _ H8s.out.st.rd).mono ?_; rintro e w9 ⟨rfl, hr, hk⟩; have H9 := hid (H8s.out.kept (y := rd7 t) hk hr); have H9s := hid (H9.out.st5 (rN (rd6 t).s (rd6 t).sh 1 : Int)); clear hr hk; (try clear z0 z1 z2 z3 z4 z5); obtain ⟨⟨z0, z1⟩, z2, z3, z4, z5⟩ := H9.out.rq.cells; have f5 := free_at H9.out.rq 5; have HRs : Hid (RqAt (w9.setCell ⟨w2.heap.size, 5, none⟩ (.int .i64 (rN (rd6 t).s (rd6 t).sh 1 : Int))) w.heap.size zeroQ ∧ Below w.heap.size w (w9.setCell ⟨w2.heap.size, 5, none⟩ (.int .i64 (rN (rd6 t).s (rd6 t).sh 1 : Int)))) := hid ⟨H9s.out.st.res, H9s.out.st.bel⟩)
        | (have := H8; refine wl_store_f rfl _ _ rfl w2.heap.size 4 rfl (fromW (rdBits t)) rfl _ z4 f4 ?_; have H8s := hid (H8.out.st4 (fromW (rdBits t))))
        | (go_at_call 53; refine (HFb.out _).mono ?_; rintro e w12 ⟨rfl, rfl⟩)
        | (go_at_call 54; have := H7s; refine (rbits_any _ _ _ _ H7s.out.st.rd).mono ?_; rintro e w8 ⟨rfl, hr, hk⟩; have H8 := hid (H7s.out.kept (y := rd6 t) hk hr); clear hr hk; (try clear z0 z1 z2 z3 z4 z5); obtain ⟨⟨z0, z1⟩, z2, z3, z4, z5⟩ := H8.out.rq.cells; have f4 := free_at H8.out.rq 4; clear z0 z1 z2 z3 z5)
        | (go_at_call 52; have := H6s; refine (rtext_any _ _ _ _ H6s.out.st.rd).mono ?_; rintro e w7 ⟨rfl, hr, hk⟩; have H7 := hid (H6s.out.kept (y := rd5 t) hk hr); have H7s := hid (H7.out.st3 (tT (rd4 t).s (rd4 t).sh)); clear hr hk; (try clear z0 z1 z2 z3 z4 z5); obtain ⟨⟨z0, z1⟩, z2, z3, z4, z5⟩ := H7.out.rq.cells; have f3 := free_at H7.out.rq 3; clear z0 z1 z2 z4 z5)
        | (go_at_call 50; have := H5s; refine (rbyte_any _ _ _ _ H5s.out.st.rd).mono ?_; rintro e w6 ⟨rfl, hr, hk⟩; have H6 := hid (H5s.out.kept (y := rd4 t) hk hr); have H6s := hid (H6.out.st2 (rN (rd3 t).s (rd3 t).sh 1 : Int)); clear hr hk; (try clear z0 z1 z2 z3 z4 z5); obtain ⟨⟨z0, z1⟩, z2, z3, z4, z5⟩ := H6.out.rq.cells; have f2 := free_at H6.out.rq 2; clear z0 z1 z3 z4 z5)
        | (go_at_call 51; have := H4s; refine (rlong_any _ _ _ _ H4s.out.st.rd).mono ?_; rintro e w5 ⟨rfl, hr, hk⟩; have H5 := hid (H4s.out.kept (y := rd3 t) hk hr); have H5s := hid (H5.out.st1 (rN (rd2 t).s (rd2 t).sh 4 : Int)); clear hr hk; (try clear z0 z1 z2 z3 z4 z5); obtain ⟨⟨z0, z1⟩, z2, z3, z4, z5⟩ := H5.out.rq.cells; have f1 := free_at H5.out.rq 1; clear z0 z2 z3 z4 z5)
        | (go_at_call 50; have := H3; refine (rbyte_any _ _ _ _ H3.out.st.rd).mono ?_; rintro e w4 ⟨rfl, hr, hk⟩; have H4 := hid (H3.out.kept (y := rd2 t) hk hr); have H4s := hid (H4.out.st0 (rN (rd1 t).s (rd1 t).sh 1 : Int)); clear hr hk; (try clear z0 z1 z2 z3 z4 z5); obtain ⟨⟨z0, z1⟩, z2, z3, z4, z5⟩ := H4.out.rq.cells; have f0 := free_at H4.out.rq 0; clear z1 z2 z3 z4 z5)
        | (go_at_call 50; refine (rbyte_any _ _ _ _ H1.out.rd).mono ?_; rintro e w2 ⟨rfl, hr, hk⟩; have H2 := hid (H1.out.kept (y := rd1 t) hk hr); clear hr hk; have hax := (Below.refl w2.heap.size w2).alloc (Nat.le_refl _) (.cells #[.int .i64 0, .int .i64 0, .int .i64 0, .string ⟨#[]⟩, .float .f64 0, .int .i64 0] 30); have H3 : Hid (QxSt w (w2.alloc (.cells #[.int .i64 0, .int .i64 0, .int .i64 0, .string ⟨#[]⟩, .float .f64 0, .int .i64 0] 30)) (rd1 t) w2.heap.size zeroQ) := hid ⟨H2.out.keep hax, heap_alloc_last w2 _, lt_of_blk H2.out.rd⟩; clear hax)
        | (go_at_call 49; refine (read_any _ _).mono ?_; rintro e w1 ⟨rfl, rfl⟩))
      refine ret_pair (s := 2) (s2 := 3) (ad := ⟨w.heap.size, 0, none⟩) rfl rfl (load_rq _ _ zeroQ Hz.out.1) rfl rfl ?_
      refine ⟨?_, Hz.out.2.below HRs.out.2 (Nat.le_refl _)⟩
      rw [HV.out.1, HV.out.2]
      rfl
/-- While bytes are read as a result. -/
structure ZrSt (w0 w : World) (x : Rd) : Prop where
  res : RsAt w w0.heap.size 0 0
  rd : RdAt w (w0.heap.size + 1) x.s x.sh
  bel : Below w0.heap.size w0 w
theorem ZrSt.kept {w0 w w' : World} {x y : Rd} (h : ZrSt w0 w x) (k : Kept (w0.heap.size + 1) none w w') (hr : RdAt w' (w0.heap.size + 1) y.s y.sh) : ZrSt w0 w' y :=
  ⟨(k.block _ (lt_of_blk h.res) (by omega) (by simp)).trans h.res, hr, h.bel.trans (k.below (Nat.le_of_lt (lt_of_blk h.res)) (by omega) (fun g hg => by cases hg))⟩
theorem ZrSt.keep {w0 w w' : World} {x : Rd} (h : ZrSt w0 w x) (hb : Below w.heap.size w w') : ZrSt w0 w' x :=
  ⟨h.res.keep hb, (hb.block _ (lt_of_blk h.rd)).trans h.rd, h.bel.trans (hb.mono h.bel.size)⟩
theorem ZrSt.one {w0 w w' : World} {x : Rd} (h : ZrSt w0 w x) {b : Nat} (hb : w0.heap.size + 2 ≤ b) (ho : One b w w') : ZrSt w0 w' x :=
  ⟨(ho.block _ (by omega)).trans h.res, (ho.block _ (by omega)).trans h.rd, ho.below h.bel (by omega)⟩
structure ZxSt (w0 w : World) (x : Rd) (b : Nat) (c : Int) (f : Nat) : Prop where
  st : ZrSt w0 w x
  rs : RsAt w b c f
  hb : w0.heap.size + 2 ≤ b
theorem ZxSt.keep {w0 w w' : World} {x : Rd} {b : Nat} {c : Int} {f : Nat} (h : ZxSt w0 w x b c f) (hb : Below w.heap.size w w') : ZxSt w0 w' x b c f := ⟨h.st.keep hb, h.rs.keep hb, h.hb⟩
set_option maxRecDepth 100000 in
set_option maxHeartbeats 12800000 in
theorem dreadResult_any (t : ByteArray) (w : World) : Calls Try.prog 21 #[.string t] w fun e w' => e = .returned (.tuple #[.agg #[.int .i64 (rsC t), .float .f64 (rsF t)], .int .i64 (rsR t)]) ∧ Below w.heap.size w w' := by
  have H0 : Hid (RsAt (w.alloc (.cells #[.int .i64 0, .float .f64 0] 41)) w.heap.size 0 0 ∧ Below w.heap.size w (w.alloc (.cells #[.int .i64 0, .float .f64 0] 41))) := hid ⟨heap_alloc_last w _, (Below.refl _ _).alloc (Nat.le_refl _) _⟩
  have hbx := (Below.refl (w.alloc (.cells #[.int .i64 0, .float .f64 0] 41)).heap.size (w.alloc (.cells #[.int .i64 0, .float .f64 0] 41))).alloc (Nat.le_refl _) (.cells #[.string t, .bool false] 93)
  have H1 : Hid (ZrSt w ((w.alloc (.cells #[.int .i64 0, .float .f64 0] 41)).alloc (.cells #[.string t, .bool false] 93)) ⟨t, false⟩) := hid ⟨H0.out.1.keep hbx, snd_alloc w _ _, H0.out.2.trans (hbx.mono (by simp))⟩
  have HFr : Hid (∀ (X : Bool), (canW (rsBits t) == rsBits t) = X → ∀ u, Calls Try.prog 53 #[.int .u64 ((rsBits t : Nat) : Int)] u fun e w' => e = .returned (.tuple #[.float .f64 (fromW (rsBits t)), .bool X]) ∧ w' = u) := hid (fun X hX u => by rw [← hX]; exact from_any (rsBits t) u)
  have HR : Hid (∀ (X : Bool), rsB (rN t false 1 : Int) = X → ∀ u, Calls Try.prog 61 #[.agg #[.int .i64 (rN t false 1 : Int), .float .f64 (fromW (rsBits t))]] u fun e w' => e = .returned (.bool X) ∧ Below u.heap.size u w') := hid (fun X hX u => by rw [← hX]; exact dresult_any (rN t false 1 : Int) (fromW (rsBits t)) u)
  have HOk : Hid (okRs t = (((canW (rsBits t) == rsBits t) && decide (endOf (rsEnd t).s (rsEnd t).sh = 0)) && rsB (rN t false 1 : Int))) := hid (by
    have h : decide (rsCode t ≤ 8) = rsB (rN t false 1 : Int) := by
      rw [rsB, Bool.eq_iff_iff]
      show decide (rN t false 1 ≤ 8) = true ↔ _
      simp only [Bool.and_eq_true, decide_eq_true_eq]
      omega
    rw [okRs, h])
  clear hbx
  by_cases he : endOf (rsEnd t).s (rsEnd t).sh = 0
  · have heb : (endOf (rsEnd t).s (rsEnd t).sh != 0) = false := by rw [he]; rfl
    cases hD : (canW (rsBits t) == rsBits t) with
    | false =>
      have HFb := hid (HFr.out _ hD)
      have HV : Hid (rsC t = 0 ∧ rsF t = 0 ∧ rsR t = 5) := hid (by have h : okRs t = false := (by rw [HOk.out, hD]; simp); rw [rsC, rsF, rsR, h]; simp)
      clear hD HFr HR HOk he
      go_enter Try.func21, Try.ntmps21
      go_wp2_with (first
        | (have := HRs; refine wl_store_rs rfl _ _ rfl w.heap.size rfl 0 0 0 0 rfl HRs.out.1 ?_; intro wz Hz)
        | (go_at_call 61; refine (HRb.out _).mono ?_; rintro e w10 ⟨rfl, hb10⟩; have H10 := hid (H4.out.keep hb10); clear hb10; (try clear z0 z1); obtain ⟨z0, z1⟩ := H10.out.rs.cells; have HRs : Hid (RsAt w10 w.heap.size 0 0 ∧ Below w.heap.size w w10) := hid ⟨H10.out.st.res, H10.out.st.bel⟩)
        | (go_at_call 55; refine (end_any _ _ _ _ H4.out.st.rd).mono ?_; rintro e w11 ⟨rfl, rfl⟩; have HRs : Hid (RsAt w11 w.heap.size 0 0 ∧ Below w.heap.size w w11) := hid ⟨H4.out.st.res, H4.out.st.bel⟩)
        | (have := H3; refine wl_store_rs rfl _ _ rfl w12.heap.size rfl 0 (rN t false 1 : Int) 0 (fromW (rsBits t)) rfl (heap_alloc_last w12 _) ?_; intro w4 Hq; have hax := (Below.refl w12.heap.size w12).alloc (Nat.le_refl _) (.cells #[.int .i64 0, .float .f64 0] 41); have H4 : Hid (ZxSt w w4 (rsEnd t) w12.heap.size (rN t false 1 : Int) (fromW (rsBits t))) := hid ⟨(H3.out.keep hax).one (lt_of_blk H3.out.rd) Hq.out.2, Hq.out.1, lt_of_blk H3.out.rd⟩; clear hax; obtain ⟨z0, z1⟩ := H4.out.rs.cells)
        | (go_at_call 53; refine (HFb.out _).mono ?_; rintro e w12 ⟨rfl, rfl⟩; have H3 : Hid (ZrSt w w12 (rsEnd t)) := H3p)
        | (go_at_call 54; refine (rbits_any _ _ _ _ H2.out.rd).mono ?_; rintro e w3 ⟨rfl, hr, hk⟩; have H3p := hid (H2.out.kept (y := rsEnd t) hk hr); clear hr hk)
        | (go_at_call 50; refine (rbyte_any _ _ _ _ H1.out.rd).mono ?_; rintro e w2 ⟨rfl, hr, hk⟩; have H2 := hid (H1.out.kept (y := rd1 t) hk hr); clear hr hk)
        | (go_at_call 49; refine (read_any _ _).mono ?_; rintro e w1 ⟨rfl, rfl⟩))
      refine ret_pair (s := 2) (s2 := 3) (ad := ⟨w.heap.size, 0, none⟩) rfl rfl (load_rs _ _ 0 0 Hz.out.1) rfl rfl ?_
      refine ⟨?_, Hz.out.2.below HRs.out.2 (Nat.le_refl _)⟩
      rw [HV.out.1, HV.out.2.1, HV.out.2.2]
      rfl
    | true =>
      have HFb := hid (HFr.out _ hD)
      cases hX : rsB (rN t false 1 : Int) with
      | false =>
        have HRb := hid (HR.out _ hX)
        have HV : Hid (rsC t = 0 ∧ rsF t = 0 ∧ rsR t = 5) := hid (by have h : okRs t = false := (by rw [HOk.out, hX]; simp); rw [rsC, rsF, rsR, h]; simp)
        clear hD HFr HR HOk he hX
        go_enter Try.func21, Try.ntmps21
        go_wp2_with (first
          | (have := HRs; refine wl_store_rs rfl _ _ rfl w.heap.size rfl 0 0 0 0 rfl HRs.out.1 ?_; intro wz Hz)
          | (go_at_call 61; refine (HRb.out _).mono ?_; rintro e w10 ⟨rfl, hb10⟩; have H10 := hid (H4.out.keep hb10); clear hb10; (try clear z0 z1); obtain ⟨z0, z1⟩ := H10.out.rs.cells; have HRs : Hid (RsAt w10 w.heap.size 0 0 ∧ Below w.heap.size w w10) := hid ⟨H10.out.st.res, H10.out.st.bel⟩)
          | (go_at_call 55; refine (end_any _ _ _ _ H4.out.st.rd).mono ?_; rintro e w11 ⟨rfl, rfl⟩; have HRs : Hid (RsAt w11 w.heap.size 0 0 ∧ Below w.heap.size w w11) := hid ⟨H4.out.st.res, H4.out.st.bel⟩)
          | (have := H3; refine wl_store_rs rfl _ _ rfl w12.heap.size rfl 0 (rN t false 1 : Int) 0 (fromW (rsBits t)) rfl (heap_alloc_last w12 _) ?_; intro w4 Hq; have hax := (Below.refl w12.heap.size w12).alloc (Nat.le_refl _) (.cells #[.int .i64 0, .float .f64 0] 41); have H4 : Hid (ZxSt w w4 (rsEnd t) w12.heap.size (rN t false 1 : Int) (fromW (rsBits t))) := hid ⟨(H3.out.keep hax).one (lt_of_blk H3.out.rd) Hq.out.2, Hq.out.1, lt_of_blk H3.out.rd⟩; clear hax; obtain ⟨z0, z1⟩ := H4.out.rs.cells)
          | (go_at_call 53; refine (HFb.out _).mono ?_; rintro e w12 ⟨rfl, rfl⟩; have H3 : Hid (ZrSt w w12 (rsEnd t)) := H3p)
          | (go_at_call 54; refine (rbits_any _ _ _ _ H2.out.rd).mono ?_; rintro e w3 ⟨rfl, hr, hk⟩; have H3p := hid (H2.out.kept (y := rsEnd t) hk hr); clear hr hk)
          | (go_at_call 50; refine (rbyte_any _ _ _ _ H1.out.rd).mono ?_; rintro e w2 ⟨rfl, hr, hk⟩; have H2 := hid (H1.out.kept (y := rd1 t) hk hr); clear hr hk)
          | (go_at_call 49; refine (read_any _ _).mono ?_; rintro e w1 ⟨rfl, rfl⟩))
        refine ret_pair (s := 2) (s2 := 3) (ad := ⟨w.heap.size, 0, none⟩) rfl rfl (load_rs _ _ 0 0 Hz.out.1) rfl rfl ?_
        refine ⟨?_, Hz.out.2.below HRs.out.2 (Nat.le_refl _)⟩
        rw [HV.out.1, HV.out.2.1, HV.out.2.2]
        rfl
      | true =>
        have HRb := hid (HR.out _ hX)
        have HV : Hid (rsC t = rsCode t ∧ rsF t = fromW (rsBits t) ∧ rsR t = 0) := hid (by have h : okRs t = true := (by rw [HOk.out, hX, hD, he]; simp); rw [rsC, rsF, rsR, h]; simp)
        clear hD HFr HR HOk he hX
        go_enter Try.func21, Try.ntmps21
        go_wp2_with (first
          | (have := HRs; refine wl_store_rs rfl _ _ rfl w.heap.size rfl 0 (rN t false 1 : Int) 0 (fromW (rsBits t)) rfl HRs.out.1 ?_; intro wz Hz)
          | (go_at_call 61; refine (HRb.out _).mono ?_; rintro e w10 ⟨rfl, hb10⟩; have H10 := hid (H4.out.keep hb10); clear hb10; (try clear z0 z1); obtain ⟨z0, z1⟩ := H10.out.rs.cells; have HRs : Hid (RsAt w10 w.heap.size 0 0 ∧ Below w.heap.size w w10) := hid ⟨H10.out.st.res, H10.out.st.bel⟩)
          | (go_at_call 55; refine (end_any _ _ _ _ H4.out.st.rd).mono ?_; rintro e w11 ⟨rfl, rfl⟩; have HRs : Hid (RsAt w11 w.heap.size 0 0 ∧ Below w.heap.size w w11) := hid ⟨H4.out.st.res, H4.out.st.bel⟩)
          | (have := H3; refine wl_store_rs rfl _ _ rfl w12.heap.size rfl 0 (rN t false 1 : Int) 0 (fromW (rsBits t)) rfl (heap_alloc_last w12 _) ?_; intro w4 Hq; have hax := (Below.refl w12.heap.size w12).alloc (Nat.le_refl _) (.cells #[.int .i64 0, .float .f64 0] 41); have H4 : Hid (ZxSt w w4 (rsEnd t) w12.heap.size (rN t false 1 : Int) (fromW (rsBits t))) := hid ⟨(H3.out.keep hax).one (lt_of_blk H3.out.rd) Hq.out.2, Hq.out.1, lt_of_blk H3.out.rd⟩; clear hax; obtain ⟨z0, z1⟩ := H4.out.rs.cells)
          | (go_at_call 53; refine (HFb.out _).mono ?_; rintro e w12 ⟨rfl, rfl⟩; have H3 : Hid (ZrSt w w12 (rsEnd t)) := H3p)
          | (go_at_call 54; refine (rbits_any _ _ _ _ H2.out.rd).mono ?_; rintro e w3 ⟨rfl, hr, hk⟩; have H3p := hid (H2.out.kept (y := rsEnd t) hk hr); clear hr hk)
          | (go_at_call 50; refine (rbyte_any _ _ _ _ H1.out.rd).mono ?_; rintro e w2 ⟨rfl, hr, hk⟩; have H2 := hid (H1.out.kept (y := rd1 t) hk hr); clear hr hk)
          | (go_at_call 49; refine (read_any _ _).mono ?_; rintro e w1 ⟨rfl, rfl⟩))
        refine ret_pair (s := 2) (s2 := 3) (ad := ⟨w.heap.size, 0, none⟩) rfl rfl (load_rs _ _ (rN t false 1 : Int) (fromW (rsBits t)) Hz.out.1) rfl rfl ?_
        refine ⟨?_, Hz.out.2.below HRs.out.2 (Nat.le_refl _)⟩
        rw [HV.out.1, HV.out.2.1, HV.out.2.2]
        rfl
  · have heb : (endOf (rsEnd t).s (rsEnd t).sh != 0) = true := by simpa using he
    have HFb := hid (HFr.out _ rfl)
    have HV : Hid (rsC t = 0 ∧ rsF t = 0 ∧ rsR t = 5) := hid (by have h : okRs t = false := (by rw [HOk.out]; simp [he]); rw [rsC, rsF, rsR, h]; simp)
    clear HFr HR HOk he
    go_enter Try.func21, Try.ntmps21
    go_wp2_with (first
      | (have := HRs; refine wl_store_rs rfl _ _ rfl w.heap.size rfl 0 0 0 0 rfl HRs.out.1 ?_; intro wz Hz)
      | (go_at_call 61; refine (HRb.out _).mono ?_; rintro e w10 ⟨rfl, hb10⟩; have H10 := hid (H4.out.keep hb10); clear hb10; (try clear z0 z1); obtain ⟨z0, z1⟩ := H10.out.rs.cells; have HRs : Hid (RsAt w10 w.heap.size 0 0 ∧ Below w.heap.size w w10) := hid ⟨H10.out.st.res, H10.out.st.bel⟩)
      | (go_at_call 55; refine (end_any _ _ _ _ H4.out.st.rd).mono ?_; rintro e w11 ⟨rfl, rfl⟩; have HRs : Hid (RsAt w11 w.heap.size 0 0 ∧ Below w.heap.size w w11) := hid ⟨H4.out.st.res, H4.out.st.bel⟩)
      | (have := H3; refine wl_store_rs rfl _ _ rfl w12.heap.size rfl 0 (rN t false 1 : Int) 0 (fromW (rsBits t)) rfl (heap_alloc_last w12 _) ?_; intro w4 Hq; have hax := (Below.refl w12.heap.size w12).alloc (Nat.le_refl _) (.cells #[.int .i64 0, .float .f64 0] 41); have H4 : Hid (ZxSt w w4 (rsEnd t) w12.heap.size (rN t false 1 : Int) (fromW (rsBits t))) := hid ⟨(H3.out.keep hax).one (lt_of_blk H3.out.rd) Hq.out.2, Hq.out.1, lt_of_blk H3.out.rd⟩; clear hax; obtain ⟨z0, z1⟩ := H4.out.rs.cells)
      | (go_at_call 53; refine (HFb.out _).mono ?_; rintro e w12 ⟨rfl, rfl⟩; have H3 : Hid (ZrSt w w12 (rsEnd t)) := H3p)
      | (go_at_call 54; refine (rbits_any _ _ _ _ H2.out.rd).mono ?_; rintro e w3 ⟨rfl, hr, hk⟩; have H3p := hid (H2.out.kept (y := rsEnd t) hk hr); clear hr hk)
      | (go_at_call 50; refine (rbyte_any _ _ _ _ H1.out.rd).mono ?_; rintro e w2 ⟨rfl, hr, hk⟩; have H2 := hid (H1.out.kept (y := rd1 t) hk hr); clear hr hk)
      | (go_at_call 49; refine (read_any _ _).mono ?_; rintro e w1 ⟨rfl, rfl⟩))
    refine ret_pair (s := 2) (s2 := 3) (ad := ⟨w.heap.size, 0, none⟩) rfl rfl (load_rs _ _ 0 0 Hz.out.1) rfl rfl ?_
    refine ⟨?_, Hz.out.2.below HRs.out.2 (Nat.le_refl _)⟩
    rw [HV.out.1, HV.out.2.1, HV.out.2.2]
    rfl
end Go.Proofs.Ytpgfdnmlkaoigaa
