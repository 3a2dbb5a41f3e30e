/- Texts laid together: DsE DsF DsG DsH. -/
import Derived.Test.YtecidbdbdnnglaaGreatDsDM
import Derived.Test.YtecidbdbdnnglaaGreatDsSM
import Derived.Test.YtecidbdbdnnglaaGreatMrRM
import Derived.Test.YtecidbdbdnnglaaGreatMy1
import Derived.Test.YtecidbdbdnnglaaGreatMy3
import Derived.Deep.QuietTactic
/- What the document reads any bytes as: a request. -/
namespace Go.Proofs.YtecidbdbdnnglaaGreat
open Go.RowKit

theorem rq_st {w : World} {b : Nat} {r : Rq} (h : RqAt w b r) (v : Int) : RqAt (w.setCell ⟨b, 1, none⟩ (.int .i64 v)) b { r with st := v } := (blk_set h 1 _).trans (by simp)
theorem rq_k {w : World} {b : Nat} {r : Rq} (h : RqAt w b r) (v : Int) : RqAt (w.setCell ⟨b, 2, none⟩ (.int .i64 v)) b { r with k := v } := (blk_set h 2 _).trans (by simp)
theorem rq_key {w : World} {b : Nat} {r : Rq} (h : RqAt w b r) (v : ByteArray) : RqAt (w.setCell ⟨b, 3, none⟩ (.string v)) b { r with key := v } := (blk_set h 3 _).trans (by simp)
theorem rq_b {w : World} {b : Nat} {r : Rq} (h : RqAt w b r) (v : Nat) : RqAt (w.setCell ⟨b, 4, none⟩ (.float .f64 v)) b { r with b := v } := (blk_set h 4 _).trans (by simp)
theorem rq_id {w : World} {b : Nat} {r : Rq} (h : RqAt w b r) (v : Int) : RqAt (w.setCell ⟨b, 5, none⟩ (.int .i64 v)) b { r with id := v } := (blk_set h 5 _).trans (by simp)
theorem load_rq (w : World) (b : Nat) (r : Rq) (h : RqAt w b r) : (loadVar 56 ⟨b, 0, none⟩).run Tryz.prog w = .ok (.agg #[.int .i64 r.c, .int .i64 r.st, .int .i64 r.k, .string r.key, .float .f64 r.b, .int .i64 r.id]) w := by
  obtain ⟨⟨z0, z1⟩, z2, z3, z4, z5⟩ := h.cells
  clear h
  go_simp
/-- While bytes are read: the result's block, the reader at x. -/
structure RrSt (w0 w : World) (x : Rd) : Prop where
  res : RqAt w w0.heap.size zeroQ
  rd : MrAt w (w0.heap.size + 1) x.s x.sh
  bel : Below w0.heap.size w0 w
theorem RrSt.kept {w0 w w' : World} {x y : Rd} (h : RrSt w0 w x) (k : Kept (w0.heap.size + 1) none w w') (hr : MrAt w' (w0.heap.size + 1) y.s y.sh) : RrSt w0 w' y :=
  ⟨(k.block _ (lt_of_blk h.res) (by omega) (by simp)).trans h.res, hr, h.bel.trans (k.below (Nat.le_of_lt (lt_of_blk h.res)) (by omega) (fun g hg => by cases hg))⟩
theorem RrSt.keep {w0 w w' : World} {x : Rd} (h : RrSt w0 w x) (hb : Below w.heap.size w w') : RrSt w0 w' x :=
  ⟨h.res.keep hb, (hb.block _ (lt_of_blk h.rd)).trans h.rd, h.bel.trans (hb.mono h.bel.size)⟩
theorem RrSt.put {w0 w : World} {x : Rd} (h : RrSt w0 w x) {b : Nat} (hb : w0.heap.size + 2 ≤ b) (o : Nat) (v : Value) : RrSt w0 (w.setCell ⟨b, o, none⟩ v) x :=
  ⟨(Below.heap_setCell _ _ _ _ (by simp; omega)).trans h.res, (Below.heap_setCell _ _ _ _ (by simp; omega)).trans h.rd, h.bel.setCell (p := ⟨b, o, none⟩) (by simp; omega) v⟩
/-- .. and what is read so far, at block b. -/
structure RxSt (w0 w : World) (x : Rd) (b : Nat) (r : Rq) : Prop where
  st : RrSt w0 w x
  rq : RqAt w b r
  hb : w0.heap.size + 2 ≤ b
theorem RxSt.st1 {w0 w : World} {x : Rd} {b : Nat} {r : Rq} (h : RxSt w0 w x b r) (v : Int) : RxSt w0 (w.setCell ⟨b, 1, none⟩ (.int .i64 v)) x b { r with st := v } := ⟨h.st.put h.hb 1 _, rq_st h.rq v, h.hb⟩
theorem RxSt.st2 {w0 w : World} {x : Rd} {b : Nat} {r : Rq} (h : RxSt w0 w x b r) (v : Int) : RxSt w0 (w.setCell ⟨b, 2, none⟩ (.int .i64 v)) x b { r with k := v } := ⟨h.st.put h.hb 2 _, rq_k h.rq v, h.hb⟩
theorem RxSt.st3 {w0 w : World} {x : Rd} {b : Nat} {r : Rq} (h : RxSt w0 w x b r) (v : ByteArray) : RxSt w0 (w.setCell ⟨b, 3, none⟩ (.string v)) x b { r with key := v } := ⟨h.st.put h.hb 3 _, rq_key h.rq v, h.hb⟩
theorem RxSt.st4 {w0 w : World} {x : Rd} {b : Nat} {r : Rq} (h : RxSt w0 w x b r) (v : Nat) : RxSt w0 (w.setCell ⟨b, 4, none⟩ (.float .f64 v)) x b { r with b := v } := ⟨h.st.put h.hb 4 _, rq_b h.rq v, h.hb⟩
theorem RxSt.st5 {w0 w : World} {x : Rd} {b : Nat} {r : Rq} (h : RxSt w0 w x b r) (v : Int) : RxSt w0 (w.setCell ⟨b, 5, none⟩ (.int .i64 v)) x b { r with id := v } := ⟨h.st.put h.hb 5 _, rq_id h.rq v, h.hb⟩
theorem RxSt.kept {w0 w w' : World} {x y : Rd} {b : Nat} {r : Rq} (h : RxSt w0 w x b r) (k : Kept (w0.heap.size + 1) none w w') (hr : MrAt w' (w0.heap.size + 1) y.s y.sh) : RxSt w0 w' y b r :=
  ⟨h.st.kept k hr, (k.block _ (lt_of_blk h.rq) (by have := h.hb; omega) (by simp)).trans h.rq, h.hb⟩
theorem RxSt.keep {w0 w w' : World} {x : Rd} {b : Nat} {r : Rq} (h : RxSt w0 w x b r) (hb : Below w.heap.size w w') : RxSt w0 w' x b r := ⟨h.st.keep hb, h.rq.keep hb, h.hb⟩
theorem RrSt.one {w0 w w' : World} {x : Rd} (h : RrSt w0 w x) {b : Nat} (hb : w0.heap.size + 2 ≤ b) (ho : One b w w') : RrSt w0 w' x :=
  ⟨(ho.block _ (by omega)).trans h.res, (ho.block _ (by omega)).trans h.rd, ho.below h.bel (by omega)⟩
theorem rd_sizes (s : ByteArray) (sh : Bool) (n : Nat) : (rS s sh n).size ≤ s.size := by
  rw [rS]
  split
  · rw [← data_len, ext_data, List.length_drop, List.length_take, data_len]
    omega
  · exact Nat.le_refl _
end Go.Proofs.YtecidbdbdnnglaaGreat

/- The document's: are two requests one, are their texts the same; results' texts; what is prepared, states. -/
namespace Go.Proofs.YtecidbdbdnnglaaGreat
open Go.RowKit

theorem text_eq (x y : ByteArray) : (x.toList == y.toList) = decide (x = y) := by
  rw [ByteArray.toList_eq, ByteArray.toList_eq, Bool.eq_iff_iff]
  simp only [beq_iff_eq, decide_eq_true_eq]
  exact ⟨fun h => ByteArray.ext (Array.ext' h), fun h => by rw [h]⟩
/-- Two requests in two variables, one behind the other. -/
structure TwQ (w0 w : World) (x y : Rq) : Prop where
  one : RqAt w w0.heap.size x
  two : RqAt w (w0.heap.size + 1) y
  bel : Below w0.heap.size w0 w
theorem TwQ.keep {w0 w w' : World} {x y : Rq} (h : TwQ w0 w x y) (hb : Below w.heap.size w w') : TwQ w0 w' x y := ⟨h.one.keep hb, h.two.keep hb, h.bel.trans (hb.mono h.bel.size)⟩
theorem twq_new (w : World) (x y : Rq) : TwQ w ((w.alloc (.cells #[.int .i64 x.c, .int .i64 x.st, .int .i64 x.k, .string x.key, .float .f64 x.b, .int .i64 x.id] 56)).alloc (.cells #[.int .i64 y.c, .int .i64 y.st, .int .i64 y.k, .string y.key, .float .f64 y.b, .int .i64 y.id] 56)) x y :=
  ⟨(Below.heap_alloc _ _ _ (by simp)).trans (heap_alloc_last w _), snd_alloc w _ _, ((Below.refl _ _).alloc (Nat.le_refl _) _).alloc (by simp) _⟩
def sameB (x y : Rq) : Bool := (decide (rqE x = 0) && decide (rqE y = 0)) && decide (rqT x = rqT y)
set_option maxRecDepth 100000 in
set_option maxHeartbeats 3200000 in
theorem qresultText_any (c : Int) (f : Nat) (hf : f < 18446744073709551616) (w : World) : Calls Tryz.prog 77 #[.agg #[.int .i64 c, .float .f64 f]] w fun e w' => e = .returned (.tuple #[.string (rsT c f), .int .i64 (rsE c)]) ∧ Below w.heap.size w w' := by
  have H0 : Hid (RsAt (w.alloc (.cells #[.int .i64 c, .float .f64 f] 50)) w.heap.size c f ∧ Below w.heap.size w (w.alloc (.cells #[.int .i64 c, .float .f64 f] 50))) := hid ⟨heap_alloc_last w _, (Below.refl _ _).alloc (Nat.le_refl _) _⟩
  cases hB : rsB c with
  | false =>
    rw [show rsT c f = ⟨#[]⟩ by rw [rsT, hB]; rfl, show rsE c = 1 by rw [rsE, hB]; rfl]
    have hc : c < 0 ∨ 8 < c := by
      simp only [rsB, Bool.and_eq_false_iff, decide_eq_false_iff_not] at hB
      omega
    clear hB hf
    rcases hc with h | h
    · go_enter Tryz.func77, Tryz.ntmps77
      go_wp2
      go_ret2
      exact ⟨rfl, H0.out.2⟩
    · have h0 : ¬ (c < 0) := by omega
      go_enter Tryz.func77, Tryz.ntmps77
      go_wp2
      go_ret2
      exact ⟨rfl, H0.out.2⟩
  | true =>
    have hc : 0 ≤ c ∧ c ≤ 8 := by
      simp only [rsB, Bool.and_eq_true, decide_eq_true_eq] at hB
      exact hB
    obtain ⟨C, rfl⟩ : ∃ C : Nat, c = (C : Int) := ⟨c.toNat, by omega⟩
    rw [show rsT (C : Int) f = ⟨(be 1 C ++ be 8 (canW f)).toArray⟩ by rw [rsT, hB]; rfl, show rsE (C : Int) = 0 by rw [rsE, hB]; rfl]
    have HKB : Hid (∀ u, Calls Tryz.prog 33 #[.float .f64 f] u fun e w' => e = .returned (.int .u64 (canW f : Nat)) ∧ w' = u) := hid (fun u => kbits_any f u)
    have HW := hid (canW_lt hf)
    generalize canW f = W8 at HKB HW ⊢
    have hc0 : ¬ ((C : Int) < 0) := by omega
    have hc8 : ¬ ((8 : Int) < (C : Int)) := by omega
    have HC := hid (show C < 256 by omega)
    clear hB hc hf
    go_enter Tryz.func77, Tryz.ntmps77
    go_wp2_with (first
      | (go_at_call 72; refine (txnew 9 (by decide) _).mono ?_; rintro e w3 ⟨rfl, h3⟩; have HQ0 : Hid (RsAt w3 w.heap.size C f) := hid ((h3.2.block _ (lt_of_blk H0.out.1)).trans H0.out.1); have T0 : Hid (TxAt 9 (w.heap.size + 1) (w.alloc (.cells #[.int .i64 (C : Int), .float .f64 f] 50)) w3 []) := hid (by simpa using h3); clear h3; obtain ⟨z0, z1⟩ := HQ0.out.cells)
      | (go_at_call 73; refine (txnum 9 (by decide) (by decide) _ _ _ [] C 1 (by decide) (by have := HC.out; omega) (by decide) (by exact T0.out)).mono ?_; rintro e w4 ⟨rfl, h4⟩; have T1 := hid h4; clear h4 z0 z1; have HQ1 : Hid (RsAt w4 w.heap.size C f) := hid ((T1.out.2.block _ (by omega)).trans H0.out.1); obtain ⟨z0, z1⟩ := HQ1.out.cells)
      | (go_at_call 33; refine (HKB.out _).mono ?_; rintro e w9 ⟨rfl, rfl⟩)
      | (go_at_call 76; refine (txbits 9 (by decide) (by decide) _ _ _ ([] ++ be 1 C) W8 HW.out (by simp only [List.length_append, List.length_nil, be_len]; omega) (by exact T1.out)).mono ?_; rintro e w5 ⟨rfl, h5⟩; have T2 := hid h5; clear h5)
      | (go_at_call 78; refine (txdone 9 _ _ _ _ (by exact T2.out)).mono ?_; rintro e w6 ⟨rfl, h6⟩; have HDn := hid (H0.out.2.trans (h6.mono (by omega))); clear h6))
    go_ret2
    exact ⟨rfl, HDn.out⟩
end Go.Proofs.YtecidbdbdnnglaaGreat

/- The document's: what any bytes are read as, as a result; what is prepared, a state. -/
namespace Go.Proofs.YtecidbdbdnnglaaGreat
open Go.RowKit

theorem load_rs (w : World) (b : Nat) (c : Int) (f : Nat) (h : RsAt w b c f) : (loadVar 50 ⟨b, 0, none⟩).run Tryz.prog w = .ok (.agg #[.int .i64 c, .float .f64 f]) w := by
  obtain ⟨z0, z1⟩ := h.cells
  clear h
  go_simp
/-- While bytes are read: the result's block, the reader at x. -/
structure SrSt (w0 w : World) (x : Rd) : Prop where
  res : RsAt w w0.heap.size 0 0
  rd : MrAt w (w0.heap.size + 1) x.s x.sh
  bel : Below w0.heap.size w0 w
theorem SrSt.kept {w0 w w' : World} {x y : Rd} (h : SrSt w0 w x) (k : Kept (w0.heap.size + 1) none w w') (hr : MrAt w' (w0.heap.size + 1) y.s y.sh) : SrSt w0 w' y :=
  ⟨(k.block _ (lt_of_blk h.res) (by omega) (by simp)).trans h.res, hr, h.bel.trans (k.below (Nat.le_of_lt (lt_of_blk h.res)) (by omega) (fun g hg => by cases hg))⟩
theorem SrSt.keep {w0 w w' : World} {x : Rd} (h : SrSt w0 w x) (hb : Below w.heap.size w w') : SrSt w0 w' x :=
  ⟨h.res.keep hb, (hb.block _ (lt_of_blk h.rd)).trans h.rd, h.bel.trans (hb.mono h.bel.size)⟩
theorem SrSt.one {w0 w w' : World} {x : Rd} (h : SrSt w0 w x) {b : Nat} (hb : w0.heap.size + 2 ≤ b) (ho : One b w w') : SrSt w0 w' x :=
  ⟨(ho.block _ (by omega)).trans h.res, (ho.block _ (by omega)).trans h.rd, ho.below h.bel (by omega)⟩
theorem SrSt.put {w0 w : World} {x : Rd} (h : SrSt w0 w x) {b : Nat} (hb : w0.heap.size + 2 ≤ b) (o : Nat) (v : Value) : SrSt w0 (w.setCell ⟨b, o, none⟩ v) x :=
  ⟨(Below.heap_setCell _ _ _ _ (by simp; omega)).trans h.res, (Below.heap_setCell _ _ _ _ (by simp; omega)).trans h.rd, h.bel.setCell (p := ⟨b, o, none⟩) (by simp; omega) v⟩
structure SxSt (w0 w : World) (x : Rd) (b : Nat) (c : Int) (f : Nat) : Prop where
  st : SrSt w0 w x
  rs : RsAt w b c f
  hb : w0.heap.size + 2 ≤ b
theorem SxSt.kept {w0 w w' : World} {x y : Rd} {b : Nat} {c : Int} {f : Nat} (h : SxSt w0 w x b c f) (k : Kept (w0.heap.size + 1) none w w') (hr : MrAt w' (w0.heap.size + 1) y.s y.sh) : SxSt w0 w' y b c f :=
  ⟨h.st.kept k hr, (k.block _ (lt_of_blk h.rs) (by have := h.hb; omega) (by simp)).trans h.rs, h.hb⟩
theorem SxSt.real {w0 w : World} {x : Rd} {b : Nat} {c : Int} {f : Nat} (h : SxSt w0 w x b c f) (v : Nat) : SxSt w0 (w.setCell ⟨b, 1, none⟩ (.float .f64 v)) x b c v :=
  ⟨h.st.put h.hb 1 _, (blk_set h.rs 1 _).trans (by simp), h.hb⟩
set_option maxRecDepth 100000 in
set_option maxHeartbeats 6400000 in
theorem qreadResult_any (t : ByteArray) (w : World) : Calls Tryz.prog 49 #[.string t] w fun e w' => e = .returned (.tuple #[.agg #[.int .i64 (rsC t), .float .f64 (rsF t)], .int .i64 (rsR t)]) ∧ Below w.heap.size w w' := by
  have hA : Below w.heap.size w (w.alloc (.cells #[.int .i64 0, .float .f64 0] 50)) := (Below.refl _ _).alloc (Nat.le_refl _) _
  have hbx := (Below.refl (w.alloc (.cells #[.int .i64 0, .float .f64 0] 50)).heap.size (w.alloc (.cells #[.int .i64 0, .float .f64 0] 50))).alloc (Nat.le_refl _) (.cells #[.string t, .bool false] 96)
  have H1 : Hid (SrSt w ((w.alloc (.cells #[.int .i64 0, .float .f64 0] 50)).alloc (.cells #[.string t, .bool false] 96)) ⟨t, false⟩) := hid ⟨(hbx.block _ (by simp)).trans (heap_alloc_last w _), snd_alloc w _ _, hA.trans (hbx.mono (by simp))⟩
  have HFr : Hid (∀ (X : Bool), (canW (rsBits t) == rsBits t) = X → ∀ u, Calls Tryz.prog 90 #[.int .u64 ((rsBits t : Nat) : Int)] u fun e w' => e = .returned (.tuple #[.float .f64 (fromW (rsBits t)), .bool X]) ∧ w' = u) := hid (fun X hX u => by rw [← hX]; exact kfrom_any (rsBits t) u)
  have HOk : Hid (okRs t = (((canW (rsBits t) == rsBits t) && decide (endOf (rsEnd t).s (rsEnd t).sh = 0)) && decide (rsCode t ≤ 8))) := hid rfl
  clear hA hbx
  cases hD : (canW (rsBits t) == rsBits t) with
  | false =>
    have HFb := hid (HFr.out _ hD)
    have HV : Hid (rsC t = 0 ∧ rsF t = 0 ∧ rsR t = 5) := hid (by have h : okRs t = false := (by rw [HOk.out, hD]; simp); rw [rsC, rsF, rsR, h]; simp)
    clear hD HFr HOk
    go_enter Tryz.func49, Tryz.ntmps49
    go_wp2_with (first
      | (have := HRs; refine wl_store_rs rfl _ _ rfl w.heap.size rfl 0 0 0 0 rfl HRs.out.1 ?_; intro wz Hz)
      | (go_at_call 50; refine (mend_any _ _ _ _ H5s.out.st.rd).mono ?_; rintro e w11 ⟨rfl, rfl⟩)
      | (have := H5; refine wl_store_f rfl _ _ rfl w2.heap.size 1 rfl (fromW (rsBits t)) rfl _ z1 f1 ?_; have H5s := hid (H5.out.real (fromW (rsBits t))); have HRs : Hid (RsAt (w5.setCell ⟨w2.heap.size, 1, none⟩ (.float .f64 (fromW (rsBits t)))) w.heap.size 0 0 ∧ Below w.heap.size w (w5.setCell ⟨w2.heap.size, 1, none⟩ (.float .f64 (fromW (rsBits t))))) := hid ⟨H5s.out.st.res, H5s.out.st.bel⟩)
      | (go_at_call 90; refine (HFb.out _).mono ?_; rintro e w5 ⟨rfl, rfl⟩)
      | (go_at_call 48; refine (mbits_any _ _ _ 8 _ H4.out.st.rd (by decide)).mono ?_; rintro e w5 ⟨rfl, hr, hk⟩; have H5 := hid (H4.out.kept (y := rsEnd t) hk hr); clear hr hk; obtain ⟨z0, z1⟩ := H5.out.rs.cells; have f1 := free_at H5.out.rs 1)
      | (have := H2; refine wl_store_rs rfl _ _ rfl w2.heap.size rfl 0 (rN t false 1 : Int) 0 0 rfl (heap_alloc_last w2 _) ?_; intro w4 Hq; have hax := (Below.refl w2.heap.size w2).alloc (Nat.le_refl _) (.cells #[.int .i64 0, .float .f64 0] 50); have H4 : Hid (SxSt w w4 (rd1 t) w2.heap.size (rN t false 1 : Int) 0) := hid ⟨(H2.out.keep hax).one (lt_of_blk H2.out.rd) Hq.out.2, Hq.out.1, lt_of_blk H2.out.rd⟩; clear hax)
      | (go_at_call 45; refine (mnum_any _ _ _ 1 _ H1.out.rd (by decide) (by decide)).mono ?_; rintro e w2 ⟨rfl, hr, hk⟩; have H2 := hid (H1.out.kept (y := rd1 t) hk hr); clear hr hk))
    refine ret_pair (s := 2) (s2 := 3) (ad := ⟨w.heap.size, 0, none⟩) rfl rfl (load_rs _ _ 0 0 Hz.out.1) rfl rfl ?_
    refine ⟨?_, Hz.out.2.below HRs.out.2 (Nat.le_refl _)⟩
    rw [HV.out.1, HV.out.2.1, HV.out.2.2]
    rfl
  | true =>
    have HFb := hid (HFr.out _ hD)
    by_cases he : endOf (rsEnd t).s (rsEnd t).sh = 0
    · have heb : (endOf (rsEnd t).s (rsEnd t).sh != 0) = false := by rw [he]; rfl
      by_cases hc : rsCode t ≤ 8
      · have hcb : ¬ ((8 : Int) < (rN t false 1 : Int)) := by have : rN t false 1 ≤ 8 := hc; omega
        have HV : Hid (rsC t = rsCode t ∧ rsF t = fromW (rsBits t) ∧ rsR t = 0) := hid (by have h : okRs t = true := (by rw [HOk.out, hD]; simp [he, hc]); rw [rsC, rsF, rsR, h]; simp)
        clear hD HFr HOk he hc
        go_enter Tryz.func49, Tryz.ntmps49
        go_wp2_with (first
          | (have := HRs; refine wl_store_rs rfl _ _ rfl w.heap.size rfl 0 (rN t false 1 : Int) 0 (fromW (rsBits t)) rfl HRs.out.1 ?_; intro wz Hz)
          | (go_at_call 50; refine (mend_any _ _ _ _ H5s.out.st.rd).mono ?_; rintro e w11 ⟨rfl, rfl⟩)
          | (have := H5; refine wl_store_f rfl _ _ rfl w2.heap.size 1 rfl (fromW (rsBits t)) rfl _ z1 f1 ?_; have H5s := hid (H5.out.real (fromW (rsBits t))); have HRs : Hid (RsAt (w5.setCell ⟨w2.heap.size, 1, none⟩ (.float .f64 (fromW (rsBits t)))) w.heap.size 0 0 ∧ Below w.heap.size w (w5.setCell ⟨w2.heap.size, 1, none⟩ (.float .f64 (fromW (rsBits t))))) := hid ⟨H5s.out.st.res, H5s.out.st.bel⟩)
          | (go_at_call 90; refine (HFb.out _).mono ?_; rintro e w5 ⟨rfl, rfl⟩)
          | (go_at_call 48; refine (mbits_any _ _ _ 8 _ H4.out.st.rd (by decide)).mono ?_; rintro e w5 ⟨rfl, hr, hk⟩; have H5 := hid (H4.out.kept (y := rsEnd t) hk hr); clear hr hk; obtain ⟨z0, z1⟩ := H5.out.rs.cells; have f1 := free_at H5.out.rs 1)
          | (have := H2; refine wl_store_rs rfl _ _ rfl w2.heap.size rfl 0 (rN t false 1 : Int) 0 0 rfl (heap_alloc_last w2 _) ?_; intro w4 Hq; have hax := (Below.refl w2.heap.size w2).alloc (Nat.le_refl _) (.cells #[.int .i64 0, .float .f64 0] 50); have H4 : Hid (SxSt w w4 (rd1 t) w2.heap.size (rN t false 1 : Int) 0) := hid ⟨(H2.out.keep hax).one (lt_of_blk H2.out.rd) Hq.out.2, Hq.out.1, lt_of_blk H2.out.rd⟩; clear hax)
          | (go_at_call 45; refine (mnum_any _ _ _ 1 _ H1.out.rd (by decide) (by decide)).mono ?_; rintro e w2 ⟨rfl, hr, hk⟩; have H2 := hid (H1.out.kept (y := rd1 t) hk hr); clear hr hk))
        refine ret_pair (s := 2) (s2 := 3) (ad := ⟨w.heap.size, 0, none⟩) rfl rfl (load_rs _ _ (rN t false 1 : Int) (fromW (rsBits t)) Hz.out.1) rfl rfl ?_
        refine ⟨?_, Hz.out.2.below HRs.out.2 (Nat.le_refl _)⟩
        rw [HV.out.1, HV.out.2.1, HV.out.2.2]
        rfl
      · have hcb : (8 : Int) < (rN t false 1 : Int) := by have : ¬ (rN t false 1 ≤ 8) := hc; omega
        have HV : Hid (rsC t = 0 ∧ rsF t = 0 ∧ rsR t = 5) := hid (by have h : okRs t = false := (by rw [HOk.out]; simp [hc]); rw [rsC, rsF, rsR, h]; simp)
        clear hD HFr HOk he hc
        go_enter Tryz.func49, Tryz.ntmps49
        go_wp2_with (first
          | (have := HRs; refine wl_store_rs rfl _ _ rfl w.heap.size rfl 0 0 0 0 rfl HRs.out.1 ?_; intro wz Hz)
          | (go_at_call 50; refine (mend_any _ _ _ _ H5s.out.st.rd).mono ?_; rintro e w11 ⟨rfl, rfl⟩)
          | (have := H5; refine wl_store_f rfl _ _ rfl w2.heap.size 1 rfl (fromW (rsBits t)) rfl _ z1 f1 ?_; have H5s := hid (H5.out.real (fromW (rsBits t))); have HRs : Hid (RsAt (w5.setCell ⟨w2.heap.size, 1, none⟩ (.float .f64 (fromW (rsBits t)))) w.heap.size 0 0 ∧ Below w.heap.size w (w5.setCell ⟨w2.heap.size, 1, none⟩ (.float .f64 (fromW (rsBits t))))) := hid ⟨H5s.out.st.res, H5s.out.st.bel⟩)
          | (go_at_call 90; refine (HFb.out _).mono ?_; rintro e w5 ⟨rfl, rfl⟩)
          | (go_at_call 48; refine (mbits_any _ _ _ 8 _ H4.out.st.rd (by decide)).mono ?_; rintro e w5 ⟨rfl, hr, hk⟩; have H5 := hid (H4.out.kept (y := rsEnd t) hk hr); clear hr hk; obtain ⟨z0, z1⟩ := H5.out.rs.cells; have f1 := free_at H5.out.rs 1)
          | (have := H2; refine wl_store_rs rfl _ _ rfl w2.heap.size rfl 0 (rN t false 1 : Int) 0 0 rfl (heap_alloc_last w2 _) ?_; intro w4 Hq; have hax := (Below.refl w2.heap.size w2).alloc (Nat.le_refl _) (.cells #[.int .i64 0, .float .f64 0] 50); have H4 : Hid (SxSt w w4 (rd1 t) w2.heap.size (rN t false 1 : Int) 0) := hid ⟨(H2.out.keep hax).one (lt_of_blk H2.out.rd) Hq.out.2, Hq.out.1, lt_of_blk H2.out.rd⟩; clear hax)
          | (go_at_call 45; refine (mnum_any _ _ _ 1 _ H1.out.rd (by decide) (by decide)).mono ?_; rintro e w2 ⟨rfl, hr, hk⟩; have H2 := hid (H1.out.kept (y := rd1 t) hk hr); clear hr hk))
        refine ret_pair (s := 2) (s2 := 3) (ad := ⟨w.heap.size, 0, none⟩) rfl rfl (load_rs _ _ 0 0 Hz.out.1) rfl rfl ?_
        refine ⟨?_, Hz.out.2.below HRs.out.2 (Nat.le_refl _)⟩
        rw [HV.out.1, HV.out.2.1, HV.out.2.2]
        rfl
    · have heb : (endOf (rsEnd t).s (rsEnd t).sh != 0) = true := by simpa using he
      have HV : Hid (rsC t = 0 ∧ rsF t = 0 ∧ rsR t = 5) := hid (by have h : okRs t = false := (by rw [HOk.out]; simp [he]); rw [rsC, rsF, rsR, h]; simp)
      clear hD HFr HOk he
      go_enter Tryz.func49, Tryz.ntmps49
      go_wp2_with (first
        | (have := HRs; refine wl_store_rs rfl _ _ rfl w.heap.size rfl 0 0 0 0 rfl HRs.out.1 ?_; intro wz Hz)
        | (go_at_call 50; refine (mend_any _ _ _ _ H5s.out.st.rd).mono ?_; rintro e w11 ⟨rfl, rfl⟩)
        | (have := H5; refine wl_store_f rfl _ _ rfl w2.heap.size 1 rfl (fromW (rsBits t)) rfl _ z1 f1 ?_; have H5s := hid (H5.out.real (fromW (rsBits t))); have HRs : Hid (RsAt (w5.setCell ⟨w2.heap.size, 1, none⟩ (.float .f64 (fromW (rsBits t)))) w.heap.size 0 0 ∧ Below w.heap.size w (w5.setCell ⟨w2.heap.size, 1, none⟩ (.float .f64 (fromW (rsBits t))))) := hid ⟨H5s.out.st.res, H5s.out.st.bel⟩)
        | (go_at_call 90; refine (HFb.out _).mono ?_; rintro e w5 ⟨rfl, rfl⟩)
        | (go_at_call 48; refine (mbits_any _ _ _ 8 _ H4.out.st.rd (by decide)).mono ?_; rintro e w5 ⟨rfl, hr, hk⟩; have H5 := hid (H4.out.kept (y := rsEnd t) hk hr); clear hr hk; obtain ⟨z0, z1⟩ := H5.out.rs.cells; have f1 := free_at H5.out.rs 1)
        | (have := H2; refine wl_store_rs rfl _ _ rfl w2.heap.size rfl 0 (rN t false 1 : Int) 0 0 rfl (heap_alloc_last w2 _) ?_; intro w4 Hq; have hax := (Below.refl w2.heap.size w2).alloc (Nat.le_refl _) (.cells #[.int .i64 0, .float .f64 0] 50); have H4 : Hid (SxSt w w4 (rd1 t) w2.heap.size (rN t false 1 : Int) 0) := hid ⟨(H2.out.keep hax).one (lt_of_blk H2.out.rd) Hq.out.2, Hq.out.1, lt_of_blk H2.out.rd⟩; clear hax)
        | (go_at_call 45; refine (mnum_any _ _ _ 1 _ H1.out.rd (by decide) (by decide)).mono ?_; rintro e w2 ⟨rfl, hr, hk⟩; have H2 := hid (H1.out.kept (y := rd1 t) hk hr); clear hr hk))
      refine ret_pair (s := 2) (s2 := 3) (ad := ⟨w.heap.size, 0, none⟩) rfl rfl (load_rs _ _ 0 0 Hz.out.1) rfl rfl ?_
      refine ⟨?_, Hz.out.2.below HRs.out.2 (Nat.le_refl _)⟩
      rw [HV.out.1, HV.out.2.1, HV.out.2.2]
      rfl
theorem adm_zero' {lim : Int} {n : Nat} {er : Int} {r : Bool} {size : Int} (h : adm lim n er r size = 0) : er = 0 ∧ r = true := by
  unfold adm at h
  split at h
  · next h1 =>
    split at h
    · next h2 => exact ⟨h1, h2⟩
    · cases h
  · next h1 => exact absurd h h1
theorem add_texts (a b : ByteArray) : (a ++ b).data.toList = a.data.toList ++ b.data.toList := by simp [ByteArray.data_append]
end Go.Proofs.YtecidbdbdnnglaaGreat

/- The document's: are two results one; what is prepared. -/
namespace Go.Proofs.YtecidbdbdnnglaaGreat
open Go.RowKit

set_option maxRecDepth 100000 in
set_option maxHeartbeats 6400000 in
theorem qsameResult_any (c : Int) (f : Nat) (c' : Int) (f' : Nat) (w : World) : Calls Tryz.prog 26 #[.agg #[.int .i64 c, .float .f64 f], .agg #[.int .i64 c', .float .f64 f']] w fun e w' => e = .returned (.bool (sameS c f c' f')) ∧ Below w.heap.size w w' := by
  obtain ⟨W, eW⟩ : ∃ W, W = (w.alloc (.cells #[.int .i64 c, .float .f64 f] 50)).alloc (.cells #[.int .i64 c', .float .f64 f'] 50) := ⟨_, rfl⟩
  have H0 : Hid (RsAt W w.heap.size c f ∧ RsAt W (w.heap.size + 1) c' f' ∧ Below w.heap.size w W) := hid (by
    rw [eW]
    exact ⟨(Below.heap_alloc _ _ _ (by simp)).trans (heap_alloc_last w _), snd_alloc w _ _, ((Below.refl _ _).alloc (Nat.le_refl _) _).alloc (by simp) _⟩)
  have HKB : Hid (∀ (b : Nat) (u : World), Calls Tryz.prog 33 #[.float .f64 b] u fun e w' => e = .returned (.int .u64 (canW b : Nat)) ∧ Below u.heap.size u w') := hid (fun b u => (kbits_any b u).mono fun e w' ⟨h1, h2⟩ => ⟨h1, by rw [h2]; exact Below.refl _ _⟩)
  obtain ⟨B, hB⟩ : ∃ B, sameS c f c' f' = B := ⟨_, rfl⟩
  rw [hB]
  have HBe : Hid (B = (decide (c = c') && decide (canW f = canW f'))) := hid hB.symm
  clear hB
  have q0 : ∀ u : Cls W, u.1.cell? ⟨w.heap.size, 0, none⟩ = some (.int .i64 c) := fun u => (H0.out.1.keep u.2).cells.1
  have q1 : ∀ u : Cls W, u.1.cell? ⟨w.heap.size, 1, none⟩ = some (.float .f64 f) := fun u => (H0.out.1.keep u.2).cells.2
  have p0 : ∀ u : Cls W, u.1.cell? ⟨w.heap.size + 1, 0, none⟩ = some (.int .i64 c') := fun u => (H0.out.2.1.keep u.2).cells.1
  have p1 : ∀ u : Cls W, u.1.cell? ⟨w.heap.size + 1, 1, none⟩ = some (.float .f64 f') := fun u => (H0.out.2.1.keep u.2).cells.2
  by_cases h0 : c = c'
  · have t0 : (c == c') = true := by simp [h0]
    have HH0 := hid h0
    clear h0
    by_cases h1 : canW f = canW f'
    · have t1 : (((canW f : Nat) : Int) == ((canW f' : Nat) : Int)) = true := by simp [h1]
      have HH1 := hid h1
      clear h1
      go_enter Tryz.func26, Tryz.ntmps26
      go_wp2
      rw [← eW]
      clear eW
      haveI := Cls.ne W
      refine wp_region_cls W (by kernel_rfl) (by kernel_rfl) ?_
      repeat (go_big_quiet_step ((first | (go_at_call 33; exact Cls.of _ (fun u _ => HKB.out _ u)))))
      rintro w' ⟨u, rfl⟩
      go_wp2
      go_ret
      exact ⟨ret_bool (by rw [HBe.out]; simp [HH0.out, HH1.out]), H0.out.2.2.trans (u.2.mono H0.out.2.2.size)⟩
    · have t1 : (((canW f : Nat) : Int) == ((canW f' : Nat) : Int)) = false := by simp; omega
      have HH1 := hid h1
      clear h1
      go_enter Tryz.func26, Tryz.ntmps26
      go_wp2
      rw [← eW]
      clear eW
      haveI := Cls.ne W
      refine wp_region_cls W (by kernel_rfl) (by kernel_rfl) ?_
      repeat (go_big_quiet_step ((first | (go_at_call 33; exact Cls.of _ (fun u _ => HKB.out _ u)))))
      rintro w' ⟨u, rfl⟩
      go_wp2
      go_ret
      exact ⟨ret_bool (by rw [HBe.out]; simp [HH1.out]), H0.out.2.2.trans (u.2.mono H0.out.2.2.size)⟩
  · have t0 : (c == c') = false := by simpa using h0
    have HH0 := hid h0
    clear h0
    go_enter Tryz.func26, Tryz.ntmps26
    go_wp2
    rw [← eW]
    clear eW
    haveI := Cls.ne W
    refine wp_region_cls W (by kernel_rfl) (by kernel_rfl) ?_
    repeat (go_big_quiet_step ((first | (go_at_call 33; exact Cls.of _ (fun u _ => HKB.out _ u)))))
    rintro w' ⟨u, rfl⟩
    go_wp2
    go_ret
    exact ⟨ret_bool (by rw [HBe.out]; simp [HH0.out]), H0.out.2.2.trans (u.2.mono H0.out.2.2.size)⟩
/-- The bytes ahead of a request that is prepared. -/
theorem pr_head {e v s : Int} (h : spB e v s = true) : ∃ E V S : Nat, e = (E : Int) ∧ v = (V : Int) ∧ s = (S : Int) ∧ E < 256 ^ 4 ∧ V < 256 ^ 4 ∧ S < 256 ^ 4 := by
  rw [spB, Bool.and_eq_true_iff, Bool.and_eq_true_iff] at h
  have h1 := inR4 h.1.1
  have h2 := inR4 h.1.2
  have h3 := inR4 h.2
  exact ⟨e.toNat, v.toNat, s.toNat, by omega, by omega, by omega, by omega, by omega, by omega⟩
theorem rqT_size (r : Rq) : (rqT r).size ≤ 34 := by
  unfold rqT
  split
  · decide
  · split
    · next h =>
      have h1 := (right_fields h).2.2.2.1
      have h2 := rqL_len r
      show (rqL r).toArray.size ≤ 34
      simp
      omega
    · decide
end Go.Proofs.YtecidbdbdnnglaaGreat
