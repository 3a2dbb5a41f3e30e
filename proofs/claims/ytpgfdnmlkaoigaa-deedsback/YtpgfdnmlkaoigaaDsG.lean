/- The document's: what any bytes are read as, as a result; what is prepared, a state. -/
import Derived.Test.YtpgfdnmlkaoigaaDsF
namespace Go.Proofs.Ytpgfdnmlkaoigaa
open Go.RowKit

theorem load_rs (w : World) (b : Nat) (c : Int) (f : Nat) (h : RsAt w b c f) : (loadVar 41 ⟨b, 0, none⟩).run Try.prog w = .ok (.agg #[.int .i64 c, .float .f64 f]) w := by
  obtain ⟨z0, z1⟩ := h.cells
  clear h
  go_simp
/-- While bytes are read: the result's block, the reader at x. -/
structure SrSt (w0 w : World) (x : Rd) : Prop where
  res : RsAt w w0.heap.size 0 0
  rd : MrAt w (w0.heap.size + 1) x.s x.sh
  bel : Below w0.heap.size w0 w
theorem SrSt.kept {w0 w w' : World} {x y : Rd} (h : SrSt w0 w x) (k : Kept (w0.heap.size + 1) none w w') (hr : MrAt w' (w0.heap.size + 1) y.s y.sh) : SrSt w0 w' y :=
  ⟨(k.block _ (lt_of_blk h.res) (by omega) (by simp)).trans h.res, hr, h.bel.trans (k.below (Nat.le_of_lt (lt_of_blk h.res)) (by omega) (fun g hg => by cases hg))⟩
theorem SrSt.keep {w0 w w' : World} {x : Rd} (h : SrSt w0 w x) (hb : Below w.heap.size w w') : SrSt w0 w' x :=
  ⟨h.res.keep hb, (hb.block _ (lt_of_blk h.rd)).trans h.rd, h.bel.trans (hb.mono h.bel.size)⟩
theorem SrSt.one {w0 w w' : World} {x : Rd} (h : SrSt w0 w x) {b : Nat} (hb : w0.heap.size + 2 ≤ b) (ho : One b w w') : SrSt w0 w' x :=
  ⟨(ho.block _ (by omega)).trans h.res, (ho.block _ (by omega)).trans h.rd, ho.below h.bel (by omega)⟩
theorem SrSt.put {w0 w : World} {x : Rd} (h : SrSt w0 w x) {b : Nat} (hb : w0.heap.size + 2 ≤ b) (o : Nat) (v : Value) : SrSt w0 (w.setCell ⟨b, o, none⟩ v) x :=
  ⟨(Below.heap_setCell _ _ _ _ (by simp; omega)).trans h.res, (Below.heap_setCell _ _ _ _ (by simp; omega)).trans h.rd, h.bel.setCell (p := ⟨b, o, none⟩) (by simp; omega) v⟩
structure SxSt (w0 w : World) (x : Rd) (b : Nat) (c : Int) (f : Nat) : Prop where
  st : SrSt w0 w x
  rs : RsAt w b c f
  hb : w0.heap.size + 2 ≤ b
theorem SxSt.kept {w0 w w' : World} {x y : Rd} {b : Nat} {c : Int} {f : Nat} (h : SxSt w0 w x b c f) (k : Kept (w0.heap.size + 1) none w w') (hr : MrAt w' (w0.heap.size + 1) y.s y.sh) : SxSt w0 w' y b c f :=
  ⟨h.st.kept k hr, (k.block _ (lt_of_blk h.rs) (by have := h.hb; omega) (by simp)).trans h.rs, h.hb⟩
theorem SxSt.real {w0 w : World} {x : Rd} {b : Nat} {c : Int} {f : Nat} (h : SxSt w0 w x b c f) (v : Nat) : SxSt w0 (w.setCell ⟨b, 1, none⟩ (.float .f64 v)) x b c v :=
  ⟨h.st.put h.hb 1 _, (blk_set h.rs 1 _).trans (by simp), h.hb⟩
set_option maxRecDepth 100000 in
set_option maxHeartbeats 6400000 in
theorem qreadResult_any (t : ByteArray) (w : World) : Calls Try.prog 22 #[.string t] w fun e w' => e = .returned (.tuple #[.agg #[.int .i64 (rsC t), .float .f64 (rsF t)], .int .i64 (rsR t)]) ∧ Below w.heap.size w w' := by
  have hA : Below w.heap.size w (w.alloc (.cells #[.int .i64 0, .float .f64 0] 41)) := (Below.refl _ _).alloc (Nat.le_refl _) _
  have hbx := (Below.refl (w.alloc (.cells #[.int .i64 0, .float .f64 0] 41)).heap.size (w.alloc (.cells #[.int .i64 0, .float .f64 0] 41))).alloc (Nat.le_refl _) (.cells #[.string t, .bool false] 76)
  have H1 : Hid (SrSt w ((w.alloc (.cells #[.int .i64 0, .float .f64 0] 41)).alloc (.cells #[.string t, .bool false] 76)) ⟨t, false⟩) := hid ⟨(hbx.block _ (by simp)).trans (heap_alloc_last w _), snd_alloc w _ _, hA.trans (hbx.mono (by simp))⟩
  have HFr : Hid (∀ (X : Bool), (canW (rsBits t) == rsBits t) = X → ∀ u, Calls Try.prog 58 #[.int .u64 ((rsBits t : Nat) : Int)] u fun e w' => e = .returned (.tuple #[.float .f64 (fromW (rsBits t)), .bool X]) ∧ w' = u) := hid (fun X hX u => by rw [← hX]; exact kfrom_any (rsBits t) u)
  have HOk : Hid (okRs t = (((canW (rsBits t) == rsBits t) && decide (endOf (rsEnd t).s (rsEnd t).sh = 0)) && decide (rsCode t ≤ 8))) := hid rfl
  clear hA hbx
  cases hD : (canW (rsBits t) == rsBits t) with
  | false =>
    have HFb := hid (HFr.out _ hD)
    have HV : Hid (rsC t = 0 ∧ rsF t = 0 ∧ rsR t = 5) := hid (by have h : okRs t = false := (by rw [HOk.out, hD]; simp); rw [rsC, rsF, rsR, h]; simp)
    clear hD HFr HOk
    go_enter Try.func22, Try.ntmps22
    go_wp2_with (first
      | (have := HRs; refine wl_store_rs rfl _ _ rfl w.heap.size rfl 0 0 0 0 rfl HRs.out.1 ?_; intro wz Hz)
      | (go_at_call 60; refine (mend_any _ _ _ _ H5s.out.st.rd).mono ?_; rintro e w11 ⟨rfl, rfl⟩)
      | (have := H5; refine wl_store_f rfl _ _ rfl w2.heap.size 1 rfl (fromW (rsBits t)) rfl _ z1 f1 ?_; have H5s := hid (H5.out.real (fromW (rsBits t))); have HRs : Hid (RsAt (w5.setCell ⟨w2.heap.size, 1, none⟩ (.float .f64 (fromW (rsBits t)))) w.heap.size 0 0 ∧ Below w.heap.size w (w5.setCell ⟨w2.heap.size, 1, none⟩ (.float .f64 (fromW (rsBits t))))) := hid ⟨H5s.out.st.res, H5s.out.st.bel⟩)
      | (go_at_call 58; refine (HFb.out _).mono ?_; rintro e w5 ⟨rfl, rfl⟩)
      | (go_at_call 59; refine (mbits_any _ _ _ 8 _ H4.out.st.rd (by decide)).mono ?_; rintro e w5 ⟨rfl, hr, hk⟩; have H5 := hid (H4.out.kept (y := rsEnd t) hk hr); clear hr hk; obtain ⟨z0, z1⟩ := H5.out.rs.cells; have f1 := free_at H5.out.rs 1)
      | (have := H2; refine wl_store_rs rfl _ _ rfl w2.heap.size rfl 0 (rN t false 1 : Int) 0 0 rfl (heap_alloc_last w2 _) ?_; intro w4 Hq; have hax := (Below.refl w2.heap.size w2).alloc (Nat.le_refl _) (.cells #[.int .i64 0, .float .f64 0] 41); have H4 : Hid (SxSt w w4 (rd1 t) w2.heap.size (rN t false 1 : Int) 0) := hid ⟨(H2.out.keep hax).one (lt_of_blk H2.out.rd) Hq.out.2, Hq.out.1, lt_of_blk H2.out.rd⟩; clear hax)
      | (go_at_call 56; refine (mnum_any _ _ _ 1 _ H1.out.rd (by decide) (by decide)).mono ?_; rintro e w2 ⟨rfl, hr, hk⟩; have H2 := hid (H1.out.kept (y := rd1 t) hk hr); clear hr hk))
    refine ret_pair (s := 2) (s2 := 3) (ad := ⟨w.heap.size, 0, none⟩) rfl rfl (load_rs _ _ 0 0 Hz.out.1) rfl rfl ?_
    refine ⟨?_, Hz.out.2.below HRs.out.2 (Nat.le_refl _)⟩
    rw [HV.out.1, HV.out.2.1, HV.out.2.2]
    rfl
  | true =>
    have HFb := hid (HFr.out _ hD)
    by_cases he : endOf (rsEnd t).s (rsEnd t).sh = 0
    · have heb : (endOf (rsEnd t).s (rsEnd t).sh != 0) = false := by rw [he]; rfl
      by_cases hc : rsCode t ≤ 8
      · have hcb : ¬ ((8 : Int) < (rN t false 1 : Int)) := by have : rN t false 1 ≤ 8 := hc; omega
        have HV : Hid (rsC t = rsCode t ∧ rsF t = fromW (rsBits t) ∧ rsR t = 0) := hid (by have h : okRs t = true := (by rw [HOk.out, hD]; simp [he, hc]); rw [rsC, rsF, rsR, h]; simp)
        clear hD HFr HOk he hc
        go_enter Try.func22, Try.ntmps22
        go_wp2_with (first
          | (have := HRs; refine wl_store_rs rfl _ _ rfl w.heap.size rfl 0 (rN t false 1 : Int) 0 (fromW (rsBits t)) rfl HRs.out.1 ?_; intro wz Hz)
          | (go_at_call 60; refine (mend_any _ _ _ _ H5s.out.st.rd).mono ?_; rintro e w11 ⟨rfl, rfl⟩)
          | (have := H5; refine wl_store_f rfl _ _ rfl w2.heap.size 1 rfl (fromW (rsBits t)) rfl _ z1 f1 ?_; have H5s := hid (H5.out.real (fromW (rsBits t))); have HRs : Hid (RsAt (w5.setCell ⟨w2.heap.size, 1, none⟩ (.float .f64 (fromW (rsBits t)))) w.heap.size 0 0 ∧ Below w.heap.size w (w5.setCell ⟨w2.heap.size, 1, none⟩ (.float .f64 (fromW (rsBits t))))) := hid ⟨H5s.out.st.res, H5s.out.st.bel⟩)
          | (go_at_call 58; refine (HFb.out _).mono ?_; rintro e w5 ⟨rfl, rfl⟩)
          | (go_at_call 59; refine (mbits_any _ _ _ 8 _ H4.out.st.rd (by decide)).mono ?_; rintro e w5 ⟨rfl, hr, hk⟩; have H5 := hid (H4.out.kept (y := rsEnd t) hk hr); clear hr hk; obtain ⟨z0, z1⟩ := H5.out.rs.cells; have f1 := free_at H5.out.rs 1)
          | (have := H2; refine wl_store_rs rfl _ _ rfl w2.heap.size rfl 0 (rN t false 1 : Int) 0 0 rfl (heap_alloc_last w2 _) ?_; intro w4 Hq; have hax := (Below.refl w2.heap.size w2).alloc (Nat.le_refl _) (.cells #[.int .i64 0, .float .f64 0] 41); have H4 : Hid (SxSt w w4 (rd1 t) w2.heap.size (rN t false 1 : Int) 0) := hid ⟨(H2.out.keep hax).one (lt_of_blk H2.out.rd) Hq.out.2, Hq.out.1, lt_of_blk H2.out.rd⟩; clear hax)
          | (go_at_call 56; refine (mnum_any _ _ _ 1 _ H1.out.rd (by decide) (by decide)).mono ?_; rintro e w2 ⟨rfl, hr, hk⟩; have H2 := hid (H1.out.kept (y := rd1 t) hk hr); clear hr hk))
        refine ret_pair (s := 2) (s2 := 3) (ad := ⟨w.heap.size, 0, none⟩) rfl rfl (load_rs _ _ (rN t false 1 : Int) (fromW (rsBits t)) Hz.out.1) rfl rfl ?_
        refine ⟨?_, Hz.out.2.below HRs.out.2 (Nat.le_refl _)⟩
        rw [HV.out.1, HV.out.2.1, HV.out.2.2]
        rfl
      · have hcb : (8 : Int) < (rN t false 1 : Int) := by have : ¬ (rN t false 1 ≤ 8) := hc; omega
        have HV : Hid (rsC t = 0 ∧ rsF t = 0 ∧ rsR t = 5) := hid (by have h : okRs t = false := (by rw [HOk.out]; simp [hc]); rw [rsC, rsF, rsR, h]; simp)
        clear hD HFr HOk he hc
        go_enter Try.func22, Try.ntmps22
        go_wp2_with (first
          | (have := HRs; refine wl_store_rs rfl _ _ rfl w.heap.size rfl 0 0 0 0 rfl HRs.out.1 ?_; intro wz Hz)
          | (go_at_call 60; refine (mend_any _ _ _ _ H5s.out.st.rd).mono ?_; rintro e w11 ⟨rfl, rfl⟩)
          | (have := H5; refine wl_store_f rfl _ _ rfl w2.heap.size 1 rfl (fromW (rsBits t)) rfl _ z1 f1 ?_; have H5s := hid (H5.out.real (fromW (rsBits t))); have HRs : Hid (RsAt (w5.setCell ⟨w2.heap.size, 1, none⟩ (.float .f64 (fromW (rsBits t)))) w.heap.size 0 0 ∧ Below w.heap.size w (w5.setCell ⟨w2.heap.size, 1, none⟩ (.float .f64 (fromW (rsBits t))))) := hid ⟨H5s.out.st.res, H5s.out.st.bel⟩)
          | (go_at_call 58; refine (HFb.out _).mono ?_; rintro e w5 ⟨rfl, rfl⟩)
          | (go_at_call 59; refine (mbits_any _ _ _ 8 _ H4.out.st.rd (by decide)).mono ?_; rintro e w5 ⟨rfl, hr, hk⟩; have H5 := hid (H4.out.kept (y := rsEnd t) hk hr); clear hr hk; obtain ⟨z0, z1⟩ := H5.out.rs.cells; have f1 := free_at H5.out.rs 1)
          | (have := H2; refine wl_store_rs rfl _ _ rfl w2.heap.size rfl 0 (rN t false 1 : Int) 0 0 rfl (heap_alloc_last w2 _) ?_; intro w4 Hq; have hax := (Below.refl w2.heap.size w2).alloc (Nat.le_refl _) (.cells #[.int .i64 0, .float .f64 0] 41); have H4 : Hid (SxSt w w4 (rd1 t) w2.heap.size (rN t false 1 : Int) 0) := hid ⟨(H2.out.keep hax).one (lt_of_blk H2.out.rd) Hq.out.2, Hq.out.1, lt_of_blk H2.out.rd⟩; clear hax)
          | (go_at_call 56; refine (mnum_any _ _ _ 1 _ H1.out.rd (by decide) (by decide)).mono ?_; rintro e w2 ⟨rfl, hr, hk⟩; have H2 := hid (H1.out.kept (y := rd1 t) hk hr); clear hr hk))
        refine ret_pair (s := 2) (s2 := 3) (ad := ⟨w.heap.size, 0, none⟩) rfl rfl (load_rs _ _ 0 0 Hz.out.1) rfl rfl ?_
        refine ⟨?_, Hz.out.2.below HRs.out.2 (Nat.le_refl _)⟩
        rw [HV.out.1, HV.out.2.1, HV.out.2.2]
        rfl
    · have heb : (endOf (rsEnd t).s (rsEnd t).sh != 0) = true := by simpa using he
      have HV : Hid (rsC t = 0 ∧ rsF t = 0 ∧ rsR t = 5) := hid (by have h : okRs t = false := (by rw [HOk.out]; simp [he]); rw [rsC, rsF, rsR, h]; simp)
      clear hD HFr HOk he
      go_enter Try.func22, Try.ntmps22
      go_wp2_with (first
        | (have := HRs; refine wl_store_rs rfl _ _ rfl w.heap.size rfl 0 0 0 0 rfl HRs.out.1 ?_; intro wz Hz)
        | (go_at_call 60; refine (mend_any _ _ _ _ H5s.out.st.rd).mono ?_; rintro e w11 ⟨rfl, rfl⟩)
        | (have := H5; refine wl_store_f rfl _ _ rfl w2.heap.size 1 rfl (fromW (rsBits t)) rfl _ z1 f1 ?_; have H5s := hid (H5.out.real (fromW (rsBits t))); have HRs : Hid (RsAt (w5.setCell ⟨w2.heap.size, 1, none⟩ (.float .f64 (fromW (rsBits t)))) w.heap.size 0 0 ∧ Below w.heap.size w (w5.setCell ⟨w2.heap.size, 1, none⟩ (.float .f64 (fromW (rsBits t))))) := hid ⟨H5s.out.st.res, H5s.out.st.bel⟩)
        | (go_at_call 58; refine (HFb.out _).mono ?_; rintro e w5 ⟨rfl, rfl⟩)
        | (go_at_call 59; refine (mbits_any _ _ _ 8 _ H4.out.st.rd (by decide)).mono ?_; rintro e w5 ⟨rfl, hr, hk⟩; have H5 := hid (H4.out.kept (y := rsEnd t) hk hr); clear hr hk; obtain ⟨z0, z1⟩ := H5.out.rs.cells; have f1 := free_at H5.out.rs 1)
        | (have := H2; refine wl_store_rs rfl _ _ rfl w2.heap.size rfl 0 (rN t false 1 : Int) 0 0 rfl (heap_alloc_last w2 _) ?_; intro w4 Hq; have hax := (Below.refl w2.heap.size w2).alloc (Nat.le_refl _) (.cells #[.int .i64 0, .float .f64 0] 41); have H4 : Hid (SxSt w w4 (rd1 t) w2.heap.size (rN t false 1 : Int) 0) := hid ⟨(H2.out.keep hax).one (lt_of_blk H2.out.rd) Hq.out.2, Hq.out.1, lt_of_blk H2.out.rd⟩; clear hax)
        | (go_at_call 56; refine (mnum_any _ _ _ 1 _ H1.out.rd (by decide) (by decide)).mono ?_; rintro e w2 ⟨rfl, hr, hk⟩; have H2 := hid (H1.out.kept (y := rd1 t) hk hr); clear hr hk))
      refine ret_pair (s := 2) (s2 := 3) (ad := ⟨w.heap.size, 0, none⟩) rfl rfl (load_rs _ _ 0 0 Hz.out.1) rfl rfl ?_
      refine ⟨?_, Hz.out.2.below HRs.out.2 (Nat.le_refl _)⟩
      rw [HV.out.1, HV.out.2.1, HV.out.2.2]
      rfl
theorem adm_zero' {lim : Int} {n : Nat} {er : Int} {r : Bool} {size : Int} (h : adm lim n er r size = 0) : er = 0 ∧ r = true := by
  unfold adm at h
  split at h
  · next h1 =>
    split at h
    · next h2 => exact ⟨h1, h2⟩
    · cases h
  · next h1 => exact absurd h h1
theorem add_texts (a b : ByteArray) : (a ++ b).data.toList = a.data.toList ++ b.data.toList := by simp [ByteArray.data_append]
set_option maxRecDepth 100000 in
set_option maxHeartbeats 6400000 in
theorem qstate_any (slot : Int) (x : ByteArray) (hx : x.size ≤ 140737488355328) (w : World) : Calls Try.prog 31 #[.int .i64 slot, .string x] w fun e w' => e = .returned (.tuple #[.string (stT slot x), .int .i64 (stE slot)]) ∧ Below w.heap.size w w' := by
  cases hB : inR 4 slot with
  | true =>
    have hs := inR4 hB
    obtain ⟨S, rfl⟩ : ∃ S : Nat, slot = (S : Int) := ⟨slot.toNat, by omega⟩
    have HT : Hid (stT (S : Int) x = ⟨(be 1 83 ++ be 4 S).toArray⟩ ++ x) := hid (by
      apply ByteArray.ext
      apply Array.ext'
      rw [add_texts, stT, if_pos hB]
      rfl)
    rw [HT.out, show stE (S : Int) = 0 by rw [stE, if_pos hB]]
    have HS := hid (show S < 256 ^ 4 by omega)
    have HX : Hid ((be 1 83).length + (be 4 S).length + x.size ≤ 9223372036854775807) := hid (by rw [be_len, be_len]; omega)
    clear hB hs hx HT
    go_enter Try.func31, Try.ntmps31
    go_wp2_with (first
      | (go_at_call 39; refine (txnew 5 (by decide) _).mono ?_; rintro e w3 ⟨rfl, h3⟩; have T0 := hid h3; clear h3)
      | (go_at_call 40; have := T1; refine (txnum 5 (by decide) (by decide) _ _ _ ([] ++ be 1 83) S 4 (by decide) HS.out (by decide) (by exact T1.out)).mono ?_; rintro e w5 ⟨rfl, h5⟩; have T2 := hid h5; clear h5)
      | (go_at_call 40; refine (txnum 5 (by decide) (by decide) _ _ _ [] 83 1 (by decide) (by decide) (by decide) (by exact T0.out)).mono ?_; rintro e w4 ⟨rfl, h4⟩; have T1 := hid h4; clear h4)
      | (go_at_call 44; refine (txdone 5 _ _ _ _ (by exact T2.out)).mono ?_; rintro e w6 ⟨rfl, h6⟩; have HDn := hid h6; clear h6))
    · rename_i h; exact absurd h (Nat.not_lt.mpr HX.out)
    go_ret2
    exact ⟨rfl, HDn.out⟩
  | false =>
    rw [show stT slot x = ⟨#[]⟩ by rw [stT, hB]; rfl, show stE slot = 1 by rw [stE, hB]; rfl]
    have HE : Hid (wE 5 ([] ++ be 1 83) 0 4 slot ≠ 0) := hid (fun h => by have := (adm_zero' h).2; rw [hB] at this; cases this)
    clear hB hx
    obtain ⟨E, eE⟩ : ∃ E, E = wE 5 ([] ++ be 1 83) 0 4 slot := ⟨_, rfl⟩
    rw [← eE] at HE
    have hEb : (E != 0) = true := by simpa using HE.out
    have HEe := hid eE
    clear eE
    go_enter Try.func31, Try.ntmps31
    go_wp2_with (first
      | (go_at_call 39; refine (txnew 5 (by decide) _).mono ?_; rintro e w3 ⟨rfl, h3⟩; have T0 := hid h3; clear h3)
      | (go_at_call 40; have := T1; refine (tenum 5 (by decide) (by decide) _ _ _ ([] ++ be 1 83) 0 slot 4 (by decide) (by decide) (by exact T1.out.te)).mono ?_; rintro e w5 ⟨rfl, h5⟩; rw [← HEe.out] at h5; have T2 := hid h5; clear h5)
      | (go_at_call 40; refine (txnum 5 (by decide) (by decide) _ _ _ [] 83 1 (by decide) (by decide) (by decide) (by exact T0.out)).mono ?_; rintro e w4 ⟨rfl, h4⟩; have T1 := hid h4; clear h4)
      | (go_at_call 44; refine (tedone 5 _ _ _ _ _ (by exact T2.out)).mono ?_; rintro e w6 ⟨rfl, h6⟩; have HDn := hid h6; clear h6))
    go_ret2
    exact ⟨rfl, HDn.out⟩
end Go.Proofs.Ytpgfdnmlkaoigaa
