/- What the program reads as a configuration. -/
import Derived.Test.YtepcdbmdfpaomaaCoQM
import Derived.Test.YtepcdbmdfpaomaaGa2
import Derived.Test.YtepcdbmdfpaomaaCoWM
namespace Go.Proofs.Ytepcdbmdfpaomaa
open Go.RowKit

/-- The result's block is as laid, the program's reader stands at s; nothing else has turned since w0. -/
structure RpSt (w0 w : World) (s : ByteArray) (sh : Bool) : Prop where
  res : w.heap[w0.heap.size]? = some (.cells #[.int .i64 0, .slice none 0 0] 61 (0, 0))
  rd : RdAt w (w0.heap.size + 1) s sh
  bel : Below w0.heap.size w0 w
theorem RpSt.kept {w0 w w' : World} {s s' : ByteArray} {sh sh' : Bool} (h : RpSt w0 w s sh) (k : Kept (w0.heap.size + 1) none w w') (hr : RdAt w' (w0.heap.size + 1) s' sh') : RpSt w0 w' s' sh' :=
  ⟨(k.block _ (lt_of_blk h.res) (by omega) (by simp)).trans h.res, hr, h.bel.trans (k.below (Nat.le_of_lt (lt_of_blk h.res)) (by omega) (fun g hg => by cases hg))⟩
theorem RpSt.keep {w0 w w' : World} {s : ByteArray} {sh : Bool} (h : RpSt w0 w s sh) (hb : Below w.heap.size w w') : RpSt w0 w' s sh :=
  ⟨(hb.block _ (lt_of_blk h.res)).trans h.res, (hb.block _ (lt_of_blk h.rd)).trans h.rd, h.bel.trans (hb.mono h.bel.size)⟩
/-- .. and the numbers l lie in the row b. -/
structure RmSt (w0 w : World) (s : ByteArray) (sh : Bool) (b : Nat) (l : List Int) : Prop where
  st : RpSt w0 w s sh
  row : w.heap[b]? = some (.cells (iC l).toArray 3 (0, 0))
  hb : w0.heap.size + 2 ≤ b
theorem RmSt.kept {w0 w w' : World} {s s' : ByteArray} {sh sh' : Bool} {b : Nat} {l : List Int} (h : RmSt w0 w s sh b l) (k : Kept (w0.heap.size + 1) none w w') (hr : RdAt w' (w0.heap.size + 1) s' sh') : RmSt w0 w' s' sh' b l :=
  ⟨h.st.kept k hr, (k.block _ (lt_of_blk h.row) (by have := h.hb; omega) (by simp)).trans h.row, h.hb⟩
theorem RmSt.keep {w0 w w' : World} {s : ByteArray} {sh : Bool} {b : Nat} {l : List Int} (h : RmSt w0 w s sh b l) (hb : Below w.heap.size w w') : RmSt w0 w' s sh b l :=
  ⟨h.st.keep hb, (hb.block _ (lt_of_blk h.row)).trans h.row, h.hb⟩
theorem RmSt.put {w0 w : World} {s : ByteArray} {sh : Bool} {b : Nat} {l l2 : List Int} (h : RmSt w0 w s sh b l) (j : Nat) (y : Int) (hl : l.set j y = l2) : RmSt w0 (w.setCell ⟨b, j, none⟩ (.int .i64 y)) s sh b l2 := by
  have hb := h.hb
  refine ⟨⟨(Below.heap_setCell _ _ _ _ (show w0.heap.size ≠ b by omega)).trans h.st.res, (Below.heap_setCell _ _ _ _ (show w0.heap.size + 1 ≠ b by omega)).trans h.st.rd, h.st.bel.setCell (p := ⟨b, j, none⟩) (by show w0.heap.size ≤ b; omega) _⟩, (blk_set h.row j _).trans ?_, h.hb⟩
  subst hl
  rw [List.setIfInBounds_toArray]
  simp [iC, List.map_set]
/-- What is read so far, and room for the rest. -/
def rdP (s : ByteArray) (sh : Bool) (N j : Nat) : List Int := rdL s sh j ++ List.replicate (N - j) 0
theorem rdP_set (s : ByteArray) (sh : Bool) (N j : Nat) (hj : j < N) : (rdP s sh N j).set j (rN (rdS s sh j).1 (rdS s sh j).2 1 : Int) = rdP s sh N (j + 1) := by
  obtain ⟨m, hm⟩ : ∃ m, N - j = m + 1 := ⟨N - j - 1, by omega⟩
  rw [rdP, rdP, hm, show N - (j + 1) = m by omega, List.set_append_right _ _ (by rw [rdL_len]; omega), rdL_len, Nat.sub_self, List.replicate_succ, List.set_cons_zero, rdL, List.append_assoc]
  rfl
theorem rdP_all (s : ByteArray) (sh : Bool) (N : Nat) : rdP s sh N N = rdL s sh N := by rw [rdP, Nat.sub_self, List.replicate_zero, List.append_nil]
theorem rdP_len (s : ByteArray) (sh : Bool) (N j : Nat) (hj : j ≤ N) : (rdP s sh N j).length = N := by rw [rdP, List.length_append, rdL_len, List.length_replicate]; omega
set_option maxRecDepth 100000 in
set_option maxHeartbeats 3200000 in
theorem cread_any (t : ByteArray) (w : World) :
    Calls Try.prog 105 #[.string t] w fun e w' => ∃ v, e = .returned (.tuple #[.agg #[.int .i64 (readZ t), v], .int .i64 (readE t)]) ∧ OwnedI w.heap.size w w' v (readM t) := by
  have H0 : Hid (RpSt w ((w.alloc (.cells #[.int .i64 0, .slice none 0 0] 61)).alloc (.cells #[.string t, .bool false] 118)) t false) := hid
    ⟨(Below.heap_alloc _ _ _ (by simp)).trans (heap_alloc_last w _), snd_alloc w _ _, ((Below.refl _ _).alloc (Nat.le_refl _) _).alloc (by simp) _⟩
  have hN1 : cN t < 256 := by have := rN_lt (cS2 t).1 (cS2 t).2 1; simpa [cN] using this
  obtain ⟨N, eN⟩ : ∃ N, N = cN t := ⟨_, rfl⟩
  obtain ⟨E, eE⟩ : ∃ E, E = cE t := ⟨_, rfl⟩
  obtain ⟨H, eH⟩ : ∃ H, H = cH t := ⟨_, rfl⟩
  have hN2 : (N : Int) < 256 := by omega
  have HC := hid (And.intro eN (And.intro eE eH))
  have HA : Hid (∀ u : World, RpSt w u t false → Calls Try.prog 86 #[.pointer (some ⟨w.heap.size + 1, 0, none⟩)] u fun e w' => e = .returned (.int .i64 (H : Int)) ∧ RpSt w w' (cS1 t).1 (cS1 t).2) := hid (fun u hu => (rbyte_any _ _ _ u hu.rd).mono fun e w' ⟨he, hr, hk⟩ => ⟨by rw [he, eH]; rfl, hu.kept hk hr⟩)
  have HB : Hid (∀ u : World, RpSt w u (cS1 t).1 (cS1 t).2 → Calls Try.prog 88 #[.pointer (some ⟨w.heap.size + 1, 0, none⟩)] u fun e w' => e = .returned (.int .i64 (E : Int)) ∧ RpSt w w' (cS2 t).1 (cS2 t).2) := hid (fun u hu => (rword_any _ _ _ u hu.rd).mono fun e w' ⟨he, hr, hk⟩ => ⟨by rw [he, eE]; rfl, hu.kept hk hr⟩)
  have HD : Hid (∀ u : World, RpSt w u (cS2 t).1 (cS2 t).2 → Calls Try.prog 86 #[.pointer (some ⟨w.heap.size + 1, 0, none⟩)] u fun e w' => e = .returned (.int .i64 (N : Int)) ∧ RpSt w w' (cS3 t).1 (cS3 t).2) := hid (fun u hu => (rbyte_any _ _ _ u hu.rd).mono fun e w' ⟨he, hr, hk⟩ => ⟨by rw [he, eN]; rfl, hu.kept hk hr⟩)
  have HMk : Hid (∀ u : World, (Instr.makeSlice 29 (.int .i64 (N : Int)) (.int .i64 (N : Int))).run Try.prog u = .ok (.slice (some ⟨u.heap.size, 0, none⟩) N N) (u.alloc (.cells (iC (List.replicate N 0)).toArray 3))) := hid (fun u => run_makeI N N (by omega) (by omega) u)
  clear eN eE eH hN1
  go_enter Try.func105, Try.ntmps105
  go_wp2_with (first
    | (go_at_call 47; refine (read_any _ _).mono ?_; rintro e w1 ⟨rfl, rfl⟩)
    | (go_at_call 88; refine (HB.out _ (by exact H1.out)).mono ?_; rintro e w2 ⟨rfl, h2⟩; have H2 := hid h2; clear h2)
    | (go_at_call 86; have := H2; refine (HD.out _ (by exact H2.out)).mono ?_; rintro e w3 ⟨rfl, h3⟩; have H3 := hid h3; clear h3)
    | (go_at_call 86; refine (HA.out _ (by exact H0.out)).mono ?_; rintro e w1 ⟨rfl, h1⟩; have H1 := hid h1; clear h1)
    | rw [HMk.out])
  obtain ⟨b, eb⟩ : ∃ b, b = w3.heap.size := ⟨_, rfl⟩
  obtain ⟨S, eS⟩ : ∃ S, S = cS3 t := ⟨_, rfl⟩
  rw [← eS] at H3
  have H4 : Hid (RmSt w (w3.alloc (.cells (iC (List.replicate N 0)).toArray 3)) S.1 S.2 b (rdP S.1 S.2 N 0)) := hid ⟨H3.out.keep ((Below.refl _ _).alloc (Nat.le_refl _) _), by rw [eb]; exact heap_alloc_last w3 _, by rw [eb]; exact lt_of_blk H3.out.rd⟩
  rw [← eb]
  have HS := hid eS
  clear eb eS this H0 H1 H2
  go_loopw [21] (fun i wr => ∃ j : Nat, j ≤ N ∧ i = .int .i64 (j : Int) ∧ RmSt w wr (rdS S.1 S.2 j).1 (rdS S.1 S.2 j).2 b (rdP S.1 S.2 N j))
    (fun i _ => ((N : Int) - intOf i).toNat)
  case atStart => exact ⟨0, by omega, rfl, H4.out⟩
  case round =>
    obtain ⟨j, hj, rfl, hO⟩ := hrel
    have HO := hid hO
    clear hO H3
    by_cases hjn : j = N
    · have hj1 : ¬ ((j : Int) < (N : Int)) := by omega
      have hO := HO.out
      rw [hjn, rdP_all] at hO
      have HM : Hid (rdL S.1 S.2 N = cM t ∧ rdS S.1 S.2 N = cF t) := hid (by rw [HS.out, HC.out.1]; exact ⟨rfl, rfl⟩)
      rw [HM.out.1, HM.out.2] at hO
      have HF := hid hO
      clear hj hjn hO HO
      have HLN : Hid ((cM t).length = N) := hid (by rw [← HM.out.1, rdL_len])
      have HG : Hid (RmSt w (wr.alloc (.cells #[.int .i64 (E : Int), .slice (some ⟨b, 0, none⟩) N N] 61)) (cF t).1 (cF t).2 b (cM t)) := hid (HF.out.keep ((Below.refl _ _).alloc (Nat.le_refl _) _))
      have HK : Hid ((wr.alloc (.cells #[.int .i64 (E : Int), .slice (some ⟨b, 0, none⟩) N N] 61)).heap[wr.heap.size]? = some (.cells #[.int .i64 (E : Int), .slice (some ⟨b, 0, none⟩) N N] 61 (0, 0))) := hid (heap_alloc_last wr _)
      obtain ⟨wz, ewz⟩ : ∃ wz, wz = wr.alloc (.cells #[.int .i64 (E : Int), .slice (some ⟨b, 0, none⟩) N N] 61) := ⟨_, rfl⟩
      have r0 : wz.cell? ⟨w.heap.size, 0, none⟩ = some (.int .i64 0) := by rw [ewz]; exact cell_of_blk HG.out.st.res 0 (by simp)
      have r1 : wz.cell? ⟨w.heap.size, 1, none⟩ = some (.slice none 0 0) := by rw [ewz]; exact cell_of_blk HG.out.st.res 1 (by simp)
      have f0 : wz.frozen? ⟨w.heap.size, 0, none⟩ = false := by rw [ewz]; exact free_of_blk HG.out.st.res 0
      have f1 : wz.frozen? ⟨w.heap.size, 1, none⟩ = false := by rw [ewz]; exact free_of_blk HG.out.st.res 1
      have k0 : wz.cell? ⟨wr.heap.size, 0, none⟩ = some (.int .i64 (E : Int)) := by rw [ewz]; exact cell_of_blk HK.out 0 (by simp)
      have k1 : wz.cell? ⟨wr.heap.size, 1, none⟩ = some (.slice (some ⟨b, 0, none⟩) N N) := by rw [ewz]; exact cell_of_blk HK.out 1 (by simp)
      have HI : Hid (IntsIn wz (some ⟨b, 0, none⟩) (cM t)) := hid (by rw [ewz]; exact .inr ⟨b, 0, rfl, lt_of_blk HG.out.row, fun i z hz => heap_cells HG.out.row i _ (iC_get _ i z hz)⟩)
      rw [ewz] at r0 r1 f0 f1 k0 k1
      by_cases hH : H = 67
      · have hH1 : (H : Int) = 67 := by omega
        have hE := end_any (w.heap.size + 1) (cF t).1 (cF t).2 wz (by rw [ewz]; exact HG.out.st.rd)
        rw [ewz] at hE HI
        by_cases he : endOf (cF t).1 (cF t).2 = 0
        · rw [he] at hE
          have HEnd := hid hE
          have HRt : Hid (∀ (bb : Bool), rightC (E : Int) (cM t) = bb → ∀ u : World, IntsIn u (some ⟨b, 0, none⟩) (cM t) → Calls Try.prog 59 #[.agg #[.int .i64 (E : Int), .slice (some ⟨b, 0, none⟩) N N]] u fun e w' => e = .returned (.bool bb) ∧ Below u.heap.size u w') := hid (fun bb hbb u hu => by rw [← hbb]; exact cright_any (E : Int) _ N N (cM t) HLN.out (by unfold maxLen; omega) u hu)
          cases hr : rightC (E : Int) (cM t) with
          | true =>
            have HRb := hid (HRt.out true hr)
            have HB : Hid (readB t = true) := hid (by rw [readB, ← HC.out.2.2, ← HC.out.2.1, decide_eq_true hH, decide_eq_true he, hr]; rfl)
            clear hH he hr hE ewz
            go_wp2_with (first
              | (go_at_call 50; refine (HEnd.out).mono ?_; rintro e wx ⟨rfl, rfl⟩)
              | (go_at_call 59; refine (HRb.out _ (by exact HI.out)).mono ?_; rintro e w7 ⟨rfl, hb7⟩; have H7 := hid hb7; clear hb7
                 have HR7 := hid ((H7.out.block _ (lt_of_blk HG.out.st.res)).trans HG.out.st.res)
                 have HK7 := hid ((H7.out.block _ (lt_of_blk HK.out)).trans HK.out)
                 have HM7 := hid ((H7.out.block _ (lt_of_blk HG.out.row)).trans HG.out.row)
                 have q0 : w7.cell? ⟨wr.heap.size, 0, none⟩ = some (.int .i64 (E : Int)) := cell_of_blk HK7.out 0 (by simp)
                 have q1 : w7.cell? ⟨wr.heap.size, 1, none⟩ = some (.slice (some ⟨b, 0, none⟩) N N) := cell_of_blk HK7.out 1 (by simp)
                 have s0 : w7.cell? ⟨w.heap.size, 0, none⟩ = some (.int .i64 0) := cell_of_blk HR7.out 0 (by simp)
                 have s1 : w7.cell? ⟨w.heap.size, 1, none⟩ = some (.slice none 0 0) := cell_of_blk HR7.out 1 (by simp)
                 have g0 : w7.frozen? ⟨w.heap.size, 0, none⟩ = false := free_of_blk HR7.out 0
                 have g1 : w7.frozen? ⟨w.heap.size, 1, none⟩ = false := free_of_blk HR7.out 1))
            refine ret_cell2 (s := 2) (s2 := 3) (ad := ⟨w.heap.size, 0, none⟩) rfl rfl (load_conf _ _ (.int .i64 (E : Int)) (.slice (some ⟨b, 0, none⟩) N N) (cell_of_blk (res_set HR7.out) 0 (by simp)) (cell_of_blk (res_set HR7.out) 1 (by simp))) rfl rfl ?_
            have hb2 := HG.out.hb
            have hbl := ((HG.out.st.bel.trans (H7.out.mono HG.out.st.bel.size)).setCell (p := ⟨w.heap.size, 0, none⟩) (Nat.le_refl _) (.int .i64 (E : Int))).setCell (p := ⟨w.heap.size, 1, none⟩) (Nat.le_refl _) (.slice (some ⟨b, 0, none⟩) N N)
            rw [readZ, readM, readE, HB.out, ← HC.out.2.1]
            refine ⟨_, rfl, own_of_blk (zs := cM t) (rest := []) ?_ (by omega) (by rw [HLN.out]; rfl) (by unfold maxLen; omega) HLN.out.symm hbl⟩
            rw [List.append_nil]
            exact (Below.heap_setCell _ _ _ _ (show b ≠ w.heap.size by omega)).trans ((Below.heap_setCell _ _ _ _ (show b ≠ w.heap.size by omega)).trans HM7.out)
          | false =>
            have HRb := hid (HRt.out false hr)
            have HB : Hid (readB t = false) := hid (by rw [readB, ← HC.out.2.1, hr]; simp)
            clear hH he hr hE ewz
            go_wp2_with (first
              | (go_at_call 50; refine (HEnd.out).mono ?_; rintro e wx ⟨rfl, rfl⟩)
              | (go_at_call 59; refine (HRb.out _ (by exact HI.out)).mono ?_; rintro e w7 ⟨rfl, hb7⟩; have H7 := hid hb7; clear hb7
                 have HR7 := hid ((H7.out.block _ (lt_of_blk HG.out.st.res)).trans HG.out.st.res)
                 have s0 : w7.cell? ⟨w.heap.size, 0, none⟩ = some (.int .i64 0) := cell_of_blk HR7.out 0 (by simp)
                 have s1 : w7.cell? ⟨w.heap.size, 1, none⟩ = some (.slice none 0 0) := cell_of_blk HR7.out 1 (by simp)
                 have g0 : w7.frozen? ⟨w.heap.size, 0, none⟩ = false := free_of_blk HR7.out 0
                 have g1 : w7.frozen? ⟨w.heap.size, 1, none⟩ = false := free_of_blk HR7.out 1))
            refine ret_cell2 (s := 2) (s2 := 3) (ad := ⟨w.heap.size, 0, none⟩) rfl rfl (load_conf _ _ (.int .i64 0) (.slice none 0 0) (cell_of_blk (res_set HR7.out) 0 (by simp)) (cell_of_blk (res_set HR7.out) 1 (by simp))) rfl rfl ?_
            rw [readZ, readM, readE, HB.out]
            have hbl := ((HG.out.st.bel.trans (H7.out.mono HG.out.st.bel.size)).setCell (p := ⟨w.heap.size, 0, none⟩) (Nat.le_refl _) (.int .i64 0)).setCell (p := ⟨w.heap.size, 1, none⟩) (Nat.le_refl _) (.slice none 0 0)
            exact ⟨_, rfl, OwnedI.nil hbl hbl.size⟩
        · have HB : Hid (readB t = false) := hid (by rw [readB, decide_eq_false he]; simp)
          generalize endOf (cF t).1 (cF t).2 = er at hE he
          have HEnd := hid hE
          clear hH hE ewz
          go_wp2_with (go_at_call 50; refine (HEnd.out).mono ?_; rintro e wx ⟨rfl, rfl⟩)
          refine ret_cell2 (s := 2) (s2 := 3) (ad := ⟨w.heap.size, 0, none⟩) rfl rfl (load_conf _ _ (.int .i64 0) (.slice none 0 0) (cell_of_blk (res_set HG.out.st.res) 0 (by simp)) (cell_of_blk (res_set HG.out.st.res) 1 (by simp))) rfl rfl ?_
          rw [readZ, readM, readE, HB.out]
          have hbl := (HG.out.st.bel.setCell (p := ⟨w.heap.size, 0, none⟩) (Nat.le_refl _) (.int .i64 0)).setCell (p := ⟨w.heap.size, 1, none⟩) (Nat.le_refl _) (.slice none 0 0)
          exact ⟨_, rfl, OwnedI.nil hbl hbl.size⟩
      · have hH1 : ¬ ((H : Int) = 67) := by omega
        have HB : Hid (readB t = false) := hid (by rw [readB, ← HC.out.2.2, decide_eq_false hH]; rfl)
        clear hH ewz
        go_wp2
        refine ret_cell2 (s := 2) (s2 := 3) (ad := ⟨w.heap.size, 0, none⟩) rfl rfl (load_conf _ _ (.int .i64 0) (.slice none 0 0) (cell_of_blk (res_set HG.out.st.res) 0 (by simp)) (cell_of_blk (res_set HG.out.st.res) 1 (by simp))) rfl rfl ?_
        rw [readZ, readM, readE, HB.out]
        have hbl := (HG.out.st.bel.setCell (p := ⟨w.heap.size, 0, none⟩) (Nat.le_refl _) (.int .i64 0)).setCell (p := ⟨w.heap.size, 1, none⟩) (Nat.le_refl _) (.slice none 0 0)
        exact ⟨_, rfl, OwnedI.nil hbl hbl.size⟩
    · have hj1 : (j : Int) < (N : Int) := by omega
      have hj0 : (0 : Int) ≤ (j : Int) := Int.natCast_nonneg _
      obtain ⟨y, ey⟩ : ∃ y, y = rN (rdS S.1 S.2 j).1 (rdS S.1 S.2 j).2 1 := ⟨_, rfl⟩
      have HL : Hid ((rdP S.1 S.2 N j).set j (y : Int) = rdP S.1 S.2 N (j + 1)) := hid (by rw [ey]; exact rdP_set S.1 S.2 N j (by omega))
      have HK : Hid (∀ u : World, RmSt w u (rdS S.1 S.2 j).1 (rdS S.1 S.2 j).2 b (rdP S.1 S.2 N j) → Calls Try.prog 86 #[.pointer (some ⟨w.heap.size + 1, 0, none⟩)] u fun e w' => e = .returned (.int .i64 (y : Int)) ∧ RmSt w w' (rdS S.1 S.2 (j + 1)).1 (rdS S.1 S.2 (j + 1)).2 b (rdP S.1 S.2 N j)) := hid (fun u hu => (rbyte_any _ _ _ u hu.st.rd).mono fun e w' ⟨he, hr, hk⟩ => ⟨by rw [he, ey], hu.kept hk hr⟩)
      have HLn : Hid (j < (iC (rdP S.1 S.2 N j)).toArray.size) := hid (by show j < (iC (rdP S.1 S.2 N j)).length; rw [iC_len, rdP_len _ _ _ _ hj]; omega)
      have HJ := hid (And.intro hj hjn)
      clear ey hj hjn
      go_wp2_with (go_at_call 86; refine (HK.out _ (by exact HO.out)).mono ?_; rintro e w5 ⟨rfl, h5⟩; have H5 := hid h5; clear h5; have z5 := cell_of_blk H5.out.row j HLn.out; have f5 := free_of_blk H5.out.row j)
      go_roundw
      case rel => exact ⟨j + 1, by have := HJ.out; omega, by go_num, H5.out.put j _ HL.out⟩
      case measure => simp [intOf]; omega
end Go.Proofs.Ytepcdbmdfpaomaa
