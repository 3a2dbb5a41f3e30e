/- Texts laid together: CoQ CoW CoR. -/
import Derived.Test.YtfjcpghepkmbfaaGa5
import Derived.Test.YtfjcpghepkmbfaaGa2
import Derived.Test.YtfjcpghepkmbfaaGa3
import Derived.Laws.CopyOwn
/- The program's bytes of a configuration. -/
namespace Go.Proofs.Ytfjcpghepkmbfaa
open Go.RowKit

/-- The program's writer at block c, with room for lim, and l in it; nothing below c has turned since w0. -/
def CwAt (c lim : Nat) (w0 w : World) (l : List UInt8) : Prop := (∃ v, WrAt w c v (lim : Int) l 0) ∧ Below c w0 w
theorem wL_ok2 (lim : Nat) (l : List UInt8) (s n : Nat) (hn : n < 256 ^ s) (hl : l.length + s ≤ lim) : wL (lim : Int) l 0 s (n : Int) = l ++ be s n ∧ wE (lim : Int) l 0 s (n : Int) = 0 := by
  have h : adm (lim : Int) l.length 0 (inR s (n : Int)) s = 0 := by
    have hi : inR s (n : Int) = true := inR_yes s n hn
    rw [hi]
    unfold adm
    simp
    omega
  exact ⟨by rw [wL, if_pos h, Int.toNat_natCast], by rw [wE, h]⟩
theorem cbyte (c lim : Nat) (w0 w : World) (l : List UInt8) (n : Nat) (hn : n < 256) (hm : lim ≤ 100) (hl : l.length + 1 ≤ lim) (h : CwAt c lim w0 w l) :
    Calls Try.prog 40 #[.pointer (some ⟨c, 0, none⟩), .int .i64 (n : Int)] w fun e w' => e = .returned (.tuple #[]) ∧ CwAt c lim w0 w' (l ++ be 1 n) := by
  obtain ⟨⟨v, hv⟩, hb⟩ := h
  refine (wbyte_any c v lim l 0 n w hv (by omega) (by omega) (by omega) (by omega)).mono ?_
  rintro e w' ⟨rfl, v', h', hk, _⟩
  rw [(wL_ok2 lim l 1 n (by omega) hl).1, (wL_ok2 lim l 1 n (by omega) hl).2] at h'
  exact ⟨rfl, ⟨v', h'⟩, hb.trans (hk.below (Nat.le_of_lt hv.lt) (Nat.le_refl _) (fun g hg => by have := (hv.own.lt g hg).1; omega))⟩
theorem cword (c lim : Nat) (w0 w : World) (l : List UInt8) (n : Nat) (hn : n < 65536) (hm : lim ≤ 100) (hl : l.length + 2 ≤ lim) (h : CwAt c lim w0 w l) :
    Calls Try.prog 41 #[.pointer (some ⟨c, 0, none⟩), .int .i64 (n : Int)] w fun e w' => e = .returned (.tuple #[]) ∧ CwAt c lim w0 w' (l ++ be 2 n) := by
  obtain ⟨⟨v, hv⟩, hb⟩ := h
  refine (wword_any c v lim l 0 n w hv (by omega) (by omega) (by omega) (by omega)).mono ?_
  rintro e w' ⟨rfl, v', h', hk, _⟩
  rw [(wL_ok2 lim l 2 n (by omega) hl).1, (wL_ok2 lim l 2 n (by omega) hl).2] at h'
  exact ⟨rfl, ⟨v', h'⟩, hb.trans (hk.below (Nat.le_of_lt hv.lt) (Nat.le_refl _) (fun g hg => by have := (hv.own.lt g hg).1; omega))⟩
set_option maxRecDepth 100000 in
set_option maxHeartbeats 3200000 in
theorem ctext_any (ep : Int) (a : Option Addr) (n cap : Nat) (l : List Int) (hn : l.length = n) (hm : n ≤ maxLen) (w : World) (hI : IntsIn w a l) :
    Calls Try.prog 69 #[.agg #[.int .i64 ep, .slice a n cap]] w fun e w' => e = .returned (.tuple #[.string (textC ep l), .int .i64 (textE ep l)]) ∧ Below w.heap.size w w' := by
  have HR : Hid (∀ (b : Bool), rightC ep l = b → ∀ u : World, IntsIn u a l → Calls Try.prog 59 #[.agg #[.int .i64 ep, .slice a n cap]] u fun e w' => e = .returned (.bool b) ∧ Below u.heap.size u w') := hid (fun b hb u hu => by rw [← hb]; exact cright_any ep a n cap l hn hm u hu)
  have HI := hid hI
  have HN := hid hn
  clear hI hm hn
  cases hr : rightC ep l with
  | false =>
    rw [show textC ep l = ⟨#[]⟩ by rw [textC, hr]; rfl, show textE ep l = 1 by rw [textE, hr]; rfl]
    have HRb := hid (HR.out false hr)
    clear hr
    go_enter Try.func69, Try.ntmps69
    go_wp2_with (go_at_call 59; refine (HRb.out _ (by exact HI.out.alloc _)).mono ?_; rintro e w1 ⟨rfl, hb1⟩; have H1 := hid (((Below.refl w.heap.size w).alloc (Nat.le_refl _) _).trans (hb1.mono (by simp))); clear hb1)
    go_ret2
    exact ⟨rfl, H1.out⟩
  | true =>
    have HRb := hid (HR.out true hr)
    obtain ⟨⟨he0, he60⟩, hmb⟩ := right_mem hr
    have hml := mem_len hmb
    rw [HN.out] at hml
    obtain ⟨E, rfl⟩ : ∃ E : Nat, ep = (E : Int) := ⟨ep.toNat, by omega⟩
    rw [show textE (E : Int) l = 0 by rw [textE, hr]; rfl]
    obtain ⟨T, eT⟩ : ∃ T, T = textC (E : Int) l := ⟨_, rfl⟩
    have HT : Hid (T = ⟨(be 1 67 ++ be 2 E ++ be 1 n ++ memBytes l).toArray⟩) := hid (by rw [eT, textC, hr, if_pos rfl, confB, Int.toNat_natCast, HN.out])
    rw [← eT]
    have HM := hid hmb
    have hn1 : (n : Int) ≤ 10 := by omega
    have hE1 : (E : Int) ≤ 60 := by omega
    have HE := hid (And.intro hml (show E ≤ 60 by omega))
    obtain ⟨M, eM⟩ : ∃ M : Nat, M = 4 + n := ⟨_, rfl⟩
    have HMx : Hid (M = 4 + n ∧ max ((4 : Int) + (n : Int)) 0 = (M : Int)) := hid ⟨eM, by omega⟩
    clear hr he0 he60 hmb hml eT eM
    go_enter Try.func69, Try.ntmps69
    go_wp2_with (first
      | (go_at_call 59; refine (HRb.out _ (by exact HI.out.alloc _)).mono ?_; rintro e w1 ⟨rfl, hb1⟩
         have c0 : w1.cell? ⟨w.heap.size, 0, none⟩ = some (.int .i64 (E : Int)) := (hb1.cell (p := ⟨w.heap.size, 0, none⟩) (by simp)).trans (cell_at (conf_cells w _ _) 0 _ rfl)
         have c1 : w1.cell? ⟨w.heap.size, 1, none⟩ = some (.slice a n cap) := (hb1.cell (p := ⟨w.heap.size, 1, none⟩) (by simp)).trans (cell_at (conf_cells w _ _) 1 _ rfl)
         have hlt : w.heap.size < w1.heap.size := Nat.lt_of_lt_of_le (by simp) hb1.size
         have H1 := hid (And.intro hlt (And.intro (((Below.refl w.heap.size w).alloc (Nat.le_refl _) _).trans (hb1.mono (by simp))) (And.intro c0 c1)))
         clear hb1 hlt)
      | (go_at_call 16; refine (new_any _ _).mono ?_; rintro e w2 ⟨rfl, hw2⟩
         have H2 : Hid (CwAt w1.heap.size M w1 w2 []) := hid (by rw [hw2, HMx.out.2]; exact ⟨⟨_, ⟨heap_alloc_last w1 _, ⟨rfl, .inl ⟨rfl, rfl⟩⟩⟩⟩, (Below.refl _ _).alloc (Nat.le_refl _) _⟩)
         clear hw2)
      | (go_at_call 41; refine (cword _ M w1 _ (be 1 67) E (by have := HE.out.2; omega) (by have := HE.out.1; have := HMx.out.1; omega) (by rw [be_len]; have := HMx.out.1; have := HE.out.1; omega) (by exact H3.out)).mono ?_; rintro e w4 ⟨rfl, h4⟩; have H4 := hid h4; clear h4; have d1 : w4.cell? ⟨w.heap.size, 1, none⟩ = some (.slice a n cap) := (H4.out.2.cell (p := ⟨w.heap.size, 1, none⟩) H1.out.1).trans H1.out.2.2.2)
      | (go_at_call 40; have := H4; refine (cbyte _ M w1 _ (be 1 67 ++ be 2 E) n (by have := HE.out.1; omega) (by have := HE.out.1; have := HMx.out.1; omega) (by rw [List.length_append, be_len, be_len]; have := HMx.out.1; have := HE.out.1; omega) (by exact H4.out)).mono ?_; rintro e w5 ⟨rfl, h5⟩; have H5 := hid h5; clear h5; have d2 : w5.cell? ⟨w.heap.size, 1, none⟩ = some (.slice a n cap) := (H5.out.2.cell (p := ⟨w.heap.size, 1, none⟩) H1.out.1).trans H1.out.2.2.2)
      | (go_at_call 40; refine (cbyte _ M w1 _ [] 67 (by decide) (by have := HE.out.1; have := HMx.out.1; omega) (by have := HMx.out.1; have := HE.out.1; simp; omega) (by exact H2.out)).mono ?_; rintro e w3 ⟨rfl, h3⟩; have H3 := hid h3; clear h3; have d0 : w3.cell? ⟨w.heap.size, 0, none⟩ = some (.int .i64 (E : Int)) := (H3.out.2.cell (p := ⟨w.heap.size, 0, none⟩) H1.out.1).trans H1.out.2.2.1))
    obtain ⟨P, eP⟩ : ∃ P, P = be 1 67 ++ be 2 E ++ be 1 n := ⟨_, rfl⟩
    rw [← eP] at H5 HT
    have HP : Hid (P.length = 4) := hid (by rw [eP, List.length_append, List.length_append, be_len, be_len, be_len])
    clear eP this
    go_loopw [29] (fun i wr => ∃ j : Nat, j ≤ n ∧ i = .int .i64 (j : Int) ∧ CwAt w1.heap.size M w1 wr (P ++ memBytes (l.take j)))
      (fun i _ => ((n : Int) - intOf i).toNat)
    case atStart => exact ⟨0, by omega, rfl, by rw [List.take_zero, show memBytes [] = [] from rfl, List.append_nil]; exact H5.out⟩
    case round =>
      obtain ⟨j, hj, rfl, hO⟩ := hrel
      have HO := hid hO
      clear hO
      by_cases hjn : j = n
      · have hj1 : ¬ ((j : Int) < (n : Int)) := by omega
        have hO := HO.out
        rw [hjn, List.take_of_length_le (by rw [HN.out]; exact Nat.le_refl _)] at hO
        obtain ⟨⟨v, hv⟩, hb⟩ := hO
        have HV := hid hv
        have HB := hid hb
        clear hj hjn hv hb
        go_wp2_with (go_at_call 18; refine (done_ok _ _ _ _ _ (by exact HV.out)).mono ?_; rintro e wx ⟨rfl, rfl⟩)
        go_ret2
        exact ⟨by rw [HT.out]; rfl, H1.out.2.1.trans (HB.out.mono (Nat.le_of_lt H1.out.1))⟩
      · have hj1 : (j : Int) < (n : Int) := by omega
        have hj0 : (0 : Int) ≤ (j : Int) := Int.natCast_nonneg _
        have hjl : j < l.length := by rw [HN.out]; omega
        have hrg := mem_range HM.out j hjl
        have HS := hid (memBytes_snoc l j hjl)
        obtain ⟨g, off, rfl, hg, hcell⟩ := HI.out.at j _ (getD_some hjl)
        generalize l.getD j 0 = x at hrg HS hcell
        obtain ⟨X, rfl⟩ : ∃ X : Nat, x = (X : Int) := ⟨x.toNat, by omega⟩
        rw [Int.toNat_natCast] at HS
        have cz : wr.cell? ⟨g, off + j, none⟩ = some (.int .i64 (X : Int)) := (HO.out.2.cell (p := ⟨g, off + j, none⟩) (Nat.lt_of_lt_of_le hg H1.out.2.1.size)).trans ((H1.out.2.1.cell (p := ⟨g, off + j, none⟩) hg).trans hcell)
        have HX : Hid (X < 256 ∧ (P ++ memBytes (l.take j)).length + 1 ≤ M ∧ M ≤ 100) := hid ⟨by omega, by rw [List.length_append, HP.out, memBytes_len, List.length_take, HMx.out.1]; omega, by have := HMx.out.1; omega⟩
        have HJ := hid (And.intro hj hjn)
        clear hj hjn hjl hrg hg hcell
        go_wp2_with (go_at_call 40; refine (cbyte _ M w1 _ (P ++ memBytes (l.take j)) X (by exact HX.out.1) (by exact HX.out.2.2) (by exact HX.out.2.1) (by exact HO.out)).mono ?_; rintro e w6 ⟨rfl, h6⟩; have H6 := hid h6; clear h6)
        go_roundw
        case rel => exact ⟨j + 1, by have := HJ.out; omega, by go_num, by rw [HS.out, ← List.append_assoc]; exact H6.out⟩
        case measure => simp [intOf]; omega
end Go.Proofs.Ytfjcpghepkmbfaa

/- Lists of numbers that are made; a row of one's own by its block. -/
namespace Go.Proofs.Ytfjcpghepkmbfaa
open Go.RowKit
set_option maxRecDepth 100000 in
theorem run_makeI (n m : Nat) (hnm : n ≤ m) (hm : m ≤ 1000) (u : World) : (Instr.makeSlice 29 (.int .i64 (n : Int)) (.int .i64 (m : Int))).run Try.prog u = .ok (.slice (some ⟨u.heap.size, 0, none⟩) n m) (u.alloc (.cells (iC (List.replicate m 0)).toArray 3)) := by
  obtain ⟨i0, hi0, hz0, hz1, hz2⟩ := info_parts Try.info3
  have h := run_make (P := Try.prog) u 29 3 i0 (.int .i64 0) Try.underlying29 hi0 hz0 .i64 .i64 n m (by omega) (by omega) (by rw [hz2]; omega) (by omega)
  rw [hz1, Int.toNat_natCast, Int.toNat_natCast, Nat.mul_one] at h
  rw [h]
  congr 4
  apply Array.ext'
  have h2 : (Value.int .i64 0).cells = #[.int .i64 0] := rfl
  rw [h2, toList_madeCells_one]
  show _ = iC _
  rw [iC, List.map_replicate]
theorem own_of_blk {B : Nat} {w0 w : World} {g cap n : Nat} {zs : List Int} {rest : List Value} (h : w.heap[g]? = some (.cells (iC zs ++ rest).toArray 3 (0, 0))) (hB : B ≤ g) (hc : zs.length + rest.length = cap) (hm : cap ≤ maxLen) (hn : n = zs.length) (hb : Below B w0 w) : OwnedI B w0 w (.slice (some ⟨g, 0, none⟩) n cap) zs := by
  subst hn
  refine ⟨⟨by rw [iC_len, Nat.mul_one], .inr ⟨g, cap, _, rfl, hB, h, by omega, hm, by simp [iC]; omega, ?_⟩⟩, hb, by have := lt_of_blk h; omega⟩
  rw [Nat.mul_one]
  simp [iC]
end Go.Proofs.Ytfjcpghepkmbfaa

/- What the program reads as a configuration. -/
namespace Go.Proofs.Ytfjcpghepkmbfaa
open Go.RowKit

/-- The result's block is as laid, the program's reader stands at s; nothing else has turned since w0. -/
structure RpSt (w0 w : World) (s : ByteArray) (sh : Bool) : Prop where
  res : w.heap[w0.heap.size]? = some (.cells #[.int .i64 0, .slice none 0 0] 61 (0, 0))
  rd : RdAt w (w0.heap.size + 1) s sh
  bel : Below w0.heap.size w0 w
theorem RpSt.kept {w0 w w' : World} {s s' : ByteArray} {sh sh' : Bool} (h : RpSt w0 w s sh) (k : Kept (w0.heap.size + 1) none w w') (hr : RdAt w' (w0.heap.size + 1) s' sh') : RpSt w0 w' s' sh' :=
  ⟨(k.block _ (lt_of_blk h.res) (by omega) (by simp)).trans h.res, hr, h.bel.trans (k.below (Nat.le_of_lt (lt_of_blk h.res)) (by omega) (fun g hg => by cases hg))⟩
theorem RpSt.keep {w0 w w' : World} {s : ByteArray} {sh : Bool} (h : RpSt w0 w s sh) (hb : Below w.heap.size w w') : RpSt w0 w' s sh :=
  ⟨(hb.block _ (lt_of_blk h.res)).trans h.res, (hb.block _ (lt_of_blk h.rd)).trans h.rd, h.bel.trans (hb.mono h.bel.size)⟩
/-- .. and the numbers l lie in the row b. -/
structure RmSt (w0 w : World) (s : ByteArray) (sh : Bool) (b : Nat) (l : List Int) : Prop where
  st : RpSt w0 w s sh
  row : w.heap[b]? = some (.cells (iC l).toArray 3 (0, 0))
  hb : w0.heap.size + 2 ≤ b
theorem RmSt.kept {w0 w w' : World} {s s' : ByteArray} {sh sh' : Bool} {b : Nat} {l : List Int} (h : RmSt w0 w s sh b l) (k : Kept (w0.heap.size + 1) none w w') (hr : RdAt w' (w0.heap.size + 1) s' sh') : RmSt w0 w' s' sh' b l :=
  ⟨h.st.kept k hr, (k.block _ (lt_of_blk h.row) (by have := h.hb; omega) (by simp)).trans h.row, h.hb⟩
theorem RmSt.keep {w0 w w' : World} {s : ByteArray} {sh : Bool} {b : Nat} {l : List Int} (h : RmSt w0 w s sh b l) (hb : Below w.heap.size w w') : RmSt w0 w' s sh b l :=
  ⟨h.st.keep hb, (hb.block _ (lt_of_blk h.row)).trans h.row, h.hb⟩
theorem RmSt.put {w0 w : World} {s : ByteArray} {sh : Bool} {b : Nat} {l l2 : List Int} (h : RmSt w0 w s sh b l) (j : Nat) (y : Int) (hl : l.set j y = l2) : RmSt w0 (w.setCell ⟨b, j, none⟩ (.int .i64 y)) s sh b l2 := by
  have hb := h.hb
  refine ⟨⟨(Below.heap_setCell _ _ _ _ (show w0.heap.size ≠ b by omega)).trans h.st.res, (Below.heap_setCell _ _ _ _ (show w0.heap.size + 1 ≠ b by omega)).trans h.st.rd, h.st.bel.setCell (p := ⟨b, j, none⟩) (by show w0.heap.size ≤ b; omega) _⟩, (blk_set h.row j _).trans ?_, h.hb⟩
  subst hl
  rw [List.setIfInBounds_toArray]
  simp [iC, List.map_set]
/-- What is read so far, and room for the rest. -/
def rdP (s : ByteArray) (sh : Bool) (N j : Nat) : List Int := rdL s sh j ++ List.replicate (N - j) 0
theorem rdP_set (s : ByteArray) (sh : Bool) (N j : Nat) (hj : j < N) : (rdP s sh N j).set j (rN (rdS s sh j).1 (rdS s sh j).2 1 : Int) = rdP s sh N (j + 1) := by
  obtain ⟨m, hm⟩ : ∃ m, N - j = m + 1 := ⟨N - j - 1, by omega⟩
  rw [rdP, rdP, hm, show N - (j + 1) = m by omega, List.set_append_right _ _ (by rw [rdL_len]; omega), rdL_len, Nat.sub_self, List.replicate_succ, List.set_cons_zero, rdL, List.append_assoc]
  rfl
theorem rdP_all (s : ByteArray) (sh : Bool) (N : Nat) : rdP s sh N N = rdL s sh N := by rw [rdP, Nat.sub_self, List.replicate_zero, List.append_nil]
theorem rdP_len (s : ByteArray) (sh : Bool) (N j : Nat) (hj : j ≤ N) : (rdP s sh N j).length = N := by rw [rdP, List.length_append, rdL_len, List.length_replicate]; omega
set_option maxRecDepth 100000 in
set_option maxHeartbeats 3200000 in
theorem cread_any (t : ByteArray) (w : World) :
    Calls Try.prog 105 #[.string t] w fun e w' => ∃ v, e = .returned (.tuple #[.agg #[.int .i64 (readZ t), v], .int .i64 (readE t)]) ∧ OwnedI w.heap.size w w' v (readM t) := by
  have H0 : Hid (RpSt w ((w.alloc (.cells #[.int .i64 0, .slice none 0 0] 61)).alloc (.cells #[.string t, .bool false] 118)) t false) := hid
    ⟨(Below.heap_alloc _ _ _ (by simp)).trans (heap_alloc_last w _), snd_alloc w _ _, ((Below.refl _ _).alloc (Nat.le_refl _) _).alloc (by simp) _⟩
  have hN1 : cN t < 256 := by have := rN_lt (cS2 t).1 (cS2 t).2 1; simpa [cN] using this
  obtain ⟨N, eN⟩ : ∃ N, N = cN t := ⟨_, rfl⟩
  obtain ⟨E, eE⟩ : ∃ E, E = cE t := ⟨_, rfl⟩
  obtain ⟨H, eH⟩ : ∃ H, H = cH t := ⟨_, rfl⟩
  have hN2 : (N : Int) < 256 := by omega
  have HC := hid (And.intro eN (And.intro eE eH))
  have HA : Hid (∀ u : World, RpSt w u t false → Calls Try.prog 86 #[.pointer (some ⟨w.heap.size + 1, 0, none⟩)] u fun e w' => e = .returned (.int .i64 (H : Int)) ∧ RpSt w w' (cS1 t).1 (cS1 t).2) := hid (fun u hu => (rbyte_any _ _ _ u hu.rd).mono fun e w' ⟨he, hr, hk⟩ => ⟨by rw [he, eH]; rfl, hu.kept hk hr⟩)
  have HB : Hid (∀ u : World, RpSt w u (cS1 t).1 (cS1 t).2 → Calls Try.prog 88 #[.pointer (some ⟨w.heap.size + 1, 0, none⟩)] u fun e w' => e = .returned (.int .i64 (E : Int)) ∧ RpSt w w' (cS2 t).1 (cS2 t).2) := hid (fun u hu => (rword_any _ _ _ u hu.rd).mono fun e w' ⟨he, hr, hk⟩ => ⟨by rw [he, eE]; rfl, hu.kept hk hr⟩)
  have HD : Hid (∀ u : World, RpSt w u (cS2 t).1 (cS2 t).2 → Calls Try.prog 86 #[.pointer (some ⟨w.heap.size + 1, 0, none⟩)] u fun e w' => e = .returned (.int .i64 (N : Int)) ∧ RpSt w w' (cS3 t).1 (cS3 t).2) := hid (fun u hu => (rbyte_any _ _ _ u hu.rd).mono fun e w' ⟨he, hr, hk⟩ => ⟨by rw [he, eN]; rfl, hu.kept hk hr⟩)
  have HMk : Hid (∀ u : World, (Instr.makeSlice 29 (.int .i64 (N : Int)) (.int .i64 (N : Int))).run Try.prog u = .ok (.slice (some ⟨u.heap.size, 0, none⟩) N N) (u.alloc (.cells (iC (List.replicate N 0)).toArray 3))) := hid (fun u => run_makeI N N (by omega) (by omega) u)
  clear eN eE eH hN1
  go_enter Try.func105, Try.ntmps105
  go_wp2_with (first
    | (go_at_call 47; refine (read_any _ _).mono ?_; rintro e w1 ⟨rfl, rfl⟩)
    | (go_at_call 88; refine (HB.out _ (by exact H1.out)).mono ?_; rintro e w2 ⟨rfl, h2⟩; have H2 := hid h2; clear h2)
    | (go_at_call 86; have := H2; refine (HD.out _ (by exact H2.out)).mono ?_; rintro e w3 ⟨rfl, h3⟩; have H3 := hid h3; clear h3)
    | (go_at_call 86; refine (HA.out _ (by exact H0.out)).mono ?_; rintro e w1 ⟨rfl, h1⟩; have H1 := hid h1; clear h1)
    | rw [HMk.out])
  obtain ⟨b, eb⟩ : ∃ b, b = w3.heap.size := ⟨_, rfl⟩
  obtain ⟨S, eS⟩ : ∃ S, S = cS3 t := ⟨_, rfl⟩
  rw [← eS] at H3
  have H4 : Hid (RmSt w (w3.alloc (.cells (iC (List.replicate N 0)).toArray 3)) S.1 S.2 b (rdP S.1 S.2 N 0)) := hid ⟨H3.out.keep ((Below.refl _ _).alloc (Nat.le_refl _) _), by rw [eb]; exact heap_alloc_last w3 _, by rw [eb]; exact lt_of_blk H3.out.rd⟩
  rw [← eb]
  have HS := hid eS
  clear eb eS this H0 H1 H2
  go_loopw [21] (fun i wr => ∃ j : Nat, j ≤ N ∧ i = .int .i64 (j : Int) ∧ RmSt w wr (rdS S.1 S.2 j).1 (rdS S.1 S.2 j).2 b (rdP S.1 S.2 N j))
    (fun i _ => ((N : Int) - intOf i).toNat)
  case atStart => exact ⟨0, by omega, rfl, H4.out⟩
  case round =>
    obtain ⟨j, hj, rfl, hO⟩ := hrel
    have HO := hid hO
    clear hO H3
    by_cases hjn : j = N
    · have hj1 : ¬ ((j : Int) < (N : Int)) := by omega
      have hO := HO.out
      rw [hjn, rdP_all] at hO
      have HM : Hid (rdL S.1 S.2 N = cM t ∧ rdS S.1 S.2 N = cF t) := hid (by rw [HS.out, HC.out.1]; exact ⟨rfl, rfl⟩)
      rw [HM.out.1, HM.out.2] at hO
      have HF := hid hO
      clear hj hjn hO HO
      have HLN : Hid ((cM t).length = N) := hid (by rw [← HM.out.1, rdL_len])
      have HG : Hid (RmSt w (wr.alloc (.cells #[.int .i64 (E : Int), .slice (some ⟨b, 0, none⟩) N N] 61)) (cF t).1 (cF t).2 b (cM t)) := hid (HF.out.keep ((Below.refl _ _).alloc (Nat.le_refl _) _))
      have HK : Hid ((wr.alloc (.cells #[.int .i64 (E : Int), .slice (some ⟨b, 0, none⟩) N N] 61)).heap[wr.heap.size]? = some (.cells #[.int .i64 (E : Int), .slice (some ⟨b, 0, none⟩) N N] 61 (0, 0))) := hid (heap_alloc_last wr _)
      obtain ⟨wz, ewz⟩ : ∃ wz, wz = wr.alloc (.cells #[.int .i64 (E : Int), .slice (some ⟨b, 0, none⟩) N N] 61) := ⟨_, rfl⟩
      have r0 : wz.cell? ⟨w.heap.size, 0, none⟩ = some (.int .i64 0) := by rw [ewz]; exact cell_of_blk HG.out.st.res 0 (by simp)
      have r1 : wz.cell? ⟨w.heap.size, 1, none⟩ = some (.slice none 0 0) := by rw [ewz]; exact cell_of_blk HG.out.st.res 1 (by simp)
      have f0 : wz.frozen? ⟨w.heap.size, 0, none⟩ = false := by rw [ewz]; exact free_of_blk HG.out.st.res 0
      have f1 : wz.frozen? ⟨w.heap.size, 1, none⟩ = false := by rw [ewz]; exact free_of_blk HG.out.st.res 1
      have k0 : wz.cell? ⟨wr.heap.size, 0, none⟩ = some (.int .i64 (E : Int)) := by rw [ewz]; exact cell_of_blk HK.out 0 (by simp)
      have k1 : wz.cell? ⟨wr.heap.size, 1, none⟩ = some (.slice (some ⟨b, 0, none⟩) N N) := by rw [ewz]; exact cell_of_blk HK.out 1 (by simp)
      have HI : Hid (IntsIn wz (some ⟨b, 0, none⟩) (cM t)) := hid (by rw [ewz]; exact .inr ⟨b, 0, rfl, lt_of_blk HG.out.row, fun i z hz => heap_cells HG.out.row i _ (iC_get _ i z hz)⟩)
      rw [ewz] at r0 r1 f0 f1 k0 k1
      by_cases hH : H = 67
      · have hH1 : (H : Int) = 67 := by omega
        have hE := end_any (w.heap.size + 1) (cF t).1 (cF t).2 wz (by rw [ewz]; exact HG.out.st.rd)
        rw [ewz] at hE HI
        by_cases he : endOf (cF t).1 (cF t).2 = 0
        · rw [he] at hE
          have HEnd := hid hE
          have HRt : Hid (∀ (bb : Bool), rightC (E : Int) (cM t) = bb → ∀ u : World, IntsIn u (some ⟨b, 0, none⟩) (cM t) → Calls Try.prog 59 #[.agg #[.int .i64 (E : Int), .slice (some ⟨b, 0, none⟩) N N]] u fun e w' => e = .returned (.bool bb) ∧ Below u.heap.size u w') := hid (fun bb hbb u hu => by rw [← hbb]; exact cright_any (E : Int) _ N N (cM t) HLN.out (by unfold maxLen; omega) u hu)
          cases hr : rightC (E : Int) (cM t) with
          | true =>
            have HRb := hid (HRt.out true hr)
            have HB : Hid (readB t = true) := hid (by rw [readB, ← HC.out.2.2, ← HC.out.2.1, decide_eq_true hH, decide_eq_true he, hr]; rfl)
            clear hH he hr hE ewz
            go_wp2_with (first
              | (go_at_call 50; refine (HEnd.out).mono ?_; rintro e wx ⟨rfl, rfl⟩)
              | (go_at_call 59; refine (HRb.out _ (by exact HI.out)).mono ?_; rintro e w7 ⟨rfl, hb7⟩; have H7 := hid hb7; clear hb7
                 have HR7 := hid ((H7.out.block _ (lt_of_blk HG.out.st.res)).trans HG.out.st.res)
                 have HK7 := hid ((H7.out.block _ (lt_of_blk HK.out)).trans HK.out)
                 have HM7 := hid ((H7.out.block _ (lt_of_blk HG.out.row)).trans HG.out.row)
                 have q0 : w7.cell? ⟨wr.heap.size, 0, none⟩ = some (.int .i64 (E : Int)) := cell_of_blk HK7.out 0 (by simp)
                 have q1 : w7.cell? ⟨wr.heap.size, 1, none⟩ = some (.slice (some ⟨b, 0, none⟩) N N) := cell_of_blk HK7.out 1 (by simp)
                 have s0 : w7.cell? ⟨w.heap.size, 0, none⟩ = some (.int .i64 0) := cell_of_blk HR7.out 0 (by simp)
                 have s1 : w7.cell? ⟨w.heap.size, 1, none⟩ = some (.slice none 0 0) := cell_of_blk HR7.out 1 (by simp)
                 have g0 : w7.frozen? ⟨w.heap.size, 0, none⟩ = false := free_of_blk HR7.out 0
                 have g1 : w7.frozen? ⟨w.heap.size, 1, none⟩ = false := free_of_blk HR7.out 1))
            refine ret_cell2 (s := 2) (s2 := 3) (ad := ⟨w.heap.size, 0, none⟩) rfl rfl (load_conf _ _ (.int .i64 (E : Int)) (.slice (some ⟨b, 0, none⟩) N N) (cell_of_blk (res_set HR7.out) 0 (by simp)) (cell_of_blk (res_set HR7.out) 1 (by simp))) rfl rfl ?_
            have hb2 := HG.out.hb
            have hbl := ((HG.out.st.bel.trans (H7.out.mono HG.out.st.bel.size)).setCell (p := ⟨w.heap.size, 0, none⟩) (Nat.le_refl _) (.int .i64 (E : Int))).setCell (p := ⟨w.heap.size, 1, none⟩) (Nat.le_refl _) (.slice (some ⟨b, 0, none⟩) N N)
            rw [readZ, readM, readE, HB.out, ← HC.out.2.1]
            refine ⟨_, rfl, own_of_blk (zs := cM t) (rest := []) ?_ (by omega) (by rw [HLN.out]; rfl) (by unfold maxLen; omega) HLN.out.symm hbl⟩
            rw [List.append_nil]
            exact (Below.heap_setCell _ _ _ _ (show b ≠ w.heap.size by omega)).trans ((Below.heap_setCell _ _ _ _ (show b ≠ w.heap.size by omega)).trans HM7.out)
          | false =>
            have HRb := hid (HRt.out false hr)
            have HB : Hid (readB t = false) := hid (by rw [readB, ← HC.out.2.1, hr]; simp)
            clear hH he hr hE ewz
            go_wp2_with (first
              | (go_at_call 50; refine (HEnd.out).mono ?_; rintro e wx ⟨rfl, rfl⟩)
              | (go_at_call 59; refine (HRb.out _ (by exact HI.out)).mono ?_; rintro e w7 ⟨rfl, hb7⟩; have H7 := hid hb7; clear hb7
                 have HR7 := hid ((H7.out.block _ (lt_of_blk HG.out.st.res)).trans HG.out.st.res)
                 have s0 : w7.cell? ⟨w.heap.size, 0, none⟩ = some (.int .i64 0) := cell_of_blk HR7.out 0 (by simp)
                 have s1 : w7.cell? ⟨w.heap.size, 1, none⟩ = some (.slice none 0 0) := cell_of_blk HR7.out 1 (by simp)
                 have g0 : w7.frozen? ⟨w.heap.size, 0, none⟩ = false := free_of_blk HR7.out 0
                 have g1 : w7.frozen? ⟨w.heap.size, 1, none⟩ = false := free_of_blk HR7.out 1))
            refine ret_cell2 (s := 2) (s2 := 3) (ad := ⟨w.heap.size, 0, none⟩) rfl rfl (load_conf _ _ (.int .i64 0) (.slice none 0 0) (cell_of_blk (res_set HR7.out) 0 (by simp)) (cell_of_blk (res_set HR7.out) 1 (by simp))) rfl rfl ?_
            rw [readZ, readM, readE, HB.out]
            have hbl := ((HG.out.st.bel.trans (H7.out.mono HG.out.st.bel.size)).setCell (p := ⟨w.heap.size, 0, none⟩) (Nat.le_refl _) (.int .i64 0)).setCell (p := ⟨w.heap.size, 1, none⟩) (Nat.le_refl _) (.slice none 0 0)
            exact ⟨_, rfl, OwnedI.nil hbl hbl.size⟩
        · have HB : Hid (readB t = false) := hid (by rw [readB, decide_eq_false he]; simp)
          generalize endOf (cF t).1 (cF t).2 = er at hE he
          have HEnd := hid hE
          clear hH hE ewz
          go_wp2_with (go_at_call 50; refine (HEnd.out).mono ?_; rintro e wx ⟨rfl, rfl⟩)
          refine ret_cell2 (s := 2) (s2 := 3) (ad := ⟨w.heap.size, 0, none⟩) rfl rfl (load_conf _ _ (.int .i64 0) (.slice none 0 0) (cell_of_blk (res_set HG.out.st.res) 0 (by simp)) (cell_of_blk (res_set HG.out.st.res) 1 (by simp))) rfl rfl ?_
          rw [readZ, readM, readE, HB.out]
          have hbl := (HG.out.st.bel.setCell (p := ⟨w.heap.size, 0, none⟩) (Nat.le_refl _) (.int .i64 0)).setCell (p := ⟨w.heap.size, 1, none⟩) (Nat.le_refl _) (.slice none 0 0)
          exact ⟨_, rfl, OwnedI.nil hbl hbl.size⟩
      · have hH1 : ¬ ((H : Int) = 67) := by omega
        have HB : Hid (readB t = false) := hid (by rw [readB, ← HC.out.2.2, decide_eq_false hH]; rfl)
        clear hH ewz
        go_wp2
        refine ret_cell2 (s := 2) (s2 := 3) (ad := ⟨w.heap.size, 0, none⟩) rfl rfl (load_conf _ _ (.int .i64 0) (.slice none 0 0) (cell_of_blk (res_set HG.out.st.res) 0 (by simp)) (cell_of_blk (res_set HG.out.st.res) 1 (by simp))) rfl rfl ?_
        rw [readZ, readM, readE, HB.out]
        have hbl := (HG.out.st.bel.setCell (p := ⟨w.heap.size, 0, none⟩) (Nat.le_refl _) (.int .i64 0)).setCell (p := ⟨w.heap.size, 1, none⟩) (Nat.le_refl _) (.slice none 0 0)
        exact ⟨_, rfl, OwnedI.nil hbl hbl.size⟩
    · have hj1 : (j : Int) < (N : Int) := by omega
      have hj0 : (0 : Int) ≤ (j : Int) := Int.natCast_nonneg _
      obtain ⟨y, ey⟩ : ∃ y, y = rN (rdS S.1 S.2 j).1 (rdS S.1 S.2 j).2 1 := ⟨_, rfl⟩
      have HL : Hid ((rdP S.1 S.2 N j).set j (y : Int) = rdP S.1 S.2 N (j + 1)) := hid (by rw [ey]; exact rdP_set S.1 S.2 N j (by omega))
      have HK : Hid (∀ u : World, RmSt w u (rdS S.1 S.2 j).1 (rdS S.1 S.2 j).2 b (rdP S.1 S.2 N j) → Calls Try.prog 86 #[.pointer (some ⟨w.heap.size + 1, 0, none⟩)] u fun e w' => e = .returned (.int .i64 (y : Int)) ∧ RmSt w w' (rdS S.1 S.2 (j + 1)).1 (rdS S.1 S.2 (j + 1)).2 b (rdP S.1 S.2 N j)) := hid (fun u hu => (rbyte_any _ _ _ u hu.st.rd).mono fun e w' ⟨he, hr, hk⟩ => ⟨by rw [he, ey], hu.kept hk hr⟩)
      have HLn : Hid (j < (iC (rdP S.1 S.2 N j)).toArray.size) := hid (by show j < (iC (rdP S.1 S.2 N j)).length; rw [iC_len, rdP_len _ _ _ _ hj]; omega)
      have HJ := hid (And.intro hj hjn)
      clear ey hj hjn
      go_wp2_with (go_at_call 86; refine (HK.out _ (by exact HO.out)).mono ?_; rintro e w5 ⟨rfl, h5⟩; have H5 := hid h5; clear h5; have z5 := cell_of_blk H5.out.row j HLn.out; have f5 := free_of_blk H5.out.row j)
      go_roundw
      case rel => exact ⟨j + 1, by have := HJ.out; omega, by go_num, H5.out.put j _ HL.out⟩
      case measure => simp [intOf]; omega
end Go.Proofs.Ytfjcpghepkmbfaa
