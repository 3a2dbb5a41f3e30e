/- The program's bytes of a configuration. -/
import Derived.Test.YtepcdbmdfpaomaaGa5
import Derived.Test.YtepcdbmdfpaomaaGa2
namespace Go.Proofs.Ytepcdbmdfpaomaa
open Go.RowKit

/-- The program's writer at block c, with room for lim, and l in it; nothing below c has turned since w0. -/
def CwAt (c lim : Nat) (w0 w : World) (l : List UInt8) : Prop := (∃ v, WrAt w c v (lim : Int) l 0) ∧ Below c w0 w
theorem wL_ok2 (lim : Nat) (l : List UInt8) (s n : Nat) (hn : n < 256 ^ s) (hl : l.length + s ≤ lim) : wL (lim : Int) l 0 s (n : Int) = l ++ be s n ∧ wE (lim : Int) l 0 s (n : Int) = 0 := by
  have h : adm (lim : Int) l.length 0 (inR s (n : Int)) s = 0 := by
    have hi : inR s (n : Int) = true := inR_yes s n hn
    rw [hi]
    unfold adm
    simp
    omega
  exact ⟨by rw [wL, if_pos h, Int.toNat_natCast], by rw [wE, h]⟩
theorem cbyte (c lim : Nat) (w0 w : World) (l : List UInt8) (n : Nat) (hn : n < 256) (hm : lim ≤ 100) (hl : l.length + 1 ≤ lim) (h : CwAt c lim w0 w l) :
    Calls Try.prog 40 #[.pointer (some ⟨c, 0, none⟩), .int .i64 (n : Int)] w fun e w' => e = .returned (.tuple #[]) ∧ CwAt c lim w0 w' (l ++ be 1 n) := by
  obtain ⟨⟨v, hv⟩, hb⟩ := h
  refine (wbyte_any c v lim l 0 n w hv (by omega) (by omega) (by omega) (by omega)).mono ?_
  rintro e w' ⟨rfl, v', h', hk, _⟩
  rw [(wL_ok2 lim l 1 n (by omega) hl).1, (wL_ok2 lim l 1 n (by omega) hl).2] at h'
  exact ⟨rfl, ⟨v', h'⟩, hb.trans (hk.below (Nat.le_of_lt hv.lt) (Nat.le_refl _) (fun g hg => by have := (hv.own.lt g hg).1; omega))⟩
theorem cword (c lim : Nat) (w0 w : World) (l : List UInt8) (n : Nat) (hn : n < 65536) (hm : lim ≤ 100) (hl : l.length + 2 ≤ lim) (h : CwAt c lim w0 w l) :
    Calls Try.prog 41 #[.pointer (some ⟨c, 0, none⟩), .int .i64 (n : Int)] w fun e w' => e = .returned (.tuple #[]) ∧ CwAt c lim w0 w' (l ++ be 2 n) := by
  obtain ⟨⟨v, hv⟩, hb⟩ := h
  refine (wword_any c v lim l 0 n w hv (by omega) (by omega) (by omega) (by omega)).mono ?_
  rintro e w' ⟨rfl, v', h', hk, _⟩
  rw [(wL_ok2 lim l 2 n (by omega) hl).1, (wL_ok2 lim l 2 n (by omega) hl).2] at h'
  exact ⟨rfl, ⟨v', h'⟩, hb.trans (hk.below (Nat.le_of_lt hv.lt) (Nat.le_refl _) (fun g hg => by have := (hv.own.lt g hg).1; omega))⟩
set_option maxRecDepth 100000 in
set_option maxHeartbeats 3200000 in
theorem ctext_any (ep : Int) (a : Option Addr) (n cap : Nat) (l : List Int) (hn : l.length = n) (hm : n ≤ maxLen) (w : World) (hI : IntsIn w a l) :
    Calls Try.prog 69 #[.agg #[.int .i64 ep, .slice a n cap]] w fun e w' => e = .returned (.tuple #[.string (textC ep l), .int .i64 (textE ep l)]) ∧ Below w.heap.size w w' := by
  have HR : Hid (∀ (b : Bool), rightC ep l = b → ∀ u : World, IntsIn u a l → Calls Try.prog 59 #[.agg #[.int .i64 ep, .slice a n cap]] u fun e w' => e = .returned (.bool b) ∧ Below u.heap.size u w') := hid (fun b hb u hu => by rw [← hb]; exact cright_any ep a n cap l hn hm u hu)
  have HI := hid hI
  have HN := hid hn
  clear hI hm hn
  cases hr : rightC ep l with
  | false =>
    rw [show textC ep l = ⟨#[]⟩ by rw [textC, hr]; rfl, show textE ep l = 1 by rw [textE, hr]; rfl]
    have HRb := hid (HR.out false hr)
    clear hr
    go_enter Try.func69, Try.ntmps69
    go_wp2_with (go_at_call 59; refine (HRb.out _ (by exact HI.out.alloc _)).mono ?_; rintro e w1 ⟨rfl, hb1⟩; have H1 := hid (((Below.refl w.heap.size w).alloc (Nat.le_refl _) _).trans (hb1.mono (by simp))); clear hb1)
    go_ret2
    exact ⟨rfl, H1.out⟩
  | true =>
    have HRb := hid (HR.out true hr)
    obtain ⟨⟨he0, he60⟩, hmb⟩ := right_mem hr
    have hml := mem_len hmb
    rw [HN.out] at hml
    obtain ⟨E, rfl⟩ : ∃ E : Nat, ep = (E : Int) := ⟨ep.toNat, by omega⟩
    rw [show textE (E : Int) l = 0 by rw [textE, hr]; rfl]
    obtain ⟨T, eT⟩ : ∃ T, T = textC (E : Int) l := ⟨_, rfl⟩
    have HT : Hid (T = ⟨(be 1 67 ++ be 2 E ++ be 1 n ++ memBytes l).toArray⟩) := hid (by rw [eT, textC, hr, if_pos rfl, confB, Int.toNat_natCast, HN.out])
    rw [← eT]
    have HM := hid hmb
    have hn1 : (n : Int) ≤ 10 := by omega
    have hE1 : (E : Int) ≤ 60 := by omega
    have HE := hid (And.intro hml (show E ≤ 60 by omega))
    obtain ⟨M, eM⟩ : ∃ M : Nat, M = 4 + n := ⟨_, rfl⟩
    have HMx : Hid (M = 4 + n ∧ max ((4 : Int) + (n : Int)) 0 = (M : Int)) := hid ⟨eM, by omega⟩
    clear hr he0 he60 hmb hml eT eM
    go_enter Try.func69, Try.ntmps69
    go_wp2_with (first
      | (go_at_call 59; refine (HRb.out _ (by exact HI.out.alloc _)).mono ?_; rintro e w1 ⟨rfl, hb1⟩
         have c0 : w1.cell? ⟨w.heap.size, 0, none⟩ = some (.int .i64 (E : Int)) := (hb1.cell (p := ⟨w.heap.size, 0, none⟩) (by simp)).trans (cell_at (conf_cells w _ _) 0 _ rfl)
         have c1 : w1.cell? ⟨w.heap.size, 1, none⟩ = some (.slice a n cap) := (hb1.cell (p := ⟨w.heap.size, 1, none⟩) (by simp)).trans (cell_at (conf_cells w _ _) 1 _ rfl)
         have hlt : w.heap.size < w1.heap.size := Nat.lt_of_lt_of_le (by simp) hb1.size
         have H1 := hid (And.intro hlt (And.intro (((Below.refl w.heap.size w).alloc (Nat.le_refl _) _).trans (hb1.mono (by simp))) (And.intro c0 c1)))
         clear hb1 hlt)
      | (go_at_call 16; refine (new_any _ _).mono ?_; rintro e w2 ⟨rfl, hw2⟩
         have H2 : Hid (CwAt w1.heap.size M w1 w2 []) := hid (by rw [hw2, HMx.out.2]; exact ⟨⟨_, ⟨heap_alloc_last w1 _, ⟨rfl, .inl ⟨rfl, rfl⟩⟩⟩⟩, (Below.refl _ _).alloc (Nat.le_refl _) _⟩)
         clear hw2)
      | (go_at_call 41; refine (cword _ M w1 _ (be 1 67) E (by have := HE.out.2; omega) (by have := HE.out.1; have := HMx.out.1; omega) (by rw [be_len]; have := HMx.out.1; have := HE.out.1; omega) (by exact H3.out)).mono ?_; rintro e w4 ⟨rfl, h4⟩; have H4 := hid h4; clear h4; have d1 : w4.cell? ⟨w.heap.size, 1, none⟩ = some (.slice a n cap) := (H4.out.2.cell (p := ⟨w.heap.size, 1, none⟩) H1.out.1).trans H1.out.2.2.2)
      | (go_at_call 40; have := H4; refine (cbyte _ M w1 _ (be 1 67 ++ be 2 E) n (by have := HE.out.1; omega) (by have := HE.out.1; have := HMx.out.1; omega) (by rw [List.length_append, be_len, be_len]; have := HMx.out.1; have := HE.out.1; omega) (by exact H4.out)).mono ?_; rintro e w5 ⟨rfl, h5⟩; have H5 := hid h5; clear h5; have d2 : w5.cell? ⟨w.heap.size, 1, none⟩ = some (.slice a n cap) := (H5.out.2.cell (p := ⟨w.heap.size, 1, none⟩) H1.out.1).trans H1.out.2.2.2)
      | (go_at_call 40; refine (cbyte _ M w1 _ [] 67 (by decide) (by have := HE.out.1; have := HMx.out.1; omega) (by have := HMx.out.1; have := HE.out.1; simp; omega) (by exact H2.out)).mono ?_; rintro e w3 ⟨rfl, h3⟩; have H3 := hid h3; clear h3; have d0 : w3.cell? ⟨w.heap.size, 0, none⟩ = some (.int .i64 (E : Int)) := (H3.out.2.cell (p := ⟨w.heap.size, 0, none⟩) H1.out.1).trans H1.out.2.2.1))
    obtain ⟨P, eP⟩ : ∃ P, P = be 1 67 ++ be 2 E ++ be 1 n := ⟨_, rfl⟩
    rw [← eP] at H5 HT
    have HP : Hid (P.length = 4) := hid (by rw [eP, List.length_append, List.length_append, be_len, be_len, be_len])
    clear eP this
    go_loopw [29] (fun i wr => ∃ j : Nat, j ≤ n ∧ i = .int .i64 (j : Int) ∧ CwAt w1.heap.size M w1 wr (P ++ memBytes (l.take j)))
      (fun i _ => ((n : Int) - intOf i).toNat)
    case atStart => exact ⟨0, by omega, rfl, by rw [List.take_zero, show memBytes [] = [] from rfl, List.append_nil]; exact H5.out⟩
    case round =>
      obtain ⟨j, hj, rfl, hO⟩ := hrel
      have HO := hid hO
      clear hO
      by_cases hjn : j = n
      · have hj1 : ¬ ((j : Int) < (n : Int)) := by omega
        have hO := HO.out
        rw [hjn, List.take_of_length_le (by rw [HN.out]; exact Nat.le_refl _)] at hO
        obtain ⟨⟨v, hv⟩, hb⟩ := hO
        have HV := hid hv
        have HB := hid hb
        clear hj hjn hv hb
        go_wp2_with (go_at_call 18; refine (done_ok _ _ _ _ _ (by exact HV.out)).mono ?_; rintro e wx ⟨rfl, rfl⟩)
        go_ret2
        exact ⟨by rw [HT.out]; rfl, H1.out.2.1.trans (HB.out.mono (Nat.le_of_lt H1.out.1))⟩
      · have hj1 : (j : Int) < (n : Int) := by omega
        have hj0 : (0 : Int) ≤ (j : Int) := Int.natCast_nonneg _
        have hjl : j < l.length := by rw [HN.out]; omega
        have hrg := mem_range HM.out j hjl
        have HS := hid (memBytes_snoc l j hjl)
        obtain ⟨g, off, rfl, hg, hcell⟩ := HI.out.at j _ (getD_some hjl)
        generalize l.getD j 0 = x at hrg HS hcell
        obtain ⟨X, rfl⟩ : ∃ X : Nat, x = (X : Int) := ⟨x.toNat, by omega⟩
        rw [Int.toNat_natCast] at HS
        have cz : wr.cell? ⟨g, off + j, none⟩ = some (.int .i64 (X : Int)) := (HO.out.2.cell (p := ⟨g, off + j, none⟩) (Nat.lt_of_lt_of_le hg H1.out.2.1.size)).trans ((H1.out.2.1.cell (p := ⟨g, off + j, none⟩) hg).trans hcell)
        have HX : Hid (X < 256 ∧ (P ++ memBytes (l.take j)).length + 1 ≤ M ∧ M ≤ 100) := hid ⟨by omega, by rw [List.length_append, HP.out, memBytes_len, List.length_take, HMx.out.1]; omega, by have := HMx.out.1; omega⟩
        have HJ := hid (And.intro hj hjn)
        clear hj hjn hjl hrg hg hcell
        go_wp2_with (go_at_call 40; refine (cbyte _ M w1 _ (P ++ memBytes (l.take j)) X (by exact HX.out.1) (by exact HX.out.2.2) (by exact HX.out.2.1) (by exact HO.out)).mono ?_; rintro e w6 ⟨rfl, h6⟩; have H6 := hid h6; clear h6)
        go_roundw
        case rel => exact ⟨j + 1, by have := HJ.out; omega, by go_num, by rw [HS.out, ← List.append_assoc]; exact H6.out⟩
        case measure => simp [intOf]; omega
end Go.Proofs.Ytepcdbmdfpaomaa
