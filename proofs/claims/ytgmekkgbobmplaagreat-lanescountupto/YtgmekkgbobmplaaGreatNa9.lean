/- Texts laid together: TsE CoQ OpD. -/
import Derived.Test.YtgmekkgbobmplaaGreatNa8
import Derived.Test.YtgmekkgbobmplaaGreatNa7
import Derived.Test.YtgmekkgbobmplaaGreatNa3
import Derived.Test.YtgmekkgbobmplaaGreatNa4
/- The program's Derivable. -/
namespace Go.Proofs.YtgmekkgbobmplaaGreat
open Go.RowKit

set_option maxRecDepth 100000 in
set_option maxHeartbeats 1600000 in
/-- .. of whatever book: ST: that it is there. -/
theorem tderiv_gen (v : Value) (L : List (Int × ByteArray)) (ST : World → Prop) (ab : Option Addr) (nb cb : Nat) (bad : List Int) (hb : bad.length = nb) (hbm : nb * 8 ≤ 140737488355328) (sa : Option Addr) (m cs : Nat) (ss : List (Int × ByteArray)) (hs : ss.length = m) (hsm : m ≤ maxLen)
    (hst : ∀ u u', ST u → Below u.heap.size u u' → ST u') (hhas : ∀ x t, (x, t) ∈ ss → ∀ u, ST u → Calls Tryz.prog 71 #[v, .agg #[.int .i64 x, .string t]] u fun e w' => e = .returned (.bool (stands L (x, t))) ∧ Below u.heap.size u w')
    (w : World) (hw : ST w) (hI : IntsIn w ab bad) (hS : PairsIn w sa ss) :
    Calls Tryz.prog 38 #[v, .slice ab nb cb, .slice sa m cs] w fun e w' => e = .returned (.bool (derivB L bad ss)) ∧ Below w.heap.size w w' := by
  have hm2 : (m : Int) ≤ 9223372036854775807 := by unfold maxLen at hsm; omega
  have H1 := hid (trising_any ab nb cb bad hb hbm w hI)
  have HS := hid (And.intro hS (And.intro hs hw))
  have HST := hid hst
  have HH := hid hhas
  have HB := hid (And.intro hb hbm)
  clear hb hbm hs hsm hst hhas hw hI hS
  go_enter Tryz.func38, Tryz.ntmps38
  go_wp2_with (go_at_call 69; refine H1.out.mono ?_; rintro e w1 ⟨v1, rfl, h1⟩; obtain ⟨am, cm, hv1, hi1⟩ := h1.ints; subst hv1; have H2 : Hid (Below w.heap.size w w1 ∧ IntsIn w1 am (risen bad) ∧ ST w1 ∧ PairsIn w1 sa ss) := hid ⟨h1.bel, hi1, HST.out _ _ HS.out.2.2 h1.bel, HS.out.1.keep h1.bel (Nat.le_refl _)⟩; clear h1 hi1)
  have HAm : Hid (∀ (x : Int) (u : World), IntsIn u am (risen bad) → Calls Tryz.prog 70 #[.slice am (risen bad).length cm, .int .i64 x] u fun e w' => e = .returned (.bool (hasM bad x)) ∧ Below u.heap.size u w') := hid (fun x u hu => by
    rw [← risen_has]
    exact tisAmong_any am _ cm (risen bad) rfl (by have := risen_len bad; have := HB.out; omega) (risen_spec bad).1 x u hu)
  clear H1
  go_loopw [14] (fun i wr => ∃ j : Nat, j ≤ m ∧ i = .int .i64 (j : Int) ∧ derivB L bad (ss.take j) = true ∧ Below w1.heap.size w1 wr)
    (fun i _ => ((m : Int) - intOf i).toNat)
  case atStart => exact ⟨0, by omega, rfl, rfl, Below.refl _ _⟩
  case round =>
    obtain ⟨j, hj, rfl, hok, hbel⟩ := hrel
    have HBl := hid hbel
    clear hbel
    by_cases hjn : j = m
    · have hj1 : ¬ ((j : Int) < (m : Int)) := by omega
      rw [List.take_of_length_le (by rw [HS.out.2.1]; omega)] at hok
      have HF := hid hok
      clear hok hj hjn
      go_wp2
      go_ret
      exact ⟨by rw [HF.out]; rfl, H2.out.1.trans (HBl.out.mono H2.out.1.size)⟩
    · have hj1 : (j : Int) < (m : Int) := by omega
      have hj0 : (0 : Int) ≤ (j : Int) := Int.natCast_nonneg _
      have hjl : j < ss.length := by rw [HS.out.2.1]; omega
      obtain ⟨g, off, rfl, hg, x1, y1⟩ := H2.out.2.2.2.at j _ (getP_some hjl)
      have hmem : (idOf ss j, rtOf ss j) ∈ ss := List.mem_of_getElem? (getP_some hjl)
      have hyes := @deriv_snoc L bad ss j hjl hok
      have hno := @deriv_no L bad ss j hjl
      have hdef : derivA L bad (idOf ss j, rtOf ss j) = (hasM bad (idOf ss j) || stands L (idOf ss j, rtOf ss j)) := rfl
      generalize idOf ss j = x at x1 hmem hyes hno hdef
      generalize rtOf ss j = r at y1 hmem hyes hno hdef
      have z0 : wr.cell? ⟨g, off + j * 2, none⟩ = some (.int .i64 x) := (HBl.out.cell (p := ⟨g, _, none⟩) hg).trans x1
      have z1 : wr.cell? ⟨g, off + j * 2 + 1, none⟩ = some (.string r) := (HBl.out.cell (p := ⟨g, _, none⟩) hg).trans y1
      obtain ⟨WA, eA⟩ : ∃ WA, WA = wr.alloc (.cells #[.int .i64 x, .string r] 87) := ⟨_, rfl⟩
      have hbA : Below w1.heap.size w1 WA := by rw [eA]; exact HBl.out.alloc HBl.out.size _
      have hcA : WA.heap[wr.heap.size]? = some (.cells [.int .i64 x, .string r].toArray 87 (0, 0)) := by rw [eA]; exact heap_alloc_last wr _
      have HA : Hid (WA = wr.alloc (.cells #[.int .i64 x, .string r] 87) ∧ Below w1.heap.size w1 WA ∧ WA.heap[wr.heap.size]? = some (.cells [.int .i64 x, .string r].toArray 87 (0, 0))) := hid ⟨eA, hbA, hcA⟩
      have HJ := hid (And.intro hj hjn)
      have HX := hid hmem
      clear hj hjn hjl hok hg x1 y1 eA hbA hcA hmem
      cases hh : hasM bad x with
      | true =>
        have HR := hid (hyes (by rw [hdef, hh]; rfl))
        have HAx : Hid (∀ u : World, IntsIn u am (risen bad) → Calls Tryz.prog 70 #[.slice am (risen bad).length cm, .int .i64 x] u fun e w' => e = .returned (.bool true) ∧ Below u.heap.size u w') := hid (fun u hu => by rw [← hh]; exact HAm.out x u hu)
        clear hyes hno hdef hh
        go_wp2_with (go_at_call 70; rw [← HA.out.1]; refine (HAx.out _ (H2.out.2.1.keep HA.out.2.1 (Nat.le_refl _))).mono ?_; rintro e w5 ⟨rfl, hb5⟩; have H5 := hid (HA.out.2.1.trans (hb5.mono HA.out.2.1.size)); clear hb5)
        go_roundw
        case rel => exact ⟨j + 1, by have := HJ.out; omega, by go_num, HR.out, H5.out⟩
        case measure => simp [intOf]; omega
      | false =>
        have HAx : Hid (∀ u : World, IntsIn u am (risen bad) → Calls Tryz.prog 70 #[.slice am (risen bad).length cm, .int .i64 x] u fun e w' => e = .returned (.bool false) ∧ Below u.heap.size u w') := hid (fun u hu => by rw [← hh]; exact HAm.out x u hu)
        cases h2 : stands L (x, r) with
        | true =>
          have HR := hid (hyes (by rw [hdef, hh, h2]; rfl))
          have HHx : Hid (∀ u, ST u → Calls Tryz.prog 71 #[v, .agg #[.int .i64 x, .string r]] u fun e w' => e = .returned (.bool true) ∧ Below u.heap.size u w') := hid (fun u hu => by rw [← h2]; exact HH.out x r HX.out u hu)
          clear hyes hno hdef hh h2
          go_wp2_with (first
            | (go_at_call 70; rw [← HA.out.1]; refine (HAx.out _ (H2.out.2.1.keep HA.out.2.1 (Nat.le_refl _))).mono ?_; rintro e w5 ⟨rfl, hb5⟩; have H5 := hid (HA.out.2.1.trans (hb5.mono HA.out.2.1.size)); have s0 : w5.cell? ⟨wr.heap.size, 0, none⟩ = some (.int .i64 x) := cell_at ((hb5.block _ (lt_of_blk HA.out.2.2)).trans HA.out.2.2) 0 _ rfl; have s1 : w5.cell? ⟨wr.heap.size, 1, none⟩ = some (.string r) := cell_at ((hb5.block _ (lt_of_blk HA.out.2.2)).trans HA.out.2.2) 1 _ rfl; clear hb5)
            | (go_at_call 71; refine (HHx.out _ (HST.out _ _ H2.out.2.2.1 H5.out)).mono ?_; rintro e w6 ⟨rfl, hb6⟩; have H6 := hid (H5.out.trans (hb6.mono H5.out.size)); clear hb6 s0 s1))
          go_roundw
          case rel => exact ⟨j + 1, by have := HJ.out; omega, by go_num, HR.out, H6.out⟩
          case measure => simp [intOf]; omega
        | false =>
          have HR := hid (hno (by rw [hdef, hh, h2]; rfl))
          have HHx : Hid (∀ u, ST u → Calls Tryz.prog 71 #[v, .agg #[.int .i64 x, .string r]] u fun e w' => e = .returned (.bool false) ∧ Below u.heap.size u w') := hid (fun u hu => by rw [← h2]; exact HH.out x r HX.out u hu)
          clear hyes hno hdef hh h2
          go_wp2_with (first
            | (go_at_call 70; rw [← HA.out.1]; refine (HAx.out _ (H2.out.2.1.keep HA.out.2.1 (Nat.le_refl _))).mono ?_; rintro e w5 ⟨rfl, hb5⟩; have H5 := hid (HA.out.2.1.trans (hb5.mono HA.out.2.1.size)); have s0 : w5.cell? ⟨wr.heap.size, 0, none⟩ = some (.int .i64 x) := cell_at ((hb5.block _ (lt_of_blk HA.out.2.2)).trans HA.out.2.2) 0 _ rfl; have s1 : w5.cell? ⟨wr.heap.size, 1, none⟩ = some (.string r) := cell_at ((hb5.block _ (lt_of_blk HA.out.2.2)).trans HA.out.2.2) 1 _ rfl; clear hb5)
            | (go_at_call 71; refine (HHx.out _ (HST.out _ _ H2.out.2.2.1 H5.out)).mono ?_; rintro e w6 ⟨rfl, hb6⟩; have H6 := hid (H5.out.trans (hb6.mono H5.out.size)); clear hb6 s0 s1))
          go_ret
          exact ⟨by rw [HR.out]; rfl, H2.out.1.trans (H6.out.mono H2.out.1.size)⟩
theorem tderivable_any (F : List Nat) (v : Value) (L : List (Int × ByteArray)) (ab : Option Addr) (nb cb : Nat) (bad : List Int) (hb : bad.length = nb) (hbm : nb * 8 ≤ 140737488355328) (sa : Option Addr) (m cs : Nat) (ss : List (Int × ByteArray)) (hs : ss.length = m) (hsm : m ≤ maxLen) (hf : ∀ p, p ∈ ss → fitP p) (w : World) (hB : BkAt F w v L) (hI : IntsIn w ab bad) (hS : PairsIn w sa ss) :
    Calls Tryz.prog 38 #[v, .slice ab nb cb, .slice sa m cs] w fun e w' => e = .returned (.bool (derivB L bad ss)) ∧ Below w.heap.size w w' :=
  tderiv_gen v L (fun u => BkAt F u v L) ab nb cb bad hb hbm sa m cs ss hs hsm (fun _ _ h hb => h.of_below hb) (fun x t hx u hu => thas_any F v L x t (hf _ hx) u hu) w hB hI hS
end Go.Proofs.YtgmekkgbobmplaaGreat

/- The program's bytes of a configuration. -/
namespace Go.Proofs.YtgmekkgbobmplaaGreat
open Go.RowKit

/-- The program's writer at block c, with room for lim, and l in it; nothing below c has turned since w0. -/
def CwAt (c lim : Nat) (w0 w : World) (l : List UInt8) : Prop := (∃ v, WrAt w c v (lim : Int) l 0) ∧ Below c w0 w
theorem wL_ok2 (lim : Nat) (l : List UInt8) (s n : Nat) (hn : n < 256 ^ s) (hl : l.length + s ≤ lim) : wL (lim : Int) l 0 s (n : Int) = l ++ be s n ∧ wE (lim : Int) l 0 s (n : Int) = 0 := by
  have h : adm (lim : Int) l.length 0 (inR s (n : Int)) s = 0 := by
    have hi : inR s (n : Int) = true := inR_yes s n hn
    rw [hi]
    unfold adm
    simp
    omega
  exact ⟨by rw [wL, if_pos h, Int.toNat_natCast], by rw [wE, h]⟩
theorem cbyte (c lim : Nat) (w0 w : World) (l : List UInt8) (n : Nat) (hn : n < 256) (hm : lim ≤ 100) (hl : l.length + 1 ≤ lim) (h : CwAt c lim w0 w l) :
    Calls Tryz.prog 114 #[.pointer (some ⟨c, 0, none⟩), .int .i64 (n : Int)] w fun e w' => e = .returned (.tuple #[]) ∧ CwAt c lim w0 w' (l ++ be 1 n) := by
  obtain ⟨⟨v, hv⟩, hb⟩ := h
  refine (wbyte_any c v lim l 0 n w hv (by omega) (by omega) (by omega) (by omega)).mono ?_
  rintro e w' ⟨rfl, v', h', hk, _⟩
  rw [(wL_ok2 lim l 1 n (by omega) hl).1, (wL_ok2 lim l 1 n (by omega) hl).2] at h'
  exact ⟨rfl, ⟨v', h'⟩, hb.trans (hk.below (Nat.le_of_lt hv.lt) (Nat.le_refl _) (fun g hg => by have := (hv.own.lt g hg).1; omega))⟩
theorem cword (c lim : Nat) (w0 w : World) (l : List UInt8) (n : Nat) (hn : n < 65536) (hm : lim ≤ 100) (hl : l.length + 2 ≤ lim) (h : CwAt c lim w0 w l) :
    Calls Tryz.prog 115 #[.pointer (some ⟨c, 0, none⟩), .int .i64 (n : Int)] w fun e w' => e = .returned (.tuple #[]) ∧ CwAt c lim w0 w' (l ++ be 2 n) := by
  obtain ⟨⟨v, hv⟩, hb⟩ := h
  refine (wword_any c v lim l 0 n w hv (by omega) (by omega) (by omega) (by omega)).mono ?_
  rintro e w' ⟨rfl, v', h', hk, _⟩
  rw [(wL_ok2 lim l 2 n (by omega) hl).1, (wL_ok2 lim l 2 n (by omega) hl).2] at h'
  exact ⟨rfl, ⟨v', h'⟩, hb.trans (hk.below (Nat.le_of_lt hv.lt) (Nat.le_refl _) (fun g hg => by have := (hv.own.lt g hg).1; omega))⟩
set_option maxRecDepth 100000 in
set_option maxHeartbeats 3200000 in
theorem ctext_any (ep : Int) (a : Option Addr) (n cap : Nat) (l : List Int) (hn : l.length = n) (hm : n ≤ maxLen) (w : World) (hI : IntsIn w a l) :
    Calls Tryz.prog 149 #[.agg #[.int .i64 ep, .slice a n cap]] w fun e w' => e = .returned (.tuple #[.string (textC ep l), .int .i64 (textE ep l)]) ∧ Below w.heap.size w w' := by
  have HR : Hid (∀ (b : Bool), rightC ep l = b → ∀ u : World, IntsIn u a l → Calls Tryz.prog 139 #[.agg #[.int .i64 ep, .slice a n cap]] u fun e w' => e = .returned (.bool b) ∧ Below u.heap.size u w') := hid (fun b hb u hu => by rw [← hb]; exact cright_any ep a n cap l hn hm u hu)
  have HI := hid hI
  have HN := hid hn
  clear hI hm hn
  cases hr : rightC ep l with
  | false =>
    rw [show textC ep l = ⟨#[]⟩ by rw [textC, hr]; rfl, show textE ep l = 1 by rw [textE, hr]; rfl]
    have HRb := hid (HR.out false hr)
    clear hr
    go_enter Tryz.func149, Tryz.ntmps149
    go_wp2_with (go_at_call 139; refine (HRb.out _ (by exact HI.out.alloc _)).mono ?_; rintro e w1 ⟨rfl, hb1⟩; have H1 := hid (((Below.refl w.heap.size w).alloc (Nat.le_refl _) _).trans (hb1.mono (by simp))); clear hb1)
    go_ret2
    exact ⟨rfl, H1.out⟩
  | true =>
    have HRb := hid (HR.out true hr)
    obtain ⟨⟨he0, he60⟩, hmb⟩ := right_mem hr
    have hml := mem_len hmb
    rw [HN.out] at hml
    obtain ⟨E, rfl⟩ : ∃ E : Nat, ep = (E : Int) := ⟨ep.toNat, by omega⟩
    rw [show textE (E : Int) l = 0 by rw [textE, hr]; rfl]
    obtain ⟨T, eT⟩ : ∃ T, T = textC (E : Int) l := ⟨_, rfl⟩
    have HT : Hid (T = ⟨(be 1 67 ++ be 2 E ++ be 1 n ++ memBytes l).toArray⟩) := hid (by rw [eT, textC, hr, if_pos rfl, confB, Int.toNat_natCast, HN.out])
    rw [← eT]
    have HM := hid hmb
    have hn1 : (n : Int) ≤ 10 := by omega
    have hE1 : (E : Int) ≤ 60 := by omega
    have HE := hid (And.intro hml (show E ≤ 60 by omega))
    obtain ⟨M, eM⟩ : ∃ M : Nat, M = 4 + n := ⟨_, rfl⟩
    have HMx : Hid (M = 4 + n ∧ max ((4 : Int) + (n : Int)) 0 = (M : Int)) := hid ⟨eM, by omega⟩
    clear hr he0 he60 hmb hml eT eM
    go_enter Tryz.func149, Tryz.ntmps149
    go_wp2_with (first
      | (go_at_call 139; refine (HRb.out _ (by exact HI.out.alloc _)).mono ?_; rintro e w1 ⟨rfl, hb1⟩
         have c0 : w1.cell? ⟨w.heap.size, 0, none⟩ = some (.int .i64 (E : Int)) := (hb1.cell (p := ⟨w.heap.size, 0, none⟩) (by simp)).trans (cell_at (conf_cells w _ _) 0 _ rfl)
         have c1 : w1.cell? ⟨w.heap.size, 1, none⟩ = some (.slice a n cap) := (hb1.cell (p := ⟨w.heap.size, 1, none⟩) (by simp)).trans (cell_at (conf_cells w _ _) 1 _ rfl)
         have hlt : w.heap.size < w1.heap.size := Nat.lt_of_lt_of_le (by simp) hb1.size
         have H1 := hid (And.intro hlt (And.intro (((Below.refl w.heap.size w).alloc (Nat.le_refl _) _).trans (hb1.mono (by simp))) (And.intro c0 c1)))
         clear hb1 hlt)
      | (go_at_call 66; refine (new_any _ _).mono ?_; rintro e w2 ⟨rfl, hw2⟩
         have H2 : Hid (CwAt w1.heap.size M w1 w2 []) := hid (by rw [hw2, HMx.out.2]; exact ⟨⟨_, ⟨heap_alloc_last w1 _, ⟨rfl, .inl ⟨rfl, rfl⟩⟩⟩⟩, (Below.refl _ _).alloc (Nat.le_refl _) _⟩)
         clear hw2)
      | (go_at_call 115; refine (cword _ M w1 _ (be 1 67) E (by have := HE.out.2; omega) (by have := HE.out.1; have := HMx.out.1; omega) (by rw [be_len]; have := HMx.out.1; have := HE.out.1; omega) (by exact H3.out)).mono ?_; rintro e w4 ⟨rfl, h4⟩; have H4 := hid h4; clear h4; have d1 : w4.cell? ⟨w.heap.size, 1, none⟩ = some (.slice a n cap) := (H4.out.2.cell (p := ⟨w.heap.size, 1, none⟩) H1.out.1).trans H1.out.2.2.2)
      | (go_at_call 114; have := H4; refine (cbyte _ M w1 _ (be 1 67 ++ be 2 E) n (by have := HE.out.1; omega) (by have := HE.out.1; have := HMx.out.1; omega) (by rw [List.length_append, be_len, be_len]; have := HMx.out.1; have := HE.out.1; omega) (by exact H4.out)).mono ?_; rintro e w5 ⟨rfl, h5⟩; have H5 := hid h5; clear h5; have d2 : w5.cell? ⟨w.heap.size, 1, none⟩ = some (.slice a n cap) := (H5.out.2.cell (p := ⟨w.heap.size, 1, none⟩) H1.out.1).trans H1.out.2.2.2)
      | (go_at_call 114; refine (cbyte _ M w1 _ [] 67 (by decide) (by have := HE.out.1; have := HMx.out.1; omega) (by have := HMx.out.1; have := HE.out.1; simp; omega) (by exact H2.out)).mono ?_; rintro e w3 ⟨rfl, h3⟩; have H3 := hid h3; clear h3; have d0 : w3.cell? ⟨w.heap.size, 0, none⟩ = some (.int .i64 (E : Int)) := (H3.out.2.cell (p := ⟨w.heap.size, 0, none⟩) H1.out.1).trans H1.out.2.2.1))
    obtain ⟨P, eP⟩ : ∃ P, P = be 1 67 ++ be 2 E ++ be 1 n := ⟨_, rfl⟩
    rw [← eP] at H5 HT
    have HP : Hid (P.length = 4) := hid (by rw [eP, List.length_append, List.length_append, be_len, be_len, be_len])
    clear eP this
    go_loopw [29] (fun i wr => ∃ j : Nat, j ≤ n ∧ i = .int .i64 (j : Int) ∧ CwAt w1.heap.size M w1 wr (P ++ memBytes (l.take j)))
      (fun i _ => ((n : Int) - intOf i).toNat)
    case atStart => exact ⟨0, by omega, rfl, by rw [List.take_zero, show memBytes [] = [] from rfl, List.append_nil]; exact H5.out⟩
    case round =>
      obtain ⟨j, hj, rfl, hO⟩ := hrel
      have HO := hid hO
      clear hO
      by_cases hjn : j = n
      · have hj1 : ¬ ((j : Int) < (n : Int)) := by omega
        have hO := HO.out
        rw [hjn, List.take_of_length_le (by rw [HN.out]; exact Nat.le_refl _)] at hO
        obtain ⟨⟨v, hv⟩, hb⟩ := hO
        have HV := hid hv
        have HB := hid hb
        clear hj hjn hv hb
        go_wp2_with (go_at_call 68; refine (done_ok _ _ _ _ _ (by exact HV.out)).mono ?_; rintro e wx ⟨rfl, rfl⟩)
        go_ret2
        exact ⟨by rw [HT.out]; rfl, H1.out.2.1.trans (HB.out.mono (Nat.le_of_lt H1.out.1))⟩
      · have hj1 : (j : Int) < (n : Int) := by omega
        have hj0 : (0 : Int) ≤ (j : Int) := Int.natCast_nonneg _
        have hjl : j < l.length := by rw [HN.out]; omega
        have hrg := mem_range HM.out j hjl
        have HS := hid (memBytes_snoc l j hjl)
        obtain ⟨g, off, rfl, hg, hcell⟩ := HI.out.at j _ (getD_some hjl)
        generalize l.getD j 0 = x at hrg HS hcell
        obtain ⟨X, rfl⟩ : ∃ X : Nat, x = (X : Int) := ⟨x.toNat, by omega⟩
        rw [Int.toNat_natCast] at HS
        have cz : wr.cell? ⟨g, off + j, none⟩ = some (.int .i64 (X : Int)) := (HO.out.2.cell (p := ⟨g, off + j, none⟩) (Nat.lt_of_lt_of_le hg H1.out.2.1.size)).trans ((H1.out.2.1.cell (p := ⟨g, off + j, none⟩) hg).trans hcell)
        have HX : Hid (X < 256 ∧ (P ++ memBytes (l.take j)).length + 1 ≤ M ∧ M ≤ 100) := hid ⟨by omega, by rw [List.length_append, HP.out, memBytes_len, List.length_take, HMx.out.1]; omega, by have := HMx.out.1; omega⟩
        have HJ := hid (And.intro hj hjn)
        clear hj hjn hjl hrg hg hcell
        go_wp2_with (go_at_call 114; refine (cbyte _ M w1 _ (P ++ memBytes (l.take j)) X (by exact HX.out.1) (by exact HX.out.2.2) (by exact HX.out.2.1) (by exact HO.out)).mono ?_; rintro e w6 ⟨rfl, h6⟩; have H6 := hid h6; clear h6)
        go_roundw
        case rel => exact ⟨j + 1, by have := HJ.out; omega, by go_num, by rw [HS.out, ← List.append_assoc]; exact H6.out⟩
        case measure => simp [intOf]; omega
end Go.Proofs.YtgmekkgbobmplaaGreat

/- A message as an argument. No walk here. -/
namespace Go.Proofs.YtgmekkgbobmplaaGreat
open Go.ChangeShapes Go.WideShapes Go.ChangeAt Go.RowKit

section
variable {H : Type} {enc : TypeId × Value → H} {W : World} {fuel : Nat} {x : DataW H × List MemPlace}
theorem open_msg {c0 c1 c2 c3 c4 c5 c6 c7 c8 c9 c10 c11 c12 c13 c14 c15 c16 : Value} (h : DataW.trod enc Tryz.prog W 0 (fun _ => true) true fuel 48 [c0, c1, c2, c3, c4, c5, c6, c7, c8, c9, c10, c11, c12, c13, c14, c15, c16] = some x) :
    ∃ (m : Ms) (a13 : Option Addr) (k13 : Nat) (a14 : Option Addr) (k14 : Nat) (a15 : Option Addr) (k15 : Nat) (a16 : Option Addr) (k16 : Nat), (c0 = .int .i64 m.k ∧ c1 = .int .i64 m.ep ∧ c2 = .int .i64 m.v ∧ c3 = .int .i64 m.sl ∧ c4 = .int .i64 m.rq.c ∧ c5 = .int .i64 m.rq.st ∧ c6 = .int .i64 m.rq.k ∧ c7 = .string m.rq.key ∧ c8 = .float .f64 m.rq.b ∧ c9 = .int .i64 m.rq.id ∧ c10 = .int .i64 m.rs.1 ∧ c11 = .float .f64 m.rs.2 ∧ c12 = .string m.tx ∧ c13 = .slice a13 m.nx.length k13 ∧ c14 = .slice a14 m.sg.length k14 ∧ c15 = .slice a15 m.cg.length k15 ∧ c16 = .slice a16 m.ln.length k16) ∧ MsB m ∧ MsL (fun _ => True) W m (.slice a13 m.nx.length k13) (.slice a14 m.sg.length k14) (.slice a15 m.cg.length k15) (.slice a16 m.ln.length k16) := by
  obtain ⟨ds, hf, hc⟩ := (opens_all Tryz.prog shMsg).1 _ _ _ _ of_msg h
  obtain ⟨m, rfl, hB⟩ := fit_msg hf
  obtain ⟨v13, v14, v15, v16, hcs, hL⟩ := ms_cells (m := m) rfl hc
  obtain ⟨a13, k13, e13⟩ := Reads.form hL.nx
  obtain ⟨a14, k14, e14⟩ := Reads.form hL.sg
  obtain ⟨a15, k15, e15⟩ := Reads.form hL.cg
  obtain ⟨a16, k16, e16⟩ := Reads.form hL.ln
  rw [List.length_map] at e13 e14 e15 e16
  subst e13 e14 e15 e16
  simp only [msC, List.cons.injEq, and_true] at hcs
  exact ⟨m, a13, k13, a14, k14, a15, k15, a16, k16, hcs, hB, hL⟩
end
end Go.Proofs.YtgmekkgbobmplaaGreat
