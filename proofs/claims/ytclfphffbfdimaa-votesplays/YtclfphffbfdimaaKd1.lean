/- Texts laid together: CoM CoN CoV CoQ MwT TxA DsD DsE DsF DsG DsH DtB PwA DtC DtD DtE VoB. -/
import Derived.Test.YtclfphffbfdimaaKb1
import Derived.Deep.QuietTactic
import Derived.Test.YtclfphffbfdimaaKa1
import Derived.Test.YtclfphffbfdimaaKc1
import Derived.OwnWalk
/- The program's: who may be a member, which members are right. -/
namespace Go.Proofs.Ytclfphffbfdimaa
open Go.RowKit

def isIdB (id : Int) : Bool := decide (0 ≤ id ∧ id < 16)
theorem cisID_any (id : Int) (w : World) : Calls Try.prog 64 #[.int .i64 id] w fun e w' => e = .returned (.bool (isIdB id)) ∧ w' = w := by
  by_cases h0 : 0 ≤ id
  · by_cases h1 : id < 16
    · have HF : Hid (isIdB id = true) := hid (decide_eq_true ⟨h0, h1⟩)
      rw [HF.out]
      go_enter Try.func64, Try.ntmps64
      go_wp2
      go_ret
      exact ⟨rfl, rfl⟩
    · have HF : Hid (isIdB id = false) := hid (decide_eq_false (fun h => h1 h.2))
      rw [HF.out]
      go_enter Try.func64, Try.ntmps64
      go_wp2
      go_ret
      exact ⟨rfl, rfl⟩
  · have HF : Hid (isIdB id = false) := hid (decide_eq_false (fun h => h0 h.1))
    rw [HF.out]
    go_enter Try.func64, Try.ntmps64
    go_wp2
    go_ret
    exact ⟨rfl, rfl⟩
set_option maxRecDepth 100000 in
set_option maxHeartbeats 3200000 in
theorem careRight_any (a : Option Addr) (n cap : Nat) (l : List Int) (hn : l.length = n) (hm : n ≤ maxLen) (w : World) (hI : IntsIn w a l) :
    Calls Try.prog 47 #[.slice a n cap] w fun e w' => e = .returned (.bool (memB l)) ∧ Below w.heap.size w w' := by
  have hm2 : (n : Int) ≤ 9223372036854775807 := by unfold maxLen at hm; omega
  have HI := hid hI
  have HN := hid hn
  clear hI hm hn
  by_cases h4 : n < 4
  · have k4 : (n : Int) < 4 := by omega
    have HF : Hid (memB l = false) := hid (by rw [memB, HN.out, decide_eq_false (fun h => by omega)]; simp)
    rw [HF.out]
    go_enter Try.func47, Try.ntmps47
    go_wp2
    go_ret
    exact ⟨rfl, Below.refl _ _⟩
  by_cases h10 : 10 < n
  · have k4 : ¬ ((n : Int) < 4) := by omega
    have k10 : (10 : Int) < (n : Int) := by omega
    have HF : Hid (memB l = false) := hid (by rw [memB, HN.out, decide_eq_false (fun h => by omega)]; simp)
    rw [HF.out]
    go_enter Try.func47, Try.ntmps47
    go_wp2
    go_ret
    exact ⟨rfl, Below.refl _ _⟩
  have k4 : ¬ ((n : Int) < 4) := by omega
  have k10 : ¬ ((10 : Int) < (n : Int)) := by omega
  have HQ := hid (And.intro h4 h10)
  clear h4 h10
  go_enter Try.func47, Try.ntmps47
  go_wp2
  go_loopw [15] (fun i wr => ∃ j : Nat, j ≤ n ∧ i = .int .i64 (j : Int) ∧ okTo l j = true ∧ wr = w)
    (fun i _ => ((n : Int) - intOf i).toNat)
  case atStart => exact ⟨0, by omega, rfl, rfl, rfl⟩
  case round =>
    obtain ⟨j, hj, rfl, hok, rfl⟩ := hrel
    by_cases hjn : j = n
    · have hj1 : ¬ ((j : Int) < (n : Int)) := by omega
      rw [hjn] at hok
      have HF : Hid (memB l = true) := hid (by have hq := HQ.out; rw [memB, HN.out, hok, decide_eq_true (And.intro (by omega) (by omega))]; rfl)
      clear hok hj hjn
      go_wp2
      go_ret
      exact ⟨by rw [HF.out]; rfl, Below.refl _ _⟩
    · have hj1 : (j : Int) < (n : Int) := by omega
      have hj0 : (0 : Int) ≤ (j : Int) := Int.natCast_nonneg _
      have hget : l[j]? = some (l.getD j 0) := by rw [List.getD_eq_getElem?_getD, List.getElem?_eq_getElem (by rw [HN.out]; omega)]; rfl
      obtain ⟨g, off, rfl, hg, hcell⟩ := HI.out.at j _ hget
      obtain ⟨x, ex⟩ : ∃ x, x = l.getD j 0 := ⟨_, rfl⟩
      rw [← ex] at hcell
      clear hget
      cases hx : isIdB x with
      | false =>
        have hx2 := of_decide_eq_false hx
        have HC : Hid (∀ u : World, Calls Try.prog 64 #[.int .i64 x] u fun e w' => e = .returned (.bool false) ∧ w' = u) := hid (fun u => by rw [← hx]; exact cisID_any x u)
        have HF : Hid (okTo l n = false) := hid (okTo_false l (j + 1) n (by rw [okTo_succ, okAt_no1 l j (by rw [← ex]; exact hx2)]; simp) (by omega))
        clear hok hj hjn ex hx hx2 hg
        go_wp2_with (go_at_call 64; refine (HC.out _).mono ?_; rintro e wx ⟨rfl, rfl⟩)
        go_ret
        exact ⟨by rw [memB, HN.out, HF.out]; rfl, Below.refl _ _⟩
      | true =>
        have hx2 := of_decide_eq_true hx
        have HC : Hid (∀ u : World, Calls Try.prog 64 #[.int .i64 x] u fun e w' => e = .returned (.bool true) ∧ w' = u) := hid (fun u => by rw [← hx]; exact cisID_any x u)
        by_cases hz : j = 0
        · have d4 : ¬ ((0 : Int) < (j : Int)) := by omega
          have HF : Hid (okTo l (j + 1) = true) := hid (by rw [okTo_succ, hok, show okAt l j = true by (have hx : l.getD 0 0 = x := by rw [ex, hz]); rw [hz]; exact okAt_yes0 l (by rw [hx]; exact hx2)]; rfl)
          have HJ := hid (And.intro hj hjn)
          clear hok hj hjn ex hz hx hx2 hg
          go_wp2_with (go_at_call 64; refine (HC.out _).mono ?_; rintro e wx ⟨rfl, rfl⟩)
          go_roundw
          case rel => exact ⟨j + 1, by have := HJ.out; omega, by go_num, HF.out, by first | exact rfl | exact trivial⟩
          case measure => simp [intOf]; omega
        · obtain ⟨i, rfl⟩ : ∃ i, j = i + 1 := ⟨j - 1, by omega⟩
          have hgetp : l[i]? = some (l.getD i 0) := by rw [List.getD_eq_getElem?_getD, List.getElem?_eq_getElem (by rw [HN.out]; omega)]; rfl
          obtain ⟨g', off', eg, hg', hcellp⟩ := HI.out.at i _ hgetp
          obtain ⟨rfl, rfl⟩ : g = g' ∧ off = off' := by simp at eg; exact eg
          obtain ⟨y, ey⟩ : ∃ y, y = l.getD i 0 := ⟨_, rfl⟩
          rw [← ey] at hcellp
          have hi0 : (0 : Int) < ((i + 1 : Nat) : Int) := by omega
          have hi1 : (i : Int) < (n : Int) := by omega
          have hi2 : (0 : Int) ≤ (i : Int) := by omega
          clear hgetp eg hz hg hg' hx
          by_cases hxy : x ≤ y
          · have HF : Hid (okTo l n = false) := hid (okTo_false l (i + 1 + 1) n (by rw [okTo_succ, okAt_no2 l (i + 1) (by omega) (by rw [← ex, show i + 1 - 1 = i from rfl, ← ey]; omega)]; simp) (by omega))
            clear hok hj hjn ex ey hx2
            go_wp2_with (go_at_call 64; refine (HC.out _).mono ?_; rintro e wx ⟨rfl, rfl⟩)
            go_ret
            exact ⟨by rw [memB, HN.out, HF.out]; rfl, Below.refl _ _⟩
          · have HF : Hid (okTo l (i + 1 + 1) = true) := hid (by rw [okTo_succ, hok, okAt_yes l (i + 1) (by rw [← ex]; exact hx2) (by rw [← ex, show i + 1 - 1 = i from rfl, ← ey]; omega)]; rfl)
            have HJ := hid (And.intro hj hjn)
            clear hok hj hjn ex ey hx2
            go_wp2_with (go_at_call 64; refine (HC.out _).mono ?_; rintro e wx ⟨rfl, rfl⟩)
            go_roundw
            case rel => exact ⟨i + 1 + 1, by have := HJ.out; omega, by go_num, HF.out, by first | exact rfl | exact trivial⟩
            case measure => simp [intOf]; omega
end Go.Proofs.Ytclfphffbfdimaa

/- The program's counts. -/
namespace Go.Proofs.Ytclfphffbfdimaa
open Go.RowKit

theorem cfaults_same (n : Int) (hn : n ≤ 9223372036854775807) (w : World) : Calls Try.prog 25 #[.int .i64 n] w fun e w' => e = .returned (.int .i64 (fltZ n)) ∧ w' = w := by
  by_cases h : n < 1
  · rw [fltZ_lo h]
    go_enter Try.func25, Try.ntmps25
    go_wp2
    go_ret
    exact ⟨rfl, rfl⟩
  · have HF : Hid (fltZ n = (n - 1) / 3) := hid (fltZ_hi h)
    rw [HF.out]
    go_enter Try.func25, Try.ntmps25
    go_wp2
    go_ret
    exact ⟨rfl, rfl⟩
theorem cfaults_any (n : Int) (hn : n ≤ 9223372036854775807) (w : World) : Calls Try.prog 25 #[.int .i64 n] w fun e w' => e = .returned (.int .i64 (fltZ n)) ∧ Below w.heap.size w w' :=
  (cfaults_same n hn w).mono fun _ _ ⟨h1, h2⟩ => ⟨h1, by rw [h2]; exact Below.refl _ _⟩
theorem cquorum_any (n : Int) (hn : n ≤ 9223372036854775807) (w : World) : Calls Try.prog 28 #[.int .i64 n] w fun e w' => e = .returned (.int .i64 (quoZ n)) ∧ Below w.heap.size w w' := by
  have HC : Hid (∀ u : World, Calls Try.prog 25 #[.int .i64 n] u fun e w' => e = .returned (.int .i64 (fltZ n)) ∧ w' = u) := hid (cfaults_same n hn)
  by_cases h : n < 1
  · rw [quoZ_lo h]
    go_enter Try.func28, Try.ntmps28
    go_wp2
    go_ret
    exact ⟨rfl, Below.refl _ _⟩
  · rw [quoZ_hi h]
    have hf := fltZ_le h
    generalize fltZ n = f at HC hf ⊢
    have h1 : 0 ≤ f := hf.1
    have h2 : f ≤ 4000000000000000000 := by omega
    have h3 : f ≤ n := by omega
    have HQ : Hid ((n + f) / 2 + 1 = f + (n - f) / 2 + 1) := hid (by omega)
    rw [HQ.out]
    clear hf
    go_enter Try.func28, Try.ntmps28
    go_wp2_with (go_at_call 25; refine (HC.out _).mono ?_; rintro e wx ⟨rfl, rfl⟩)
    go_ret
    exact ⟨rfl, Below.refl _ _⟩
end Go.Proofs.Ytclfphffbfdimaa

/- The program's council: which configurations are right. -/
namespace Go.Proofs.Ytclfphffbfdimaa
open Go.RowKit

set_option maxRecDepth 100000 in
set_option maxHeartbeats 1600000 in
theorem cright_any (ep : Int) (a : Option Addr) (n cap : Nat) (l : List Int) (hn : l.length = n) (hm : n ≤ maxLen) (w : World) (hI : IntsIn w a l) :
    Calls Try.prog 27 #[.agg #[.int .i64 ep, .slice a n cap]] w fun e w' => e = .returned (.bool (rightC ep l)) ∧ Below w.heap.size w w' := by
  by_cases h0 : 0 ≤ ep
  · by_cases h60 : ep ≤ 60
    · have HM : Hid (∀ u : World, IntsIn u a l → Calls Try.prog 47 #[.slice a n cap] u fun e w' => e = .returned (.bool (memB l)) ∧ Below u.heap.size u w') := hid (fun u hu => careRight_any a n cap l hn hm u hu)
      have HR : Hid (rightC ep l = memB l) := hid (by rw [rightC, decide_eq_true (And.intro h0 h60)]; rfl)
      have HI := hid hI
      rw [HR.out]
      generalize memB l = b at HM
      clear hI hn hm
      go_enter Try.func27, Try.ntmps27
      go_wp2_with (go_at_call 47; refine (HM.out _ (by exact HI.out.alloc _)).mono ?_; rintro e w1 ⟨rfl, hb1⟩; have H1 := hid (((Below.refl w.heap.size w).alloc (Nat.le_refl _) _).trans (hb1.mono (by simp))); clear hb1)
      go_ret
      exact ⟨rfl, H1.out⟩
    · have HR : Hid (rightC ep l = false) := hid (by rw [rightC, decide_eq_false (fun h => h60 h.2)]; rfl)
      rw [HR.out]
      clear hI hn hm
      go_enter Try.func27, Try.ntmps27
      go_wp2
      go_ret
      exact ⟨rfl, (Below.refl _ _).alloc (Nat.le_refl _) _⟩
  · have HR : Hid (rightC ep l = false) := hid (by rw [rightC, decide_eq_false (fun h => h0 h.1)]; rfl)
    rw [HR.out]
    clear hI hn hm
    go_enter Try.func27, Try.ntmps27
    go_wp2
    go_ret
    exact ⟨rfl, (Below.refl _ _).alloc (Nat.le_refl _) _⟩
end Go.Proofs.Ytclfphffbfdimaa

/- The program's bytes of a configuration. -/
namespace Go.Proofs.Ytclfphffbfdimaa
open Go.RowKit

/-- The program's writer at block c, with room for lim, and l in it; nothing below c has turned since w0. -/
def CwAt (c lim : Nat) (w0 w : World) (l : List UInt8) : Prop := (∃ v, WrAt w c v (lim : Int) l 0) ∧ Below c w0 w
theorem wL_ok2 (lim : Nat) (l : List UInt8) (s n : Nat) (hn : n < 256 ^ s) (hl : l.length + s ≤ lim) : wL (lim : Int) l 0 s (n : Int) = l ++ be s n ∧ wE (lim : Int) l 0 s (n : Int) = 0 := by
  have h : adm (lim : Int) l.length 0 (inR s (n : Int)) s = 0 := by
    have hi : inR s (n : Int) = true := inR_yes s n hn
    rw [hi]
    unfold adm
    simp
    omega
  exact ⟨by rw [wL, if_pos h, Int.toNat_natCast], by rw [wE, h]⟩
theorem cbyte (c lim : Nat) (w0 w : World) (l : List UInt8) (n : Nat) (hn : n < 256) (hm : lim ≤ 100) (hl : l.length + 1 ≤ lim) (h : CwAt c lim w0 w l) :
    Calls Try.prog 49 #[.pointer (some ⟨c, 0, none⟩), .int .i64 (n : Int)] w fun e w' => e = .returned (.tuple #[]) ∧ CwAt c lim w0 w' (l ++ be 1 n) := by
  obtain ⟨⟨v, hv⟩, hb⟩ := h
  refine (wbyte_any c v lim l 0 n w hv (by omega) (by omega) (by omega) (by omega)).mono ?_
  rintro e w' ⟨rfl, v', h', hk, _⟩
  rw [(wL_ok2 lim l 1 n (by omega) hl).1, (wL_ok2 lim l 1 n (by omega) hl).2] at h'
  exact ⟨rfl, ⟨v', h'⟩, hb.trans (hk.below (Nat.le_of_lt hv.lt) (Nat.le_refl _) (fun g hg => by have := (hv.own.lt g hg).1; omega))⟩
theorem cword (c lim : Nat) (w0 w : World) (l : List UInt8) (n : Nat) (hn : n < 65536) (hm : lim ≤ 100) (hl : l.length + 2 ≤ lim) (h : CwAt c lim w0 w l) :
    Calls Try.prog 50 #[.pointer (some ⟨c, 0, none⟩), .int .i64 (n : Int)] w fun e w' => e = .returned (.tuple #[]) ∧ CwAt c lim w0 w' (l ++ be 2 n) := by
  obtain ⟨⟨v, hv⟩, hb⟩ := h
  refine (wword_any c v lim l 0 n w hv (by omega) (by omega) (by omega) (by omega)).mono ?_
  rintro e w' ⟨rfl, v', h', hk, _⟩
  rw [(wL_ok2 lim l 2 n (by omega) hl).1, (wL_ok2 lim l 2 n (by omega) hl).2] at h'
  exact ⟨rfl, ⟨v', h'⟩, hb.trans (hk.below (Nat.le_of_lt hv.lt) (Nat.le_refl _) (fun g hg => by have := (hv.own.lt g hg).1; omega))⟩
set_option maxRecDepth 100000 in
set_option maxHeartbeats 3200000 in
theorem ctext_any (ep : Int) (a : Option Addr) (n cap : Nat) (l : List Int) (hn : l.length = n) (hm : n ≤ maxLen) (w : World) (hI : IntsIn w a l) :
    Calls Try.prog 30 #[.agg #[.int .i64 ep, .slice a n cap]] w fun e w' => e = .returned (.tuple #[.string (textC ep l), .int .i64 (textE ep l)]) ∧ Below w.heap.size w w' := by
  have HR : Hid (∀ (b : Bool), rightC ep l = b → ∀ u : World, IntsIn u a l → Calls Try.prog 27 #[.agg #[.int .i64 ep, .slice a n cap]] u fun e w' => e = .returned (.bool b) ∧ Below u.heap.size u w') := hid (fun b hb u hu => by rw [← hb]; exact cright_any ep a n cap l hn hm u hu)
  have HI := hid hI
  have HN := hid hn
  clear hI hm hn
  cases hr : rightC ep l with
  | false =>
    rw [show textC ep l = ⟨#[]⟩ by rw [textC, hr]; rfl, show textE ep l = 1 by rw [textE, hr]; rfl]
    have HRb := hid (HR.out false hr)
    clear hr
    go_enter Try.func30, Try.ntmps30
    go_wp2_with (go_at_call 27; refine (HRb.out _ (by exact HI.out.alloc _)).mono ?_; rintro e w1 ⟨rfl, hb1⟩; have H1 := hid (((Below.refl w.heap.size w).alloc (Nat.le_refl _) _).trans (hb1.mono (by simp))); clear hb1)
    go_ret2
    exact ⟨rfl, H1.out⟩
  | true =>
    have HRb := hid (HR.out true hr)
    obtain ⟨⟨he0, he60⟩, hmb⟩ := right_mem hr
    have hml := mem_len hmb
    rw [HN.out] at hml
    obtain ⟨E, rfl⟩ : ∃ E : Nat, ep = (E : Int) := ⟨ep.toNat, by omega⟩
    rw [show textE (E : Int) l = 0 by rw [textE, hr]; rfl]
    obtain ⟨T, eT⟩ : ∃ T, T = textC (E : Int) l := ⟨_, rfl⟩
    have HT : Hid (T = ⟨(be 1 67 ++ be 2 E ++ be 1 n ++ memBytes l).toArray⟩) := hid (by rw [eT, textC, hr, if_pos rfl, confB, Int.toNat_natCast, HN.out])
    rw [← eT]
    have HM := hid hmb
    have hn1 : (n : Int) ≤ 10 := by omega
    have hE1 : (E : Int) ≤ 60 := by omega
    have HE := hid (And.intro hml (show E ≤ 60 by omega))
    obtain ⟨M, eM⟩ : ∃ M : Nat, M = 4 + n := ⟨_, rfl⟩
    have HMx : Hid (M = 4 + n ∧ max ((4 : Int) + (n : Int)) 0 = (M : Int)) := hid ⟨eM, by omega⟩
    clear hr he0 he60 hmb hml eT eM
    go_enter Try.func30, Try.ntmps30
    go_wp2_with (first
      | (go_at_call 27; refine (HRb.out _ (by exact HI.out.alloc _)).mono ?_; rintro e w1 ⟨rfl, hb1⟩
         have c0 : w1.cell? ⟨w.heap.size, 0, none⟩ = some (.int .i64 (E : Int)) := (hb1.cell (p := ⟨w.heap.size, 0, none⟩) (by simp)).trans (cell_at (conf_cells w _ _) 0 _ rfl)
         have c1 : w1.cell? ⟨w.heap.size, 1, none⟩ = some (.slice a n cap) := (hb1.cell (p := ⟨w.heap.size, 1, none⟩) (by simp)).trans (cell_at (conf_cells w _ _) 1 _ rfl)
         have hlt : w.heap.size < w1.heap.size := Nat.lt_of_lt_of_le (by simp) hb1.size
         have H1 := hid (And.intro hlt (And.intro (((Below.refl w.heap.size w).alloc (Nat.le_refl _) _).trans (hb1.mono (by simp))) (And.intro c0 c1)))
         clear hb1 hlt)
      | (go_at_call 48; refine (new_any _ _).mono ?_; rintro e w2 ⟨rfl, hw2⟩
         have H2 : Hid (CwAt w1.heap.size M w1 w2 []) := hid (by rw [hw2, HMx.out.2]; exact ⟨⟨_, ⟨heap_alloc_last w1 _, ⟨rfl, .inl ⟨rfl, rfl⟩⟩⟩⟩, (Below.refl _ _).alloc (Nat.le_refl _) _⟩)
         clear hw2)
      | (go_at_call 50; refine (cword _ M w1 _ (be 1 67) E (by have := HE.out.2; omega) (by have := HE.out.1; have := HMx.out.1; omega) (by rw [be_len]; have := HMx.out.1; have := HE.out.1; omega) (by exact H3.out)).mono ?_; rintro e w4 ⟨rfl, h4⟩; have H4 := hid h4; clear h4; have d1 : w4.cell? ⟨w.heap.size, 1, none⟩ = some (.slice a n cap) := (H4.out.2.cell (p := ⟨w.heap.size, 1, none⟩) H1.out.1).trans H1.out.2.2.2)
      | (go_at_call 49; have := H4; refine (cbyte _ M w1 _ (be 1 67 ++ be 2 E) n (by have := HE.out.1; omega) (by have := HE.out.1; have := HMx.out.1; omega) (by rw [List.length_append, be_len, be_len]; have := HMx.out.1; have := HE.out.1; omega) (by exact H4.out)).mono ?_; rintro e w5 ⟨rfl, h5⟩; have H5 := hid h5; clear h5; have d2 : w5.cell? ⟨w.heap.size, 1, none⟩ = some (.slice a n cap) := (H5.out.2.cell (p := ⟨w.heap.size, 1, none⟩) H1.out.1).trans H1.out.2.2.2)
      | (go_at_call 49; refine (cbyte _ M w1 _ [] 67 (by decide) (by have := HE.out.1; have := HMx.out.1; omega) (by have := HMx.out.1; have := HE.out.1; simp; omega) (by exact H2.out)).mono ?_; rintro e w3 ⟨rfl, h3⟩; have H3 := hid h3; clear h3; have d0 : w3.cell? ⟨w.heap.size, 0, none⟩ = some (.int .i64 (E : Int)) := (H3.out.2.cell (p := ⟨w.heap.size, 0, none⟩) H1.out.1).trans H1.out.2.2.1))
    obtain ⟨P, eP⟩ : ∃ P, P = be 1 67 ++ be 2 E ++ be 1 n := ⟨_, rfl⟩
    rw [← eP] at H5 HT
    have HP : Hid (P.length = 4) := hid (by rw [eP, List.length_append, List.length_append, be_len, be_len, be_len])
    clear eP this
    go_loopw [29] (fun i wr => ∃ j : Nat, j ≤ n ∧ i = .int .i64 (j : Int) ∧ CwAt w1.heap.size M w1 wr (P ++ memBytes (l.take j)))
      (fun i _ => ((n : Int) - intOf i).toNat)
    case atStart => exact ⟨0, by omega, rfl, by rw [List.take_zero, show memBytes [] = [] from rfl, List.append_nil]; exact H5.out⟩
    case round =>
      obtain ⟨j, hj, rfl, hO⟩ := hrel
      have HO := hid hO
      clear hO
      by_cases hjn : j = n
      · have hj1 : ¬ ((j : Int) < (n : Int)) := by omega
        have hO := HO.out
        rw [hjn, List.take_of_length_le (by rw [HN.out]; exact Nat.le_refl _)] at hO
        obtain ⟨⟨v, hv⟩, hb⟩ := hO
        have HV := hid hv
        have HB := hid hb
        clear hj hjn hv hb
        go_wp2_with (go_at_call 51; refine (done_ok _ _ _ _ _ (by exact HV.out)).mono ?_; rintro e wx ⟨rfl, rfl⟩)
        go_ret2
        exact ⟨by rw [HT.out]; rfl, H1.out.2.1.trans (HB.out.mono (Nat.le_of_lt H1.out.1))⟩
      · have hj1 : (j : Int) < (n : Int) := by omega
        have hj0 : (0 : Int) ≤ (j : Int) := Int.natCast_nonneg _
        have hjl : j < l.length := by rw [HN.out]; omega
        have hrg := mem_range HM.out j hjl
        have HS := hid (memBytes_snoc l j hjl)
        obtain ⟨g, off, rfl, hg, hcell⟩ := HI.out.at j _ (getD_some hjl)
        generalize l.getD j 0 = x at hrg HS hcell
        obtain ⟨X, rfl⟩ : ∃ X : Nat, x = (X : Int) := ⟨x.toNat, by omega⟩
        rw [Int.toNat_natCast] at HS
        have cz : wr.cell? ⟨g, off + j, none⟩ = some (.int .i64 (X : Int)) := (HO.out.2.cell (p := ⟨g, off + j, none⟩) (Nat.lt_of_lt_of_le hg H1.out.2.1.size)).trans ((H1.out.2.1.cell (p := ⟨g, off + j, none⟩) hg).trans hcell)
        have HX : Hid (X < 256 ∧ (P ++ memBytes (l.take j)).length + 1 ≤ M ∧ M ≤ 100) := hid ⟨by omega, by rw [List.length_append, HP.out, memBytes_len, List.length_take, HMx.out.1]; omega, by have := HMx.out.1; omega⟩
        have HJ := hid (And.intro hj hjn)
        clear hj hjn hjl hrg hg hcell
        go_wp2_with (go_at_call 49; refine (cbyte _ M w1 _ (P ++ memBytes (l.take j)) X (by exact HX.out.1) (by exact HX.out.2.2) (by exact HX.out.2.1) (by exact HO.out)).mono ?_; rintro e w6 ⟨rfl, h6⟩; have H6 := hid h6; clear h6)
        go_roundw
        case rel => exact ⟨j + 1, by have := HJ.out; omega, by go_num, by rw [HS.out, ← List.append_assoc]; exact H6.out⟩
        case measure => simp [intOf]; omega
end Go.Proofs.Ytclfphffbfdimaa

/- The contracts of the document's writer: texts. -/
namespace Go.Proofs.Ytclfphffbfdimaa
open Go.RowKit

end Go.Proofs.Ytclfphffbfdimaa

/- The document's writer, as the walks of its users see it: what lies in it, numbers, bits, texts put to it, its end. -/
namespace Go.Proofs.Ytclfphffbfdimaa
open Go.RowKit

/-- The document's writer at block c, with room for lim, and l in it; nothing below c has turned since w0. -/
def TxAt (lim : Int) (c : Nat) (w0 w : World) (l : List UInt8) : Prop := (∃ v, MwAt w c v lim l 0) ∧ Below c w0 w
theorem wLx (lim : Int) (l : List UInt8) (s n : Nat) (hn : n < 256 ^ s) (hl : (l.length : Int) + s ≤ lim) : wL lim l 0 s (n : Int) = l ++ be s n ∧ wE lim l 0 s (n : Int) = 0 := by
  have h : adm lim l.length 0 (inR s (n : Int)) s = 0 := by
    have hi : inR s (n : Int) = true := by
      unfold inR
      exact decide_eq_true ⟨Int.natCast_nonneg _, by exact_mod_cast hn⟩
    rw [hi]
    unfold adm
    rw [if_pos rfl, if_pos rfl, if_neg (by omega)]
  exact ⟨by rw [wL, if_pos h, Int.toNat_natCast], by rw [wE, h]⟩
theorem txnum (lim : Int) (h0 : 0 ≤ lim) (h1 : lim ≤ 4294967296) (c : Nat) (w0 w : World) (l : List UInt8) (n s : Nat) (hs : s ≤ 4) (hn : n < 256 ^ s) (hl : (l.length : Int) + s ≤ lim) (h : TxAt lim c w0 w l) :
    Calls Try.prog 55 #[.pointer (some ⟨c, 0, none⟩), .int .i64 (n : Int), .int .i64 (s : Int)] w fun e w' => e = .returned (.tuple #[]) ∧ TxAt lim c w0 w' (l ++ be s n) := by
  obtain ⟨⟨v, hv⟩, hb⟩ := h
  refine (mnum_w c v lim l 0 n s hs w hv h0 (by omega) (by omega)).mono ?_
  rintro e w' ⟨rfl, v', h', hk, _⟩
  rw [(wLx lim l s n hn hl).1, (wLx lim l s n hn hl).2] at h'
  exact ⟨rfl, ⟨v', h'⟩, hb.trans (hk.below (Nat.le_of_lt hv.lt) (Nat.le_refl _) (fun g hg => by have := (hv.own.lt g hg).1; omega))⟩
theorem txnew (lim : Int) (h0 : 0 ≤ lim) (w : World) : Calls Try.prog 54 #[.int .i64 lim] w fun e w' => e = .returned (.pointer (some ⟨w.heap.size, 0, none⟩)) ∧ TxAt lim w.heap.size w w' [] := by
  refine (mnew_any lim w).mono ?_
  rintro e w' ⟨rfl, rfl⟩
  rw [show max lim 0 = lim by omega]
  exact ⟨rfl, ⟨_, ⟨heap_alloc_last w _, ⟨rfl, .inl ⟨rfl, rfl⟩⟩⟩⟩, (Below.refl _ _).alloc (Nat.le_refl _) _⟩
theorem xLx (lim : Int) (l : List UInt8) (s : ByteArray) (hs : s.size ≤ 65535) (hl : (l.length : Int) + (2 + s.size) ≤ lim) : xL lim l 0 s = l ++ (be 2 s.size ++ s.data.toList) ∧ xE lim l 0 s = 0 := by
  have h : xE lim l 0 s = 0 := by
    unfold xE adm
    rw [if_pos rfl, decide_eq_true hs, if_pos rfl, if_neg (by omega)]
  exact ⟨by rw [xL, if_pos h], h⟩
theorem bLx (lim : Int) (l : List UInt8) (n : Nat) (hl : (l.length : Int) + 8 ≤ lim) : bL lim l 0 n = l ++ be 8 n ∧ bE lim l 0 = 0 := by
  have h : bE lim l 0 = 0 := by
    unfold bE adm
    rw [if_pos rfl, if_pos rfl, if_neg (by omega)]
  exact ⟨by rw [bL, if_pos h], h⟩
theorem txdone (lim : Int) (c : Nat) (w0 w : World) (l : List UInt8) (h : TxAt lim c w0 w l) :
    Calls Try.prog 56 #[.pointer (some ⟨c, 0, none⟩)] w fun e w' => e = .returned (.tuple #[.string ⟨l.toArray⟩, .int .i64 0]) ∧ Below c w0 w' := by
  obtain ⟨⟨v, hv⟩, hb⟩ := h
  refine (mdone_ok c v lim l w hv).mono ?_
  rintro e w' ⟨rfl, rfl⟩
  exact ⟨rfl, hb⟩
/-- .. with whatever error. -/
def TeAt (lim : Int) (c : Nat) (w0 w : World) (l : List UInt8) (er : Int) : Prop := (∃ v, MwAt w c v lim l er) ∧ Below c w0 w
theorem TxAt.te {lim : Int} {c : Nat} {w0 w : World} {l : List UInt8} (h : TxAt lim c w0 w l) : TeAt lim c w0 w l 0 := h
theorem tenum (lim : Int) (h0 : 0 ≤ lim) (h1 : lim ≤ 4294967296) (c : Nat) (w0 w : World) (l : List UInt8) (er n : Int) (s : Nat) (hs : s ≤ 4) (hl : l.length ≤ 4294967296) (h : TeAt lim c w0 w l er) :
    Calls Try.prog 55 #[.pointer (some ⟨c, 0, none⟩), .int .i64 n, .int .i64 (s : Int)] w fun e w' => e = .returned (.tuple #[]) ∧ TeAt lim c w0 w' (wL lim l er s n) (wE lim l er s n) := by
  obtain ⟨⟨v, hv⟩, hb⟩ := h
  refine (mnum_w c v lim l er n s hs w hv h0 (by omega) (by omega)).mono ?_
  rintro e w' ⟨rfl, v', h', hk, _⟩
  exact ⟨rfl, ⟨v', h'⟩, hb.trans (hk.below (Nat.le_of_lt hv.lt) (Nat.le_refl _) (fun g hg => by have := (hv.own.lt g hg).1; omega))⟩
def teT (l : List UInt8) (er : Int) : ByteArray := if er = 0 then ⟨l.toArray⟩ else ⟨#[]⟩
theorem tedone (lim : Int) (c : Nat) (w0 w : World) (l : List UInt8) (er : Int) (h : TeAt lim c w0 w l er) :
    Calls Try.prog 56 #[.pointer (some ⟨c, 0, none⟩)] w fun e w' => e = .returned (.tuple #[.string (teT l er), .int .i64 er]) ∧ Below c w0 w' := by
  by_cases he : er = 0
  · subst he
    exact txdone lim c w0 w l h
  · obtain ⟨⟨v, hv⟩, hb⟩ := h
    rw [teT, if_neg he]
    refine (mdone_err c v lim l er w hv (by simpa using he)).mono ?_
    rintro e w' ⟨rfl, rfl⟩
    exact ⟨rfl, hb.drew⟩
end Go.Proofs.Ytclfphffbfdimaa

/- The document's text of a request. -/
namespace Go.Proofs.Ytclfphffbfdimaa
open Go.RowKit

theorem below_up {B C : Nat} {x y z : World} (h : Below B x y) (k : Below C y z) (hC : B ≤ C) (_hs : C ≤ y.heap.size) : Below B x z := h.trans (k.mono hC)
end Go.Proofs.Ytclfphffbfdimaa

/- What the document reads any bytes as: a request. -/
namespace Go.Proofs.Ytclfphffbfdimaa
open Go.RowKit

theorem rd_sizes (s : ByteArray) (sh : Bool) (n : Nat) : (rS s sh n).size ≤ s.size := by
  rw [rS]
  split
  · rw [← data_len, ext_data, List.length_drop, List.length_take, data_len]
    omega
  · exact Nat.le_refl _
end Go.Proofs.Ytclfphffbfdimaa

/- The document's: are two requests one, are their texts the same; results' texts; what is prepared, states. -/
namespace Go.Proofs.Ytclfphffbfdimaa
open Go.RowKit

theorem text_eq (x y : ByteArray) : (x.toList == y.toList) = decide (x = y) := by
  rw [ByteArray.toList_eq, ByteArray.toList_eq, Bool.eq_iff_iff]
  simp only [beq_iff_eq, decide_eq_true_eq]
  exact ⟨fun h => ByteArray.ext (Array.ext' h), fun h => by rw [h]⟩
def sameB (x y : Rq) : Bool := (decide (rqE x = 0) && decide (rqE y = 0)) && decide (rqT x = rqT y)
end Go.Proofs.Ytclfphffbfdimaa

/- The document's: what any bytes are read as, as a result; what is prepared, a state. -/
namespace Go.Proofs.Ytclfphffbfdimaa
open Go.RowKit

theorem adm_zero' {lim : Int} {n : Nat} {er : Int} {r : Bool} {size : Int} (h : adm lim n er r size = 0) : er = 0 ∧ r = true := by
  unfold adm at h
  split at h
  · next h1 =>
    split at h
    · next h2 => exact ⟨h1, h2⟩
    · cases h
  · next h1 => exact absurd h h1
theorem add_texts (a b : ByteArray) : (a ++ b).data.toList = a.data.toList ++ b.data.toList := by simp [ByteArray.data_append]
set_option maxRecDepth 100000 in
set_option maxHeartbeats 6400000 in
theorem qstate_any (slot : Int) (x : ByteArray) (hx : x.size ≤ 140737488355328) (w : World) : Calls Try.prog 34 #[.int .i64 slot, .string x] w fun e w' => e = .returned (.tuple #[.string (stT slot x), .int .i64 (stE slot)]) ∧ Below w.heap.size w w' := by
  cases hB : inR 4 slot with
  | true =>
    have hs := inR4 hB
    obtain ⟨S, rfl⟩ : ∃ S : Nat, slot = (S : Int) := ⟨slot.toNat, by omega⟩
    have HT : Hid (stT (S : Int) x = ⟨(be 1 83 ++ be 4 S).toArray⟩ ++ x) := hid (by
      apply ByteArray.ext
      apply Array.ext'
      rw [add_texts, stT, if_pos hB]
      rfl)
    rw [HT.out, show stE (S : Int) = 0 by rw [stE, if_pos hB]]
    have HS := hid (show S < 256 ^ 4 by omega)
    have HX : Hid ((be 1 83).length + (be 4 S).length + x.size ≤ 9223372036854775807) := hid (by rw [be_len, be_len]; omega)
    clear hB hs hx HT
    go_enter Try.func34, Try.ntmps34
    go_wp2_with (first
      | (go_at_call 54; refine (txnew 5 (by decide) _).mono ?_; rintro e w3 ⟨rfl, h3⟩; have T0 := hid h3; clear h3)
      | (go_at_call 55; have := T1; refine (txnum 5 (by decide) (by decide) _ _ _ ([] ++ be 1 83) S 4 (by decide) HS.out (by decide) (by exact T1.out)).mono ?_; rintro e w5 ⟨rfl, h5⟩; have T2 := hid h5; clear h5)
      | (go_at_call 55; refine (txnum 5 (by decide) (by decide) _ _ _ [] 83 1 (by decide) (by decide) (by decide) (by exact T0.out)).mono ?_; rintro e w4 ⟨rfl, h4⟩; have T1 := hid h4; clear h4)
      | (go_at_call 56; refine (txdone 5 _ _ _ _ (by exact T2.out)).mono ?_; rintro e w6 ⟨rfl, h6⟩; have HDn := hid h6; clear h6))
    · rename_i h; exact absurd h (Nat.not_lt.mpr HX.out)
    go_ret2
    exact ⟨rfl, HDn.out⟩
  | false =>
    rw [show stT slot x = ⟨#[]⟩ by rw [stT, hB]; rfl, show stE slot = 1 by rw [stE, hB]; rfl]
    have HE : Hid (wE 5 ([] ++ be 1 83) 0 4 slot ≠ 0) := hid (fun h => by have := (adm_zero' h).2; rw [hB] at this; cases this)
    clear hB hx
    obtain ⟨E, eE⟩ : ∃ E, E = wE 5 ([] ++ be 1 83) 0 4 slot := ⟨_, rfl⟩
    rw [← eE] at HE
    have hEb : (E != 0) = true := by simpa using HE.out
    have HEe := hid eE
    clear eE
    go_enter Try.func34, Try.ntmps34
    go_wp2_with (first
      | (go_at_call 54; refine (txnew 5 (by decide) _).mono ?_; rintro e w3 ⟨rfl, h3⟩; have T0 := hid h3; clear h3)
      | (go_at_call 55; have := T1; refine (tenum 5 (by decide) (by decide) _ _ _ ([] ++ be 1 83) 0 slot 4 (by decide) (by decide) (by exact T1.out.te)).mono ?_; rintro e w5 ⟨rfl, h5⟩; rw [← HEe.out] at h5; have T2 := hid h5; clear h5)
      | (go_at_call 55; refine (txnum 5 (by decide) (by decide) _ _ _ [] 83 1 (by decide) (by decide) (by decide) (by exact T0.out)).mono ?_; rintro e w4 ⟨rfl, h4⟩; have T1 := hid h4; clear h4)
      | (go_at_call 56; refine (tedone 5 _ _ _ _ _ (by exact T2.out)).mono ?_; rintro e w6 ⟨rfl, h6⟩; have HDn := hid h6; clear h6))
    go_ret2
    exact ⟨rfl, HDn.out⟩
end Go.Proofs.Ytclfphffbfdimaa

/- The document's: are two results one; what is prepared. -/
namespace Go.Proofs.Ytclfphffbfdimaa
open Go.RowKit

/-- The bytes ahead of a request that is prepared. -/
theorem pr_head {e v s : Int} (h : spB e v s = true) : ∃ E V S : Nat, e = (E : Int) ∧ v = (V : Int) ∧ s = (S : Int) ∧ E < 256 ^ 4 ∧ V < 256 ^ 4 ∧ S < 256 ^ 4 := by
  rw [spB, Bool.and_eq_true_iff, Bool.and_eq_true_iff] at h
  have h1 := inR4 h.1.1
  have h2 := inR4 h.1.2
  have h3 := inR4 h.2
  exact ⟨e.toNat, v.toNat, s.toNat, by omega, by omega, by omega, by omega, by omega, by omega⟩
theorem rqT_size (r : Rq) : (rqT r).size ≤ 34 := by
  unfold rqT
  split
  · decide
  · split
    · next h =>
      have h1 := (right_fields h).2.2.2.1
      have h2 := rqL_len r
      show (rqL r).toArray.size ≤ 34
      simp
      omega
    · decide
end Go.Proofs.Ytclfphffbfdimaa

/- The program's deeds: which operation is right, which request, which is the null one, which result. -/
namespace Go.Proofs.Ytclfphffbfdimaa
open Go.RowKit

end Go.Proofs.Ytclfphffbfdimaa

/- The program's writer, as the walks of its users see it: what lies in it, numbers, bits, texts put to it, its end. -/
namespace Go.Proofs.Ytclfphffbfdimaa
open Go.RowKit

/-- The program's writer at block c, with room for lim, l in it, its error er; nothing below c has turned since w0. -/
def PeAt (lim : Int) (c : Nat) (w0 w : World) (l : List UInt8) (er : Int) : Prop := (∃ v, WrAt w c v lim l er) ∧ Below c w0 w
/-- .. with no error. -/
def PwAt (lim : Int) (c : Nat) (w0 w : World) (l : List UInt8) : Prop := (∃ v, WrAt w c v lim l 0) ∧ Below c w0 w
theorem PwAt.pe {lim : Int} {c : Nat} {w0 w : World} {l : List UInt8} (h : PwAt lim c w0 w l) : PeAt lim c w0 w l 0 := h
theorem pwnew (lim : Int) (h0 : 0 ≤ lim) (w : World) : Calls Try.prog 48 #[.int .i64 lim] w fun e w' => e = .returned (.pointer (some ⟨w.heap.size, 0, none⟩)) ∧ PwAt lim w.heap.size w w' [] := by
  refine (new_any lim w).mono ?_
  rintro e w' ⟨rfl, rfl⟩
  rw [show max lim 0 = lim by omega]
  exact ⟨rfl, ⟨_, ⟨heap_alloc_last w _, ⟨rfl, .inl ⟨rfl, rfl⟩⟩⟩⟩, (Below.refl _ _).alloc (Nat.le_refl _) _⟩
theorem pwbyte (lim : Int) (h0 : 0 ≤ lim) (h1 : lim ≤ 4294967296) (c : Nat) (w0 w : World) (l : List UInt8) (n : Nat) (hn : n < 256) (hl : (l.length : Int) + 1 ≤ lim) (h : PwAt lim c w0 w l) :
    Calls Try.prog 49 #[.pointer (some ⟨c, 0, none⟩), .int .i64 (n : Int)] w fun e w' => e = .returned (.tuple #[]) ∧ PwAt lim c w0 w' (l ++ be 1 n) := by
  obtain ⟨⟨v, hv⟩, hb⟩ := h
  refine (wbyte_any c v lim l 0 n w hv h0 (by omega) (by omega) (by omega)).mono ?_
  rintro e w' ⟨rfl, v', h', hk, _⟩
  rw [(wLx lim l 1 n (by omega) hl).1, (wLx lim l 1 n (by omega) hl).2] at h'
  exact ⟨rfl, ⟨v', h'⟩, hb.trans (hk.below (Nat.le_of_lt hv.lt) (Nat.le_refl _) (fun g hg => by have := (hv.own.lt g hg).1; omega))⟩
theorem pwlong (lim : Int) (h0 : 0 ≤ lim) (h1 : lim ≤ 4294967296) (c : Nat) (w0 w : World) (l : List UInt8) (n : Nat) (hn : n < 4294967296) (hl : (l.length : Int) + 4 ≤ lim) (h : PwAt lim c w0 w l) :
    Calls Try.prog 66 #[.pointer (some ⟨c, 0, none⟩), .int .i64 (n : Int)] w fun e w' => e = .returned (.tuple #[]) ∧ PwAt lim c w0 w' (l ++ be 4 n) := by
  obtain ⟨⟨v, hv⟩, hb⟩ := h
  refine (wlong_any c v lim l 0 n w hv h0 (by omega) (by omega) (by omega)).mono ?_
  rintro e w' ⟨rfl, v', h', hk, _⟩
  rw [(wLx lim l 4 n (by omega) hl).1, (wLx lim l 4 n (by omega) hl).2] at h'
  exact ⟨rfl, ⟨v', h'⟩, hb.trans (hk.below (Nat.le_of_lt hv.lt) (Nat.le_refl _) (fun g hg => by have := (hv.own.lt g hg).1; omega))⟩
theorem pelong (lim : Int) (h0 : 0 ≤ lim) (h1 : lim ≤ 4294967296) (c : Nat) (w0 w : World) (l : List UInt8) (er n : Int) (hn : n ≤ 9223372036854775807) (hl : l.length ≤ 4294967296) (h : PeAt lim c w0 w l er) :
    Calls Try.prog 66 #[.pointer (some ⟨c, 0, none⟩), .int .i64 n] w fun e w' => e = .returned (.tuple #[]) ∧ PeAt lim c w0 w' (wL lim l er 4 n) (wE lim l er 4 n) := by
  obtain ⟨⟨v, hv⟩, hb⟩ := h
  refine (wlong_any c v lim l er n w hv h0 (by omega) (by omega) hn).mono ?_
  rintro e w' ⟨rfl, v', h', hk, _⟩
  exact ⟨rfl, ⟨v', h'⟩, hb.trans (hk.below (Nat.le_of_lt hv.lt) (Nat.le_refl _) (fun g hg => by have := (hv.own.lt g hg).1; omega))⟩
theorem pwdone (lim : Int) (c : Nat) (w0 w : World) (l : List UInt8) (h : PwAt lim c w0 w l) :
    Calls Try.prog 51 #[.pointer (some ⟨c, 0, none⟩)] w fun e w' => e = .returned (.tuple #[.string ⟨l.toArray⟩, .int .i64 0]) ∧ Below c w0 w' := by
  obtain ⟨⟨v, hv⟩, hb⟩ := h
  refine (done_ok c v lim l w hv).mono ?_
  rintro e w' ⟨rfl, rfl⟩
  exact ⟨rfl, hb⟩
theorem pedone (lim : Int) (c : Nat) (w0 w : World) (l : List UInt8) (er : Int) (he : er ≠ 0) (h : PeAt lim c w0 w l er) :
    Calls Try.prog 51 #[.pointer (some ⟨c, 0, none⟩)] w fun e w' => e = .returned (.tuple #[.string ⟨#[]⟩, .int .i64 er]) ∧ Below c w0 w' := by
  obtain ⟨⟨v, hv⟩, hb⟩ := h
  refine (done_err c v lim l er w hv (by simpa using he)).mono ?_
  rintro e w' ⟨rfl, rfl⟩
  exact ⟨rfl, hb.drew⟩
end Go.Proofs.Ytclfphffbfdimaa

/- The program's text of a request, of a result; are two requests the same. -/
namespace Go.Proofs.Ytclfphffbfdimaa
open Go.RowKit

end Go.Proofs.Ytclfphffbfdimaa

/- What the program reads any bytes as: a request, a result. -/
namespace Go.Proofs.Ytclfphffbfdimaa
open Go.RowKit

end Go.Proofs.Ytclfphffbfdimaa

/- The program's texts of what is signed: of what is prepared, of a state. -/
namespace Go.Proofs.Ytclfphffbfdimaa
open Go.RowKit

/-- Are all numbers Longs? Their bytes, one behind the other. -/
def sgB (l : List Int) : Bool := l.all (inR 4 ·)
def sgL (l : List Int) : List UInt8 := l.flatMap (fun x => be 4 x.toNat)
def sgT (m : Nat) (l : List Int) (x : ByteArray) : ByteArray := if sgB l then ⟨(be 1 m ++ sgL l).toArray⟩ ++ x else ⟨#[]⟩
def sgE (l : List Int) : Int := if sgB l then 0 else 1
theorem sg_get {l : List Int} {j : Nat} (h : j < l.length) : l[j]? = some (l.getD j 0) := by simp [h]
theorem sgL_snoc (l : List Int) (j : Nat) (hj : j < l.length) : sgL (l.take (j + 1)) = sgL (l.take j) ++ be 4 (l.getD j 0).toNat := by
  rw [List.take_add_one, sg_get hj, sgL, List.flatMap_append]
  simp [sgL]
theorem sgB_snoc (l : List Int) (j : Nat) (hj : j < l.length) : sgB (l.take (j + 1)) = (sgB (l.take j) && inR 4 (l.getD j 0)) := by
  rw [List.take_add_one, sg_get hj, sgB, List.all_append]
  simp [sgB]
theorem sgB_at {l : List Int} (h : sgB l = true) (j : Nat) (hj : j < l.length) : inR 4 (l.getD j 0) = true := by
  rw [sgB, List.all_eq_true] at h
  exact h _ (List.mem_of_getElem? (sg_get hj))
theorem sgL_len (l : List Int) : (sgL l).length = 4 * l.length := by
  induction l with
  | nil => rfl
  | cons x l ih =>
    rw [sgL, List.flatMap_cons, List.length_append, be_len, List.length_cons]
    rw [sgL] at ih
    omega
theorem wl_len (lim : Int) (l : List UInt8) (er n : Int) : (wL lim l er 4 n).length ≤ l.length + 4 := by
  rw [wL]
  split
  · rw [List.length_append, be_len]
    omega
  · omega
theorem we_er (lim : Int) (l : List UInt8) (er n : Int) (h : er ≠ 0 ∨ inR 4 n = false) : wE lim l er 4 n ≠ 0 := by
  rw [wE]
  unfold adm
  split
  · next h1 =>
    rcases h with h | h
    · exact absurd h1 h
    · rw [h]
      simp
  · next h1 => exact h1
set_option maxRecDepth 100000 in
set_option maxHeartbeats 6400000 in
theorem dsign_any (m : Nat) (hm : m < 256) (x : ByteArray) (hx : x.size ≤ 140737488355328) (a : Option Addr) (n cap : Nat) (l : List Int) (hn : l.length = n) (h3 : n ≤ 3) (hr : ∀ j, j < l.length → l.getD j 0 ≤ 9223372036854775807) (w : World) (hI : IntsIn w a l) :
    Calls Try.prog 52 #[.int .i64 (m : Int), .string x, .slice a n cap] w fun e w' => e = .returned (.tuple #[.string (sgT m l x), .int .i64 (sgE l)]) ∧ Below w.heap.size w w' := by
  have HI := hid hI
  have HN := hid hn
  have HM := hid hm
  have HR := hid hr
  have hn1 : (n : Int) ≤ 3 := by omega
  have hn0 : (0 : Int) ≤ (n : Int) := Int.natCast_nonneg _
  have H3 := hid h3
  have HLm : Hid (0 ≤ 1 + 4 * (n : Int) ∧ 1 + 4 * (n : Int) ≤ 4294967296 ∧ 1 ≤ 1 + 4 * (n : Int)) := hid (by omega)
  clear hI hn hm hr h3
  cases hB : sgB l with
  | true =>
    rw [show sgT m l x = ⟨(be 1 m ++ sgL l).toArray⟩ ++ x by rw [sgT, hB]; rfl, show sgE l = 0 by rw [sgE, hB]; rfl]
    have HB := hid hB
    have HX := hid hx
    clear hB hx
    go_enter Try.func52, Try.ntmps52
    go_wp2_with (first
      | (go_at_call 48; refine (pwnew _ (by exact HLm.out.1) _).mono ?_; rintro e w1 ⟨rfl, h1⟩; have T0 := hid h1; clear h1)
      | (go_at_call 49; refine (pwbyte _ (by exact HLm.out.1) (by exact HLm.out.2.1) _ _ _ [] m (by exact HM.out) (by exact HLm.out.2.2) (by exact T0.out)).mono ?_; rintro e w2 ⟨rfl, h2⟩; have T1 := hid h2; clear h2))
    clear T0
    go_loopw [23] (fun i wr => ∃ j : Nat, j ≤ n ∧ i = .int .i64 (j : Int) ∧ PwAt (1 + 4 * (n : Int)) w.heap.size w wr (be 1 m ++ sgL (l.take j)))
      (fun i _ => ((n : Int) - intOf i).toNat)
    case atStart => exact ⟨0, by omega, rfl, by rw [List.take_zero, show sgL [] = [] from rfl, List.append_nil]; exact T1.out⟩
    case round =>
      obtain ⟨j, hj, rfl, hO⟩ := hrel
      have HO := hid hO
      clear hO
      by_cases hjn : j = n
      · have hj1 : ¬ ((j : Int) < (n : Int)) := by omega
        have HE : Hid (PwAt (1 + 4 * (n : Int)) w.heap.size w wr (be 1 m ++ sgL l)) := hid (by
          have := HO.out
          rw [hjn, List.take_of_length_le (by rw [HN.out]; exact Nat.le_refl _)] at this
          exact this)
        have HXn : Hid (∀ k, k = (be 1 m).length + (sgL l).length + x.size → k ≤ 9223372036854775807) := hid (by intro k hk; rw [be_len, sgL_len, HN.out] at hk; have := HX.out; have := H3.out; omega)
        clear hj hjn
        obtain ⟨SL, eS⟩ : ∃ SL, SL = sgL l := ⟨_, rfl⟩
        rw [← eS] at HE HXn
        have HSL := hid eS
        clear eS
        go_wp2_with (go_at_call 51; refine (pwdone _ _ _ _ _ (by exact HE.out)).mono ?_; rintro e wx ⟨rfl, hd⟩; have HD := hid hd; clear hd)
        · rename_i h; exact absurd h (Nat.not_lt.mpr (HXn.out _ (by omega)))
        go_ret2
        exact ⟨by rw [← HSL.out]; rfl, HD.out⟩
      · have hj1 : (j : Int) < (n : Int) := by omega
        have hj0 : (0 : Int) ≤ (j : Int) := Int.natCast_nonneg _
        have hjl : j < l.length := by rw [HN.out]; omega
        have hrg := inR4 (sgB_at HB.out j hjl)
        have HS := hid (sgL_snoc l j hjl)
        obtain ⟨g, off, rfl, hg, hcell⟩ := HI.out.at j _ (sg_get hjl)
        generalize l.getD j 0 = y at hrg HS hcell
        obtain ⟨X, rfl⟩ : ∃ X : Nat, y = (X : Int) := ⟨y.toNat, by omega⟩
        rw [Int.toNat_natCast] at HS
        have cz : wr.cell? ⟨g, off + j, none⟩ = some (.int .i64 (X : Int)) := (HO.out.2.cell (p := ⟨g, off + j, none⟩) hg).trans hcell
        have HXx : Hid (X < 4294967296 ∧ ((be 1 m ++ sgL (l.take j)).length : Int) + 4 ≤ 1 + 4 * (n : Int)) := hid ⟨by omega, by rw [List.length_append, be_len, sgL_len, List.length_take]; omega⟩
        have HJ := hid (And.intro hj hjn)
        clear hj hjn hjl hrg hg hcell
        go_wp2_with (go_at_call 66; refine (pwlong _ (by exact HLm.out.1) (by exact HLm.out.2.1) _ _ _ (be 1 m ++ sgL (l.take j)) X (by exact HXx.out.1) (by exact HXx.out.2) (by exact HO.out)).mono ?_; rintro e w6 ⟨rfl, h6⟩; have H6 := hid h6; clear h6)
        go_roundw
        case rel => exact ⟨j + 1, by have := HJ.out; omega, by go_num, by rw [HS.out, ← List.append_assoc]; exact H6.out⟩
        case measure => simp [intOf]; omega
  | false =>
    rw [show sgT m l x = ⟨#[]⟩ by rw [sgT, hB]; rfl, show sgE l = 1 by rw [sgE, hB]; rfl]
    have HB := hid hB
    clear hB hx
    go_enter Try.func52, Try.ntmps52
    go_wp2_with (first
      | (go_at_call 48; refine (pwnew _ (by exact HLm.out.1) _).mono ?_; rintro e w1 ⟨rfl, h1⟩; have T0 := hid h1; clear h1)
      | (go_at_call 49; refine (pwbyte _ (by exact HLm.out.1) (by exact HLm.out.2.1) _ _ _ [] m (by exact HM.out) (by exact HLm.out.2.2) (by exact T0.out)).mono ?_; rintro e w2 ⟨rfl, h2⟩; have T1 := hid h2; clear h2))
    clear T0
    go_loopw [23] (fun i wr => ∃ (j : Nat) (L : List UInt8) (er : Int), j ≤ n ∧ i = .int .i64 (j : Int) ∧ PeAt (1 + 4 * (n : Int)) w.heap.size w wr L er ∧ L.length ≤ 1 + 4 * j ∧ (sgB (l.take j) = false → er ≠ 0))
      (fun i _ => ((n : Int) - intOf i).toNat)
    case atStart => exact ⟨0, [] ++ be 1 m, 0, by omega, rfl, T1.out.pe, by rw [List.nil_append, be_len]; omega, fun h => by rw [List.take_zero] at h; cases h⟩
    case round =>
      obtain ⟨j, L, er, hj, rfl, hO, hL, hE⟩ := hrel
      have HO := hid hO
      have HE := hid (And.intro hL hE)
      clear hO hL hE
      by_cases hjn : j = n
      · have hj1 : ¬ ((j : Int) < (n : Int)) := by omega
        have HEr : Hid (er ≠ 0) := hid (HE.out.2 (by rw [hjn, List.take_of_length_le (by rw [HN.out]; exact Nat.le_refl _)]; exact HB.out))
        have heb : (er != 0) = true := by simpa using HEr.out
        clear hj hjn
        go_wp2_with (go_at_call 51; refine (pedone _ _ _ _ _ _ (by exact HEr.out) (by exact HO.out)).mono ?_; rintro e wx ⟨rfl, hd⟩; have HD := hid hd; clear hd)
        go_ret2
        exact ⟨rfl, HD.out⟩
      · have hj1 : (j : Int) < (n : Int) := by omega
        have hj0 : (0 : Int) ≤ (j : Int) := Int.natCast_nonneg _
        have hjl : j < l.length := by rw [HN.out]; omega
        have hrg := HR.out j hjl
        have HS := hid (sgB_snoc l j hjl)
        obtain ⟨g, off, rfl, hg, hcell⟩ := HI.out.at j _ (sg_get hjl)
        generalize l.getD j 0 = y at hrg HS hcell
        have cz : wr.cell? ⟨g, off + j, none⟩ = some (.int .i64 y) := (HO.out.2.cell (p := ⟨g, off + j, none⟩) hg).trans hcell
        have HXx : Hid (y ≤ 9223372036854775807 ∧ L.length ≤ 4294967296) := hid ⟨hrg, by have := HE.out.1; have := H3.out; omega⟩
        have HJ := hid (And.intro hj hjn)
        clear hj hjn hjl hrg hg hcell
        go_wp2_with (go_at_call 66; refine (pelong _ (by exact HLm.out.1) (by exact HLm.out.2.1) _ _ _ L er y (by exact HXx.out.1) (by exact HXx.out.2) (by exact HO.out)).mono ?_; rintro e w6 ⟨rfl, h6⟩; have H6 := hid h6; clear h6)
        go_roundw
        case rel => exact ⟨j + 1, _, _, by have := HJ.out; omega, by go_num, H6.out, by have := wl_len (1 + 4 * (n : Int)) L er y; have := HE.out.1; omega, fun h => by
          rw [HS.out, Bool.and_eq_false_iff] at h
          exact we_er _ _ _ _ (h.imp_left HE.out.2)⟩
        case measure => simp [intOf]; omega
theorem ints_new (w : World) (l : List Int) (t : TypeId) : IntsIn (w.alloc (.cells (l.map (Value.int .i64)).toArray t)) (some ⟨w.heap.size, 0, none⟩) l :=
  .inr ⟨w.heap.size, 0, rfl, by simp, fun j z hz => by
    rw [Nat.zero_add]
    exact cell_at (heap_alloc_last w _) j _ (by rw [List.getElem?_map, hz]; rfl)⟩
theorem sg_three (e v s : Int) : sgB [e, v, s] = spB e v s := by simp [sgB, spB, Bool.and_assoc]
set_option maxRecDepth 100000 in
set_option maxHeartbeats 6400000 in
theorem dstate_any (slot : Int) (hi : slot ≤ 9223372036854775807) (x : ByteArray) (hx : x.size ≤ 140737488355328) (w : World) : Calls Try.prog 31 #[.int .i64 slot, .string x] w fun e' w' => e' = .returned (.tuple #[.string (stT slot x), .int .i64 (stE slot)]) ∧ Below w.heap.size w w' := by
  have h1 : sgT 83 [slot] x = stT slot x := by
    rw [sgT, stT, show sgB [slot] = inR 4 slot by simp [sgB]]
    cases inR 4 slot with
    | false => rfl
    | true =>
      apply ByteArray.ext
      apply Array.ext'
      rw [if_pos rfl, if_pos rfl, add_texts]
      simp [sgL]
  have h2 : sgE [slot] = stE slot := by rw [sgE, stE, show sgB [slot] = inR 4 slot by simp [sgB]]
  rw [← h1, ← h2]
  have HX := hid hx
  have HI : Hid (∀ j, j < [slot].length → [slot].getD j 0 ≤ 9223372036854775807) := hid (fun j hj => by
    match j, hj with
    | 0, _ => exact hi)
  clear h1 h2 hx hi
  go_enter Try.func31, Try.ntmps31
  go_wp2_with (go_at_call 52; refine (dsign_any 83 (by decide) x HX.out _ 1 1 [slot] rfl (by decide) (by exact HI.out) _ (by exact ints_new w [slot] _)).mono ?_; rintro e w2 ⟨rfl, hb2⟩; have H2 := hid (((Below.refl w.heap.size w).alloc (Nat.le_refl _) _).trans (hb2.mono (by simp))); clear hb2)
  go_ret2
  exact ⟨rfl, H2.out⟩
end Go.Proofs.Ytclfphffbfdimaa

/- The program's Texts, and the document's. -/
namespace Go.Proofs.Ytclfphffbfdimaa
open Go.RowKit

theorem text_none (t : ByteArray) : t.toList.isEmpty = !decide (0 < t.size) := by
  rw [ByteArray.toList_eq, ← data_len]
  cases t.data.toList with
  | nil => rfl
  | cons a l => rfl
set_option maxRecDepth 100000 in
set_option maxHeartbeats 3200000 in
theorem vtexts_any (ep : Int) (a : Option Addr) (n cap : Nat) (l : List Int) (hn : l.length = n) (hm : n ≤ maxLen) (t : ByteArray) (ht : t.size ≤ 140737488355328) (b : Option Addr) (k cp : Nat) (nx : List Int) (hk : nx.length = k) (hkm : k ≤ maxLen) (w : World) (hI : IntsIn w a l) (hN : IntsIn w b nx) :
    Calls Try.prog 10 #[.agg #[.int .i64 ep, .slice a n cap], .string t, .slice b k cp] w fun e w' => e = .returned (.tuple #[.string (voS ep l t nx), .string (voC ep l t nx), .int .i64 (voE ep l t nx)]) ∧ Below w.heap.size w w' := by
  have HI := hid hI
  have HN := hid hN
  have HR : Hid (∀ u : World, IntsIn u a l → Calls Try.prog 27 #[.agg #[.int .i64 ep, .slice a n cap]] u fun e w' => e = .returned (.bool (rightC ep l)) ∧ Below u.heap.size u w') := hid (fun u hu => cright_any ep a n cap l hn hm u hu)
  have h00 : (⟨#[]⟩ : ByteArray) = noT := rfl
  clear hI hN
  cases hr : rightC ep l with
  | false =>
    rw [hr] at HR
    have hv : voB ep l t nx = false := by rw [voB, hr]; rfl
    rw [show voS ep l t nx = ⟨#[]⟩ by rw [voS, hv]; rfl, show voC ep l t nx = ⟨#[]⟩ by rw [voC, hv]; rfl, show voE ep l t nx = 1 by rw [voE, hv]; rfl]
    clear hv hr h00
    go_enter Try.func10, Try.ntmps10
    go_wp2_with (first
      | (go_at_call 27; refine (HR.out _ (by exact HI.out.alloc _)).mono ?_; rintro e w1 ⟨rfl, hb1⟩; have H1 := hid (((Below.refl w.heap.size w).alloc (Nat.le_refl _) (.cells #[.int .i64 ep, .slice a n cap] 24)).trans (hb1.mono (by simp))); have c0 : w1.cell? ⟨w.heap.size, 0, none⟩ = some (.int .i64 ep) := (hb1.cell (p := ⟨w.heap.size, 0, none⟩) (by simp)).trans (cell_at (L := [.int .i64 ep, .slice a n cap]) (heap_alloc_last w _) 0 _ rfl); have hl1 : w.heap.size < w1.heap.size := Nat.lt_of_lt_of_le (by simp) hb1.size; clear hb1))
    go_ret3
    exact ⟨rfl, H1.out⟩
  | true =>
    rw [hr] at HR
    obtain ⟨⟨he0, he60⟩, _⟩ := rightC_ep hr
    by_cases h0 : 0 < t.size
    · have ht0 : t.toList.isEmpty = false := by rw [text_none, decide_eq_true h0]; rfl
      have hw1 : IntKind.i64.wrap (ep + 1) = ep + 1 := wrap_small _ (by omega) (by omega)
      have hw2 : IntKind.i64.wrap (4 * (ep + 1)) = 4 * (ep + 1) := wrap_small _ (by omega) (by omega)
      have HC : Hid (∀ u : World, IntsIn u b nx → Calls Try.prog 30 #[.agg #[.int .i64 (ep + 1), .slice b k cp]] u fun e w' => e = .returned (.tuple #[.string (textC (ep + 1) nx), .int .i64 (textE (ep + 1) nx)]) ∧ Below u.heap.size u w') := hid (fun u hu => ctext_any (ep + 1) b k cp nx hk hkm u hu)
      have HD : Hid (∀ u : World, Calls Try.prog 31 #[.int .i64 (4 * (ep + 1)), .string t] u fun e' w' => e' = .returned (.tuple #[.string (stT (4 * (ep + 1)) t), .int .i64 (stE (4 * (ep + 1)))]) ∧ Below u.heap.size u w') := hid (fun u => dstate_any (4 * (ep + 1)) (by omega) t ht u)
      cases hx : rightC (ep + 1) nx with
      | false =>
        have hv : voB ep l t nx = false := by rw [voB, hx, Bool.and_false, Bool.and_false]
        rw [show voS ep l t nx = ⟨#[]⟩ by rw [voS, hv]; rfl, show voC ep l t nx = ⟨#[]⟩ by rw [voC, hv]; rfl, show voE ep l t nx = 1 by rw [voE, hv]; rfl]
        rw [show textC (ep + 1) nx = ⟨#[]⟩ by rw [textC, hx]; rfl, show textE (ep + 1) nx = 1 by rw [textE, hx]; rfl] at HC
        clear hv hr hx he0 he60 HD h00
        go_enter Try.func10, Try.ntmps10
        go_wp2_with (first
          | (go_at_call 27; refine (HR.out _ (by exact HI.out.alloc _)).mono ?_; rintro e w1 ⟨rfl, hb1⟩; have H1 := hid (((Below.refl w.heap.size w).alloc (Nat.le_refl _) (.cells #[.int .i64 ep, .slice a n cap] 24)).trans (hb1.mono (by simp))); have c0 : w1.cell? ⟨w.heap.size, 0, none⟩ = some (.int .i64 ep) := (hb1.cell (p := ⟨w.heap.size, 0, none⟩) (by simp)).trans (cell_at (L := [.int .i64 ep, .slice a n cap]) (heap_alloc_last w _) 0 _ rfl); have hl1 : w.heap.size < w1.heap.size := Nat.lt_of_lt_of_le (by simp) hb1.size; clear hb1)
          | (go_at_call 30; refine (HC.out _ (by exact HN.out.keep H1.out (Nat.le_refl _))).mono ?_; rintro e w2 ⟨rfl, hb2⟩; have H2 := hid (H1.out.trans (hb2.mono H1.out.size)); have c2 : w2.cell? ⟨w.heap.size, 0, none⟩ = some (.int .i64 ep) := (hb2.cell (p := ⟨w.heap.size, 0, none⟩) hl1).trans c0; clear hb2))
        go_ret3
        exact ⟨rfl, H2.out⟩
      | true =>
        have hv : voB ep l t nx = true := by rw [voB, hx, hr, decide_eq_true h0]; rfl
        rw [show voS ep l t nx = stT (4 * (ep + 1)) t by rw [voS, hv]; rfl, show voC ep l t nx = textC (ep + 1) nx by rw [voC, hv]; rfl, show voE ep l t nx = 0 by rw [voE, hv]; rfl]
        rw [show textE (ep + 1) nx = 0 by rw [textE, hx]; rfl] at HC
        clear hv hr hx he0 he60 h00
        go_enter Try.func10, Try.ntmps10
        go_wp2_with (first
          | (go_at_call 27; refine (HR.out _ (by exact HI.out.alloc _)).mono ?_; rintro e w1 ⟨rfl, hb1⟩; have H1 := hid (((Below.refl w.heap.size w).alloc (Nat.le_refl _) (.cells #[.int .i64 ep, .slice a n cap] 24)).trans (hb1.mono (by simp))); have c0 : w1.cell? ⟨w.heap.size, 0, none⟩ = some (.int .i64 ep) := (hb1.cell (p := ⟨w.heap.size, 0, none⟩) (by simp)).trans (cell_at (L := [.int .i64 ep, .slice a n cap]) (heap_alloc_last w _) 0 _ rfl); have hl1 : w.heap.size < w1.heap.size := Nat.lt_of_lt_of_le (by simp) hb1.size; clear hb1)
          | (go_at_call 30; refine (HC.out _ (by exact HN.out.keep H1.out (Nat.le_refl _))).mono ?_; rintro e w2 ⟨rfl, hb2⟩; have H2 := hid (H1.out.trans (hb2.mono H1.out.size)); have c2 : w2.cell? ⟨w.heap.size, 0, none⟩ = some (.int .i64 ep) := (hb2.cell (p := ⟨w.heap.size, 0, none⟩) hl1).trans c0; clear hb2)
          | (go_at_call 31; refine (HD.out _).mono ?_; rintro e w3 ⟨rfl, hb3⟩; have H3 := hid (H2.out.trans (hb3.mono H2.out.size)); clear hb3))
        go_ret3
        exact ⟨rfl, H3.out⟩
    · have ht0 : t.toList.isEmpty = true := by rw [text_none, decide_eq_false h0]; rfl
      have hv : voB ep l t nx = false := by rw [voB, decide_eq_false h0, Bool.false_and, Bool.and_false]
      rw [show voS ep l t nx = ⟨#[]⟩ by rw [voS, hv]; rfl, show voC ep l t nx = ⟨#[]⟩ by rw [voC, hv]; rfl, show voE ep l t nx = 1 by rw [voE, hv]; rfl]
      clear hv hr h00 he0 he60
      go_enter Try.func10, Try.ntmps10
      go_wp2_with (first
        | (go_at_call 27; refine (HR.out _ (by exact HI.out.alloc _)).mono ?_; rintro e w1 ⟨rfl, hb1⟩; have H1 := hid (((Below.refl w.heap.size w).alloc (Nat.le_refl _) (.cells #[.int .i64 ep, .slice a n cap] 24)).trans (hb1.mono (by simp))); have c0 : w1.cell? ⟨w.heap.size, 0, none⟩ = some (.int .i64 ep) := (hb1.cell (p := ⟨w.heap.size, 0, none⟩) (by simp)).trans (cell_at (L := [.int .i64 ep, .slice a n cap]) (heap_alloc_last w _) 0 _ rfl); have hl1 : w.heap.size < w1.heap.size := Nat.lt_of_lt_of_le (by simp) hb1.size; clear hb1))
      go_ret3
      exact ⟨rfl, H1.out⟩
set_option maxRecDepth 100000 in
set_option maxHeartbeats 3200000 in
theorem wtexts_any (ep : Int) (a : Option Addr) (n cap : Nat) (l : List Int) (hn : l.length = n) (hm : n ≤ maxLen) (t : ByteArray) (ht : t.size ≤ 140737488355328) (b : Option Addr) (k cp : Nat) (nx : List Int) (hk : nx.length = k) (hkm : k ≤ maxLen) (w : World) (hI : IntsIn w a l) (hN : IntsIn w b nx) :
    Calls Try.prog 11 #[.agg #[.int .i64 ep, .slice a n cap], .string t, .slice b k cp] w fun e w' => e = .returned (.tuple #[.string (voS ep l t nx), .string (voC ep l t nx), .int .i64 (voE ep l t nx)]) ∧ Below w.heap.size w w' := by
  have HI := hid hI
  have HN := hid hN
  have HR : Hid (∀ u : World, IntsIn u a l → Calls Try.prog 32 #[.agg #[.int .i64 ep, .slice a n cap]] u fun e w' => e = .returned (.bool (rightC ep l)) ∧ Below u.heap.size u w') := hid (fun u hu => vright_any ep a n cap l hn hm u hu)
  have h00 : (⟨#[]⟩ : ByteArray) = noT := rfl
  clear hI hN
  cases hr : rightC ep l with
  | false =>
    rw [hr] at HR
    have hv : voB ep l t nx = false := by rw [voB, hr]; rfl
    rw [show voS ep l t nx = ⟨#[]⟩ by rw [voS, hv]; rfl, show voC ep l t nx = ⟨#[]⟩ by rw [voC, hv]; rfl, show voE ep l t nx = 1 by rw [voE, hv]; rfl]
    clear hv hr h00
    go_enter Try.func11, Try.ntmps11
    go_wp2_with (first
      | (go_at_call 32; refine (HR.out _ (by exact HI.out.alloc _)).mono ?_; rintro e w1 ⟨rfl, hb1⟩; have H1 := hid (((Below.refl w.heap.size w).alloc (Nat.le_refl _) (.cells #[.int .i64 ep, .slice a n cap] 24)).trans (hb1.mono (by simp))); have c0 : w1.cell? ⟨w.heap.size, 0, none⟩ = some (.int .i64 ep) := (hb1.cell (p := ⟨w.heap.size, 0, none⟩) (by simp)).trans (cell_at (L := [.int .i64 ep, .slice a n cap]) (heap_alloc_last w _) 0 _ rfl); have hl1 : w.heap.size < w1.heap.size := Nat.lt_of_lt_of_le (by simp) hb1.size; clear hb1))
    go_ret3
    exact ⟨rfl, H1.out⟩
  | true =>
    rw [hr] at HR
    obtain ⟨⟨he0, he60⟩, _⟩ := rightC_ep hr
    by_cases h0 : 0 < t.size
    · have ht0 : t.toList.isEmpty = false := by rw [text_none, decide_eq_true h0]; rfl
      have hw1 : IntKind.i64.wrap (ep + 1) = ep + 1 := wrap_small _ (by omega) (by omega)
      have hw2 : IntKind.i64.wrap (4 * (ep + 1)) = 4 * (ep + 1) := wrap_small _ (by omega) (by omega)
      have HC : Hid (∀ u : World, IntsIn u b nx → Calls Try.prog 33 #[.agg #[.int .i64 (ep + 1), .slice b k cp]] u fun e w' => e = .returned (.tuple #[.string (textC (ep + 1) nx), .int .i64 (textE (ep + 1) nx)]) ∧ Below u.heap.size u w') := hid (fun u hu => vtext_any (ep + 1) b k cp nx hk hkm u hu)
      have HD : Hid (∀ u : World, Calls Try.prog 34 #[.int .i64 (4 * (ep + 1)), .string t] u fun e' w' => e' = .returned (.tuple #[.string (stT (4 * (ep + 1)) t), .int .i64 (stE (4 * (ep + 1)))]) ∧ Below u.heap.size u w') := hid (fun u => qstate_any (4 * (ep + 1)) t ht u)
      cases hx : rightC (ep + 1) nx with
      | false =>
        have hv : voB ep l t nx = false := by rw [voB, hx, Bool.and_false, Bool.and_false]
        rw [show voS ep l t nx = ⟨#[]⟩ by rw [voS, hv]; rfl, show voC ep l t nx = ⟨#[]⟩ by rw [voC, hv]; rfl, show voE ep l t nx = 1 by rw [voE, hv]; rfl]
        rw [show textC (ep + 1) nx = ⟨#[]⟩ by rw [textC, hx]; rfl, show textE (ep + 1) nx = 1 by rw [textE, hx]; rfl] at HC
        clear hv hr hx he0 he60 HD h00
        go_enter Try.func11, Try.ntmps11
        go_wp2_with (first
          | (go_at_call 32; refine (HR.out _ (by exact HI.out.alloc _)).mono ?_; rintro e w1 ⟨rfl, hb1⟩; have H1 := hid (((Below.refl w.heap.size w).alloc (Nat.le_refl _) (.cells #[.int .i64 ep, .slice a n cap] 24)).trans (hb1.mono (by simp))); have c0 : w1.cell? ⟨w.heap.size, 0, none⟩ = some (.int .i64 ep) := (hb1.cell (p := ⟨w.heap.size, 0, none⟩) (by simp)).trans (cell_at (L := [.int .i64 ep, .slice a n cap]) (heap_alloc_last w _) 0 _ rfl); have hl1 : w.heap.size < w1.heap.size := Nat.lt_of_lt_of_le (by simp) hb1.size; clear hb1)
          | (go_at_call 33; refine (HC.out _ (by exact HN.out.keep H1.out (Nat.le_refl _))).mono ?_; rintro e w2 ⟨rfl, hb2⟩; have H2 := hid (H1.out.trans (hb2.mono H1.out.size)); have c2 : w2.cell? ⟨w.heap.size, 0, none⟩ = some (.int .i64 ep) := (hb2.cell (p := ⟨w.heap.size, 0, none⟩) hl1).trans c0; clear hb2))
        go_ret3
        exact ⟨rfl, H2.out⟩
      | true =>
        have hv : voB ep l t nx = true := by rw [voB, hx, hr, decide_eq_true h0]; rfl
        rw [show voS ep l t nx = stT (4 * (ep + 1)) t by rw [voS, hv]; rfl, show voC ep l t nx = textC (ep + 1) nx by rw [voC, hv]; rfl, show voE ep l t nx = 0 by rw [voE, hv]; rfl]
        rw [show textE (ep + 1) nx = 0 by rw [textE, hx]; rfl] at HC
        clear hv hr hx he0 he60 h00
        go_enter Try.func11, Try.ntmps11
        go_wp2_with (first
          | (go_at_call 32; refine (HR.out _ (by exact HI.out.alloc _)).mono ?_; rintro e w1 ⟨rfl, hb1⟩; have H1 := hid (((Below.refl w.heap.size w).alloc (Nat.le_refl _) (.cells #[.int .i64 ep, .slice a n cap] 24)).trans (hb1.mono (by simp))); have c0 : w1.cell? ⟨w.heap.size, 0, none⟩ = some (.int .i64 ep) := (hb1.cell (p := ⟨w.heap.size, 0, none⟩) (by simp)).trans (cell_at (L := [.int .i64 ep, .slice a n cap]) (heap_alloc_last w _) 0 _ rfl); have hl1 : w.heap.size < w1.heap.size := Nat.lt_of_lt_of_le (by simp) hb1.size; clear hb1)
          | (go_at_call 33; refine (HC.out _ (by exact HN.out.keep H1.out (Nat.le_refl _))).mono ?_; rintro e w2 ⟨rfl, hb2⟩; have H2 := hid (H1.out.trans (hb2.mono H1.out.size)); have c2 : w2.cell? ⟨w.heap.size, 0, none⟩ = some (.int .i64 ep) := (hb2.cell (p := ⟨w.heap.size, 0, none⟩) hl1).trans c0; clear hb2)
          | (go_at_call 34; refine (HD.out _).mono ?_; rintro e w3 ⟨rfl, hb3⟩; have H3 := hid (H2.out.trans (hb3.mono H2.out.size)); clear hb3))
        go_ret3
        exact ⟨rfl, H3.out⟩
    · have ht0 : t.toList.isEmpty = true := by rw [text_none, decide_eq_false h0]; rfl
      have hv : voB ep l t nx = false := by rw [voB, decide_eq_false h0, Bool.false_and, Bool.and_false]
      rw [show voS ep l t nx = ⟨#[]⟩ by rw [voS, hv]; rfl, show voC ep l t nx = ⟨#[]⟩ by rw [voC, hv]; rfl, show voE ep l t nx = 1 by rw [voE, hv]; rfl]
      clear hv hr h00 he0 he60
      go_enter Try.func11, Try.ntmps11
      go_wp2_with (first
        | (go_at_call 32; refine (HR.out _ (by exact HI.out.alloc _)).mono ?_; rintro e w1 ⟨rfl, hb1⟩; have H1 := hid (((Below.refl w.heap.size w).alloc (Nat.le_refl _) (.cells #[.int .i64 ep, .slice a n cap] 24)).trans (hb1.mono (by simp))); have c0 : w1.cell? ⟨w.heap.size, 0, none⟩ = some (.int .i64 ep) := (hb1.cell (p := ⟨w.heap.size, 0, none⟩) (by simp)).trans (cell_at (L := [.int .i64 ep, .slice a n cap]) (heap_alloc_last w _) 0 _ rfl); have hl1 : w.heap.size < w1.heap.size := Nat.lt_of_lt_of_le (by simp) hb1.size; clear hb1))
      go_ret3
      exact ⟨rfl, H1.out⟩
end Go.Proofs.Ytclfphffbfdimaa
