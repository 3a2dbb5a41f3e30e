/- Texts laid together: PaF RdA PaJ PyB PyC PyD PyA. -/
import Derived.Test.YtchlmcpnjpllnaaX08
/- The document's bytes of a certificate. -/
namespace Go.Proofs.Ytchlmcpnjpllnaa
open Go.RowKit

theorem xLx (lim : Int) (l : List UInt8) (s : ByteArray) (hs : s.size ≤ 65535) (hl : (l.length : Int) + (2 + s.size) ≤ lim) : xL lim l 0 s = l ++ (be 2 s.size ++ s.data.toList) ∧ xE lim l 0 s = 0 := by
  have h : xE lim l 0 s = 0 := by
    unfold xE adm
    rw [if_pos rfl, decide_eq_true hs, if_pos rfl, if_neg (by omega)]
  exact ⟨by rw [xL, if_pos h], h⟩
theorem txtext (lim : Int) (h0 : 0 ≤ lim) (h1 : lim ≤ 4294967296) (c : Nat) (w0 w : World) (l : List UInt8) (s : ByteArray) (hs : s.size ≤ 65535) (hl : (l.length : Int) + (2 + s.size) ≤ lim) (h : TxAt lim c w0 w l) :
    Calls Try.prog 42 #[.pointer (some ⟨c, 0, none⟩), .string s] w fun e w' => e = .returned (.tuple #[]) ∧ TxAt lim c w0 w' (l ++ (be 2 s.size ++ s.data.toList)) := by
  obtain ⟨⟨v, hv⟩, hb⟩ := h
  refine (mtext_w c v lim l 0 s w hv h0 (by omega) (by omega)).mono ?_
  rintro e w' ⟨rfl, v', h', hk, _⟩
  rw [(xLx lim l s hs hl).1, (xLx lim l s hs hl).2] at h'
  exact ⟨rfl, ⟨v', h'⟩, hb.trans (hk.below (Nat.le_of_lt hv.lt) (Nat.le_refl _) (fun g hg => by have := (hv.own.lt g hg).1; omega))⟩
/-- Can the i-th signature be written? -/
def okS (ss : List (Int × ByteArray)) (i : Nat) : Bool := decide (0 ≤ idOf ss i ∧ idOf ss i ≤ 255 ∧ (rtOf ss i).size ≤ 65535)
def okSTo (ss : List (Int × ByteArray)) : Nat → Bool
  | 0 => true
  | j + 1 => okSTo ss j && okS ss j
theorem okSTo_succ (ss : List (Int × ByteArray)) (j : Nat) : okSTo ss (j + 1) = (okSTo ss j && okS ss j) := rfl
theorem okSTo_false (ss : List (Int × ByteArray)) (j n : Nat) (h : okSTo ss j = false) (hn : j ≤ n) : okSTo ss n = false := by
  induction n with
  | zero =>
    obtain rfl : j = 0 := by omega
    exact h
  | succ n ih =>
    by_cases e : j = n + 1
    · rw [← e]; exact h
    · rw [okSTo_succ, ih (by omega)]; rfl
theorem okSTo_at (ss : List (Int × ByteArray)) : ∀ n, okSTo ss n = true → ∀ i, i < n → okS ss i = true
  | 0, _, i, hi => by omega
  | n + 1, h, i, hi => by
    rw [okSTo_succ, Bool.and_eq_true_iff] at h
    by_cases e : i = n
    · rw [e]; exact h.2
    · exact okSTo_at ss n h.1 i (by omega)
def sigB (p : Int × ByteArray) : List UInt8 := be 1 p.1.toNat ++ (be 2 p.2.size ++ p.2.data.toList)
def sigsB (ss : List (Int × ByteArray)) : List UInt8 := ss.flatMap sigB
theorem sigsB_snoc (ss : List (Int × ByteArray)) (j : Nat) (hj : j < ss.length) : sigsB (ss.take (j + 1)) = sigsB (ss.take j) ++ (be 1 (idOf ss j).toNat ++ (be 2 (rtOf ss j).size ++ (rtOf ss j).data.toList)) := by
  rw [List.take_add_one, getP_some hj, sigsB, List.flatMap_append]
  simp [sigsB, sigB]
theorem sigsB_len (ss : List (Int × ByteArray)) (n : Nat) (h : okSTo ss n = true) (hn : n ≤ ss.length) : ∀ j, j ≤ n → (sigsB (ss.take j)).length ≤ 65538 * j
  | 0, _ => by simp [sigsB]
  | j + 1, hj => by
    have h1 := sigsB_len ss n h hn j (by omega)
    have h2 := (of_decide_eq_true (okSTo_at ss n h j (by omega))).2.2
    rw [sigsB_snoc ss j (by omega), List.length_append, List.length_append, List.length_append, be_len, be_len, data_len]
    omega
/-- The bytes of a certificate. -/
def certB (ep : Int) (ps ss : List (Int × ByteArray)) : List UInt8 := be 2 (bytesS ep ps).size ++ (bytesS ep ps).data.toList ++ be 1 ss.length ++ sigsB ss
def certE (ep : Int) (ps ss : List (Int × ByteArray)) : Int := if rightP ep ps = false then 4 else if okSTo ss ss.length = false then 4 else if 16 < ss.length then 3 else 0
def certS (ep : Int) (ps ss : List (Int × ByteArray)) : ByteArray := if certE ep ps ss = 0 then ⟨(certB ep ps ss).toArray⟩ else ⟨#[]⟩
theorem bytesS_size (ep : Int) (ps : List (Int × ByteArray)) : (bytesS ep ps).size ≤ 334 := by
  unfold bytesS
  split
  · next h =>
    have h1 := (rightP_parts h).2.1
    rw [mk_size, paperB, List.length_append, List.length_append, List.length_append, be_len, be_len, be_len, seatBytes_len ps (fun p hp => (right_sizes h p hp).2)]
    omega
  · exact Nat.zero_le _

set_option maxRecDepth 100000 in
set_option maxHeartbeats 6400000 in
theorem xcertify_any (ep : Int) (a : Option Addr) (n cap : Nat) (ps : List (Int × ByteArray)) (hn : ps.length = n) (hm : n ≤ maxLen) (ad : Option Addr) (m cp : Nat) (ss : List (Int × ByteArray)) (hsn : ss.length = m) (hsm : m ≤ maxLen) (w : World) (hP : PairsIn w a ps) (hQ : PairsIn w ad ss) :
    Calls Try.prog 16 #[.agg #[.int .i64 ep, .slice a n cap], .slice ad m cp] w fun e w' => e = .returned (.tuple #[.string (certS ep ps ss), .int .i64 (certE ep ps ss)]) ∧ Below w.heap.size w w' := by
  have hm2 : (m : Int) ≤ 9223372036854775807 := by unfold maxLen at hsm; omega
  have HY : Hid (∀ u : World, PairsIn u a ps → Calls Try.prog 11 #[.agg #[.int .i64 ep, .slice a n cap]] u fun e w' => e = .returned (.tuple #[.string (bytesS ep ps), .int .i64 (bytesE ep ps)]) ∧ Below u.heap.size u w') := hid (fun u hu => xbytes_any ep a n cap ps hn hm u hu)
  have HP := hid (hP.keep ((Below.refl w.heap.size w).alloc (Nat.le_refl _) (.cells #[.int .i64 ep, .slice a n cap] 24)) (Nat.le_refl _))
  have HQ := hid (And.intro hQ hsn)
  clear hP hQ hm hn hsm hsn
  cases hr : rightP ep ps with
  | false =>
    have e1 : certE ep ps ss = 4 := by rw [certE, if_pos hr]
    rw [show certS ep ps ss = ⟨#[]⟩ by rw [certS, e1]; rfl, e1]
    rw [show bytesS ep ps = ⟨#[]⟩ by rw [bytesS, hr]; rfl, show bytesE ep ps = 4 by rw [bytesE, hr]; rfl] at HY
    clear hr e1
    go_enter Try.func16, Try.ntmps16
    go_wp2_with (go_at_call 11; refine (HY.out _ (by exact HP.out)).mono ?_; rintro e w1 ⟨rfl, hb1⟩; have H1 := hid (((Below.refl w.heap.size w).alloc (Nat.le_refl _) _).trans (hb1.mono (by simp))); clear hb1)
    go_ret2
    exact ⟨rfl, H1.out⟩
  | true =>
    have hT := bytesS_size ep ps
    obtain ⟨T, eT⟩ : ∃ T, T = bytesS ep ps := ⟨_, rfl⟩
    rw [show bytesE ep ps = 0 by rw [bytesE, hr]; rfl, ← eT] at HY
    rw [← eT] at hT
    obtain ⟨P, eP⟩ : ∃ P, P = be 2 T.size ++ T.data.toList := ⟨_, rfl⟩
    have HT : Hid (T.size ≤ 334 ∧ P = [] ++ (be 2 T.size ++ T.data.toList) ∧ P.length = 2 + T.size) := hid ⟨hT, by rw [eP]; rfl, by rw [eP, List.length_append, be_len, data_len]⟩
    have HE : Hid ((okSTo ss m = false → certE ep ps ss = 4) ∧ (okSTo ss m = true → 16 < m → certE ep ps ss = 3) ∧ (okSTo ss m = true → m ≤ 16 → certE ep ps ss = 0 ∧ certS ep ps ss = ⟨(P ++ be 1 m ++ sigsB ss).toArray⟩)) := hid (by
      have h0 : ¬ rightP ep ps = false := by rw [hr]; decide
      refine ⟨fun h => ?_, fun h h16 => ?_, fun h h16 => ?_⟩
      · rw [certE, if_neg h0, HQ.out.2, if_pos h]
      · rw [certE, if_neg h0, HQ.out.2, if_neg (by rw [h]; decide), if_pos h16]
      · have e1 : certE ep ps ss = 0 := by rw [certE, if_neg h0, HQ.out.2, if_neg (by rw [h]; decide), if_neg (by omega)]
        exact ⟨e1, by rw [certS, if_pos e1, certB, HQ.out.2, ← eT, ← eP]⟩)
    clear hr hT eT eP
    go_enter Try.func16, Try.ntmps16
    go_wp2_with (first
      | (go_at_call 11; refine (HY.out _ (by exact HP.out)).mono ?_; rintro e w1 ⟨rfl, hb1⟩; have H1 := hid (((Below.refl w.heap.size w).alloc (Nat.le_refl _) _).trans (hb1.mono (by simp))); clear hb1)
      | (go_at_call 32; refine (txnew 1073741824 (by decide) _).mono ?_; rintro e w2 ⟨rfl, hw2⟩; have H2 := hid hw2; clear hw2)
      | (go_at_call 42; refine (txtext 1073741824 (by decide) (by decide) _ _ _ [] T (by have := HT.out.1; omega) (by have := HT.out.1; simp; omega) (by exact H2.out)).mono ?_; rintro e w3 ⟨rfl, hw3⟩; rw [← HT.out.2.1] at hw3; have H3 := hid hw3; clear hw3))
    obtain ⟨c, ec⟩ : ∃ c, c = w1.heap.size := ⟨_, rfl⟩
    rw [← ec] at H3 ⊢
    have HG : Hid (∀ u : World, Below c w1 u → PairsIn u ad ss ∧ Below w.heap.size w u) := hid (fun u hu => by
      have hb : Below w.heap.size w u := H1.out.trans (hu.mono (by rw [ec]; exact H1.out.size))
      exact ⟨HQ.out.1.keep hb (Nat.le_refl _), hb⟩)
    clear ec H2 H1
    go_loopw [9] (fun i wr => ∃ j : Nat, j ≤ m ∧ i = .int .i64 (j : Int) ∧ okSTo ss j = true ∧ wr = w3)
      (fun i _ => ((m : Int) - intOf i).toNat)
    case atStart => exact ⟨0, by omega, rfl, rfl, rfl⟩
    case round =>
      obtain ⟨j, hj, rfl, hok, rfl⟩ := hrel
      have hj0 : (0 : Int) ≤ (j : Int) := Int.natCast_nonneg _
      by_cases hjm : j = m
      · have hj1 : ¬ ((j : Int) < (m : Int)) := by omega
        subst hjm
        by_cases h16 : 16 < j
        · have k16 : (16 : Int) < (j : Int) := by omega
          have HF : Hid (certE ep ps ss = 3) := hid (HE.out.2.1 hok h16)
          clear hj hok h16
          go_wp2
          go_ret2
          exact ⟨by rw [certS, HF.out]; rfl, (HG.out _ H3.out.2).2⟩
        · have k16 : (j : Int) ≤ 16 := by omega
          have HF := hid (HE.out.2.2 hok (by omega))
          have HJ : Hid (j ≤ 16 ∧ okSTo ss j = true) := hid ⟨by omega, hok⟩
          clear hj hok h16
          go_wp2_with (go_at_call 33; refine (txnum 1073741824 (by decide) (by decide) _ _ _ P j 1 (by decide) (by have := HJ.out.1; omega) (by have := HT.out; omega) (by exact H3.out)).mono ?_; rintro e w4 ⟨rfl, hw4⟩; have H4 := hid hw4; clear hw4)
          rename World => w4
          go_loopw [10] (fun i wr => ∃ k : Nat, k ≤ j ∧ i = .int .i64 (k : Int) ∧ TxAt 1073741824 c w1 wr (P ++ be 1 j ++ sigsB (ss.take k)))
            (fun i _ => ((j : Int) - intOf i).toNat)
          case atStart => exact ⟨0, by omega, rfl, by rw [List.take_zero, show sigsB [] = [] from rfl, List.append_nil]; exact H4.out⟩
          case round =>
            obtain ⟨k, hk, rfl, hO⟩ := hrel
            have hk0 : (0 : Int) ≤ (k : Int) := Int.natCast_nonneg _
            have HO := hid hO
            clear hO
            by_cases hkj : k = j
            · have hk1 : ¬ ((k : Int) < (j : Int)) := by omega
              have hO := HO.out
              rw [hkj, List.take_of_length_le (by rw [HQ.out.2]; exact Nat.le_refl _)] at hO
              obtain ⟨⟨v, hv⟩, hb⟩ := hO
              have HV := hid hv
              have HB := hid hb
              clear hk hkj hv hb
              go_wp2_with (go_at_call 43; refine (mdone_ok _ _ _ _ _ (by exact HV.out)).mono ?_; rintro e wx ⟨rfl, rfl⟩)
              go_ret2
              exact ⟨by rw [HF.out.1, HF.out.2, List.append_assoc]; rfl, (HG.out _ HB.out).2⟩
            · have hk1 : (k : Int) < (j : Int) := by omega
              have hkl : k < ss.length := by rw [HQ.out.2]; omega
              have hrg := of_decide_eq_true (okSTo_at ss j HJ.out.2 k (by omega))
              have HS := hid (sigsB_snoc ss k hkl)
              have hlen := sigsB_len ss j HJ.out.2 (by rw [HQ.out.2]; exact Nat.le_refl _) k hk
              obtain ⟨g, off, rfl, hg, hc1, hc2⟩ := (HG.out _ HO.out.2).1.at k _ (getP_some hkl)
              have hcells : ∀ u : World, Below c w1 u → u.cell? ⟨g, off + k * 2 + 1, none⟩ = some (.string (rtOf ss k)) := fun u hu => by
                obtain ⟨g', off', eg, _, _, h2⟩ := (HG.out u hu).1.at k _ (getP_some hkl)
                obtain ⟨rfl, rfl⟩ : g = g' ∧ off = off' := by simp at eg; exact eg
                exact h2
              obtain ⟨r, er⟩ : ∃ r, r = rtOf ss k := ⟨_, rfl⟩
              obtain ⟨x, ex⟩ : ∃ x, x = idOf ss k := ⟨_, rfl⟩
              rw [← er] at hrg HS hc2 hcells
              rw [← ex] at hrg HS hc1
              obtain ⟨X, rfl⟩ : ∃ X : Nat, x = (X : Int) := ⟨x.toNat, by omega⟩
              rw [Int.toNat_natCast] at HS
              obtain ⟨L, eL⟩ : ∃ L, L = P ++ be 1 j ++ sigsB (ss.take k) := ⟨_, rfl⟩
              have HX : Hid (X < 256 ∧ r.size ≤ 65535 ∧ L.length ≤ 2000000) := hid ⟨by omega, by omega, by rw [eL, List.length_append, List.length_append, be_len, HT.out.2.2]; have := HT.out.1; have := HJ.out.1; omega⟩
              have HL : Hid (P ++ be 1 j ++ sigsB (ss.take (k + 1)) = L ++ be 1 X ++ (be 2 r.size ++ r.data.toList)) := hid (by rw [HS.out, eL]; simp)
              rw [← eL] at HO
              have HC := hid hcells
              have HK := hid (And.intro hk hkj)
              clear hk hkj hkl hrg hg hcells hlen er ex eL HS
              go_wp2_with (first
                | (go_at_call 33; refine (txnum 1073741824 (by decide) (by decide) _ _ _ L X 1 (by decide) (by have := HX.out; omega) (by have := HX.out; omega) (by exact HO.out)).mono ?_; rintro e w5 ⟨rfl, hw5⟩; have H5 := hid hw5; clear hw5; have c5 := HC.out _ H5.out.2)
                | (go_at_call 42; refine (txtext 1073741824 (by decide) (by decide) _ _ _ (L ++ be 1 X) r (by have := HX.out; omega) (by have := HX.out; rw [List.length_append, be_len]; omega) (by exact H5.out)).mono ?_; rintro e w6 ⟨rfl, hw6⟩; have H6 := hid hw6; clear hw6))
              go_roundw
              case rel => exact ⟨k + 1, by have := HK.out; omega, by go_num, by rw [HL.out]; exact H6.out⟩
              case measure => simp [intOf]; omega
      · have hj1 : (j : Int) < (m : Int) := by omega
        have hjl : j < ss.length := by rw [HQ.out.2]; omega
        obtain ⟨g, off, rfl, hg, hc1, hc2⟩ := (HG.out _ H3.out.2).1.at j _ (getP_some hjl)
        by_cases hs : okS ss j = true
        · have hrg := of_decide_eq_true hs
          have HF : Hid (okSTo ss (j + 1) = true) := hid (by rw [okSTo_succ, hok, hs]; rfl)
          generalize idOf ss j = x at hrg hc1
          generalize rtOf ss j = r at hrg hc2
          have x0 : ¬ (x < 0) := by omega
          have x1 : ¬ (255 < x) := by omega
          have x2 : ¬ ((65535 : Int) < (r.size : Int)) := by omega
          have HJ := hid (And.intro hj hjm)
          clear hj hjm hjl hg hs hok hrg
          go_wp2
          go_roundw
          case rel => exact ⟨j + 1, by have := HJ.out; omega, by go_num, HF.out, by first | exact rfl | exact trivial⟩
          case measure => simp [intOf]; omega
        · have hs2 : okS ss j = false := by simpa using hs
          have hno := of_decide_eq_false hs2
          have HF : Hid (certE ep ps ss = 4) := hid (HE.out.1 (okSTo_false ss (j + 1) m (by rw [okSTo_succ, hs2]; simp) (by omega)))
          generalize idOf ss j = x at hno hc1
          generalize rtOf ss j = r at hno hc2
          by_cases x0 : x < 0
          · clear hj hjm hjl hg hs hok hno hs2
            go_wp2
            go_ret2
            exact ⟨by rw [certS, HF.out]; rfl, (HG.out _ H3.out.2).2⟩
          by_cases x1 : 255 < x
          · have y0 : ¬ (x < 0) := x0
            clear hj hjm hjl hg hs hok hno hs2
            go_wp2
            go_ret2
            exact ⟨by rw [certS, HF.out]; rfl, (HG.out _ H3.out.2).2⟩
          · have y0 : ¬ (x < 0) := x0
            have y1 : ¬ (255 < x) := x1
            have y2 : (65535 : Int) < (r.size : Int) := by omega
            clear hj hjm hjl hg hs hok hno hs2
            go_wp2
            go_ret2
            exact ⟨by rw [certS, HF.out]; rfl, (HG.out _ H3.out.2).2⟩
end Go.Proofs.Ytchlmcpnjpllnaa

/- What was written is read: numbers, texts, the end. No walk here. -/
namespace Go.Proofs.Ytchlmcpnjpllnaa
open Go.RowKit

/-- A number that is there is read. -/
theorem rd_good (s : ByteArray) (n k : Nat) (rest : List UInt8) (h : s.data.toList = be n k ++ rest) (hk : k < 256 ^ n) : rN s false n = k ∧ (rS s false n).data.toList = rest ∧ rB s false n = false := by
  have hl : n ≤ s.size := by rw [← data_len, h, List.length_append, be_len]; omega
  have hb : hasB s false n = true := by rw [hasB, decide_eq_true (by omega)]; rfl
  refine ⟨?_, ?_, by rw [rB, hb]; rfl⟩
  · rw [rN, hb, if_pos rfl, h, List.take_left' (be_len n k), val_be, Nat.mod_eq_of_lt hk]
  · rw [rS, hb, if_pos rfl, ext_data, List.take_of_length_le (by rw [data_len]; exact Nat.le_refl _), h, List.drop_left' (be_len n k)]
/-- What was read was there. -/
theorem rd_back (s : ByteArray) (sh : Bool) (n : Nat) (h : rB s sh n = false) : sh = false ∧ s.data.toList = be n (rN s sh n) ++ (rS s sh n).data.toList := by
  have hb : hasB s sh n = true := by
    rw [rB] at h
    cases e : hasB s sh n with
    | true => rfl
    | false => rw [e] at h; cases h
  have hb2 := hb
  rw [hasB, Bool.and_eq_true_iff] at hb2
  have hl : n ≤ s.size := by have := of_decide_eq_true hb2.2; omega
  refine ⟨by cases sh with | false => rfl | true => exact absurd hb2.1 (by decide), ?_⟩
  have ht : (s.data.toList.take n).length = n := by rw [List.length_take, data_len]; omega
  have hv := be_val (s.data.toList.take n)
  rw [ht] at hv
  rw [rN, hb, if_pos rfl, rS, hb, if_pos rfl, hv, ext_data, List.take_of_length_le (i := s.size) (by rw [data_len]; exact Nat.le_refl _), List.take_append_drop]
theorem end_ok {s : ByteArray} {sh : Bool} (h : endOf s sh = 0) : sh = false ∧ s.data.toList = [] := by
  unfold endOf at h
  split at h
  · cases h
  · next h1 =>
    split at h
    · cases h
    · next h2 => exact ⟨by simpa using h1, List.eq_nil_of_length_eq_zero (by rw [data_len]; omega)⟩
theorem end_of {s : ByteArray} (h : s.data.toList = []) : endOf s false = 0 := by
  have : s.size = 0 := by rw [← data_len, h]; rfl
  unfold endOf
  rw [if_neg (by decide), if_neg (by omega)]
/-- A text that is there is read. -/
theorem tx_good (s x : ByteArray) (rest : List UInt8) (h : s.data.toList = be 2 x.size ++ (x.data.toList ++ rest)) (hx : x.size ≤ 65535) : tT s false = x ∧ (tS s false).data.toList = rest ∧ tB s false = false := by
  have hl : s.size = 2 + (x.size + rest.length) := by rw [← data_len, h, List.length_append, be_len, List.length_append, data_len]
  have hv : val (s.data.toList.take 2) = x.size := by rw [h, List.take_left' (be_len 2 _), val_be, Nat.mod_eq_of_lt (by omega)]
  have hok : tOK s false = true := by
    rw [tOK, hv, hasB, decide_eq_true (by omega), decide_eq_true (by omega)]
    rfl
  have hd : s.data.toList.drop 2 = x.data.toList ++ rest := by rw [h, List.drop_left' (be_len 2 _)]
  refine ⟨?_, ?_, by rw [tB, hok]; rfl⟩
  · rw [tT, if_pos hok, hv]
    apply ByteArray.ext
    apply Array.ext'
    rw [ext_data, List.drop_take, hd, show 2 + x.size - 2 = x.size by omega, List.take_left' (data_len x)]
  · rw [tS, if_pos hok, hv, ext_data, List.take_of_length_le (by rw [data_len]; exact Nat.le_refl _), ← List.drop_drop, hd, List.drop_left' (data_len x)]
end Go.Proofs.Ytchlmcpnjpllnaa

/- Papers and certificates there and back by bytes; chains in parts. No walk here. -/
namespace Go.Proofs.Ytchlmcpnjpllnaa
open Go.RowKit

theorem seatBytes_app (a b : List (Int × ByteArray)) : seatBytes (a ++ b) = seatBytes a ++ seatBytes b := by rw [seatBytes, List.flatMap_append]; rfl
theorem seatBytes_cons (p : Int × ByteArray) (ps : List (Int × ByteArray)) : seatBytes (p :: ps) = UInt8.ofNat p.1.toNat :: (p.2.data.toList ++ seatBytes ps) := rfl
theorem byte_drop (t : ByteArray) (i : Nat) (x : UInt8) (r : List UInt8) (h : t.data.toList.drop i = x :: r) : byteN t i = x.toNat := by
  have h2 : t.data.toList[i]? = some x := by
    have := congrArg (fun l => l[0]?) h
    simpa using this
  rw [byteN, List.getD_eq_getElem?_getD, h2]
  rfl
theorem ofNat_back (n : Nat) (h : n < 256) : (UInt8.ofNat n).toNat = n := by
  rw [UInt8.toNat_ofNat']
  omega
/-- What is told as bytes is read as just that paper. -/
theorem read_bytes (ep : Int) (ps : List (Int × ByteArray)) (h : rightP ep ps = true) : readPB (bytesS ep ps) = true ∧ readPZ (bytesS ep ps) = ep ∧ readPL (bytesS ep ps) = ps := by
  obtain ⟨hep, hlen, _⟩ := rightP_parts h
  have hsz := right_sizes h
  obtain ⟨t, et⟩ : ∃ t, t = bytesS ep ps := ⟨_, rfl⟩
  have ht : t.data.toList = be 1 80 ++ (be 2 ep.toNat ++ (be 1 ps.length ++ seatBytes ps)) := by
    rw [et, bytesS, if_pos h, mk_data, paperB, List.append_assoc, List.append_assoc]
  have hb2 : be 2 ep.toNat = [UInt8.ofNat (ep.toNat / 256), UInt8.ofNat ep.toNat] := by
    show [UInt8.ofNat (ep.toNat / 256 ^ 1), UInt8.ofNat (ep.toNat / 256 ^ 0)] = _
    rw [Nat.pow_one, Nat.pow_zero, Nat.div_one]
  have hb1 : ∀ n, be 1 n = [UInt8.ofNat n] := fun n => by
    show [UInt8.ofNat (n / 256 ^ 0)] = _
    rw [Nat.pow_zero, Nat.div_one]
  have ht2 : t.data.toList = UInt8.ofNat 80 :: UInt8.ofNat (ep.toNat / 256) :: UInt8.ofNat ep.toNat :: UInt8.ofNat ps.length :: seatBytes ps := by
    rw [ht, hb2, hb1, hb1]
    rfl
  have b0 : byteN t 0 = 80 := by rw [byte_drop t 0 _ _ ht2, ofNat_back _ (by decide)]
  have b1 : byteN t 1 = ep.toNat / 256 := by rw [byte_drop t 1 _ _ (by rw [ht2]; rfl), ofNat_back _ (by omega)]
  have b2 : byteN t 2 = ep.toNat % 256 := by
    rw [byte_drop t 2 _ _ (by rw [ht2]; rfl), UInt8.toNat_ofNat']
  have b3 : byteN t 3 = ps.length := by rw [byte_drop t 3 _ _ (by rw [ht2]; rfl), ofNat_back _ (by omega)]
  have hsb := seatBytes_len ps (fun p hp => (hsz p hp).2)
  have hts : t.size = 4 + 33 * ps.length := by
    rw [← data_len, ht2]
    simp [hsb]
    omega
  have hE : epP t = ep := by rw [epP, b1, b2]; omega
  have hL : ∀ k, k ≤ ps.length → seatsR t k = ps.take k := by
    intro k
    induction k with
    | zero => intro _; rfl
    | succ k ih =>
      intro hk
      rw [seatsR, ih (by omega), List.take_add_one, List.getElem?_eq_getElem (by omega)]
      congr 1
      have hp := hsz _ (List.getElem_mem (show k < ps.length by omega))
      have hsplit : ps = ps.take k ++ ps[k] :: ps.drop (k + 1) := by rw [← List.drop_eq_getElem_cons, List.take_append_drop]
      have hdr : t.data.toList.drop (4 + 33 * k) = UInt8.ofNat (ps[k]).1.toNat :: ((ps[k]).2.data.toList ++ seatBytes (ps.drop (k + 1))) := by
        have e : t.data.toList = (UInt8.ofNat 80 :: UInt8.ofNat (ep.toNat / 256) :: UInt8.ofNat ep.toNat :: UInt8.ofNat ps.length :: seatBytes (ps.take k)) ++ (UInt8.ofNat (ps[k]).1.toNat :: ((ps[k]).2.data.toList ++ seatBytes (ps.drop (k + 1)))) := by
          rw [ht2]
          conv => lhs; rw [show seatBytes ps = seatBytes (ps.take k ++ ps[k] :: ps.drop (k + 1)) by rw [← hsplit]]
          rw [seatBytes_app, seatBytes_cons]
          rfl
        rw [e]
        refine List.drop_left' ?_
        have := seatBytes_len (ps.take k) (fun p hp => (hsz p (List.mem_of_mem_take hp)).2)
        rw [List.length_take] at this
        simp [this]
        omega
      show [seatR t k] = [ps[k]]
      congr 1
      refine Prod.ext ?_ ?_
      · show (byteN t (4 + 33 * k) : Int) = _
        rw [byte_drop t _ _ _ hdr, ofNat_back _ (by omega)]
        omega
      · show t.extract (5 + 33 * k) (37 + 33 * k) = _
        apply ByteArray.ext
        apply Array.ext'
        rw [ext_data, List.drop_take, show 5 + 33 * k = (4 + 33 * k) + 1 by omega, ← List.drop_drop, hdr]
        show (((ps[k]).2.data.toList ++ seatBytes (ps.drop (k + 1))).take (37 + 33 * k - (4 + 33 * k + 1))) = _
        rw [show 37 + 33 * k - (4 + 33 * k + 1) = 32 by omega, List.take_left' (by rw [data_len, hp.2])]
  have hLL : seatsR t (byteN t 3) = ps := by rw [b3, hL _ (Nat.le_refl _), List.take_length]
  have hB : readPB t = true := by
    rw [readPB, hE, hLL, h, formP, decide_eq_true ⟨by omega, b0, by rw [b3]; exact hts⟩]
    rfl
  rw [← et]
  exact ⟨hB, by rw [readPZ, if_pos hB, hE], by rw [readPL, if_pos hB, hLL]⟩
theorem sigsB_cons (p : Int × ByteArray) (ss : List (Int × ByteArray)) : sigsB (p :: ss) = be 1 p.1.toNat ++ (be 2 p.2.size ++ (p.2.data.toList ++ sigsB ss)) := by
  show (be 1 p.1.toNat ++ (be 2 p.2.size ++ p.2.data.toList)) ++ sigsB ss = _
  simp
theorem okS_mem {ss : List (Int × ByteArray)} (h : okSTo ss ss.length = true) (p : Int × ByteArray) (hp : p ∈ ss) : (0 ≤ p.1 ∧ p.1 ≤ 255) ∧ p.2.size ≤ 65535 := by
  obtain ⟨j, hj, rfl⟩ := List.getElem_of_mem hp
  have h1 := of_decide_eq_true (okSTo_at ss _ h j hj)
  have h2 := getP_some hj
  rw [List.getElem?_eq_getElem hj] at h2
  injection h2 with h2
  rw [h2]
  exact ⟨⟨h1.1, h1.2.1⟩, h1.2.2⟩
theorem sgS_good (s : ByteArray) (ss : List (Int × ByteArray)) (h : s.data.toList = sigsB ss) (hs : ∀ p, p ∈ ss → (0 ≤ p.1 ∧ p.1 ≤ 255) ∧ p.2.size ≤ 65535) :
    ∀ k, k ≤ ss.length → (sgS (s, false) k).1.data.toList = sigsB (ss.drop k) ∧ (sgS (s, false) k).2 = false ∧ sgL (s, false) k = ss.take k
  | 0, _ => ⟨h, rfl, rfl⟩
  | k + 1, hk => by
    obtain ⟨h1, h2, h3⟩ := sgS_good s ss h hs k (by omega)
    have hp := hs _ (List.getElem_mem (show k < ss.length by omega))
    rw [List.drop_eq_getElem_cons (show k < ss.length by omega), sigsB_cons] at h1
    obtain ⟨g1, g2, g3⟩ := rd_good _ 1 (ss[k]).1.toNat _ h1 (by omega)
    obtain ⟨t1, t2, t3⟩ := tx_good _ (ss[k]).2 _ g2 hp.2
    have hm : sgM (sgS (s, false) k) = (rS (sgS (s, false) k).1 false 1, false) := by rw [sgM, h2, g3]
    refine ⟨?_, ?_, ?_⟩
    · rw [sgS, hm]; exact t2
    · rw [sgS, hm]; exact t3
    · rw [sgL, hm, h2, h3, g1, List.take_add_one, List.getElem?_eq_getElem (by omega), Int.toNat_of_nonneg hp.1.1]
      show ss.take k ++ [((ss[k]).1, tT (rS (sgS (s, false) k).1 false 1) false)] = _
      rw [t1]
      rfl
theorem certE_ok {ep : Int} {ps ss : List (Int × ByteArray)} (h : certE ep ps ss = 0) : rightP ep ps = true ∧ okSTo ss ss.length = true ∧ ss.length ≤ 16 := by
  unfold certE at h
  split at h
  · cases h
  · next h1 =>
    split at h
    · cases h
    · next h2 =>
      split at h
      · cases h
      · next h3 => exact ⟨by simpa using h1, by simpa using h2, by omega⟩
/-- What is certified is opened as just that. -/
theorem open_cert (ep : Int) (ps ss : List (Int × ByteArray)) (h : certE ep ps ss = 0) : openB (certS ep ps ss) = true ∧ opZ (certS ep ps ss) = ep ∧ opP (certS ep ps ss) = ps ∧ opT (certS ep ps ss) = bytesS ep ps ∧ opL (certS ep ps ss) = ss := by
  obtain ⟨hr, hok, h16⟩ := certE_ok h
  have hs := okS_mem hok
  obtain ⟨c, ec⟩ : ∃ c, c = certS ep ps ss := ⟨_, rfl⟩
  have hT := bytesS_size ep ps
  have hc : c.data.toList = be 2 (bytesS ep ps).size ++ ((bytesS ep ps).data.toList ++ (be 1 ss.length ++ sigsB ss)) := by
    rw [ec, certS, if_pos h, mk_data, certB, List.append_assoc, List.append_assoc]
  obtain ⟨t1, t2, t3⟩ := tx_good c (bytesS ep ps) _ hc (by omega)
  have e1 : oS1 c = (tS c false, false) := by rw [oS1, t3]
  obtain ⟨g1, g2, g3⟩ := rd_good (oS1 c).1 1 ss.length _ (by rw [e1]; exact t2) (by omega)
  have hN : oN c = ss.length := by rw [oN, show (oS1 c).2 = false by rw [e1], g1]
  have e2 : oS2 c = (rS (oS1 c).1 false 1, false) := by rw [oS2, sgM, show (oS1 c).2 = false by rw [e1], g3]
  obtain ⟨s1, s2, s3⟩ := sgS_good (rS (oS1 c).1 false 1) ss g2 hs ss.length (Nat.le_refl _)
  obtain ⟨r1, r2, r3⟩ := read_bytes ep ps hr
  have hoT : oT c = bytesS ep ps := t1
  have hend : endOf (sgS (oS2 c) (oN c)).1 (sgS (oS2 c) (oN c)).2 = 0 := by
    rw [hN, e2, s2]
    exact end_of (by rw [s1, List.drop_length]; rfl)
  have hB : openB c = true := by
    rw [openB, hoT, r1, hend, hN, decide_eq_true h16]
    rfl
  rw [← ec]
  exact ⟨hB, by rw [opZ, if_pos hB, hoT, r2], by rw [opP, if_pos hB, hoT, r3], by rw [opT, if_pos hB, hoT], by rw [opL, if_pos hB, hN, e2, s3, List.take_length]⟩
/-! Chains in parts. -/
theorem walkR_app (cs ds : List ByteArray) : ∀ (ep : Int) (ps : List (Int × ByteArray)) (n : Nat),
    walkR ep ps (cs ++ ds) n = if (walkR ep ps cs n).2.2 = 0 then walkR (walkR ep ps cs n).1.1 (walkR ep ps cs n).1.2 ds (n + cs.length) else walkR ep ps cs n := by
  induction cs with
  | nil => intro ep ps n; rfl
  | cons c cs ih =>
    intro ep ps n
    by_cases h : chkE ep ps c = 0
    · rw [List.cons_append, walkR_yes _ _ h, walkR_yes _ _ h, ih, List.length_cons, show n + 1 + cs.length = n + (cs.length + 1) by omega]
    · rw [List.cons_append, walkR_no _ _ h, walkR_no _ _ h, if_neg h]
theorem walkR_shift (cs : List ByteArray) : ∀ (ep : Int) (ps : List (Int × ByteArray)) (n k : Nat), walkR ep ps cs (n + k) = ((walkR ep ps cs n).1, ((walkR ep ps cs n).2.1 + k, (walkR ep ps cs n).2.2)) := by
  induction cs with
  | nil => intro ep ps n k; rfl
  | cons c cs ih =>
    intro ep ps n k
    by_cases h : chkE ep ps c = 0
    · rw [walkR_yes _ _ h, walkR_yes _ _ h, show n + k + 1 = n + 1 + k by omega, ih]
    · rw [walkR_no _ _ h, walkR_no _ _ h]
theorem walkR_le (cs : List ByteArray) : ∀ (ep : Int) (ps : List (Int × ByteArray)) (n : Nat), n ≤ (walkR ep ps cs n).2.1 ∧ (walkR ep ps cs n).2.1 ≤ n + cs.length ∧ ((walkR ep ps cs n).2.2 = 0 → (walkR ep ps cs n).2.1 = n + cs.length) ∧ (¬ (walkR ep ps cs n).2.2 = 0 → (walkR ep ps cs n).2.1 < n + cs.length) := by
  induction cs with
  | nil => intro ep ps n; exact ⟨Nat.le_refl _, Nat.le_refl _, fun _ => rfl, fun h => absurd rfl h⟩
  | cons c cs ih =>
    intro ep ps n
    by_cases h : chkE ep ps c = 0
    · rw [walkR_yes _ _ h, List.length_cons]
      obtain ⟨h1, h2, h3, h4⟩ := ih (chkZ ep ps c) (chkP ep ps c) (n + 1)
      exact ⟨by omega, by omega, fun e => by have := h3 e; omega, fun e => by have := h4 e; omega⟩
    · rw [walkR_no _ _ h, List.length_cons]
      exact ⟨Nat.le_refl _, by show n ≤ _; omega, fun e => absurd e h, fun _ => by show n < _; omega⟩
theorem chk_right {ep : Int} {ps : List (Int × ByteArray)} {c : ByteArray} (h : chkE ep ps c = 0) : rightP (chkZ ep ps c) (chkP ep ps c) = true := by
  have hop : openB c = true := by
    cases e : openB c with
    | true => rfl
    | false =>
      exfalso
      unfold chkE at h
      split at h
      · cases h
      · cases h
  rw [chkZ, if_pos h, chkP, if_pos h, opZ, if_pos hop, opP, if_pos hop]
  rw [openB, Bool.and_eq_true_iff] at hop
  rw [readPZ, if_pos hop.1, readPL, if_pos hop.1]
  have := hop.1
  rw [readPB, Bool.and_eq_true_iff] at this
  exact this.2
theorem walkR_right (cs : List ByteArray) : ∀ (ep : Int) (ps : List (Int × ByteArray)) (n : Nat), rightP ep ps = true → rightP (walkR ep ps cs n).1.1 (walkR ep ps cs n).1.2 = true := by
  induction cs with
  | nil => intro ep ps n h; exact h
  | cons c cs ih =>
    intro ep ps n h
    by_cases hc : chkE ep ps c = 0
    · rw [walkR_yes _ _ hc]
      exact ih _ _ _ (chk_right hc)
    · rw [walkR_no _ _ hc]
      exact h
end Go.Proofs.Ytchlmcpnjpllnaa

/- The program's papers: which are right; a seat's root; which signatures can't be written. -/
namespace Go.Proofs.Ytchlmcpnjpllnaa
open Go.RowKit

/-- Is there no room for the signature? -/
def unwB (x : Int) (r : ByteArray) : Bool := !decide (0 ≤ x ∧ x ≤ 255 ∧ r.size ≤ 65535)
theorem unwB_okS (ss : List (Int × ByteArray)) (i : Nat) : unwB (idOf ss i) (rtOf ss i) = !okS ss i := rfl
set_option maxHeartbeats 1600000 in
theorem yunw_any (x : Int) (r : ByteArray) (w : World) :
    Calls Try.prog 40 #[.agg #[.int .i64 x, .string r]] w fun e w' => e = .returned (.bool (unwB x r)) ∧ Below w.heap.size w w' := by
  have HB := hid ((Below.refl w.heap.size w).alloc (Nat.le_refl _) (.cells #[.int .i64 x, .string r] 54))
  by_cases x0 : x < 0
  · have HF : Hid (unwB x r = true) := hid (by rw [unwB, decide_eq_false (by omega)]; rfl)
    go_enter Try.func40, Try.ntmps40
    go_wp2
    go_ret
    exact ⟨by rw [HF.out]; rfl, HB.out⟩
  by_cases x1 : 255 < x
  · have HF : Hid (unwB x r = true) := hid (by rw [unwB, decide_eq_false (by omega)]; rfl)
    go_enter Try.func40, Try.ntmps40
    go_wp2
    go_ret
    exact ⟨by rw [HF.out]; rfl, HB.out⟩
  by_cases x2 : (65535 : Int) < (r.size : Int)
  · have HF : Hid (unwB x r = true) := hid (by rw [unwB, decide_eq_false (by omega)]; rfl)
    go_enter Try.func40, Try.ntmps40
    go_wp2
    go_ret
    exact ⟨by rw [HF.out]; rfl, HB.out⟩
  · have HF : Hid (unwB x r = false) := hid (by rw [unwB, decide_eq_true (by omega)]; rfl)
    go_enter Try.func40, Try.ntmps40
    go_wp2
    go_ret
    exact ⟨by rw [HF.out]; rfl, HB.out⟩

set_option maxRecDepth 100000 in
set_option maxHeartbeats 1600000 in
theorem yroot_any (a : Option Addr) (n cap : Nat) (ps : List (Int × ByteArray)) (hn : ps.length = n) (hm : n ≤ maxLen) (id : Int) (w : World) (hP : PairsIn w a ps) :
    Calls Try.prog 65 #[.slice a n cap, .int .i64 id] w fun e w' => e = .returned (.tuple #[.string (seatS ps id), .bool (seatB ps id)]) ∧ Below w.heap.size w w' := by
  have hm2 : (n : Int) ≤ 9223372036854775807 := by unfold maxLen at hm; omega
  have HP := hid hP
  have HN := hid hn
  clear hP hm hn
  go_enter Try.func65, Try.ntmps65
  go_wp2
  go_loopw [10] (fun i wr => ∃ j : Nat, j ≤ n ∧ i = .int .i64 (j : Int) ∧ (∀ k, k < j → idOf ps k ≠ id) ∧ Below w.heap.size w wr)
    (fun i _ => ((n : Int) - intOf i).toNat)
  case atStart => exact ⟨0, by omega, rfl, fun k hk => by omega, Below.refl _ _⟩
  case round =>
    obtain ⟨j, hj, rfl, hno, hbel⟩ := hrel
    have HB := hid hbel
    clear hbel
    by_cases hjn : j = n
    · have hj1 : ¬ ((j : Int) < (n : Int)) := by omega
      have HF : Hid (seatP ps id = none) := hid (seatP_none (fun k hk => hno k (by rw [HN.out] at hk; omega)))
      clear hno hj hjn
      go_wp2
      go_ret2
      exact ⟨by rw [seatS, seatB, HF.out]; rfl, HB.out⟩
    · have hj1 : (j : Int) < (n : Int) := by omega
      have hj0 : (0 : Int) ≤ (j : Int) := Int.natCast_nonneg _
      have hjl : j < ps.length := by rw [HN.out]; omega
      obtain ⟨g, off, rfl, hg, hc1, hc2⟩ := HP.out.at j _ (getP_some hjl)
      have k1 := (HB.out.cell (p := ⟨g, _, none⟩) hg).trans hc1
      have k2 := (HB.out.cell (p := ⟨g, _, none⟩) hg).trans hc2
      by_cases hx : idOf ps j = id
      · have HF : Hid (seatP ps id = some (rtOf ps j)) := hid (seatP_some j hjl hno hx)
        obtain ⟨r, er⟩ : ∃ r, r = rtOf ps j := ⟨_, rfl⟩
        rw [hx] at k1
        rw [← er] at k2 HF
        have HW := hid (HB.out.alloc HB.out.size (.cells #[.int .i64 id, .string r] 44))
        clear hno hj hjn hx hjl hg hc1 hc2 er
        go_wp2
        go_ret2
        exact ⟨by rw [seatS, seatB, HF.out]; rfl, HW.out⟩
      · have HF : Hid (∀ k, k < j + 1 → idOf ps k ≠ id) := hid (fun k hk => by
          by_cases e : k = j
          · rw [e]; exact hx
          · exact hno k (by omega))
        obtain ⟨x, ex⟩ : ∃ x, x = idOf ps j := ⟨_, rfl⟩
        obtain ⟨r, er⟩ : ∃ r, r = rtOf ps j := ⟨_, rfl⟩
        rw [← ex] at k1 hx
        rw [← er] at k2
        have HW := hid (HB.out.alloc HB.out.size (.cells #[.int .i64 x, .string r] 44))
        have HJ := hid (And.intro hj hjn)
        clear hno hj hjn hjl hg hc1 hc2 ex er
        go_wp2
        go_roundw
        case rel => exact ⟨j + 1, by have := HJ.out; omega, by go_num, HF.out, HW.out⟩
        case measure => simp [intOf]; omega

/-- The number ahead of the j-th seat's. -/
def lastP (ps : List (Int × ByteArray)) (j : Nat) : Int := if j = 0 then -1 else idOf ps (j - 1)
theorem lastP_succ (ps : List (Int × ByteArray)) (j : Nat) : lastP ps (j + 1) = idOf ps j := by rw [lastP, if_neg (by omega)]; rfl
theorem lastP_ge (ps : List (Int × ByteArray)) (j : Nat) (h : okPTo ps j = true) : -1 ≤ lastP ps j := by
  cases j with
  | zero => exact Int.le_refl _
  | succ i =>
    rw [lastP_succ]
    have := okPTo_at ps _ h i (by omega)
    rw [okPAt, Bool.and_eq_true_iff] at this
    have := of_decide_eq_true this.1
    omega
theorem okPAt_last (ps : List (Int × ByteArray)) (j : Nat) (h : okPTo ps j = true) : okPAt ps j = decide (lastP ps j < idOf ps j ∧ idOf ps j < 16 ∧ (rtOf ps j).size = 32) := by
  have hl := lastP_ge ps j h
  by_cases hs : (rtOf ps j).size = 32
  · by_cases h16 : idOf ps j < 16
    · by_cases hr : lastP ps j < idOf ps j
      · rw [decide_eq_true (And.intro hr (And.intro h16 hs))]
        cases j with
        | zero => exact okPAt_yes0 ps ⟨by omega, h16⟩ hs
        | succ i => exact okPAt_yes ps (i + 1) ⟨by omega, h16⟩ hs (by rw [lastP_succ] at hr; exact hr)
      · rw [decide_eq_false (fun h => hr h.1)]
        cases j with
        | zero => exact okPAt_no1 ps 0 (by rw [show lastP ps 0 = -1 from rfl] at hr; omega)
        | succ i => exact okPAt_no3 ps (i + 1) (by omega) (by rw [lastP_succ] at hr; exact hr)
    · rw [decide_eq_false (fun h => h16 h.2.1)]
      exact okPAt_no1 ps j (fun h => h16 h.2)
  · rw [decide_eq_false (fun h => hs h.2.2)]
    exact okPAt_no2 ps j hs
set_option maxRecDepth 100000 in
set_option maxHeartbeats 3200000 in
theorem yright_any (ep : Int) (a : Option Addr) (n cap : Nat) (ps : List (Int × ByteArray)) (hn : ps.length = n) (hm : n ≤ maxLen) (w : World) (hP : PairsIn w a ps) :
    Calls Try.prog 25 #[.agg #[.int .i64 ep, .slice a n cap]] w fun e w' => e = .returned (.bool (rightP ep ps)) ∧ Below w.heap.size w w' := by
  have hm2 : (n : Int) ≤ 9223372036854775807 := by unfold maxLen at hm; omega
  have HP := hid hP
  have HN := hid hn
  have HA := hid (And.intro (PpAt.new w ep (.slice a n cap) 24) ((Below.refl w.heap.size w).alloc (Nat.le_refl _) (.cells #[.int .i64 ep, .slice a n cap] 24)))
  clear hP hm hn
  by_cases e0 : ep < 0
  · have HF : Hid (rightP ep ps = false) := hid (by rw [rightP, decide_eq_false (fun h : 0 ≤ ep ∧ ep ≤ 65535 => by omega)]; simp)
    go_enter Try.func25, Try.ntmps25
    go_wp2
    go_ret
    exact ⟨by rw [HF.out]; rfl, HA.out.2⟩
  by_cases e1 : 65535 < ep
  · have HF : Hid (rightP ep ps = false) := hid (by rw [rightP, decide_eq_false (fun h : 0 ≤ ep ∧ ep ≤ 65535 => by omega)]; simp)
    go_enter Try.func25, Try.ntmps25
    go_wp2
    go_ret
    exact ⟨by rw [HF.out]; rfl, HA.out.2⟩
  by_cases h4 : n < 4
  · have k4 : (n : Int) < 4 := by omega
    have HF : Hid (rightP ep ps = false) := hid (by rw [rightP, HN.out, decide_eq_false (fun h : 4 ≤ n ∧ n ≤ 10 => by omega)]; simp)
    clear h4
    go_enter Try.func25, Try.ntmps25
    go_wp2
    go_ret
    exact ⟨by rw [HF.out]; rfl, HA.out.2⟩
  by_cases h10 : 10 < n
  · have k4 : ¬ ((n : Int) < 4) := by omega
    have k10 : (10 : Int) < (n : Int) := by omega
    have HF : Hid (rightP ep ps = false) := hid (by rw [rightP, HN.out, decide_eq_false (fun h : 4 ≤ n ∧ n ≤ 10 => by omega)]; simp)
    clear h4 h10
    go_enter Try.func25, Try.ntmps25
    go_wp2
    go_ret
    exact ⟨by rw [HF.out]; rfl, HA.out.2⟩
  have k4 : ¬ ((n : Int) < 4) := by omega
  have k10 : ¬ ((10 : Int) < (n : Int)) := by omega
  have HF : Hid (rightP ep ps = okPTo ps n) := hid (by rw [rightP, HN.out, decide_eq_true (show 0 ≤ ep ∧ ep ≤ 65535 by omega), decide_eq_true (show 4 ≤ n ∧ n ≤ 10 by omega)]; simp)
  rw [HF.out]
  clear h4 h10
  go_enter Try.func25, Try.ntmps25
  go_wp2
  clear k4 k10 e0 e1
  go_loopw [29, 3] (fun i l wr => ∃ j : Nat, j ≤ n ∧ i = .int .i64 (j : Int) ∧ l = .int .i64 (lastP ps j) ∧ okPTo ps j = true ∧ Below w.heap.size w wr)
    (fun i _ _ => ((n : Int) - intOf i).toNat)
  case atStart => exact ⟨0, by omega, rfl, rfl, rfl, HA.out.2⟩
  case round =>
    obtain ⟨j, hj, rfl, rfl, hok, hbel⟩ := hrel
    have HB := hid hbel
    clear hbel
    by_cases hjn : j = n
    · have hj1 : ¬ ((j : Int) < (n : Int)) := by omega
      rw [hjn] at hok
      have HO := hid hok
      clear hok hj hjn
      go_wp2
      go_ret
      exact ⟨by rw [HO.out]; rfl, HB.out⟩
    · have hj1 : (j : Int) < (n : Int) := by omega
      have hj0 : (0 : Int) ≤ (j : Int) := Int.natCast_nonneg _
      have hjl : j < ps.length := by rw [HN.out]; omega
      obtain ⟨g, off, rfl, hg, hc1, hc2⟩ := HP.out.at j _ (getP_some hjl)
      have k1 := (HB.out.cell (p := ⟨g, _, none⟩) hg).trans hc1
      have k2 := (HB.out.cell (p := ⟨g, _, none⟩) hg).trans hc2
      have HL := okPAt_last ps j hok
      have HS : Hid (lastP ps (j + 1) = idOf ps j) := hid (lastP_succ ps j)
      obtain ⟨x, ex⟩ : ∃ x, x = idOf ps j := ⟨_, rfl⟩
      obtain ⟨r, er⟩ : ∃ r, r = rtOf ps j := ⟨_, rfl⟩
      obtain ⟨y, ey⟩ : ∃ y, y = lastP ps j := ⟨_, rfl⟩
      rw [← ex] at k1 HL HS
      rw [← er] at k2 HL
      rw [← ey] at HL ⊢
      have HW := hid (HB.out.alloc HB.out.size (.cells #[.int .i64 x, .string r] 44))
      have HNo : Hid (¬ (y < x ∧ x < 16 ∧ r.size = 32) → okPTo ps n = false) := hid (fun h => okPTo_false ps (j + 1) n (by rw [okPTo_succ, HL, decide_eq_false h]; simp) (by omega))
      have HYes : Hid ((y < x ∧ x < 16 ∧ r.size = 32) → okPTo ps (j + 1) = true) := hid (fun h => by rw [okPTo_succ, hok, HL, decide_eq_true h]; rfl)
      have HJ := hid (And.intro hj hjn)
      clear hok hj hjn hjl hg hc1 hc2 ex er ey HL
      by_cases x0 : x ≤ y
      · have HE := hid (HNo.out (by omega))
        go_wp2
        go_ret
        exact ⟨by rw [HE.out]; rfl, HW.out⟩
      by_cases x1 : 16 ≤ x
      · have HE := hid (HNo.out (by omega))
        go_wp2
        go_ret
        exact ⟨by rw [HE.out]; rfl, HW.out⟩
      by_cases x2 : r.size = 32
      · have HE := hid (HYes.out (by omega))
        have d2 : (r.size : Int) = 32 := by omega
        clear x2
        go_wp2
        go_roundw
        case rel => exact ⟨j + 1, by have := HJ.out; omega, by go_num, by rw [HS.out], HE.out, HW.out⟩
        case measure => simp [intOf]; omega
      · have HE := hid (HNo.out (by omega))
        have d2 : ¬ ((r.size : Int) = 32) := by omega
        clear x2
        go_wp2
        go_ret
        exact ⟨by rw [HE.out]; rfl, HW.out⟩
end Go.Proofs.Ytchlmcpnjpllnaa

/- The program's writers of papers; its bytes of a paper. -/
namespace Go.Proofs.Ytchlmcpnjpllnaa
open Go.RowKit

/-- The program's writer at block c, with room for lim, and l in it; nothing below c has turned since w0. -/
def PwAt (lim : Int) (c : Nat) (w0 w : World) (l : List UInt8) : Prop := (∃ v, WrAt w c v lim l 0) ∧ Below c w0 w
theorem pwnew (lim : Int) (h0 : 0 ≤ lim) (w : World) : Calls Try.prog 26 #[.int .i64 lim] w fun e w' => e = .returned (.pointer (some ⟨w.heap.size, 0, none⟩)) ∧ PwAt lim w.heap.size w w' [] := by
  refine (new_any lim w).mono ?_
  rintro e w' ⟨rfl, rfl⟩
  rw [show max lim 0 = lim by omega]
  exact ⟨rfl, ⟨_, ⟨heap_alloc_last w _, ⟨rfl, .inl ⟨rfl, rfl⟩⟩⟩⟩, (Below.refl _ _).alloc (Nat.le_refl _) _⟩
theorem pwbyte (lim : Int) (h0 : 0 ≤ lim) (h1 : lim ≤ 4294967296) (c : Nat) (w0 w : World) (l : List UInt8) (n : Nat) (hn : n < 256) (hl : (l.length : Int) + 1 ≤ lim) (h : PwAt lim c w0 w l) :
    Calls Try.prog 27 #[.pointer (some ⟨c, 0, none⟩), .int .i64 (n : Int)] w fun e w' => e = .returned (.tuple #[]) ∧ PwAt lim c w0 w' (l ++ be 1 n) := by
  obtain ⟨⟨v, hv⟩, hb⟩ := h
  refine (wbyte_any c v lim l 0 n w hv h0 (by omega) (by omega) (by omega)).mono ?_
  rintro e w' ⟨rfl, v', h', hk, _⟩
  rw [(wLx lim l 1 n (by omega) hl).1, (wLx lim l 1 n (by omega) hl).2] at h'
  exact ⟨rfl, ⟨v', h'⟩, hb.trans (hk.below (Nat.le_of_lt hv.lt) (Nat.le_refl _) (fun g hg => by have := (hv.own.lt g hg).1; omega))⟩
theorem pwword (lim : Int) (h0 : 0 ≤ lim) (h1 : lim ≤ 4294967296) (c : Nat) (w0 w : World) (l : List UInt8) (n : Nat) (hn : n < 65536) (hl : (l.length : Int) + 2 ≤ lim) (h : PwAt lim c w0 w l) :
    Calls Try.prog 28 #[.pointer (some ⟨c, 0, none⟩), .int .i64 (n : Int)] w fun e w' => e = .returned (.tuple #[]) ∧ PwAt lim c w0 w' (l ++ be 2 n) := by
  obtain ⟨⟨v, hv⟩, hb⟩ := h
  refine (wword_any c v lim l 0 n w hv h0 (by omega) (by omega) (by omega)).mono ?_
  rintro e w' ⟨rfl, v', h', hk, _⟩
  rw [(wLx lim l 2 n (by omega) hl).1, (wLx lim l 2 n (by omega) hl).2] at h'
  exact ⟨rfl, ⟨v', h'⟩, hb.trans (hk.below (Nat.le_of_lt hv.lt) (Nat.le_refl _) (fun g hg => by have := (hv.own.lt g hg).1; omega))⟩
theorem pwtext (lim : Int) (h0 : 0 ≤ lim) (h1 : lim ≤ 4294967296) (c : Nat) (w0 w : World) (l : List UInt8) (s : ByteArray) (hs : s.size ≤ 65535) (hl : (l.length : Int) + (2 + s.size) ≤ lim) (h : PwAt lim c w0 w l) :
    Calls Try.prog 41 #[.pointer (some ⟨c, 0, none⟩), .string s] w fun e w' => e = .returned (.tuple #[]) ∧ PwAt lim c w0 w' (l ++ (be 2 s.size ++ s.data.toList)) := by
  obtain ⟨⟨v, hv⟩, hb⟩ := h
  refine (wtext_any c v lim l 0 s w hv h0 (by omega) (by omega) (by omega) (fun _ => by omega)).mono ?_
  rintro e w' ⟨rfl, v', h', hk, _⟩
  rw [(xLx lim l s hs hl).1, (xLx lim l s hs hl).2] at h'
  exact ⟨rfl, ⟨v', h'⟩, hb.trans (hk.below (Nat.le_of_lt hv.lt) (Nat.le_refl _) (fun g hg => by have := (hv.own.lt g hg).1; omega))⟩
/-- A byte, with a block laid ahead of it. -/
theorem pwbyte_on (lim : Int) (h0 : 0 ≤ lim) (h1 : lim ≤ 4294967296) (c : Nat) (w0 w : World) (o : Obj) (l : List UInt8) (n : Nat) (hn : n < 256) (hl : (l.length : Int) + 1 ≤ lim) (h : PwAt lim c w0 w l) :
    Calls Try.prog 27 #[.pointer (some ⟨c, 0, none⟩), .int .i64 (n : Int)] (w.alloc o) fun e w' => e = .returned (.tuple #[]) ∧ PwAt lim c w0 w' (l ++ be 1 n) ∧ w'.heap[w.heap.size]? = some o := by
  obtain ⟨⟨v, hv⟩, hb⟩ := h
  have hv2 : WrAt (w.alloc o) c v lim l 0 := ⟨(Below.heap_alloc _ _ _ hv.lt).trans hv.blk, hv.own.alloc _⟩
  refine (wbyte_any c v lim l 0 n (w.alloc o) hv2 h0 (by omega) (by omega) (by omega)).mono ?_
  rintro e w' ⟨rfl, v', h', hk, _⟩
  rw [(wLx lim l 1 n (by omega) hl).1, (wLx lim l 1 n (by omega) hl).2] at h'
  have hlt := hv.lt
  refine ⟨rfl, ⟨⟨v', h'⟩, (hb.alloc (Nat.le_of_lt hv.lt) o).trans (hk.below (Nat.le_of_lt hv2.lt) (Nat.le_refl _) (fun g hg => by have := (hv.own.lt g hg).1; omega))⟩, ?_⟩
  exact (hk.block w.heap.size (by simp) (by omega) (fun e => by have := (hv.own.lt _ e.symm).2; omega)).trans (heap_alloc_last w o)
theorem be_one (n : Nat) : be 1 n = [UInt8.ofNat n] := by
  show [UInt8.ofNat (n / 256 ^ 0)] = _
  rw [Nat.pow_zero, Nat.div_one]
set_option maxRecDepth 100000 in
set_option maxHeartbeats 1600000 in
/-- A root's bytes. -/
theorem ywroot (lim : Int) (h0 : 0 ≤ lim) (h1 : lim ≤ 4294967296) (c : Nat) (w0 w : World) (l : List UInt8) (r : ByteArray) (hr : r.size ≤ 1000) (hl : (l.length : Int) + r.size ≤ lim) (h : PwAt lim c w0 w l) :
    Calls Try.prog 29 #[.pointer (some ⟨c, 0, none⟩), .string r] w fun e w' => e = .returned (.tuple #[]) ∧ PwAt lim c w0 w' (l ++ r.data.toList) := by
  have HH := hid h
  have HL := hid (And.intro h0 (And.intro h1 hl))
  clear h h0 h1 hl
  go_enter Try.func29, Try.ntmps29
  go_wp2
  go_loopw [7] (fun i wr => ∃ j : Nat, j ≤ r.size ∧ i = .int .i64 (j : Int) ∧ PwAt lim c w0 wr (l ++ r.data.toList.take j))
    (fun i _ => ((r.size : Int) - intOf i).toNat)
  case atStart => exact ⟨0, by omega, rfl, by rw [List.take_zero, List.append_nil]; exact HH.out⟩
  case round =>
    obtain ⟨j, hj, rfl, hO⟩ := hrel
    have HO := hid hO
    clear hO
    have hj0 : (0 : Int) ≤ (j : Int) := Int.natCast_nonneg _
    by_cases hjn : j = r.size
    · have hj1 : ¬ ((j : Int) < (r.size : Int)) := by omega
      have HE : Hid (PwAt lim c w0 wr (l ++ r.data.toList)) := hid (by
        have := HO.out
        rw [List.take_of_length_le (by rw [data_len]; omega)] at this
        exact this)
      clear hj hjn
      go_wp2
      go_end0
      exact ⟨rfl, HE.out⟩
    · have hj1 : (j : Int) < (r.size : Int) := by omega
      have hjl : j < r.size := by omega
      obtain ⟨X, eX⟩ : ∃ X, (r[j]'hjl).toNat = X := ⟨_, rfl⟩
      have hX : (X : Int) < 256 := by have := (r[j]'hjl).toNat_lt; omega
      have HS : Hid (l ++ r.data.toList.take (j + 1) = l ++ r.data.toList.take j ++ be 1 X) := hid (by
        rw [take_snoc r j hjl, List.append_assoc, be_one, ← eX]
        simp)
      have HX : Hid (X < 256 ∧ ((l ++ r.data.toList.take j).length : Int) + 1 ≤ lim ∧ 0 ≤ lim ∧ lim ≤ 4294967296) := hid ⟨by omega, by rw [List.length_append, List.length_take, data_len]; have := HL.out.2.2; omega, HL.out.1, HL.out.2.1⟩
      have HJ := hid (And.intro hj hjn)
      clear hj hjn
      go_wp2_with (go_at_call 27; refine (pwbyte lim (by exact HX.out.2.2.1) (by exact HX.out.2.2.2) _ w0 _ (l ++ r.data.toList.take j) X (by exact HX.out.1) (by exact HX.out.2.1) (by exact HO.out)).mono ?_; rintro e w6 ⟨rfl, h6⟩; have H6 := hid h6; clear h6)
      go_roundw
      case rel => exact ⟨j + 1, by have := HJ.out; omega, by go_num, by rw [HS.out]; exact H6.out⟩
      case measure => simp [intOf]; omega

set_option maxRecDepth 100000 in
set_option maxHeartbeats 6400000 in
theorem ybytes_any (ep : Int) (a : Option Addr) (n cap : Nat) (ps : List (Int × ByteArray)) (hn : ps.length = n) (hm : n ≤ maxLen) (w : World) (hP : PairsIn w a ps) :
    Calls Try.prog 10 #[.agg #[.int .i64 ep, .slice a n cap]] w fun e w' => e = .returned (.tuple #[.string (bytesS ep ps), .int .i64 (bytesE ep ps)]) ∧ Below w.heap.size w w' := by
  have HR : Hid (∀ (b : Bool), rightP ep ps = b → ∀ u : World, PairsIn u a ps → Calls Try.prog 25 #[.agg #[.int .i64 ep, .slice a n cap]] u fun e w' => e = .returned (.bool b) ∧ Below u.heap.size u w') := hid (fun b hb u hu => by rw [← hb]; exact yright_any ep a n cap ps hn hm u hu)
  have HP := hid hP
  have HN := hid hn
  have HA : Hid (PpAt (w.alloc (.cells #[.int .i64 ep, .slice a n cap] 24)) w.heap.size ep (.slice a n cap) 24 ∧ Below w.heap.size w (w.alloc (.cells #[.int .i64 ep, .slice a n cap] 24))) := hid (And.intro (PpAt.new w ep (.slice a n cap) 24) ((Below.refl w.heap.size w).alloc (Nat.le_refl _) _))
  clear hP hm hn
  cases hr : rightP ep ps with
  | false =>
    rw [show bytesS ep ps = ⟨#[]⟩ by rw [bytesS, hr]; rfl, show bytesE ep ps = 4 by rw [bytesE, hr]; rfl]
    have HRb := hid (HR.out false hr)
    clear hr
    go_enter Try.func10, Try.ntmps10
    go_wp2_with (go_at_call 25; refine (HRb.out _ (by exact HP.out.keep HA.out.2 (Nat.le_refl _))).mono ?_; rintro e w1 ⟨rfl, hb1⟩; have H1 := hid (HA.out.2.trans (hb1.mono HA.out.2.size)); clear hb1)
    go_ret2
    exact ⟨rfl, H1.out⟩
  | true =>
    have HRb := hid (HR.out true hr)
    obtain ⟨⟨he0, he1⟩, hml, hst⟩ := rightP_parts hr
    rw [HN.out] at hml
    obtain ⟨E, rfl⟩ : ∃ E : Nat, ep = (E : Int) := ⟨ep.toNat, by omega⟩
    rw [show bytesE (E : Int) ps = 0 by rw [bytesE, hr]; rfl]
    obtain ⟨T, eT⟩ : ∃ T, T = bytesS (E : Int) ps := ⟨_, rfl⟩
    have HT : Hid (T = ⟨(be 1 80 ++ be 2 E ++ be 1 n ++ seatBytes ps).toArray⟩) := hid (by rw [eT, bytesS, hr, if_pos rfl, paperB, Int.toNat_natCast, HN.out])
    rw [← eT]
    have HM : Hid (∀ i, i < ps.length → (0 ≤ idOf ps i ∧ idOf ps i < 16) ∧ (rtOf ps i).size = 32) := hid (fun i hi => ⟨(hst i hi).1, (hst i hi).2.1⟩)
    have HZ : Hid (∀ j, (seatBytes (ps.take j)).length ≤ 33 * j) := hid (fun j => by
      have := seatBytes_len (ps.take j) (fun p hp => (right_sizes hr p (List.mem_of_mem_take hp)).2)
      rw [this, List.length_take]
      omega)
    have hn1 : (n : Int) ≤ 10 := by omega
    have HE := hid (And.intro hml (show E < 65536 by omega))
    clear hr he0 he1 hst hml eT
    go_enter Try.func10, Try.ntmps10
    go_wp2_with (first
      | (go_at_call 25; refine (HRb.out _ (by exact HP.out.keep HA.out.2 (Nat.le_refl _))).mono ?_; rintro e w1 ⟨rfl, hb1⟩
         have H1 := hid (And.intro (HA.out.1.keep hb1) (HA.out.2.trans (hb1.mono HA.out.2.size)))
         clear hb1)
      | (go_at_call 26; refine (pwnew 334 (by decide) _).mono ?_; rintro e w2 ⟨rfl, h2⟩; have H2 := hid h2; clear h2)
      | (go_at_call 28; refine (pwword 334 (by decide) (by decide) _ w1 _ (be 1 80) E (by exact HE.out.2) (by rw [be_len]; decide) (by exact H3.out)).mono ?_; rintro e w4 ⟨rfl, h4⟩; have H4 := hid h4; clear h4
         have d1 := (H1.out.1.keep H4.out.2).c1)
      | (go_at_call 27; have := H4; refine (pwbyte 334 (by decide) (by decide) _ w1 _ (be 1 80 ++ be 2 E) n (by have := HE.out.1; omega) (by rw [List.length_append, be_len, be_len]; decide) (by exact H4.out)).mono ?_; rintro e w5 ⟨rfl, h5⟩; have H5 := hid h5; clear h5
         have d2 := (H1.out.1.keep H5.out.2).c1)
      | (go_at_call 27; refine (pwbyte 334 (by decide) (by decide) _ w1 _ [] 80 (by decide) (by decide) (by exact H2.out)).mono ?_; rintro e w3 ⟨rfl, h3⟩; have H3 := hid h3; clear h3
         have d0 := (H1.out.1.keep H3.out.2).c0))
    obtain ⟨P, eP⟩ : ∃ P, P = be 1 80 ++ be 2 E ++ be 1 n := ⟨_, rfl⟩
    rw [← eP] at H5 HT
    have HPl : Hid (P.length = 4) := hid (by rw [eP, List.length_append, List.length_append, be_len, be_len, be_len])
    obtain ⟨c, ec⟩ : ∃ c, c = w1.heap.size := ⟨_, rfl⟩
    rw [← ec] at H5 ⊢
    have HG : Hid (∀ u : World, Below c w1 u → PairsIn u a ps ∧ Below w.heap.size w u) := hid (fun u hu => by
      have hb : Below w.heap.size w u := H1.out.2.trans (hu.mono (by rw [ec]; exact H1.out.2.size))
      exact ⟨HP.out.keep hb (Nat.le_refl _), hb⟩)
    clear eP this ec H2 H3 H4 d0 d1
    go_loopw [25] (fun i wr => ∃ j : Nat, j ≤ n ∧ i = .int .i64 (j : Int) ∧ PwAt 334 c w1 wr (P ++ seatBytes (ps.take j)))
      (fun i _ => ((n : Int) - intOf i).toNat)
    case atStart => exact ⟨0, by omega, rfl, by rw [List.take_zero, show seatBytes [] = [] from rfl, List.append_nil]; exact H5.out⟩
    case round =>
      obtain ⟨j, hj, rfl, hO⟩ := hrel
      have HO := hid hO
      clear hO
      by_cases hjn : j = n
      · have hj1 : ¬ ((j : Int) < (n : Int)) := by omega
        have hO := HO.out
        rw [hjn, List.take_of_length_le (by rw [HN.out]; exact Nat.le_refl _)] at hO
        obtain ⟨⟨v, hv⟩, hb⟩ := hO
        have HV := hid hv
        have HB := hid hb
        clear hj hjn hv hb
        go_wp2_with (go_at_call 30; refine (done_ok _ _ _ _ _ (by exact HV.out)).mono ?_; rintro e wx ⟨rfl, rfl⟩)
        go_ret2
        exact ⟨by rw [HT.out]; rfl, (HG.out _ HB.out).2⟩
      · have hj1 : (j : Int) < (n : Int) := by omega
        have hj0 : (0 : Int) ≤ (j : Int) := Int.natCast_nonneg _
        have hjl : j < ps.length := by rw [HN.out]; omega
        have hrg := HM.out j hjl
        have HS := hid (seatBytes_snoc ps j hjl)
        have hsz := HZ.out j
        obtain ⟨g, off, rfl, hg, hc1, hc2⟩ := (HG.out _ HO.out.2).1.at j _ (getP_some hjl)
        obtain ⟨x, ex⟩ : ∃ x, x = idOf ps j := ⟨_, rfl⟩
        obtain ⟨r, er⟩ : ∃ r, r = rtOf ps j := ⟨_, rfl⟩
        rw [← ex] at hrg HS hc1
        rw [← er] at hrg HS hc2
        obtain ⟨X, rfl⟩ : ∃ X : Nat, x = (X : Int) := ⟨x.toNat, by omega⟩
        rw [Int.toNat_natCast] at HS
        obtain ⟨L, eL⟩ : ∃ L, L = P ++ seatBytes (ps.take j) := ⟨_, rfl⟩
        have HX : Hid (X < 256 ∧ r.size = 32 ∧ (L.length : Int) + 33 ≤ 334) := hid ⟨by omega, hrg.2, by rw [eL, List.length_append, HPl.out]; have := HE.out.1; omega⟩
        have HL : Hid (P ++ seatBytes (ps.take (j + 1)) = L ++ be 1 X ++ r.data.toList) := hid (by rw [HS.out, eL, be_one]; simp)
        rw [← eL] at HO
        have HJ := hid (And.intro hj hjn)
        clear hj hjn hjl hrg hg er ex eL hsz
        go_wp2_with (first
          | (go_at_call 27; refine (pwbyte_on 334 (by decide) (by decide) _ w1 wr _ L X (by exact HX.out.1) (by have := HX.out.2.2; omega) (by exact HO.out)).mono ?_; rintro e w6 ⟨rfl, h6, b6⟩; have H6 := hid h6; clear h6; have z6 := (cell_two b6).2; clear b6)
          | (go_at_call 29; refine (ywroot 334 (by decide) (by decide) _ w1 _ (L ++ be 1 X) r (by have := HX.out.2.1; omega) (by rw [List.length_append, be_len]; have := HX.out; omega) (by exact H6.out)).mono ?_; rintro e w7 ⟨rfl, h7⟩; have H7 := hid h7; clear h7))
        go_roundw
        case rel => exact ⟨j + 1, by have := HJ.out; omega, by go_num, by rw [HL.out]; exact H7.out⟩
        case measure => simp [intOf]; omega
end Go.Proofs.Ytchlmcpnjpllnaa

/- The program's bytes of a certificate. -/
namespace Go.Proofs.Ytchlmcpnjpllnaa
open Go.RowKit

theorem okSTo_first (ss : List (Int × ByteArray)) (j m : Nat) (h : okSTo ss m = true) (hj : j < m) : unwB (idOf ss j) (rtOf ss j) = false := by
  rw [unwB_okS, okSTo_at ss m h j hj]; rfl
set_option maxRecDepth 100000 in
set_option maxHeartbeats 1600000 in
/-- All can be written: none is found. -/
theorem yindex_no (ad : Option Addr) (m cp : Nat) (ss : List (Int × ByteArray)) (hsn : ss.length = m) (hsm : m ≤ maxLen) (hok : okSTo ss m = true) (w : World) (hQ : PairsIn w ad ss) :
    Calls Try.prog 61 #[.slice ad m cp, .func (.func 40) #[] #[]] w fun e w' => e = .returned (.int .i64 (-1)) ∧ Below w.heap.size w w' := by
  have hm2 : (m : Int) ≤ 9223372036854775807 := by unfold maxLen at hsm; omega
  have HQ := hid hQ
  have HN := hid hsn
  have HO := hid hok
  clear hQ hsn hsm hok
  go_enter Try.func61, Try.ntmps61
  go_wp2
  go_loopw [8] (fun i wr => ∃ j : Nat, j ≤ m ∧ i = .int .i64 (j : Int) ∧ Below w.heap.size w wr)
    (fun i _ => ((m : Int) - intOf i).toNat)
  case atStart => exact ⟨0, by omega, rfl, Below.refl _ _⟩
  case round =>
    obtain ⟨j, hj, rfl, hbel⟩ := hrel
    have HB := hid hbel
    clear hbel
    have hj0 : (0 : Int) ≤ (j : Int) := Int.natCast_nonneg _
    by_cases hjm : j = m
    · have hj1 : ¬ ((j : Int) < (m : Int)) := by omega
      clear hj hjm
      go_wp2
      go_ret
      exact ⟨rfl, HB.out⟩
    · have hj1 : (j : Int) < (m : Int) := by omega
      have hjl : j < ss.length := by rw [HN.out]; omega
      obtain ⟨g, off, rfl, hg, hc1, hc2⟩ := HQ.out.at j _ (getP_some hjl)
      have k1 := (HB.out.cell (p := ⟨g, _, none⟩) hg).trans hc1
      have k2 := (HB.out.cell (p := ⟨g, _, none⟩) hg).trans hc2
      have HU : Hid (unwB (idOf ss j) (rtOf ss j) = false) := hid (okSTo_first ss j m HO.out (by omega))
      generalize idOf ss j = x at k1 HU
      generalize rtOf ss j = r at k2 HU
      have HC : Hid (∀ u : World, Calls Try.prog 40 #[.agg #[.int .i64 x, .string r]] u fun e w' => e = .returned (.bool false) ∧ Below u.heap.size u w') := hid (fun u => by rw [← HU.out]; exact yunw_any x r u)
      have HJ := hid (And.intro hj hjm)
      clear hj hjm hjl hg hc1 hc2
      go_wp2_with (go_at_call 40; refine (HC.out _).mono ?_; rintro e w1 ⟨rfl, hb1⟩; have H1 := hid (HB.out.trans (hb1.mono HB.out.size)); clear hb1)
      go_roundw
      case rel => exact ⟨j + 1, by have := HJ.out; omega, by go_num, H1.out⟩
      case measure => simp [intOf]; omega
set_option maxRecDepth 100000 in
set_option maxHeartbeats 1600000 in
/-- One can't be written: one is found. -/
theorem yindex_yes (ad : Option Addr) (m cp : Nat) (ss : List (Int × ByteArray)) (hsn : ss.length = m) (hsm : m ≤ maxLen) (hok : okSTo ss m = false) (w : World) (hQ : PairsIn w ad ss) :
    Calls Try.prog 61 #[.slice ad m cp, .func (.func 40) #[] #[]] w fun e w' => ∃ z : Nat, e = .returned (.int .i64 (z : Int)) ∧ Below w.heap.size w w' := by
  have hm2 : (m : Int) ≤ 9223372036854775807 := by unfold maxLen at hsm; omega
  have HQ := hid hQ
  have HN := hid hsn
  have HO := hid hok
  clear hQ hsn hsm hok
  go_enter Try.func61, Try.ntmps61
  go_wp2
  go_loopw [8] (fun i wr => ∃ j : Nat, j ≤ m ∧ i = .int .i64 (j : Int) ∧ okSTo ss j = true ∧ Below w.heap.size w wr)
    (fun i _ => ((m : Int) - intOf i).toNat)
  case atStart => exact ⟨0, by omega, rfl, rfl, Below.refl _ _⟩
  case round =>
    obtain ⟨j, hj, rfl, hok, hbel⟩ := hrel
    have HB := hid hbel
    clear hbel
    have hj0 : (0 : Int) ≤ (j : Int) := Int.natCast_nonneg _
    have hjm : ¬ j = m := fun e => by
      have := HO.out
      rw [← e, hok] at this
      cases this
    have hj1 : (j : Int) < (m : Int) := by omega
    have hjl : j < ss.length := by rw [HN.out]; omega
    obtain ⟨g, off, rfl, hg, hc1, hc2⟩ := HQ.out.at j _ (getP_some hjl)
    have k1 := (HB.out.cell (p := ⟨g, _, none⟩) hg).trans hc1
    have k2 := (HB.out.cell (p := ⟨g, _, none⟩) hg).trans hc2
    have HK : Hid (okS ss j = true → okSTo ss (j + 1) = true) := hid (fun h => by rw [okSTo_succ, hok, h]; rfl)
    have HUu := hid (unwB_okS ss j)
    generalize idOf ss j = x at k1 HUu
    generalize rtOf ss j = r at k2 HUu
    generalize okS ss j = ob at HK HUu
    have HJ := hid (And.intro hj hjm)
    clear hj hjm hjl hg hc1 hc2 hok
    cases ob with
    | true =>
      have HC : Hid (∀ u : World, Calls Try.prog 40 #[.agg #[.int .i64 x, .string r]] u fun e w' => e = .returned (.bool false) ∧ Below u.heap.size u w') := hid (fun u => by rw [show false = unwB x r by rw [HUu.out]; rfl]; exact yunw_any x r u)
      go_wp2_with (go_at_call 40; refine (HC.out _).mono ?_; rintro e w1 ⟨rfl, hb1⟩; have H1 := hid (HB.out.trans (hb1.mono HB.out.size)); clear hb1)
      go_roundw
      case rel => exact ⟨j + 1, by have := HJ.out; omega, by go_num, by first | exact HK.out rfl | exact HK.out trivial, H1.out⟩
      case measure => simp [intOf]; omega
    | false =>
      have HC : Hid (∀ u : World, Calls Try.prog 40 #[.agg #[.int .i64 x, .string r]] u fun e w' => e = .returned (.bool true) ∧ Below u.heap.size u w') := hid (fun u => by rw [show true = unwB x r by rw [HUu.out]; rfl]; exact yunw_any x r u)
      go_wp2_with (go_at_call 40; refine (HC.out _).mono ?_; rintro e w1 ⟨rfl, hb1⟩; have H1 := hid (HB.out.trans (hb1.mono HB.out.size)); clear hb1)
      go_ret
      exact ⟨j, rfl, H1.out⟩
set_option maxHeartbeats 1600000 in
theorem ycontains_any (ad : Option Addr) (m cp : Nat) (ss : List (Int × ByteArray)) (hsn : ss.length = m) (hsm : m ≤ maxLen) (w : World) (hQ : PairsIn w ad ss) :
    Calls Try.prog 39 #[.slice ad m cp, .func (.func 40) #[] #[]] w fun e w' => e = .returned (.bool (!okSTo ss m)) ∧ Below w.heap.size w w' := by
  cases hok : okSTo ss m with
  | true =>
    have HC := hid (yindex_no ad m cp ss hsn hsm hok w hQ)
    clear hok hQ hsm hsn
    go_enter Try.func39, Try.ntmps39
    go_wp2_with (go_at_call 61; refine (HC.out).mono ?_; rintro e w1 ⟨rfl, hb1⟩; have H1 := hid hb1; clear hb1)
    go_ret
    exact ⟨rfl, H1.out⟩
  | false =>
    have HC := hid (yindex_yes ad m cp ss hsn hsm hok w hQ)
    clear hok hQ hsm hsn
    go_enter Try.func39, Try.ntmps39
    go_wp2_with (go_at_call 61; refine (HC.out).mono ?_; rintro e w1 ⟨z, rfl, hb1⟩; have H1 := hid hb1; clear hb1; have hz : (0 : Int) ≤ (z : Int) := Int.natCast_nonneg _)
    go_ret
    exact ⟨rfl, H1.out⟩

set_option maxRecDepth 100000 in
set_option maxHeartbeats 6400000 in
theorem ycertify_any (ep : Int) (a : Option Addr) (n cap : Nat) (ps : List (Int × ByteArray)) (hn : ps.length = n) (hm : n ≤ maxLen) (ad : Option Addr) (m cp : Nat) (ss : List (Int × ByteArray)) (hsn : ss.length = m) (hsm : m ≤ maxLen) (_hsz : ∀ p, p ∈ ss → p.2.size ≤ maxLen) (w : World) (hP : PairsIn w a ps) (hQ : PairsIn w ad ss) :
    Calls Try.prog 15 #[.agg #[.int .i64 ep, .slice a n cap], .slice ad m cp] w fun e w' => e = .returned (.tuple #[.string (certS ep ps ss), .int .i64 (certE ep ps ss)]) ∧ Below w.heap.size w w' := by
  have hm2 : (m : Int) ≤ 9223372036854775807 := by unfold maxLen at hsm; omega
  have HY : Hid (∀ u : World, PairsIn u a ps → Calls Try.prog 10 #[.agg #[.int .i64 ep, .slice a n cap]] u fun e w' => e = .returned (.tuple #[.string (bytesS ep ps), .int .i64 (bytesE ep ps)]) ∧ Below u.heap.size u w') := hid (fun u hu => ybytes_any ep a n cap ps hn hm u hu)
  have HCn : Hid (∀ (b : Bool), okSTo ss m = b → ∀ u : World, PairsIn u ad ss → Calls Try.prog 39 #[.slice ad m cp, .func (.func 40) #[] #[]] u fun e w' => e = .returned (.bool (!b)) ∧ Below u.heap.size u w') := hid (fun b hb u hu => by rw [← hb]; exact ycontains_any ad m cp ss hsn hsm u hu)
  have HP := hid (hP.keep ((Below.refl w.heap.size w).alloc (Nat.le_refl _) (.cells #[.int .i64 ep, .slice a n cap] 24)) (Nat.le_refl _))
  have HQ := hid (And.intro hQ hsn)
  clear hP hQ hm hn hsm hsn
  cases hr : rightP ep ps with
  | false =>
    have e1 : certE ep ps ss = 4 := by rw [certE, if_pos hr]
    rw [show certS ep ps ss = ⟨#[]⟩ by rw [certS, e1]; rfl, e1]
    rw [show bytesS ep ps = ⟨#[]⟩ by rw [bytesS, hr]; rfl, show bytesE ep ps = 4 by rw [bytesE, hr]; rfl] at HY
    clear hr e1
    go_enter Try.func15, Try.ntmps15
    go_wp2_with (go_at_call 10; refine (HY.out _ (by exact HP.out)).mono ?_; rintro e w1 ⟨rfl, hb1⟩; have H1 := hid (((Below.refl w.heap.size w).alloc (Nat.le_refl _) _).trans (hb1.mono (by simp))); clear hb1)
    go_ret2
    exact ⟨rfl, H1.out⟩
  | true =>
    have hT := bytesS_size ep ps
    obtain ⟨T, eT⟩ : ∃ T, T = bytesS ep ps := ⟨_, rfl⟩
    rw [show bytesE ep ps = 0 by rw [bytesE, hr]; rfl, ← eT] at HY
    rw [← eT] at hT
    obtain ⟨P, eP⟩ : ∃ P, P = be 2 T.size ++ T.data.toList := ⟨_, rfl⟩
    have HT : Hid (T.size ≤ 334 ∧ P = [] ++ (be 2 T.size ++ T.data.toList) ∧ P.length = 2 + T.size) := hid ⟨hT, by rw [eP]; rfl, by rw [eP, List.length_append, be_len, data_len]⟩
    have HE : Hid ((okSTo ss m = false → certE ep ps ss = 4) ∧ (okSTo ss m = true → 16 < m → certE ep ps ss = 3) ∧ (okSTo ss m = true → m ≤ 16 → certE ep ps ss = 0 ∧ certS ep ps ss = ⟨(P ++ be 1 m ++ sigsB ss).toArray⟩)) := hid (by
      have h0 : ¬ rightP ep ps = false := by rw [hr]; decide
      refine ⟨fun h => ?_, fun h h16 => ?_, fun h h16 => ?_⟩
      · rw [certE, if_neg h0, HQ.out.2, if_pos h]
      · rw [certE, if_neg h0, HQ.out.2, if_neg (by rw [h]; decide), if_pos h16]
      · have e1 : certE ep ps ss = 0 := by rw [certE, if_neg h0, HQ.out.2, if_neg (by rw [h]; decide), if_neg (by omega)]
        exact ⟨e1, by rw [certS, if_pos e1, certB, HQ.out.2, ← eT, ← eP]⟩)
    clear hr hT eT eP
    cases hok : okSTo ss m with
    | false =>
      have HCb := hid (HCn.out false hok)
      have e1 := HE.out.1 hok
      rw [show certS ep ps ss = ⟨#[]⟩ by rw [certS, e1]; rfl, e1]
      clear hok e1
      go_enter Try.func15, Try.ntmps15
      go_wp2_with (first
        | (go_at_call 10; refine (HY.out _ (by exact HP.out)).mono ?_; rintro e w1 ⟨rfl, hb1⟩; have H1 := hid (((Below.refl w.heap.size w).alloc (Nat.le_refl _) _).trans (hb1.mono (by simp))); clear hb1)
        | (go_at_call 39; refine (HCb.out _ (by exact HQ.out.1.keep H1.out (Nat.le_refl _))).mono ?_; rintro e w2 ⟨rfl, hb2⟩; have H2 := hid (H1.out.trans (hb2.mono H1.out.size)); clear hb2))
      go_ret2
      exact ⟨rfl, H2.out⟩
    | true =>
      have HCb := hid (HCn.out true hok)
      by_cases h16 : 16 < m
      · have k16 : (16 : Int) < (m : Int) := by omega
        have e1 := HE.out.2.1 hok h16
        rw [show certS ep ps ss = ⟨#[]⟩ by rw [certS, e1]; rfl, e1]
        clear hok e1 h16
        go_enter Try.func15, Try.ntmps15
        go_wp2_with (first
          | (go_at_call 10; refine (HY.out _ (by exact HP.out)).mono ?_; rintro e w1 ⟨rfl, hb1⟩; have H1 := hid (((Below.refl w.heap.size w).alloc (Nat.le_refl _) _).trans (hb1.mono (by simp))); clear hb1)
          | (go_at_call 39; refine (HCb.out _ (by exact HQ.out.1.keep H1.out (Nat.le_refl _))).mono ?_; rintro e w2 ⟨rfl, hb2⟩; have H2 := hid (H1.out.trans (hb2.mono H1.out.size)); clear hb2))
        go_ret2
        exact ⟨rfl, H2.out⟩
      · have k16 : (m : Int) ≤ 16 := by omega
        have HF := hid (HE.out.2.2 hok (by omega))
        rw [HF.out.1]
        obtain ⟨C, eC⟩ : ∃ C, C = certS ep ps ss := ⟨_, rfl⟩
        have HCe : Hid (C = ⟨(P ++ be 1 m ++ sigsB ss).toArray⟩) := hid (by rw [eC, HF.out.2])
        rw [← eC]
        have HJ : Hid (m ≤ 16 ∧ okSTo ss m = true) := hid ⟨by omega, hok⟩
        clear hok h16 eC HF HE
        go_enter Try.func15, Try.ntmps15
        go_wp2_with (first
          | (go_at_call 10; refine (HY.out _ (by exact HP.out)).mono ?_; rintro e w1 ⟨rfl, hb1⟩; have H1 := hid (((Below.refl w.heap.size w).alloc (Nat.le_refl _) _).trans (hb1.mono (by simp))); clear hb1)
          | (go_at_call 39; refine (HCb.out _ (by exact HQ.out.1.keep H1.out (Nat.le_refl _))).mono ?_; rintro e w2 ⟨rfl, hb2⟩; have H2 := hid (H1.out.trans (hb2.mono H1.out.size)); clear hb2)
          | (go_at_call 26; refine (pwnew 1048945 (by decide) _).mono ?_; rintro e w3 ⟨rfl, hw3⟩; have H3 := hid hw3; clear hw3)
          | (go_at_call 41; refine (pwtext 1048945 (by decide) (by decide) _ w2 _ [] T (by have := HT.out.1; omega) (by have := HT.out.1; simp; omega) (by exact H3.out)).mono ?_; rintro e w4 ⟨rfl, hw4⟩; rw [← HT.out.2.1] at hw4; have H4 := hid hw4; clear hw4)
          | (go_at_call 27; refine (pwbyte 1048945 (by decide) (by decide) _ w2 _ P m (by have := HJ.out.1; omega) (by have := HT.out; omega) (by exact H4.out)).mono ?_; rintro e w5 ⟨rfl, hw5⟩; have H5 := hid hw5; clear hw5))
        obtain ⟨c, ec⟩ : ∃ c, c = w2.heap.size := ⟨_, rfl⟩
        rw [← ec] at H5 ⊢
        have HG : Hid (∀ u : World, Below c w2 u → PairsIn u ad ss ∧ Below w.heap.size w u) := hid (fun u hu => by
          have hb : Below w.heap.size w u := H2.out.trans (hu.mono (by rw [ec]; exact H2.out.size))
          exact ⟨HQ.out.1.keep hb (Nat.le_refl _), hb⟩)
        clear ec H3 H4 H2 H1
        go_loopw [36] (fun i wr => ∃ k : Nat, k ≤ m ∧ i = .int .i64 (k : Int) ∧ PwAt 1048945 c w2 wr (P ++ be 1 m ++ sigsB (ss.take k)))
          (fun i _ => ((m : Int) - intOf i).toNat)
        case atStart => exact ⟨0, by omega, rfl, by rw [List.take_zero, show sigsB [] = [] from rfl, List.append_nil]; exact H5.out⟩
        case round =>
          obtain ⟨k, hk, rfl, hO⟩ := hrel
          have hk0 : (0 : Int) ≤ (k : Int) := Int.natCast_nonneg _
          have HO := hid hO
          clear hO
          by_cases hkj : k = m
          · have hk1 : ¬ ((k : Int) < (m : Int)) := by omega
            have hO := HO.out
            rw [hkj, List.take_of_length_le (by rw [HQ.out.2]; exact Nat.le_refl _)] at hO
            obtain ⟨⟨v, hv⟩, hb⟩ := hO
            have HV := hid hv
            have HB := hid hb
            clear hk hkj hv hb
            go_wp2_with (go_at_call 30; refine (done_ok _ _ _ _ _ (by exact HV.out)).mono ?_; rintro e wx ⟨rfl, rfl⟩)
            go_ret2
            exact ⟨by rw [HCe.out, List.append_assoc]; rfl, (HG.out _ HB.out).2⟩
          · have hk1 : (k : Int) < (m : Int) := by omega
            have hkl : k < ss.length := by rw [HQ.out.2]; omega
            have hrg := of_decide_eq_true (okSTo_at ss m HJ.out.2 k (by omega))
            have HS := hid (sigsB_snoc ss k hkl)
            have hlen := sigsB_len ss m HJ.out.2 (by rw [HQ.out.2]; exact Nat.le_refl _) k hk
            obtain ⟨g, off, rfl, hg, hc1, hc2⟩ := (HG.out _ HO.out.2).1.at k _ (getP_some hkl)
            obtain ⟨r, er⟩ : ∃ r, r = rtOf ss k := ⟨_, rfl⟩
            obtain ⟨x, ex⟩ : ∃ x, x = idOf ss k := ⟨_, rfl⟩
            rw [← er] at hrg HS hc2
            rw [← ex] at hrg HS hc1
            obtain ⟨X, rfl⟩ : ∃ X : Nat, x = (X : Int) := ⟨x.toNat, by omega⟩
            rw [Int.toNat_natCast] at HS
            obtain ⟨L, eL⟩ : ∃ L, L = P ++ be 1 m ++ sigsB (ss.take k) := ⟨_, rfl⟩
            have HX : Hid (X < 256 ∧ r.size ≤ 65535 ∧ (L.length : Int) + 65538 ≤ 1048945) := hid ⟨by omega, by omega, by rw [eL, List.length_append, List.length_append, be_len, HT.out.2.2]; have := HT.out.1; have := HJ.out.1; omega⟩
            have HL : Hid (P ++ be 1 m ++ sigsB (ss.take (k + 1)) = L ++ be 1 X ++ (be 2 r.size ++ r.data.toList)) := hid (by rw [HS.out, eL]; simp)
            rw [← eL] at HO
            have HK := hid (And.intro hk hkj)
            clear hk hkj hkl hrg hg hlen er ex eL HS
            go_wp2_with (first
              | (go_at_call 27; refine (pwbyte_on 1048945 (by decide) (by decide) _ w2 wr _ L X (by exact HX.out.1) (by have := HX.out.2.2; omega) (by exact HO.out)).mono ?_; rintro e w6 ⟨rfl, h6, b6⟩; have H6 := hid h6; clear h6; have z6 := (cell_two b6).2; clear b6)
              | (go_at_call 41; refine (pwtext 1048945 (by decide) (by decide) _ w2 _ (L ++ be 1 X) r (by exact HX.out.2.1) (by have := HX.out; rw [List.length_append, be_len]; omega) (by exact H6.out)).mono ?_; rintro e w7 ⟨rfl, hw7⟩; have H7 := hid hw7; clear hw7))
            go_roundw
            case rel => exact ⟨k + 1, by have := HK.out; omega, by go_num, by rw [HL.out]; exact H7.out⟩
            case measure => simp [intOf]; omega
end Go.Proofs.Ytchlmcpnjpllnaa

/- Papers read byte by byte are papers read at places. No walk here. -/
namespace Go.Proofs.Ytchlmcpnjpllnaa
open Go.RowKit

/-- A reader behind so many bytes; the bytes read. -/
def brS (s : ByteArray × Bool) : Nat → ByteArray × Bool
  | 0 => s
  | k + 1 => sgM (brS s k)
def brL (s : ByteArray × Bool) : Nat → List UInt8
  | 0 => []
  | k + 1 => brL s k ++ [UInt8.ofNat (rN (brS s k).1 (brS s k).2 1)]
theorem brL_len (s : ByteArray × Bool) : ∀ k, (brL s k).length = k
  | 0 => rfl
  | k + 1 => by rw [brL, List.length_append, brL_len s k]; rfl
/-- A reader behind so many seats; the seats read. -/
def ysS (s : ByteArray × Bool) : Nat → ByteArray × Bool
  | 0 => s
  | k + 1 => brS (sgM (ysS s k)) 32
def ysL (s : ByteArray × Bool) : Nat → List (Int × ByteArray)
  | 0 => []
  | k + 1 => ysL s k ++ [((rN (ysS s k).1 (ysS s k).2 1 : Int), ⟨(brL (sgM (ysS s k)) 32).toArray⟩)]
theorem ysL_len (s : ByteArray × Bool) : ∀ k, (ysL s k).length = k
  | 0 => rfl
  | k + 1 => by rw [ysL, List.length_append, ysL_len s k]; rfl
def yH (t : ByteArray) : Nat := rN t false 1
def yS1 (t : ByteArray) : ByteArray × Bool := sgM (t, false)
def yE (t : ByteArray) : Nat := rN (yS1 t).1 (yS1 t).2 2
def yS2 (t : ByteArray) : ByteArray × Bool := (rS (yS1 t).1 (yS1 t).2 2, rB (yS1 t).1 (yS1 t).2 2)
def yN (t : ByteArray) : Nat := rN (yS2 t).1 (yS2 t).2 1
def yS3 (t : ByteArray) : ByteArray × Bool := sgM (yS2 t)
/-- A reader of t behind i bytes. -/
def stT (t : ByteArray) (i : Nat) : ByteArray × Bool := (t.extract i t.size, false)
theorem stT_data (t : ByteArray) (i : Nat) : (stT t i).1.data.toList = t.data.toList.drop i := by
  rw [stT, ext_data, List.take_of_length_le (by rw [data_len]; exact Nat.le_refl _)]
theorem stT_size (t : ByteArray) (i : Nat) : (stT t i).1.size = t.size - i := by
  rw [← data_len, stT_data, List.length_drop, data_len]
theorem stT_zero (t : ByteArray) : stT t 0 = (t, false) := by
  refine Prod.ext ?_ rfl
  apply ByteArray.ext
  apply Array.ext'
  exact stT_data t 0
theorem has_yes (s : ByteArray) (n : Nat) (h : n ≤ s.size) : hasB s false n = true := by rw [hasB, decide_eq_true (by omega)]; rfl
theorem has_less (s : ByteArray) (n : Nat) (h : s.size < n) : hasB s false n = false := by rw [hasB, decide_eq_false (by omega)]; rfl
theorem has_short (s : ByteArray) (n : Int) : hasB s true n = false := rfl
theorem stT_rS (t : ByteArray) (i n : Nat) (h : i + n ≤ t.size) : (rS (stT t i).1 (stT t i).2 n, rB (stT t i).1 (stT t i).2 n) = stT t (i + n) := by
  have hb : hasB (stT t i).1 false n = true := has_yes _ _ (by rw [stT_size]; omega)
  refine Prod.ext ?_ ?_
  · show rS (stT t i).1 false n = _
    rw [rS, hb, if_pos rfl]
    apply ByteArray.ext
    apply Array.ext'
    rw [ext_data, List.take_of_length_le (by rw [data_len]; exact Nat.le_refl _), stT_data, stT_data, List.drop_drop]
  · show rB (stT t i).1 false n = false
    rw [rB, hb]; rfl
theorem stT_rN (t : ByteArray) (i n : Nat) (h : i + n ≤ t.size) : rN (stT t i).1 (stT t i).2 n = val ((t.data.toList.drop i).take n) := by
  have hb : hasB (stT t i).1 false n = true := has_yes _ _ (by rw [stT_size]; omega)
  show rN (stT t i).1 false n = _
  rw [rN, hb, if_pos rfl, stT_data]
theorem drop_byte (t : ByteArray) (i : Nat) (h : i < t.size) : t.data.toList.drop i = UInt8.ofNat (byteN t i) :: t.data.toList.drop (i + 1) := by
  have hd : i < t.data.toList.length := by rw [data_len]; exact h
  rw [List.drop_eq_getElem_cons hd]
  congr 1
  rw [byteN, List.getD_eq_getElem?_getD, List.getElem?_eq_getElem hd]
  simp
theorem stT_byte (t : ByteArray) (i : Nat) (h : i < t.size) : rN (stT t i).1 (stT t i).2 1 = byteN t i ∧ sgM (stT t i) = stT t (i + 1) := by
  refine ⟨?_, stT_rS t i 1 (by omega)⟩
  rw [stT_rN t i 1 (by omega), drop_byte t i h]
  have := byteN_lt t i
  simp [val]
  omega
theorem sgM_short (s : ByteArray × Bool) (h : s.2 = true) : (sgM s).2 = true := by
  rw [sgM, h]
  rfl
theorem sgM_end (t : ByteArray) (i : Nat) (h : t.size ≤ i) : (sgM (stT t i)).2 = true := by
  show rB (stT t i).1 false 1 = true
  rw [rB, has_less _ _ (by rw [stT_size]; omega)]
  rfl
theorem brS_short (s : ByteArray × Bool) (h : s.2 = true) : ∀ k, (brS s k).2 = true
  | 0 => h
  | k + 1 => sgM_short _ (brS_short s h k)
theorem ysS_short (s : ByteArray × Bool) (h : s.2 = true) : ∀ k, (ysS s k).2 = true
  | 0 => h
  | k + 1 => brS_short _ (sgM_short _ (ysS_short s h k)) 32
theorem brS_at (t : ByteArray) (i : Nat) : ∀ k, i + k ≤ t.size → brS (stT t i) k = stT t (i + k) ∧ brL (stT t i) k = (t.data.toList.drop i).take k
  | 0, _ => ⟨rfl, rfl⟩
  | k + 1, h => by
    obtain ⟨h1, h2⟩ := brS_at t i k (by omega)
    obtain ⟨h3, h4⟩ := stT_byte t (i + k) (by omega)
    refine ⟨by rw [brS, h1, h4]; rfl, ?_⟩
    have hl : k < (t.data.toList.drop i).length := by rw [List.length_drop, data_len]; omega
    rw [brL, h1, h2, h3, List.take_succ_eq_append_getElem hl]
    congr 2
    have := drop_byte t (i + k) (by omega)
    have h5 : (t.data.toList.drop i)[k]? = some (UInt8.ofNat (byteN t (i + k))) := by
      rw [List.getElem?_drop]
      have h6 := congrArg (fun l => l[0]?) this
      simpa using h6
    rw [List.getElem?_eq_getElem hl] at h5
    exact (Option.some.inj h5).symm
theorem brS_past (t : ByteArray) (i : Nat) : ∀ k, i ≤ t.size → t.size < i + k → (brS (stT t i) k).2 = true
  | 0, h, h2 => by omega
  | k + 1, h, h2 => by
    by_cases e : t.size < i + k
    · exact sgM_short _ (brS_past t i k h e)
    · rw [brS, (brS_at t i k (by omega)).1]
      exact sgM_end t _ (by omega)
theorem seat_text (t : ByteArray) (i : Nat) (h : i + 32 ≤ t.size) : (⟨(brL (stT t i) 32).toArray⟩ : ByteArray) = t.extract i (i + 32) := by
  apply ByteArray.ext
  apply Array.ext'
  rw [mk_data, (brS_at t i 32 h).2, ext_data, List.drop_take]
  congr 1
  omega
theorem ysS_at (t : ByteArray) : ∀ k, 4 + 33 * k ≤ t.size → ysS (stT t 4) k = stT t (4 + 33 * k) ∧ ysL (stT t 4) k = seatsR t k
  | 0, _ => ⟨rfl, rfl⟩
  | k + 1, h => by
    obtain ⟨h1, h2⟩ := ysS_at t k (by omega)
    obtain ⟨h3, h4⟩ := stT_byte t (4 + 33 * k) (by omega)
    refine ⟨?_, ?_⟩
    · rw [ysS, h1, h4, (brS_at t _ 32 (by omega)).1]
      congr 1
    · rw [ysL, h1, h2, h3, h4, seat_text t _ (by omega), seatsR, seatR]
      rw [show 4 + 33 * k + 1 = 5 + 33 * k by omega, show 5 + 33 * k + 32 = 37 + 33 * k by omega]
theorem ysS_past (t : ByteArray) (h4 : 4 ≤ t.size) : ∀ k, t.size < 4 + 33 * k → (ysS (stT t 4) k).2 = true
  | 0, h => by omega
  | k + 1, h => by
    by_cases e : t.size < 4 + 33 * k
    · exact brS_short _ (sgM_short _ (ysS_past t h4 k e)) 32
    · rw [ysS, (ysS_at t k (by omega)).1]
      by_cases e2 : t.size ≤ 4 + 33 * k
      · exact brS_short _ (sgM_end t _ e2) 32
      · rw [(stT_byte t _ (by omega)).2]
        exact brS_past t _ 32 (by omega) (by omega)
theorem end_short (s : ByteArray × Bool) (h : s.2 = true) : ¬ endOf s.1 s.2 = 0 := by
  rw [endOf, h, if_pos rfl]
  decide
/-- Behind the head of four bytes. -/
theorem head_at (t : ByteArray) (h : 4 ≤ t.size) : yH t = byteN t 0 ∧ (yE t : Int) = epP t ∧ yN t = byteN t 3 ∧ yS3 t = stT t 4 := by
  have h0 := stT_byte t 0 (by omega)
  rw [stT_zero] at h0
  have h1 : yS1 t = stT t 1 := h0.2
  have h2 : yS2 t = stT t 3 := by rw [yS2, h1]; exact stT_rS t 1 2 (by omega)
  have h3 := stT_byte t 3 (by omega)
  refine ⟨h0.1, ?_, by rw [yN, h2]; exact h3.1, by rw [yS3, h2]; exact h3.2⟩
  rw [yE, h1, stT_rN t 1 2 (by omega), drop_byte t 1 (by omega), drop_byte t 2 (by omega), epP]
  have e1 := byteN_lt t 1
  have e2 := byteN_lt t 2
  simp [val]
  omega
theorem head_short (t : ByteArray) (h : t.size < 4) : (yS3 t).2 = true := by
  by_cases h0 : t.size = 0
  · have h1 : (yS1 t).2 = true := by
      have := sgM_end t 0 (by omega)
      rw [stT_zero] at this
      exact this
    have h2 : (yS2 t).2 = true := by rw [yS2, h1]; rfl
    exact sgM_short _ h2
  · have h1 : yS1 t = stT t 1 := by
      have := (stT_byte t 0 (by omega)).2
      rw [stT_zero] at this
      exact this
    by_cases h3 : t.size = 3
    · have h2 : yS2 t = stT t 3 := by rw [yS2, h1]; exact stT_rS t 1 2 (by omega)
      rw [yS3, h2]
      exact sgM_end t 3 (by omega)
    · have h2 : (yS2 t).2 = true := by
        show rB (yS1 t).1 (yS1 t).2 2 = true
        rw [h1]
        show rB (stT t 1).1 false 2 = true
        rw [rB, has_less _ _ (by rw [stT_size]; omega)]
        rfl
      exact sgM_short _ h2
/-- What is read byte by byte is the document's. -/
theorem yread_plain (t : ByteArray) : (decide (yH t = 80) && (decide (endOf (ysS (yS3 t) (yN t)).1 (ysS (yS3 t) (yN t)).2 = 0) && rightP (yE t : Int) (ysL (yS3 t) (yN t)))) = readPB t ∧ (readPB t = true → readPZ t = (yE t : Int) ∧ readPL t = ysL (yS3 t) (yN t)) := by
  by_cases h4 : 4 ≤ t.size
  · obtain ⟨e0, e1, e2, e3⟩ := head_at t h4
    rw [e0, e1, e2, e3]
    obtain ⟨N, eN⟩ : ∃ N, N = byteN t 3 := ⟨_, rfl⟩
    rw [← eN]
    by_cases hl : 4 + 33 * N ≤ t.size
    · obtain ⟨f1, f2⟩ := ysS_at t N hl
      rw [f1, f2]
      have hE : endOf (stT t (4 + 33 * N)).1 (stT t (4 + 33 * N)).2 = 0 ↔ t.size = 4 + 33 * N := by
        show endOf (stT t (4 + 33 * N)).1 false = 0 ↔ _
        rw [endOf, if_neg (by decide), stT_size]
        constructor
        · intro h
          by_cases e : 0 < t.size - (4 + 33 * N)
          · rw [if_pos e] at h; cases h
          · omega
        · intro h
          rw [if_neg (by omega)]
      refine ⟨?_, fun h => ⟨by rw [readPZ, if_pos h], by rw [readPL, if_pos h, ← eN]⟩⟩
      rw [readPB, formP, ← eN]
      by_cases a1 : byteN t 0 = 80
      · by_cases a2 : t.size = 4 + 33 * N
        · rw [decide_eq_true a1, decide_eq_true (hE.2 a2), decide_eq_true (And.intro h4 (And.intro a1 a2))]
          rfl
        · rw [decide_eq_false (fun h => a2 (hE.1 h)), decide_eq_false (fun h : 4 ≤ t.size ∧ byteN t 0 = 80 ∧ t.size = 4 + 33 * N => a2 h.2.2)]
          simp
      · rw [decide_eq_false a1, decide_eq_false (fun h : 4 ≤ t.size ∧ byteN t 0 = 80 ∧ t.size = 4 + 33 * N => a1 h.2.1)]
        simp
    · have hs := end_short _ (ysS_past t h4 N (by omega))
      have hB : readPB t = false := by
        rw [readPB, formP, ← eN, decide_eq_false (fun h : 4 ≤ t.size ∧ byteN t 0 = 80 ∧ t.size = 4 + 33 * N => by omega)]
        rfl
      rw [decide_eq_false hs, hB]
      exact ⟨by simp, fun h => by cases h⟩
  · have hs := end_short _ (ysS_short _ (head_short t (by omega)) (yN t))
    have hB : readPB t = false := by
      rw [readPB, formP, decide_eq_false (fun h : 4 ≤ t.size ∧ byteN t 0 = 80 ∧ t.size = 4 + 33 * byteN t 3 => h4 h.1)]
      rfl
    rw [decide_eq_false hs, hB]
    exact ⟨by simp, fun h => by cases h⟩
theorem yN_lt (t : ByteArray) : yN t < 256 := by have := rN_lt (yS2 t).1 (yS2 t).2 1; simpa [yN] using this
end Go.Proofs.Ytchlmcpnjpllnaa
