/- PapersBytes: the walk. -/
import Derived.Test.YtchlmcpnjpllnaaX11
namespace Go.Proofs.Ytchlmcpnjpllnaa
open Go.RowKit

theorem readPL_le (t : ByteArray) : (readPL t).length ≤ 255 := by
  rw [readPL]
  split
  · have := byteN_lt t 3
    rw [seatsR_len]; omega
  · exact Nat.zero_le _
/-- What is read, as a list that lies in memory. -/
theorem yread_list (t : ByteArray) (ht : t.size ≤ maxLen) (u : World) : Calls Try.prog 12 #[.string t] u fun e w' => ∃ ad cp, e = .returned (.tuple #[.agg #[.int .i64 (readPZ t), .slice ad (readPL t).length cp], .int .i64 (readPE t)]) ∧ PairsIn w' ad (readPL t) ∧ Below u.heap.size u w' :=
  (yread_any t ht u).mono fun e w' ⟨v, he, ho, hb⟩ => by
    obtain ⟨ad, cp, hv, hi⟩ := own_pairs ho
    exact ⟨ad, cp, by rw [he, hv], hi, hb⟩
theorem xread_list (t : ByteArray) (u : World) : Calls Try.prog 13 #[.string t] u fun e w' => ∃ ad cp, e = .returned (.tuple #[.agg #[.int .i64 (readPZ t), .slice ad (readPL t).length cp], .int .i64 (readPE t)]) ∧ PairsIn w' ad (readPL t) ∧ Below u.heap.size u w' :=
  (xread_any t u).mono fun e w' ⟨v, he, ho, hb⟩ => by
    obtain ⟨ad, cp, hv, hi⟩ := own_pairs ho
    exact ⟨ad, cp, by rw [he, hv], hi, hb⟩
set_option maxRecDepth 100000 in
set_option maxHeartbeats 3200000 in
theorem papersBytes_walk (ep : Int) (a : Option Addr) (n cap : Nat) (ps : List (Int × ByteArray)) (hn : ps.length = n) (hm : n ≤ maxLen) (t : ByteArray) (ht : t.size ≤ maxLen) (w : World) (hP : PairsIn w a ps) :
    Calls Try.prog 3 #[.agg #[.int .i64 ep, .slice a n cap], .string t] w fun e w' => e = .returned (.bool true) ∧ Below w.heap.size w w' := by
  obtain ⟨T, eT⟩ : ∃ T, T = bytesS ep ps := ⟨_, rfl⟩
  obtain ⟨E, eE⟩ : ∃ E, E = bytesE ep ps := ⟨_, rfl⟩
  have HC : Hid (∀ u : World, PairsIn u a ps → Calls Try.prog 10 #[.agg #[.int .i64 ep, .slice a n cap]] u fun e w' => e = .returned (.tuple #[.string T, .int .i64 E]) ∧ Below u.heap.size u w') := hid (fun u hu => by rw [eT, eE]; exact ybytes_any ep a n cap ps hn hm u hu)
  have HV : Hid (∀ u : World, PairsIn u a ps → Calls Try.prog 11 #[.agg #[.int .i64 ep, .slice a n cap]] u fun e w' => e = .returned (.tuple #[.string T, .int .i64 E]) ∧ Below u.heap.size u w') := hid (fun u hu => by rw [eT, eE]; exact xbytes_any ep a n cap ps hn hm u hu)
  have hD := yread_list t ht
  have hE := xread_list t
  have hN : (readPL t).length ≤ 255 := readPL_le t
  generalize readPL t = M at hD hE hN
  generalize readPZ t = Z at hD hE
  generalize readPE t = G at hD hE
  obtain ⟨N, eN⟩ : ∃ N, N = M.length := ⟨_, rfl⟩
  rw [← eN] at hD hE hN
  have HD := hid hD
  have HE := hid hE
  have HN : Hid (M.length = N ∧ N ≤ maxLen) := hid ⟨eN.symm, by unfold maxLen; omega⟩
  have HF := hid (PpAt.new w ep (.slice a n cap) 24)
  have HJ := hid (hP.keep ((Below.refl w.heap.size w).alloc (Nat.le_refl _) (.cells #[.int .i64 ep, .slice a n cap] 24)) (Nat.le_refl _))
  clear hP hn hm eT eE hD hE hN eN
  go_enter Try.func3, Try.ntmps3
  go_wp2_with (first
    | (go_at_call 9; refine (alives_any _).mono ?_; rintro e w1 ⟨rfl, hb1⟩; have H1 := hid hb1; clear hb1; have c1 := (HF.out.keep H1.out).c0; have d1 := (HF.out.keep H1.out).c1)
    | (go_at_call 10; refine (HC.out _ (HJ.out.keep H1.out (Nat.le_refl _))).mono ?_; rintro e w2 ⟨rfl, hb2⟩; have H2 := hid (H1.out.trans (hb2.mono H1.out.size)); clear hb2 c1 d1; have c2 := (HF.out.keep H2.out).c0; have d2 := (HF.out.keep H2.out).c1)
    | (go_at_call 11; refine (HV.out _ (HJ.out.keep H2.out (Nat.le_refl _))).mono ?_; rintro e w3 ⟨rfl, hb3⟩; have H3 := hid (H2.out.trans (hb3.mono H2.out.size)); clear hb3 c2 d2)
    | (go_at_call 12; refine (HD.out _).mono ?_; rintro e w4 ⟨ad4, cp4, rfl, hi4, hb4⟩; have H4 := hid (And.intro hi4 (H3.out.trans (hb4.mono H3.out.size))); clear hi4 hb4)
    | (go_at_call 13; refine (HE.out _).mono ?_; rintro e w5 ⟨ad5, cp5, rfl, hi5, hb5⟩; have H5 := hid (And.intro hi5 hb5); clear hi5 hb5
       have z0 := (((PpAt.new w4 Z (.slice ad4 N cp4) 24).keep H5.out.2).keep ((Below.refl _ _).alloc (Nat.le_refl _) (.cells #[.int .i64 Z, .slice ad5 N cp5] 24))).c0
       have z1 := (((PpAt.new w4 Z (.slice ad4 N cp4) 24).keep H5.out.2).keep ((Below.refl _ _).alloc (Nat.le_refl _) (.cells #[.int .i64 Z, .slice ad5 N cp5] 24))).c1)
    | (go_at_call 14; refine (xsame_yes _ _ _ _ _ _ M HN.out.1 HN.out.2 _ (by exact ((H4.out.1.keep ((Below.refl _ _).alloc (Nat.le_refl _) _) (Nat.le_refl _)).keep H5.out.2 (Nat.le_refl _)).keep ((Below.refl _ _).alloc (Nat.le_refl _) _) (Nat.le_refl _)) (by exact H5.out.1.keep ((Below.refl _ _).alloc (Nat.le_refl _) _) (Nat.le_refl _))).mono ?_; rintro e w6 ⟨rfl, hb6⟩; have H6 := hid hb6; clear hb6))
  go_ret
  have k1 := ((Below.refl w.heap.size w).alloc (Nat.le_refl _) (.cells #[.int .i64 ep, .slice a n cap] 24)).trans (H4.out.2.mono (by simp))
  have k2 := (k1.alloc k1.size (.cells #[.int .i64 Z, .slice ad4 N cp4] 24)).trans (H5.out.2.mono (by have := k1.size; simp; omega))
  exact ⟨rfl, (k2.alloc k2.size _).trans (H6.out.mono (by have := k2.size; simp; omega))⟩
end Go.Proofs.Ytchlmcpnjpllnaa
