/- PapersChecks: the walk. -/
import Derived.Test.YtchlmcpnjpllnaaX11
namespace Go.Proofs.Ytchlmcpnjpllnaa
open Go.RowKit

/-- What is checked, as a list that lies in memory. -/
theorem ycheck_list (ep : Int) (a : Option Addr) (n cap : Nat) (ps : List (Int × ByteArray)) (hn : ps.length = n) (hm : n ≤ maxLen) (c : ByteArray) (hc : c.size ≤ maxLen) (u : World) (hP : PairsIn u a ps) :
    Calls Try.prog 18 #[.agg #[.int .i64 ep, .slice a n cap], .string c] u fun e w' => ∃ ad cp, e = .returned (.tuple #[.agg #[.int .i64 (chkZ ep ps c), .slice ad (chkP ep ps c).length cp], .int .i64 (chkE ep ps c)]) ∧ PairsIn w' ad (chkP ep ps c) ∧ Below u.heap.size u w' :=
  (ycheck_any ep a n cap ps hn hm c hc u hP).mono fun e w' ⟨v, he, ho, hb⟩ => by
    obtain ⟨ad, cp, hv, hi⟩ := own_pairs ho
    exact ⟨ad, cp, by rw [he, hv], hi, hb⟩
theorem xcheck_list (ep : Int) (a : Option Addr) (n cap : Nat) (ps : List (Int × ByteArray)) (hn : ps.length = n) (hm : n ≤ maxLen) (c : ByteArray) (hc : c.size ≤ maxLen) (u : World) (hP : PairsIn u a ps) :
    Calls Try.prog 19 #[.agg #[.int .i64 ep, .slice a n cap], .string c] u fun e w' => ∃ ad cp, e = .returned (.tuple #[.agg #[.int .i64 (chkZ ep ps c), .slice ad (chkP ep ps c).length cp], .int .i64 (chkE ep ps c)]) ∧ PairsIn w' ad (chkP ep ps c) ∧ Below u.heap.size u w' :=
  (xcheck_any ep a n cap ps hn hm c hc u hP).mono fun e w' ⟨v, he, ho, hb⟩ => by
    obtain ⟨ad, cp, hv, hi⟩ := own_pairs ho
    exact ⟨ad, cp, by rw [he, hv], hi, hb⟩
set_option maxRecDepth 100000 in
set_option maxHeartbeats 3200000 in
theorem papersChecks_walk (ep : Int) (a : Option Addr) (n cap : Nat) (ps : List (Int × ByteArray)) (hn : ps.length = n) (hm : n ≤ maxLen) (c : ByteArray) (hc : c.size ≤ maxLen) (w : World) (hP : PairsIn w a ps) :
    Calls Try.prog 5 #[.agg #[.int .i64 ep, .slice a n cap], .string c] w fun e w' => e = .returned (.bool true) ∧ Below w.heap.size w w' := by
  have hD := fun u hu => ycheck_list ep a n cap ps hn hm c hc u hu
  have hE := fun u hu => xcheck_list ep a n cap ps hn hm c hc u hu
  have hN := chkP_len ep ps c
  generalize chkP ep ps c = M at hD hE hN
  generalize chkZ ep ps c = Z at hD hE
  generalize chkE ep ps c = G at hD hE
  obtain ⟨N, eN⟩ : ∃ N, N = M.length := ⟨_, rfl⟩
  rw [← eN] at hD hE hN
  have HD := hid hD
  have HE := hid hE
  have HN : Hid (M.length = N ∧ N ≤ maxLen) := hid ⟨eN.symm, by unfold maxLen; omega⟩
  have HF := hid (PpAt.new w ep (.slice a n cap) 24)
  have HJ := hid (hP.alloc (.cells #[.int .i64 ep, .slice a n cap] 24))
  clear hP hn hm hc hD hE hN eN
  go_enter Try.func5, Try.ntmps5
  go_wp2_with (first
    | (go_at_call 9; refine (alives_any _).mono ?_; rintro e w1 ⟨rfl, hb1⟩; have H1 := hid hb1; clear hb1; have c1 := (HF.out.keep H1.out).c0; have d1 := (HF.out.keep H1.out).c1)
    | (go_at_call 18; refine (HD.out _ (HJ.out.keep H1.out (Nat.le_refl _))).mono ?_; rintro e w4 ⟨ad4, cp4, rfl, hi4, hb4⟩; have H4 := hid (And.intro hi4 (H1.out.trans (hb4.mono H1.out.size))); clear hi4 hb4 c1 d1; have c4 := ((HF.out.keep H4.out.2).alloc (.cells #[.int .i64 Z, .slice ad4 N cp4] 24)).c0; have d4 := ((HF.out.keep H4.out.2).alloc (.cells #[.int .i64 Z, .slice ad4 N cp4] 24)).c1)
    | (go_at_call 19; refine (HE.out _ ((HJ.out.keep H4.out.2 (Nat.le_refl _)).alloc _)).mono ?_; rintro e w5 ⟨ad5, cp5, rfl, hi5, hb5⟩; have H5 := hid (And.intro hi5 hb5); clear hi5 hb5 c4 d4
       have z0 := (((PpAt.new w4 Z (.slice ad4 N cp4) 24).keep H5.out.2).alloc (.cells #[.int .i64 Z, .slice ad5 N cp5] 24)).c0
       have z1 := (((PpAt.new w4 Z (.slice ad4 N cp4) 24).keep H5.out.2).alloc (.cells #[.int .i64 Z, .slice ad5 N cp5] 24)).c1)
    | (go_at_call 14; refine (xsame_yes _ _ _ _ _ _ M HN.out.1 HN.out.2 _ (by exact ((H4.out.1.alloc _).keep H5.out.2 (Nat.le_refl _)).alloc _) (by exact H5.out.1.alloc _)).mono ?_; rintro e w6 ⟨rfl, hb6⟩; have H6 := hid hb6; clear hb6))
  go_ret
  have k1 := ((Below.refl w.heap.size w).alloc (Nat.le_refl _) (.cells #[.int .i64 ep, .slice a n cap] 24)).trans (H4.out.2.mono (by simp))
  have k2 := (k1.alloc k1.size (.cells #[.int .i64 Z, .slice ad4 N cp4] 24)).trans (H5.out.2.mono (by have := k1.size; simp; omega))
  exact ⟨rfl, (k2.alloc k2.size _).trans (H6.out.mono (by have := k2.size; simp; omega))⟩
end Go.Proofs.Ytchlmcpnjpllnaa
