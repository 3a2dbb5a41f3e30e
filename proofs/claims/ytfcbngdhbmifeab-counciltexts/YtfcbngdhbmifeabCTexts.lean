/- CouncilTexts: the walk. -/
import Derived.Test.YtfcbngdhbmifeabCoL
import Derived.Test.YtfcbngdhbmifeabCoQ
import Derived.Test.YtfcbngdhbmifeabCoR
namespace Go.Proofs.Ytfcbngdhbmifeab
open Go.RowKit

theorem readM_le (t : ByteArray) : (readM t).length ≤ maxLen := by
  rw [readM]
  split
  · have h1 : cN t < 256 := by have := rN_lt (cS2 t).1 (cS2 t).2 1; simpa [cN] using this
    rw [cM, rdL_len]; unfold maxLen; omega
  · exact Nat.zero_le _
set_option maxRecDepth 100000 in
set_option maxHeartbeats 3200000 in
theorem councilTexts_walk (ep : Int) (a : Option Addr) (n cap : Nat) (l : List Int) (hn : l.length = n) (hm : n ≤ maxLen) (t : ByteArray) (w : World) (hI : IntsIn w a l) :
    Calls Try.prog 3 #[.agg #[.int .i64 ep, .slice a n cap], .string t] w fun e w' => e = .returned (.bool true) ∧ Below w.heap.size w w' := by
  obtain ⟨T, eT⟩ : ∃ T, T = textC ep l := ⟨_, rfl⟩
  obtain ⟨E, eE⟩ : ∃ E, E = textE ep l := ⟨_, rfl⟩
  have HC : Hid (∀ u : World, IntsIn u a l → Calls Try.prog 6 #[.agg #[.int .i64 ep, .slice a n cap]] u fun e w' => e = .returned (.tuple #[.string T, .int .i64 E]) ∧ Below u.heap.size u w') := hid (fun u hu => by rw [eT, eE]; exact ctext_any ep a n cap l hn hm u hu)
  have HV : Hid (∀ u : World, IntsIn u a l → Calls Try.prog 7 #[.agg #[.int .i64 ep, .slice a n cap]] u fun e w' => e = .returned (.tuple #[.string T, .int .i64 E]) ∧ Below u.heap.size u w') := hid (fun u hu => by rw [eT, eE]; exact vtext_any ep a n cap l hn hm u hu)
  obtain ⟨M, eM⟩ : ∃ M, M = readM t := ⟨_, rfl⟩
  obtain ⟨N, eN⟩ : ∃ N, N = M.length := ⟨_, rfl⟩
  obtain ⟨Z, eZ⟩ : ∃ Z, Z = readZ t := ⟨_, rfl⟩
  obtain ⟨G, eG⟩ : ∃ G, G = readE t := ⟨_, rfl⟩
  have HD : Hid (∀ u : World, Calls Try.prog 8 #[.string t] u fun e w' => ∃ ad cp, e = .returned (.tuple #[.agg #[.int .i64 Z, .slice ad N cp], .int .i64 G]) ∧ IntsIn w' ad M ∧ Below u.heap.size u w') := hid (fun u => (cread_any t u).mono fun e w' ⟨v, he, ho⟩ => by
    obtain ⟨ad, cp, hv, hi⟩ := own_ints ho.own
    exact ⟨ad, cp, by rw [he, hv, eZ, eN, eM, eG], by rw [eM]; exact hi, ho.bel⟩)
  have HE : Hid (∀ u : World, Calls Try.prog 9 #[.string t] u fun e w' => ∃ ad cp, e = .returned (.tuple #[.agg #[.int .i64 Z, .slice ad N cp], .int .i64 G]) ∧ IntsIn w' ad M ∧ Below u.heap.size u w') := hid (fun u => (vread_any t u).mono fun e w' ⟨v, he, ho⟩ => by
    obtain ⟨ad, cp, hv, hi⟩ := own_ints ho.own
    exact ⟨ad, cp, by rw [he, hv, eZ, eN, eM, eG], by rw [eM]; exact hi, ho.bel⟩)
  have HN : Hid (M.length = N ∧ N ≤ maxLen) := hid ⟨eN.symm, by rw [eN, eM]; exact readM_le t⟩
  clear eM eN eZ eG
  have HF := hid (conf_cells w (.int .i64 ep) (.slice a n cap))
  have HJ := hid (hI.alloc (.cells #[.int .i64 ep, .slice a n cap] 24))
  clear hI hn hm eT eE
  go_enter Try.func3, Try.ntmps3
  go_wp2_with (first
    | (go_at_call 5; refine (clives_any _).mono ?_; rintro e w1 ⟨rfl, hb1⟩; have H1 := hid hb1; clear hb1; obtain ⟨c1, d1⟩ := conf_stay HF.out H1.out (by simp))
    | (go_at_call 6; refine (HC.out _ (HJ.out.keep H1.out (Nat.le_refl _))).mono ?_; rintro e w2 ⟨rfl, hb2⟩; have H2 := hid (H1.out.trans (hb2.mono H1.out.size)); clear hb2 c1 d1; obtain ⟨c2, d2⟩ := conf_stay HF.out H2.out (by simp))
    | (go_at_call 7; refine (HV.out _ (HJ.out.keep H2.out (Nat.le_refl _))).mono ?_; rintro e w3 ⟨rfl, hb3⟩; have H3 := hid (H2.out.trans (hb3.mono H2.out.size)); clear hb3 c2 d2)
    | (go_at_call 8; refine (HD.out _).mono ?_; rintro e w4 ⟨ad4, cp4, rfl, hi4, hb4⟩; have H4 := hid (And.intro hi4 (H3.out.trans (hb4.mono H3.out.size))); clear hi4 hb4)
    | (go_at_call 9; refine (HE.out _).mono ?_; rintro e w5 ⟨ad5, cp5, rfl, hi5, hb5⟩; have H5 := hid (And.intro hi5 hb5); clear hi5 hb5
       obtain ⟨z0, z1⟩ := conf_stay (conf_cells w4 (.int .i64 Z) (.slice ad4 N cp4)) (H5.out.2.alloc H5.out.2.size (.cells #[.int .i64 Z, .slice ad5 N cp5] 24)) (by simp))
    | (go_at_call 10; refine (vsame_yes _ _ _ _ _ _ M HN.out.1 HN.out.2 _ (((H4.out.1.alloc _).keep H5.out.2 (Nat.le_refl _)).alloc _) (H5.out.1.alloc _)).mono ?_; rintro e w6 ⟨rfl, hb6⟩; have H6 := hid hb6; clear hb6))
  go_ret
  have k1 := ((Below.refl w.heap.size w).alloc (Nat.le_refl _) (.cells #[.int .i64 ep, .slice a n cap] 24)).trans (H4.out.2.mono (by simp))
  have k2 := (k1.alloc k1.size (.cells #[.int .i64 Z, .slice ad4 N cp4] 24)).trans (H5.out.2.mono (by have := k1.size; simp; omega))
  exact ⟨rfl, (k2.alloc k2.size _).trans (H6.out.mono (by have := k2.size; simp; omega))⟩
end Go.Proofs.Ytfcbngdhbmifeab
