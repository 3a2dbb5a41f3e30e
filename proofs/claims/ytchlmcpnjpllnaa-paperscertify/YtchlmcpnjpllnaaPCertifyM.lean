/- PapersCertify: the walk. -/
import Derived.Test.YtchlmcpnjpllnaaX11
import Derived.Test.YtchlmcpnjpllnaaPaKM
namespace Go.Proofs.Ytchlmcpnjpllnaa
open Go.RowKit

set_option maxRecDepth 100000 in
set_option maxHeartbeats 3200000 in
theorem papersCertify_walk (ep : Int) (a : Option Addr) (n cap : Nat) (ps : List (Int × ByteArray)) (hn : ps.length = n) (hm : n ≤ maxLen) (ad : Option Addr) (m cp : Nat) (ss : List (Int × ByteArray)) (hsn : ss.length = m) (hsm : m ≤ maxLen) (hsz : ∀ p, p ∈ ss → p.2.size ≤ maxLen) (w : World) (hP : PairsIn w a ps) (hQ : PairsIn w ad ss) :
    Calls Try.prog 4 #[.agg #[.int .i64 ep, .slice a n cap], .slice ad m cp] w fun e w' => e = .returned (.bool true) ∧ Below w.heap.size w w' := by
  have hm63 : (m : Int) ≤ 9223372036854775807 := by unfold maxLen at hsm; omega
  by_cases h40 : 40 < m
  · have k40 : (40 : Int) < (m : Int) := by omega
    clear hP hQ hn hm hsn hsm hsz
    go_enter Try.func4, Try.ntmps4
    go_wp2_with (first
      | (go_at_call 9; have := H1; refine (alives_any _).mono ?_; rintro e w2 ⟨rfl, hb2⟩; have H2 := hid (H1.out.trans (hb2.mono H1.out.size)); clear hb2)
      | (go_at_call 9; refine (alives_any _).mono ?_; rintro e w1 ⟨rfl, hb1⟩; have H1 := hid hb1; clear hb1))
    go_ret
    exact ⟨rfl, ((Below.refl w.heap.size w).alloc (Nat.le_refl _) _).trans (H2.out.mono (by simp))⟩
  · have k40 : ¬ ((40 : Int) < (m : Int)) := by omega
    obtain ⟨T, eT⟩ : ∃ T, T = certS ep ps ss := ⟨_, rfl⟩
    obtain ⟨E, eE⟩ : ∃ E, E = certE ep ps ss := ⟨_, rfl⟩
    have HC : Hid (∀ u : World, PairsIn u a ps → PairsIn u ad ss → Calls Try.prog 15 #[.agg #[.int .i64 ep, .slice a n cap], .slice ad m cp] u fun e w' => e = .returned (.tuple #[.string T, .int .i64 E]) ∧ Below u.heap.size u w') := hid (fun u hu hv => by rw [eT, eE]; exact ycertify_any ep a n cap ps hn hm ad m cp ss hsn hsm hsz u hu hv)
    have HV : Hid (∀ (u : World) (ad' : Option Addr) (cp' : Nat), PairsIn u a ps → PairsIn u ad' ss → Calls Try.prog 16 #[.agg #[.int .i64 ep, .slice a n cap], .slice ad' m cp'] u fun e w' => e = .returned (.tuple #[.string T, .int .i64 E]) ∧ Below u.heap.size u w') := hid (fun u ad' cp' hu hv => by rw [eT, eE]; exact xcertify_any ep a n cap ps hn hm ad' m cp' ss hsn hsm u hu hv)
    have HA : Hid (∀ u : World, PairsIn u ad ss → Calls Try.prog 17 #[.slice ad m cp] u fun e w' => ∃ ad' cp', e = .returned (.slice ad' m cp') ∧ PairsIn w' ad' ss ∧ Below u.heap.size u w') := hid (fun u hu => (alike_any ad m cp ss hsn (by omega) u hu).mono fun e w' ⟨v, he, ho, hb⟩ => by
      rw [← hsn] at ho
      obtain ⟨ad', cp', hv, hi⟩ := own_pairs ho
      exact ⟨ad', cp', by rw [he, hv, hsn], hi, hb⟩)
    have HF := hid (PpAt.new w ep (.slice a n cap) 24)
    have HJ := hid (hP.alloc (.cells #[.int .i64 ep, .slice a n cap] 24))
    have HK := hid (hQ.alloc (.cells #[.int .i64 ep, .slice a n cap] 24))
    clear hP hQ hn hm hsn hsm hsz eT eE h40
    go_enter Try.func4, Try.ntmps4
    go_wp2_with (first
      | (go_at_call 9; refine (alives_any _).mono ?_; rintro e w1 ⟨rfl, hb1⟩; have H1 := hid hb1; clear hb1; have c1 := (HF.out.keep H1.out).c0; have d1 := (HF.out.keep H1.out).c1)
      | (go_at_call 15; refine (HC.out _ (HJ.out.keep H1.out (Nat.le_refl _)) (HK.out.keep H1.out (Nat.le_refl _))).mono ?_; rintro e w2 ⟨rfl, hb2⟩; have H2 := hid (H1.out.trans (hb2.mono H1.out.size)); clear hb2 c1 d1; have c2 := (HF.out.keep H2.out).c0; have d2 := (HF.out.keep H2.out).c1))
    have H2d := hid (H2.out.drew)
    go_region_law
      (first
        | (go_simp; go_at_call 17; refine (HA.out _ (by exact HK.out.keep H2d.out (Nat.le_refl _))).mono ?_; rintro e w3 ⟨ad3, cp3, rfl, hi3, hb3⟩; have H3 := hid (And.intro hi3 (H2d.out.trans (hb3.mono H2d.out.size))); clear hi3 hb3; have c3 := (HF.out.keep H3.out.2).c0; have d3 := (HF.out.keep H3.out.2).c1)
        | (go_simp; go_at_call 16; refine (HV.out _ _ _ (by exact HJ.out.keep H3.out.2 (Nat.le_refl _)) (by exact H3.out.1)).mono ?_; rintro e w4 ⟨rfl, hb4⟩; have H4 := hid (H3.out.2.trans (hb4.mono H3.out.2.size)); clear hb4))
    all_goals go_wp2
    all_goals
      go_ret
      exact ⟨rfl, ((Below.refl w.heap.size w).alloc (Nat.le_refl _) _).trans (H4.out.mono (by simp))⟩
end Go.Proofs.Ytchlmcpnjpllnaa
