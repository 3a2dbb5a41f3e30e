/- RealsOrder is proved: for every three words of 64 bits, just one of ahead, behind and the same holds, and the order goes from end to end. No condition. -/
import Derived.Test.YtpojjcmhiccmfaaRows
import Derived.Test.YtpojjcmhiccmfaaRlD
import Derived.ProofKit
import Derived.OpenShut
import Derived.ShutString
namespace Go.Proofs.Ytpojjcmhiccmfaa
open Go.ChangeShapes Go.WideShapes Go.ChangeAt Go.RowKit
open Go.ChangeMaps (open_string shut_string)

theorem Try.own : ownKnob Try.prog.godebug = none := by kernel_rfl
theorem Try.laidOut : laidOutB Try.prog = true := by kernel_rfl

set_option maxHeartbeats 8000000 in
set_option maxRecDepth 100000 in
theorem realsOrder_at (a b c : Nat) (HA : Hid (a < 18446744073709551616)) (HB : Hid (b < 18446744073709551616)) (HC : Hid (c < 18446744073709551616)) (w : World) (ab ba sm bc ac : Bool)
    (h1 : decide (rankW a < rankW b) = ab) (h2 : decide (rankW b < rankW a) = ba) (h3 : (canW a == canW b) = sm) (h4 : decide (rankW b < rankW c) = bc) (h5 : decide (rankW a < rankW c) = ac)
    (hone : (ab, ba, sm) = (true, false, false) ∨ (ab, ba, sm) = (false, true, false) ∨ (ab, ba, sm) = (false, false, true)) (htr : (!ab || !bc || ac) = true) (hsm : (!sm || ac == bc) = true) :
    Calls Try.prog 5 #[.int .u64 (a : Int), .int .u64 (b : Int), .int .u64 (c : Int)] w fun e w' => e = .returned (.bool true) ∧ Below w.heap.size w w' := by
  have E1 := rhid h1
  have E2 := rhid h2
  have E3 := rhid h3
  have E4 := rhid h4
  have E5 := rhid h5
  clear h1 h2 h3 h4 h5
  rcases hone with h | h | h <;> cases h <;> cases bc <;> cases ac <;> (first | (cases htr; done) | (cases hsm; done) | skip) <;> clear htr hsm
  all_goals (
    go_enter Try.func5, Try.ntmps5
    go_wp2_with (first
    | (go_at_call 9; refine (rlives_any _).mono ?_; rintro e w1 ⟨rfl, rfl⟩)
    | (go_at_call 10; refine (of_any _ _).mono ?_; rintro e w1 ⟨rfl, rfl⟩)
    | (go_at_call 17; refine (less_any _ _ (by first | exact HA.out | exact HB.out | exact HC.out) (by first | exact HA.out | exact HB.out | exact HC.out) _).mono ?_; rintro e w1 ⟨rfl, rfl⟩; (first | rw [E1.out] | rw [E2.out] | rw [E4.out] | rw [E5.out]))
    | (go_at_call 19; refine (same_any _ _ _).mono ?_; rintro e w1 ⟨rfl, rfl⟩; rw [E3.out]))
    go_ret
    exact ⟨rfl, (Drawn.refl _).below⟩)

theorem realsOrder_walk (a b c : Nat) (ha : a < 18446744073709551616) (hb : b < 18446744073709551616) (hc : c < 18446744073709551616) (w : World) : Calls Try.prog 5 #[.int .u64 (a : Int), .int .u64 (b : Int), .int .u64 (c : Int)] w fun e w' => e = .returned (.bool true) ∧ Below w.heap.size w w' := by
  have hs := same_rank ha hb
  refine realsOrder_at a b c ha hb hc w _ _ _ _ _ rfl rfl rfl rfl rfl ?_ ?_ ?_
  · rw [hs]
    rcases Nat.lt_trichotomy (rankW a) (rankW b) with h | h | h
    · exact .inl (by simp; omega)
    · exact .inr (.inr (by simp; omega))
    · exact .inr (.inl (by simp; omega))
  · by_cases h1 : rankW a < rankW b <;> by_cases h2 : rankW b < rankW c <;> simp [h1, h2]; omega
  · rw [hs]
    by_cases h1 : rankW a = rankW b <;> simp [h1]

set_option maxRecDepth 100000 in
theorem realsOrder_lifted (os : Os) (started : os.Started) (H : Type) (enc : TypeId × Value → H) :
    ReturnsInHanded {} Try.checked os 5 .any (Rows.realsOrderSpec.pre6 enc Try.prog Try.f5 Rows.realsOrderRow.domain false) (Rows.realsOrderSpec.post enc Try.prog Try.f5 false true false false) := by
  refine returnsInHanded_of_change (C := Try.checked) Try.own started (by kernel_rfl) Try.func5
    (ChangeSpec.witness6 (enc := enc) (C := Try.checked) false ⟨#[], #[.int .u64 0, .int .u64 0, .int .u64 0], []⟩ 8 (by kernel_rfl) (by kernel_rfl) (by kernel_rfl) (by kernel_rfl)) ?_
  intro W base args ds gs before hval0 hW hcnd _
  have hval : ∀ (j : Nat) t v, Try.f5.params[j]? = some t → args[j]? = some v → Value.okWide Try.prog W .any base t v := hval0
  have hW' := hW
  obtain ⟨p, q, hA0, hV, rfl, hfz, hnd⟩ := hW
  have hA : DataW.TrodAll enc Try.prog W 0 (fun _ => true) true Try.f5.params.toList args.toList ds p := hA0
  rw [Try.params5] at hA hval
  obtain ⟨v0, vs0, d0, ds0, p0, q0, hargs, rfl, rfl, h0, r0⟩ := trodAll_cons hA
  obtain ⟨v1, vs1, d1, ds1, p1, q1, rfl, rfl, rfl, h1, r1⟩ := trodAll_cons r0
  obtain ⟨v2, vs2, d2, ds2, p2, q2, rfl, rfl, rfl, h2, r2⟩ := trodAll_cons r1
  obtain ⟨rfl, rfl, rfl⟩ := trodAll_nil r2
  obtain rfl : args = #[v0, v1, v2] := by cases args; simp_all
  obtain ⟨rfl, rfl⟩ := trodVars_none hV
  obtain ⟨a0, rfl, rfl, rfl, w0⟩ := open_int Try.underlying22 (hval 0 22 v0 rfl rfl) h0
  obtain ⟨n0, rfl, k0⟩ := u64_nat w0
  obtain ⟨a1, rfl, rfl, rfl, w1⟩ := open_int Try.underlying22 (hval 1 22 v1 rfl rfl) h1
  obtain ⟨n1, rfl, k1⟩ := u64_nat w1
  obtain ⟨a2, rfl, rfl, rfl, w2⟩ := open_int Try.underlying22 (hval 2 22 v2 rfl rfl) h2
  obtain ⟨n2, rfl, k2⟩ := u64_nat w2
  clear hA0 hval0
  simp only [List.append_nil] at hW'
  refine (realsOrder_walk n0 n1 n2 k0 k1 k2 W).mono fun e W' ⟨he, bel⟩ => ?_
  subst he
  exact ⟨_, rfl, _, _, _, [], [], [], hW', trodAll_mk1 (shut_bool Try.underlying4 _), (trodAll_cons_mk (shut_int Try.underlying22 w0) (trodAll_cons_mk (shut_int Try.underlying22 w1) (trodAll_cons_mk (shut_int Try.underlying22 w2) trodAll_mk0))), rfl, bel.frame _, fun h => by cases h⟩

theorem realsOrder_holds : Rows.RealsOrderSaid :=
  OpenClaim.holds_of_wide 5 Try.f5 rfl rfl rfl rfl rfl rfl rfl ⟨rfl, rfl, rfl, rfl, rfl⟩ rfl rfl rfl rfl rfl (by kernel_rfl) Try.func5 (by kernel_rfl)
    (of_decide_eq_true (by kernel_rfl)) (by unfold Func.isWrapper; first | (rw [if_pos (by decide +kernel)]; kernel_rfl) | (rw [if_neg (by decide +kernel)]; exact ⟨rfl, rfl⟩))
    (fun os started H enc _ => realsOrder_lifted os started H enc)
#print axioms realsOrder_holds

end Go.Proofs.Ytpojjcmhiccmfaa
