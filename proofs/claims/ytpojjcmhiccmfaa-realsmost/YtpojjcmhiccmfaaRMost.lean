/- RealsMost is proved: for every three words of 64 bits, the most of two is the reference's, is one of both, and hangs on no order of two or three. No condition. -/
import Derived.Test.YtpojjcmhiccmfaaRows
import Derived.Test.YtpojjcmhiccmfaaRlD
import Derived.ProofKit
import Derived.OpenShut
import Derived.ShutString
namespace Go.Proofs.Ytpojjcmhiccmfaa
open Go.ChangeShapes Go.WideShapes Go.ChangeAt Go.RowKit
open Go.ChangeMaps (open_string shut_string)

theorem Try.own : ownKnob Try.prog.godebug = none := by kernel_rfl
theorem Try.laidOut : laidOutB Try.prog = true := by kernel_rfl

set_option maxHeartbeats 1600000 in
set_option maxRecDepth 100000 in
theorem realsMost_walk (a b c : Nat) (ha : a < 18446744073709551616) (hb : b < 18446744073709551616) (hc : c < 18446744073709551616) (w : World) : Calls Try.prog 8 #[.int .u64 (a : Int), .int .u64 (b : Int), .int .u64 (c : Int)] w fun e w' => e = .returned (.bool true) ∧ Below w.heap.size w w' := by
  have hm := mostW_lt ha hb
  have hm2 := mostW_lt hb hc
  have e1 : (canW (mostW a b) == canW (mostW b a)) = true := by rw [same_rank hm (mostW_lt hb ha), rank_most, rank_most]; simp; omega
  have e2 : (canW (mostW (mostW a b) c) == canW (mostW a (mostW b c))) = true := by rw [same_rank (mostW_lt hm hc) (mostW_lt ha hm2)]; simp only [rank_most]; simp only [beq_iff_eq]; omega
  have e3 : (canW (mostW a b) == canW a) = false → (canW (mostW a b) == canW b) = true := by rw [same_rank hm ha, same_rank hm hb, rank_most]; simp; omega
  have HM := rhid hm
  have HN := rhid hm2
  clear hm hm2
  have HA := rhid ha
  have HB := rhid hb
  have HC := rhid hc
  clear ha hb hc
  have E1 := rhid e1
  have E2 := rhid e2
  clear e1 e2
  cases e4 : (canW (mostW a b) == canW a)
  · have E3 := rhid (e3 e4)
    clear e3
    have E4 := rhid e4
    clear e4
    go_enter Try.func8, Try.ntmps8
    go_wp2_with (first
      | (go_at_call 9; refine (rlives_any _).mono ?_; rintro e w1 ⟨rfl, rfl⟩)
      | (go_at_call 10; refine (of_any _ _).mono ?_; rintro e w1 ⟨rfl, rfl⟩)
      | (go_at_call 23; refine (most_any _ _ (by first | exact HA.out | exact HB.out | exact HC.out | exact HM.out | exact HN.out) (by first | exact HA.out | exact HB.out | exact HC.out | exact HM.out | exact HN.out) _).mono ?_; rintro e w1 ⟨rfl, rfl⟩)
      | rw [fb_run]
      | (go_at_call 24; refine (kmost_any _ _ (by first | exact HA.out | exact HB.out) (by first | exact HA.out | exact HB.out) _).mono ?_; rintro e w1 ⟨rfl, rfl⟩)
      | (go_at_call 19; refine (same_any _ _ _).mono ?_; rintro e w1 ⟨rfl, rfl⟩; (first | rw [E1.out] | rw [E2.out] | rw [E4.out] | rw [E3.out])))
    go_ret
    exact ⟨rfl, (Drawn.refl _).below⟩
  · clear e3
    have E4 := rhid e4
    clear e4
    go_enter Try.func8, Try.ntmps8
    go_wp2_with (first
      | (go_at_call 9; refine (rlives_any _).mono ?_; rintro e w1 ⟨rfl, rfl⟩)
      | (go_at_call 10; refine (of_any _ _).mono ?_; rintro e w1 ⟨rfl, rfl⟩)
      | (go_at_call 23; refine (most_any _ _ (by first | exact HA.out | exact HB.out | exact HC.out | exact HM.out | exact HN.out) (by first | exact HA.out | exact HB.out | exact HC.out | exact HM.out | exact HN.out) _).mono ?_; rintro e w1 ⟨rfl, rfl⟩)
      | rw [fb_run]
      | (go_at_call 24; refine (kmost_any _ _ (by first | exact HA.out | exact HB.out) (by first | exact HA.out | exact HB.out) _).mono ?_; rintro e w1 ⟨rfl, rfl⟩)
      | (go_at_call 19; refine (same_any _ _ _).mono ?_; rintro e w1 ⟨rfl, rfl⟩; (first | rw [E1.out] | rw [E2.out] | rw [E4.out])))
    go_ret
    exact ⟨rfl, (Drawn.refl _).below⟩

set_option maxRecDepth 100000 in
theorem realsMost_lifted (os : Os) (started : os.Started) (H : Type) (enc : TypeId × Value → H) :
    ReturnsInHanded {} Try.checked os 8 .any (Rows.realsMostSpec.pre6 enc Try.prog Try.f8 Rows.realsMostRow.domain false) (Rows.realsMostSpec.post enc Try.prog Try.f8 false true false false) := by
  refine returnsInHanded_of_change (C := Try.checked) Try.own started (by kernel_rfl) Try.func8
    (ChangeSpec.witness6 (enc := enc) (C := Try.checked) false ⟨#[], #[.int .u64 0, .int .u64 0, .int .u64 0], []⟩ 8 (by kernel_rfl) (by kernel_rfl) (by kernel_rfl) (by kernel_rfl)) ?_
  intro W base args ds gs before hval0 hW hcnd _
  have hval : ∀ (j : Nat) t v, Try.f8.params[j]? = some t → args[j]? = some v → Value.okWide Try.prog W .any base t v := hval0
  have hW' := hW
  obtain ⟨p, q, hA0, hV, rfl, hfz, hnd⟩ := hW
  have hA : DataW.TrodAll enc Try.prog W 0 (fun _ => true) true Try.f8.params.toList args.toList ds p := hA0
  rw [Try.params8] at hA hval
  obtain ⟨v0, vs0, d0, ds0, p0, q0, hargs, rfl, rfl, h0, r0⟩ := trodAll_cons hA
  obtain ⟨v1, vs1, d1, ds1, p1, q1, rfl, rfl, rfl, h1, r1⟩ := trodAll_cons r0
  obtain ⟨v2, vs2, d2, ds2, p2, q2, rfl, rfl, rfl, h2, r2⟩ := trodAll_cons r1
  obtain ⟨rfl, rfl, rfl⟩ := trodAll_nil r2
  obtain rfl : args = #[v0, v1, v2] := by cases args; simp_all
  obtain ⟨rfl, rfl⟩ := trodVars_none hV
  obtain ⟨a0, rfl, rfl, rfl, w0⟩ := open_int Try.underlying22 (hval 0 22 v0 rfl rfl) h0
  obtain ⟨n0, rfl, k0⟩ := u64_nat w0
  obtain ⟨a1, rfl, rfl, rfl, w1⟩ := open_int Try.underlying22 (hval 1 22 v1 rfl rfl) h1
  obtain ⟨n1, rfl, k1⟩ := u64_nat w1
  obtain ⟨a2, rfl, rfl, rfl, w2⟩ := open_int Try.underlying22 (hval 2 22 v2 rfl rfl) h2
  obtain ⟨n2, rfl, k2⟩ := u64_nat w2
  clear hA0 hval0
  simp only [List.append_nil] at hW'
  refine (realsMost_walk n0 n1 n2 k0 k1 k2 W).mono fun e W' ⟨he, bel⟩ => ?_
  subst he
  exact ⟨_, rfl, _, _, _, [], [], [], hW', trodAll_mk1 (shut_bool Try.underlying4 _), (trodAll_cons_mk (shut_int Try.underlying22 w0) (trodAll_cons_mk (shut_int Try.underlying22 w1) (trodAll_cons_mk (shut_int Try.underlying22 w2) trodAll_mk0))), rfl, bel.frame _, fun h => by cases h⟩

theorem realsMost_holds : Rows.RealsMostSaid :=
  OpenClaim.holds_of_wide 8 Try.f8 rfl rfl rfl rfl rfl rfl rfl ⟨rfl, rfl, rfl, rfl, rfl⟩ rfl rfl rfl rfl rfl (by kernel_rfl) Try.func8 (by kernel_rfl)
    (of_decide_eq_true (by kernel_rfl)) (by unfold Func.isWrapper; first | (rw [if_pos (by decide +kernel)]; kernel_rfl) | (rw [if_neg (by decide +kernel)]; exact ⟨rfl, rfl⟩))
    (fun os started H enc _ => realsMost_lifted os started H enc)
#print axioms realsMost_holds

end Go.Proofs.Ytpojjcmhiccmfaa
