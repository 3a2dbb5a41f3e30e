/- RealsEdges is proved: for every two words of 64 bits: a sum hangs on no order, -0 added changes no real, and a sum is the NaN just where there is none. No condition. -/
import Derived.Test.YtpojjcmhiccmfaaRows
import Derived.Test.YtpojjcmhiccmfaaRlD
import Derived.ProofKit
import Derived.OpenShut
import Derived.ShutString
namespace Go.Proofs.Ytpojjcmhiccmfaa
open Go.ChangeShapes Go.WideShapes Go.ChangeAt Go.RowKit
open Go.ChangeMaps (open_string shut_string)

theorem Try.own : ownKnob Try.prog.godebug = none := by kernel_rfl
theorem Try.laidOut : laidOutB Try.prog = true := by kernel_rfl

theorem ord_iff (n : Nat) : FloatKind.f64.format.order n n = some Ordering.eq ↔ nanW n = false := by
  have h := order_self n
  rw [Bool.eq_iff_iff] at h
  simp at h
  exact h
set_option maxRecDepth 100000 in
set_option maxHeartbeats 1600000 in
theorem realsEdges_walk (a b : Nat) (ha : a < 18446744073709551616) (hb : b < 18446744073709551616) (w : World) : Calls Try.prog 7 #[.int .u64 (a : Int), .int .u64 (b : Int)] w fun e w' => e = .returned (.bool true) ∧ Below w.heap.size w w' := by
  have e1 : (canW (addW a b) == canW (addW b a)) = true := by rw [addW_comm b a]; simp
  have e2 := add_zero_same ha
  have e3 := (sum_nan a b).trans (wild_eq ha hb)
  have i1 : infW 1 = 9218868437227405312 := rfl
  have i2 : infW (-1) = 18442240474082181120 := rfl
  have E1 := rhid e1
  have E2 := rhid e2
  clear e1 e2
  have HA := rhid ha
  have HB := rhid hb
  clear ha hb
  go_enter Try.func7, Try.ntmps7
  go_wp2_with (first
    | (go_at_call 9; refine (rlives_any _).mono ?_; rintro e w1 ⟨rfl, rfl⟩)
    | (go_at_call 10; refine (of_any _ _).mono ?_; rintro e w1 ⟨rfl, rfl⟩))
  refine (add_any _ _ _).mono ?_
  rintro e w2 ⟨rfl, hd⟩
  have D1 := rhid hd
  clear hd
  generalize h4 : (canW (addW a b) == canW 9221120237041090560) = nn at e3
  generalize h5 : (canW a == canW 9218868437227405312) = au at e3
  generalize h6 : (canW b == canW 18442240474082181120) = bd at e3
  generalize h7 : (canW a == canW 18442240474082181120) = ad at e3
  generalize h8 : (canW b == canW 9218868437227405312) = bu at e3
  go_wp2_with (first
    | (go_at_call 10; refine (of_any _ _).mono ?_; rintro e w1 ⟨rfl, rfl⟩)
    | (go_at_call 19; refine (same_any _ _ _).mono ?_; rintro e w1 ⟨rfl, rfl⟩; (first | rw [h4] | rw [h5] | rw [h6] | rw [h7] | rw [h8]))
    | (go_at_call 22; refine (inf_any _ _).mono ?_; rintro e w1 ⟨rfl, rfl⟩; (first | rw [i1] | rw [i2])))
  all_goals (
    refine (add_any _ _ _).mono ?_
    rintro e w3 ⟨rfl, hd⟩
    have D2 := rhid hd
    clear hd
    go_wp2_with (first
      | (go_at_call 10; refine (of_any _ _).mono ?_; rintro e w1 ⟨rfl, rfl⟩)
      | (go_at_call 19; refine (same_any _ _ _).mono ?_; rintro e w1 ⟨rfl, rfl⟩; rw [E1.out]))
    refine (add_any _ _ _).mono ?_
    rintro e w4 ⟨rfl, hd⟩
    have D3 := rhid hd
    clear hd
    go_wp2_with (go_at_call 19; refine (same_any _ _ _).mono ?_; rintro e w1 ⟨rfl, rfl⟩; rw [E2.out])
    go_ret
    refine ⟨?_, ((D1.out.trans D2.out).trans D3.out).below⟩
    show Ending.returned (.bool _) = _
    have oa := ord_iff a
    have ob := ord_iff b
    clear D1 D2 D3 h4 h5 h6 h7 h8 i1 i2 E1 E2 HA HB e3
    first
      | rfl
      | simp_all)

set_option maxRecDepth 100000 in
theorem realsEdges_lifted (os : Os) (started : os.Started) (H : Type) (enc : TypeId × Value → H) :
    ReturnsInHanded {} Try.checked os 7 .any (Rows.realsEdgesSpec.pre6 enc Try.prog Try.f7 Rows.realsEdgesRow.domain false) (Rows.realsEdgesSpec.post enc Try.prog Try.f7 false true false false) := by
  refine returnsInHanded_of_change (C := Try.checked) Try.own started (by kernel_rfl) Try.func7
    (ChangeSpec.witness6 (enc := enc) (C := Try.checked) false ⟨#[], #[.int .u64 0, .int .u64 0], []⟩ 8 (by kernel_rfl) (by kernel_rfl) (by kernel_rfl) (by kernel_rfl)) ?_
  intro W base args ds gs before hval0 hW hcnd _
  have hval : ∀ (j : Nat) t v, Try.f7.params[j]? = some t → args[j]? = some v → Value.okWide Try.prog W .any base t v := hval0
  have hW' := hW
  obtain ⟨p, q, hA0, hV, rfl, hfz, hnd⟩ := hW
  have hA : DataW.TrodAll enc Try.prog W 0 (fun _ => true) true Try.f7.params.toList args.toList ds p := hA0
  rw [Try.params7] at hA hval
  obtain ⟨v0, vs0, d0, ds0, p0, q0, hargs, rfl, rfl, h0, r0⟩ := trodAll_cons hA
  obtain ⟨v1, vs1, d1, ds1, p1, q1, rfl, rfl, rfl, h1, r1⟩ := trodAll_cons r0
  obtain ⟨rfl, rfl, rfl⟩ := trodAll_nil r1
  obtain rfl : args = #[v0, v1] := by cases args; simp_all
  obtain ⟨rfl, rfl⟩ := trodVars_none hV
  obtain ⟨a0, rfl, rfl, rfl, w0⟩ := open_int Try.underlying22 (hval 0 22 v0 rfl rfl) h0
  obtain ⟨n0, rfl, k0⟩ := u64_nat w0
  obtain ⟨a1, rfl, rfl, rfl, w1⟩ := open_int Try.underlying22 (hval 1 22 v1 rfl rfl) h1
  obtain ⟨n1, rfl, k1⟩ := u64_nat w1
  clear hA0 hval0
  simp only [List.append_nil] at hW'
  refine (realsEdges_walk n0 n1 k0 k1 W).mono fun e W' ⟨he, bel⟩ => ?_
  subst he
  exact ⟨_, rfl, _, _, _, [], [], [], hW', trodAll_mk1 (shut_bool Try.underlying4 _), (trodAll_cons_mk (shut_int Try.underlying22 w0) (trodAll_cons_mk (shut_int Try.underlying22 w1) trodAll_mk0)), rfl, bel.frame _, fun h => by cases h⟩

theorem realsEdges_holds : Rows.RealsEdgesSaid :=
  OpenClaim.holds_of_wide 7 Try.f7 rfl rfl rfl rfl rfl rfl rfl ⟨rfl, rfl, rfl, rfl, rfl⟩ rfl rfl rfl rfl rfl (by kernel_rfl) Try.func7 (by kernel_rfl)
    (of_decide_eq_true (by kernel_rfl)) (by unfold Func.isWrapper; first | (rw [if_pos (by decide +kernel)]; kernel_rfl) | (rw [if_neg (by decide +kernel)]; exact ⟨rfl, rfl⟩))
    (fun os started H enc _ => realsEdges_lifted os started H enc)
#print axioms realsEdges_holds

end Go.Proofs.Ytpojjcmhiccmfaa
