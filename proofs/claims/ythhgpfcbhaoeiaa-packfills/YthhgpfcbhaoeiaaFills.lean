/- PackFills is proved: for every two numbers, just as many bytes go into a writer as its limit says, and the first one beyond it is the error that stays. No condition. -/
import Derived.Test.YthhgpfcbhaoeiaaRows
import Derived.Test.YthhgpfcbhaoeiaaPkL
import Derived.ProofKit
import Derived.OpenShut
namespace Go.Proofs.Ythhgpfcbhaoeiaa
open Go.ChangeShapes Go.WideShapes Go.ChangeAt Go.RowKit

theorem Try.own : ownKnob Try.prog.godebug = none := by kernel_rfl

/-- One byte more. -/
theorem fill_step (m k : Nat) (l : List UInt8) (er : Int) (hl : l.length = min k m) (he : (k ≤ m ∧ er = 0) ∨ (m < k ∧ er = 3)) (n : Int) (hn : 0 ≤ n ∧ n < 256) :
    (wL m l er 1 n).length = min (k + 1) m ∧ ((k + 1 ≤ m ∧ wE m l er 1 n = 0) ∨ (m < k + 1 ∧ wE m l er 1 n = 3)) := by
  have hr : inR 1 n = true := by simp [inR]; omega
  unfold wL wE
  rw [hr]
  rcases he with ⟨h1, rfl⟩ | ⟨h1, rfl⟩
  · by_cases h2 : k < m
    · have e : adm m l.length 0 true (1 : Nat) = 0 := adm_ok _ _ _ (by omega)
      rw [e]
      simp [be_len]
      omega
    · have e : adm m l.length 0 true (1 : Nat) = 3 := adm_long _ _ _ (by omega)
      rw [e]
      simp
      omega
  · have e : adm m l.length 3 true (1 : Nat) = 3 := adm_er _ _ _ _ _ (by decide)
    rw [e]
    simp
    omega

theorem mod300 (a : Int) : 0 ≤ wrap64 ((IntKind.u64.wrap a).tmod 300) ∧ wrap64 ((IntKind.u64.wrap a).tmod 300) ≤ 299 := by
  rw [IntKind.wrap_u64, Int.tmod_eq_emod_of_nonneg (by omega), wrap64]
  omega

set_option maxRecDepth 100000 in
set_option maxHeartbeats 3200000 in
theorem packFills_low (a0 a1 : Int) (w : World) (L : Int) (hL : wrap64 ((IntKind.u64.wrap a0).tmod 300) = L) (l0 : 0 ≤ L) (hlo : L < 4) (c : Nat) (hc : wrap64 ((IntKind.u64.wrap a1).tmod 300) = (c : Int)) (c1 : c ≤ 299) :
    Calls Try.prog 8 #[.int .i64 a0, .int .i64 a1] w fun e w' => e = .returned (.bool true) ∧ Below w.heap.size w w' := by
  have HM : Hid (max (L - 4) 0 = max ((0 : Nat) : Int) 0) := by unfold Hid; omega
  go_enter Try.func8, Try.ntmps8
  go_wp2_with fail
  refine (lives_any w).mono ?_
  rintro e w1 ⟨rfl, hb⟩
  have HB := hid hb
  clear hb
  go_wp2_with fail
  refine (new_any _ w1).mono ?_
  rintro e w2 ⟨rfl, hw2⟩
  have hr2 : WrAt w2 w1.heap.size (.slice none 0 0) (0 : Nat) [] 0 := by rw [hw2, HM.out]; have := new_wr (0 : Nat) w1; rw [show max ((0 : Nat) : Int) 0 = ((0 : Nat) : Int) by omega] at this; exact this
  have hb2 : Below w.heap.size w w2 := by rw [hw2]; exact HB.out.alloc (HB.out.size) _
  have H2 := hid (And.intro hr2 (And.intro HB.out.size hb2))
  clear hw2 hr2 hb2
  go_wp2_with fail
  go_loopw [7] (fun i wr => ∃ (k : Nat) (l : List UInt8) (er : Int) (v : Value), k ≤ c ∧ i = .int .i64 k ∧ l.length = min k (0 : Nat) ∧ ((k ≤ (0 : Nat) ∧ er = 0) ∨ ((0 : Nat) < k ∧ er = 3)) ∧ WrAt wr w1.heap.size v (0 : Nat) l er ∧ Below w.heap.size w wr)
    (fun i _ => c - (intOf i).toNat)
  case atStart => exact ⟨0, [], 0, .slice none 0 0, Nat.zero_le _, rfl, by simp, .inl ⟨Nat.zero_le _, rfl⟩, H2.out.1, H2.out.2.2⟩
  case round =>
    obtain ⟨k, l, er, v, hk, rfl, hl, her, hwr, hbel⟩ := hrel
    have HR := hid (And.intro hl (And.intro her (And.intro hwr hbel)))
    have HZ := hid H2.out.2.1
    have hll : l.length ≤ 300 := by omega
    clear hl her hwr hbel
    by_cases hlt : k < c
    · have hi : (k : Int) < (c : Int) := by omega
      have h256 : (0 : Int) ≤ (k : Int) % 256 ∧ (k : Int) % 256 < 256 := by omega
      have ST := hid (fill_step 0 k l er HR.out.1 HR.out.2.1 ((k : Int) % 256) h256)
      clear h256
      go_wp2_with fail
      refine (wbyte_any w1.heap.size v (0 : Nat) l er _ wr HR.out.2.2.1 (by omega) (by omega) (by omega) (by omega)).mono ?_
      rintro e w3 ⟨rfl, v3, hr3, hk3, -⟩
      have hb3 : Below w.heap.size w w3 := HR.out.2.2.2.trans (hk3.below (by have := HR.out.2.2.2.size; omega) HZ.out (fun g hg => by have := (HR.out.2.2.1.own.lt g hg).1; have := HZ.out; omega))
      have H3 := hid (And.intro hr3 hb3)
      clear hr3 hk3 hb3
      go_wp2_with fail
      refine (len_any w1.heap.size v3 _ _ _ w3 H3.out.1).mono ?_
      rintro e w4 ⟨rfl, rfl⟩
      have e : min (k + 1) 0 = 0 := by omega
      rw [ST.out.1, e]
      clear e
      go_wp2
      go_roundw
      case rel => exact ⟨k + 1, _, _, v3, by omega, by go_num, ST.out.1, ST.out.2, H3.out.1, H3.out.2⟩
      case measure => simp [intOf]; omega
    · have hkc : k = c := by omega
      rcases HR.out.2.1 with ⟨hkm, her⟩ | ⟨hkm, her⟩
      · subst her
        have hcm : (c : Int) ≤ ((0 : Nat) : Int) := by omega
        have hll2 : l.length = c := by have := HR.out.1; omega
        go_wp2_with fail
        refine (done_ok w1.heap.size v _ l wr HR.out.2.2.1).mono ?_
        rintro e w4 ⟨rfl, rfl⟩
        have hlz : (ByteArray.mk l.toArray).size = c := by rw [← hll2]; simp [ByteArray.size]
        have HL := hid hll2
        clear hll2 hll hkc
        go_wp2
        go_ret
        exact ⟨rfl, HR.out.2.2.2⟩
      · subst her
        have hcm : ((0 : Nat) : Int) < (c : Int) := by omega
        go_wp2_with fail
        refine (done_err w1.heap.size v _ l 3 wr HR.out.2.2.1 (by decide)).mono ?_
        rintro e w4 ⟨rfl, hw4⟩
        have hb4 : Below w.heap.size w w4 := by rw [hw4]; exact HR.out.2.2.2.drew
        have H4 := hid hb4
        clear hb4 hw4 hkc
        go_wp2
        go_ret
        exact ⟨rfl, H4.out⟩

set_option maxRecDepth 100000 in
set_option maxHeartbeats 3200000 in
theorem packFills_high (a0 a1 : Int) (w : World) (m : Nat) (hL : wrap64 ((IntKind.u64.wrap a0).tmod 300) = (m : Int) + 4) (hm : m ≤ 295) (c : Nat) (hc : wrap64 ((IntKind.u64.wrap a1).tmod 300) = (c : Int)) (c1 : c ≤ 299) :
    Calls Try.prog 8 #[.int .i64 a0, .int .i64 a1] w fun e w' => e = .returned (.bool true) ∧ Below w.heap.size w w' := by
  go_enter Try.func8, Try.ntmps8
  go_wp2_with fail
  refine (lives_any w).mono ?_
  rintro e w1 ⟨rfl, hb⟩
  have HB := hid hb
  clear hb
  go_wp2_with fail
  refine (new_any _ w1).mono ?_
  rintro e w2 ⟨rfl, hw2⟩
  have hr2 : WrAt w2 w1.heap.size (.slice none 0 0) (m : Nat) [] 0 := by rw [hw2]; have := new_wr (m : Nat) w1; rw [show max ((m : Nat) : Int) 0 = ((m : Nat) : Int) by omega] at this ⊢; exact this
  have hb2 : Below w.heap.size w w2 := by rw [hw2]; exact HB.out.alloc (HB.out.size) _
  have H2 := hid (And.intro hr2 (And.intro HB.out.size hb2))
  clear hw2 hr2 hb2
  go_wp2_with fail
  go_loopw [7] (fun i wr => ∃ (k : Nat) (l : List UInt8) (er : Int) (v : Value), k ≤ c ∧ i = .int .i64 k ∧ l.length = min k (m : Nat) ∧ ((k ≤ (m : Nat) ∧ er = 0) ∨ ((m : Nat) < k ∧ er = 3)) ∧ WrAt wr w1.heap.size v (m : Nat) l er ∧ Below w.heap.size w wr)
    (fun i _ => c - (intOf i).toNat)
  case atStart => exact ⟨0, [], 0, .slice none 0 0, Nat.zero_le _, rfl, by simp, .inl ⟨Nat.zero_le _, rfl⟩, H2.out.1, H2.out.2.2⟩
  case round =>
    obtain ⟨k, l, er, v, hk, rfl, hl, her, hwr, hbel⟩ := hrel
    have HR := hid (And.intro hl (And.intro her (And.intro hwr hbel)))
    have HZ := hid H2.out.2.1
    have hll : l.length ≤ 300 := by omega
    clear hl her hwr hbel
    by_cases hlt : k < c
    · have hi : (k : Int) < (c : Int) := by omega
      have h256 : (0 : Int) ≤ (k : Int) % 256 ∧ (k : Int) % 256 < 256 := by omega
      have ST := hid (fill_step m k l er HR.out.1 HR.out.2.1 ((k : Int) % 256) h256)
      clear h256
      go_wp2_with fail
      refine (wbyte_any w1.heap.size v (m : Nat) l er _ wr HR.out.2.2.1 (by omega) (by omega) (by omega) (by omega)).mono ?_
      rintro e w3 ⟨rfl, v3, hr3, hk3, -⟩
      have hb3 : Below w.heap.size w w3 := HR.out.2.2.2.trans (hk3.below (by have := HR.out.2.2.2.size; omega) HZ.out (fun g hg => by have := (HR.out.2.2.1.own.lt g hg).1; have := HZ.out; omega))
      have H3 := hid (And.intro hr3 hb3)
      clear hr3 hk3 hb3
      go_wp2_with fail
      refine (len_any w1.heap.size v3 _ _ _ w3 H3.out.1).mono ?_
      rintro e w4 ⟨rfl, rfl⟩
      by_cases hmk : k + 1 ≤ m
      · have hmi : (k : Int) + 1 ≤ (m : Int) := by omega
        have e : min (k + 1) m = k + 1 := by omega
        rw [ST.out.1, e]
        clear e
        go_wp2
        go_roundw
        case rel => exact ⟨k + 1, _, _, v3, by omega, by go_num, ST.out.1, ST.out.2, H3.out.1, H3.out.2⟩
        case measure => simp [intOf]; omega
      · have hmi : (m : Int) < (k : Int) + 1 := by omega
        have e : min (k + 1) m = m := by omega
        rw [ST.out.1, e]
        clear e
        go_wp2
        go_roundw
        case rel => exact ⟨k + 1, _, _, v3, by omega, by go_num, ST.out.1, ST.out.2, H3.out.1, H3.out.2⟩
        case measure => simp [intOf]; omega
    · have hkc : k = c := by omega
      rcases HR.out.2.1 with ⟨hkm, her⟩ | ⟨hkm, her⟩
      · subst her
        have hcm : (c : Int) ≤ ((m : Nat) : Int) := by omega
        have hll2 : l.length = c := by have := HR.out.1; omega
        go_wp2_with fail
        refine (done_ok w1.heap.size v _ l wr HR.out.2.2.1).mono ?_
        rintro e w4 ⟨rfl, rfl⟩
        have hlz : (ByteArray.mk l.toArray).size = c := by rw [← hll2]; simp [ByteArray.size]
        have HL := hid hll2
        clear hll2 hll hkc
        go_wp2
        go_ret
        exact ⟨rfl, HR.out.2.2.2⟩
      · subst her
        have hcm : ((m : Nat) : Int) < (c : Int) := by omega
        go_wp2_with fail
        refine (done_err w1.heap.size v _ l 3 wr HR.out.2.2.1 (by decide)).mono ?_
        rintro e w4 ⟨rfl, hw4⟩
        have hb4 : Below w.heap.size w w4 := by rw [hw4]; exact HR.out.2.2.2.drew
        have H4 := hid hb4
        clear hb4 hw4 hkc
        go_wp2
        go_ret
        exact ⟨rfl, H4.out⟩

theorem packFills_walk (a0 a1 : Int) (w : World) : Calls Try.prog 8 #[.int .i64 a0, .int .i64 a1] w fun e w' => e = .returned (.bool true) ∧ Below w.heap.size w w' := by
  have h0 := mod300 a0
  have h1 := mod300 a1
  by_cases hlo : wrap64 ((IntKind.u64.wrap a0).tmod 300) < 4
  · exact packFills_low a0 a1 w _ rfl h0.1 hlo (wrap64 ((IntKind.u64.wrap a1).tmod 300)).toNat (by omega) (by omega)
  · exact packFills_high a0 a1 w (wrap64 ((IntKind.u64.wrap a0).tmod 300) - 4).toNat (by omega) (by omega) (wrap64 ((IntKind.u64.wrap a1).tmod 300)).toNat (by omega) (by omega)

set_option maxRecDepth 100000 in
theorem packFills_lifted (os : Os) (started : os.Started) (H : Type) (enc : TypeId × Value → H) :
    ReturnsInHanded {} Try.checked os 8 .any (Rows.packFillsSpec.pre6 enc Try.prog Try.f8 Rows.packFillsRow.domain false) (Rows.packFillsSpec.post enc Try.prog Try.f8 false true false false) := by
  refine returnsInHanded_of_change (C := Try.checked) Try.own started (by kernel_rfl) Try.func8
    (ChangeSpec.witness6 (enc := enc) (C := Try.checked) false ⟨#[], #[.int .i64 0, .int .i64 0], []⟩ 8 (by kernel_rfl) (by kernel_rfl) (by kernel_rfl) (by kernel_rfl)) ?_
  intro W base args ds gs before hval0 hW hcnd _
  have hval : ∀ (j : Nat) t v, Try.f8.params[j]? = some t → args[j]? = some v → Value.okWide Try.prog W .any base t v := hval0
  have hW' := hW
  obtain ⟨p, q, hA0, hV, rfl, hfz, hnd⟩ := hW
  have hA : DataW.TrodAll enc Try.prog W 0 (fun _ => true) true Try.f8.params.toList args.toList ds p := hA0
  rw [Try.params8] at hA hval
  obtain ⟨v0, vs0, d0, ds0, p0, q0, hargs, rfl, rfl, h0, r0⟩ := trodAll_cons hA
  obtain ⟨v1, vs1, d1, ds1, p1, q1, rfl, rfl, rfl, h1, r1⟩ := trodAll_cons r0
  obtain ⟨rfl, rfl, rfl⟩ := trodAll_nil r1
  obtain rfl : args = #[v0, v1] := by cases args; simp_all
  obtain ⟨rfl, rfl⟩ := trodVars_none hV
  obtain ⟨a0, rfl, rfl, rfl, w0⟩ := open_int Try.underlying3 (hval 0 3 v0 rfl rfl) h0
  obtain ⟨a1, rfl, rfl, rfl, w1⟩ := open_int Try.underlying3 (hval 1 3 v1 rfl rfl) h1
  clear hA0 hval0
  simp only [List.append_nil] at hW'
  refine (packFills_walk a0 a1 W).mono fun e W' ⟨he, bel⟩ => ?_
  subst he
  exact ⟨_, rfl, _, _, _, [], [], [], hW', trodAll_mk1 (shut_bool Try.underlying4 _), (trodAll_cons_mk (shut_int Try.underlying3 w0) (trodAll_cons_mk (shut_int Try.underlying3 w1) trodAll_mk0)), rfl, bel.frame _, fun h => by cases h⟩

theorem packFills_holds : Rows.PackFillsSaid :=
  OpenClaim.holds_of_wide 8 Try.f8 rfl rfl rfl rfl rfl rfl rfl ⟨rfl, rfl, rfl, rfl, rfl⟩ rfl rfl rfl rfl rfl (by kernel_rfl) Try.func8 (by kernel_rfl)
    (of_decide_eq_true (by kernel_rfl)) (by unfold Func.isWrapper; first | (rw [if_pos (by decide +kernel)]; kernel_rfl) | (rw [if_neg (by decide +kernel)]; exact ⟨rfl, rfl⟩))
    (fun os started H enc _ => packFills_lifted os started H enc)
#print axioms packFills_holds

end Go.Proofs.Ythhgpfcbhaoeiaa
