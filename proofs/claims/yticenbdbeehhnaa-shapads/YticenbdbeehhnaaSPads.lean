/- The padding of any number of bytes: the walk. -/
import Derived.Test.YticenbdbeehhnaaShM
import Derived.Test.YticenbdbeehhnaaRows
import Derived.OpenShut
namespace Go.Proofs.Yticenbdbeehhnaa
open Go.RowKit

set_option maxRecDepth 100000 in
set_option maxHeartbeats 1600000 in
theorem shaPads_bad (n : Int) (h0 : -9223372036854775808 ≤ n) (h1 : n ≤ 9223372036854775807) (h : n < 0 ∨ 4294967296 < n) (w : World) :
    Calls Try.prog 4 #[.int .i64 n] w fun e w' => e = .returned (.bool true) ∧ Below w.heap.size w w' := by
  have HP : Hid (∀ u, Calls Try.prog 12 #[.int .i64 n] u fun e w' => e = .returned (.tuple #[.string ⟨#[]⟩, .bool false]) ∧ w' = u) := hid (spad_no n h0 h1 h)
  clear h0 h1
  by_cases hn : n < 0
  · clear h
    go_enter Try.func4, Try.ntmps4
    go_wp2_with (first
      | (go_at_call 8; refine (slives_any _).mono ?_; rintro e w1 ⟨rfl, hb1⟩; have HB1 := hid hb1; clear hb1)
      | (go_at_call 12; refine (HP.out _).mono ?_; rintro e w2 ⟨rfl, rfl⟩))
    go_ret
    exact ⟨rfl, HB1.out⟩
  · have hg : 4294967296 < n := by omega
    clear h
    go_enter Try.func4, Try.ntmps4
    go_wp2_with (first
      | (go_at_call 8; refine (slives_any _).mono ?_; rintro e w1 ⟨rfl, hb1⟩; have HB1 := hid hb1; clear hb1)
      | (go_at_call 12; refine (HP.out _).mono ?_; rintro e w2 ⟨rfl, rfl⟩))
    go_ret
    exact ⟨rfl, HB1.out⟩

set_option maxRecDepth 100000 in
set_option maxHeartbeats 1600000 in
theorem shaPads_ok (n : Nat) (h : n ≤ 4294967296) (w : World) :
    Calls Try.prog 4 #[.int .i64 (n : Int)] w fun e w' => e = .returned (.bool true) ∧ Below w.heap.size w w' := by
  obtain ⟨T, eT⟩ : ∃ T, T = padB n := ⟨_, rfl⟩
  have HP : Hid (∀ u, Calls Try.prog 12 #[.int .i64 (n : Int)] u fun e w' => e = .returned (.tuple #[.string ⟨T.toArray⟩, .bool true]) ∧ Below u.heap.size u w') := hid (by rw [eT]; exact spad_ok n h)
  have HQ : Hid (∀ u, Calls Try.prog 13 #[.int .i64 (n : Int)] u fun e w' => ∃ v, e = .returned v ∧ Owned u.heap.size u w' v T) := hid (by rw [eT]; exact qpad_any n (by omega))
  obtain ⟨c, ec⟩ : ∃ c, c = T.length := ⟨_, rfl⟩
  have hs : (⟨T.toArray⟩ : ByteArray).size = c := by show T.toArray.size = c; rw [List.size_toArray, ec]
  have hc : c = 9 + zerosN n := by rw [ec, eT, padB_len]
  have hz := zerosN_lt n
  have hm : ((n : Int) + (c : Int)) % 64 = 0 := by rw [hc]; unfold zerosN; omega
  have hc1 : (9 : Int) ≤ (c : Int) := by omega
  have hc2 : (c : Int) ≤ 72 := by omega
  have hn0 : (0 : Int) ≤ (n : Int) := Int.natCast_nonneg _
  have hn1 : (n : Int) ≤ 4294967296 := by omega
  clear h eT ec hc hz
  go_enter Try.func4, Try.ntmps4
  go_wp2_with (first
    | (go_at_call 8; refine (slives_any _).mono ?_; rintro e w1 ⟨rfl, hb1⟩; have HB1 := hid hb1; clear hb1)
    | (go_at_call 12; refine (HP.out _).mono ?_; rintro e w2 ⟨rfl, hb2⟩; have HB2 := hid (HB1.out.trans (hb2.mono HB1.out.size)); clear hb2)
    | (go_at_call 13; refine (HQ.out _).mono ?_; rintro e w3 ⟨v, rfl, hO⟩; have HB3 := hid (HB2.out.trans (hO.bel.mono HB2.out.size)); have HV := hid hO.text; clear hO)
    | rw [HV.out])
  go_ret
  exact ⟨rfl, HB3.out⟩

theorem shaPads_walk (n : Int) (hn : (Lit.int .i64 n).wf = true) (w : World) :
    Calls Try.prog 4 #[.int .i64 n] w fun e w' => e = .returned (.bool true) ∧ Below w.heap.size w w' := by
  have hb := bounds_i64 hn
  by_cases h : n < 0 ∨ 4294967296 < n
  · exact shaPads_bad n hb.1 hb.2 h w
  · obtain ⟨m, rfl⟩ : ∃ m : Nat, n = (m : Int) := ⟨n.toNat, by omega⟩
    exact shaPads_ok m (by omega) w
end Go.Proofs.Yticenbdbeehhnaa
