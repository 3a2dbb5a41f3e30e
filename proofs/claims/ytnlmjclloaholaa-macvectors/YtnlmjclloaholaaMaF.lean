/- Pair, Check; what the laws ask first. -/
import Derived.Test.YtnlmjclloaholaaMaE
namespace Go.Proofs.Ytnlmjclloaholaa
open Go.RowKit

theorem isNode_at (n : Int) (c : Bool) (h : nodeB n = c) (w : World) : Calls Try.prog 25 #[.int .i64 n] w fun e w' => e = .returned (.bool c) ∧ w' = w := by
  rw [← h]; exact isNode_any n w
theorem nodeB_nat (a : Nat) (h : a < 200) : nodeB (a : Int) = true := nodeB_yes (Int.natCast_nonneg _) (by omega)

theorem pair_yes (s : ByteArray) (hs : s.size ≤ 1000000) (a b : Nat) (ha : a < 200) (hb : b < 200) (w : World) :
    Calls Try.prog 13 #[.string s, .int .i64 (a : Int), .int .i64 (b : Int)] w fun e w' => e = .returned (.tuple #[.string ⟨(pairB s.data.toList a b).toArray⟩, .int .i64 0]) ∧ Below w.heap.size w w' := by
  have HN := hid (And.intro (nodeB_nat a ha) (nodeB_nat b hb))
  obtain ⟨K, eK⟩ : ∃ K : ByteArray, K = ⟨(pairB s.data.toList a b).toArray⟩ := ⟨_, rfl⟩
  have HP : Hid (∀ u : World, Calls Try.prog 26 #[.string s, .int .i64 (a : Int), .int .i64 (b : Int)] u fun e w' => e = .returned (.string K) ∧ Below u.heap.size u w') := hid (fun u => by rw [eK]; exact pairKey_le s hs a b ha hb u)
  rw [← eK]
  clear eK hs ha hb
  go_enter Try.func13, Try.ntmps13
  go_wp2_with (first
    | (go_at_call 25; have := M1; refine (isNode_at _ true (by exact HN.out.2) _).mono ?_; rintro e wx ⟨rfl, rfl⟩)
    | (go_at_call 25; refine (isNode_at _ true (by exact HN.out.1) _).mono ?_; rintro e wx ⟨rfl, rfl⟩; have M1 := hid True.intro)
    | (go_at_call 26; refine (HP.out _).mono ?_; rintro e w1 ⟨rfl, hb1⟩; have H1 := hid hb1; clear hb1))
  go_ret2
  exact ⟨rfl, H1.out⟩
theorem pair_no (s : ByteArray) (a b : Int) (h : (nodeB a && nodeB b) = false) (w : World) :
    Calls Try.prog 13 #[.string s, .int .i64 a, .int .i64 b] w fun e w' => e = .returned (.tuple #[.string ⟨#[]⟩, .int .i64 1]) ∧ w' = w := by
  cases ha : nodeB a with
  | false =>
    have HN := hid ha
    clear ha h
    go_enter Try.func13, Try.ntmps13
    go_wp2_with (go_at_call 25; refine (isNode_at _ false (by exact HN.out) _).mono ?_; rintro e wx ⟨rfl, rfl⟩)
    go_ret2
    exact ⟨rfl, rfl⟩
  | true =>
    have hb : nodeB b = false := by simpa [ha] using h
    have HN := hid (And.intro ha hb)
    clear ha hb h
    go_enter Try.func13, Try.ntmps13
    go_wp2_with (first
      | (go_at_call 25; have := M1; refine (isNode_at _ false (by exact HN.out.2) _).mono ?_; rintro e wx ⟨rfl, rfl⟩)
      | (go_at_call 25; refine (isNode_at _ true (by exact HN.out.1) _).mono ?_; rintro e wx ⟨rfl, rfl⟩; have M1 := hid True.intro))
    go_ret2
    exact ⟨rfl, rfl⟩

theorem check_yes (s : ByteArray) (hs : s.size ≤ 1000000) (a b : Nat) (ha : a < 200) (hb : b < 200) (t : ByteArray) (ht : t.size ≤ 100000) (x : ByteArray) (c : Bool) (hx : (x.toList == (⟨(tagB s.data.toList a b t.data.toList).toArray⟩ : ByteArray).toList) = c) (w : World) :
    Calls Try.prog 19 #[.string s, .int .i64 (a : Int), .int .i64 (b : Int), .string t, .string x] w fun e w' => e = .returned (.bool c) ∧ Below w.heap.size w w' := by
  have HN := hid (And.intro (nodeB_nat a ha) (nodeB_nat b hb))
  obtain ⟨T, eT⟩ : ∃ T : ByteArray, T = ⟨(tagB s.data.toList a b t.data.toList).toArray⟩ := ⟨_, rfl⟩
  have HP : Hid (∀ u : World, Calls Try.prog 29 #[.string s, .int .i64 (a : Int), .int .i64 (b : Int), .string t] u fun e w' => e = .returned (.string T) ∧ Below u.heap.size u w') := hid (fun u => by rw [eT]; exact tagOf_any s hs a b ha hb t ht u)
  rw [← eT] at hx
  have HX := hid hx
  clear eT hs ha hb ht hx
  go_enter Try.func19, Try.ntmps19
  go_wp2_with (first
    | (go_at_call 25; have := M1; refine (isNode_at _ true (by exact HN.out.2) _).mono ?_; rintro e wx ⟨rfl, rfl⟩)
    | (go_at_call 25; refine (isNode_at _ true (by exact HN.out.1) _).mono ?_; rintro e wx ⟨rfl, rfl⟩; have M1 := hid True.intro)
    | (go_at_call 29; refine (HP.out _).mono ?_; rintro e w1 ⟨rfl, hb1⟩; have H1 := hid hb1; clear hb1))
  go_ret
  exact ⟨(show Ending.returned (Value.bool (x.toList == T.toList)) = _ by rw [HX.out]), H1.out⟩
theorem check_no (s : ByteArray) (a b : Int) (h : (nodeB a && nodeB b) = false) (t x : ByteArray) (w : World) :
    Calls Try.prog 19 #[.string s, .int .i64 a, .int .i64 b, .string t, .string x] w fun e w' => e = .returned (.bool false) ∧ w' = w := by
  cases ha : nodeB a with
  | false =>
    have HN := hid ha
    clear ha h
    go_enter Try.func19, Try.ntmps19
    go_wp2_with (go_at_call 25; refine (isNode_at _ false (by exact HN.out) _).mono ?_; rintro e wx ⟨rfl, rfl⟩)
    go_ret
    exact ⟨rfl, rfl⟩
  | true =>
    have hb : nodeB b = false := by simpa [ha] using h
    have HN := hid (And.intro ha hb)
    clear ha hb h
    go_enter Try.func19, Try.ntmps19
    go_wp2_with (first
      | (go_at_call 25; have := M1; refine (isNode_at _ false (by exact HN.out.2) _).mono ?_; rintro e wx ⟨rfl, rfl⟩)
      | (go_at_call 25; refine (isNode_at _ true (by exact HN.out.1) _).mono ?_; rintro e wx ⟨rfl, rfl⟩; have M1 := hid True.intro))
    go_ret
    exact ⟨rfl, rfl⟩

theorem mlives_any (w : World) : Calls Try.prog 9 #[] w fun e w' => e = .returned (.bool true) ∧ Below w.heap.size w w' := by
  obtain ⟨T, eT⟩ : ∃ T : ByteArray, T = ⟨(macB foxKey foxText).toArray⟩ := ⟨_, rfl⟩
  have HM : Hid (∀ u : World, Calls Try.prog 11 #[.string ⟨#[107, 101, 121]⟩, .string ⟨#[84, 104, 101, 32, 113, 117, 105, 99, 107, 32, 98, 114, 111, 119, 110, 32, 102, 111, 120, 32, 106, 117, 109, 112, 115, 32, 111, 118, 101, 114, 32, 116, 104, 101, 32, 108, 97, 122, 121, 32, 100, 111, 103]⟩] u fun e w' => e = .returned (.string T) ∧ Below u.heap.size u w') := hid (fun u => by
    rw [eT]; exact mac_any ⟨foxKey.toArray⟩ ⟨foxText.toArray⟩ (by decide) (by decide) u)
  have hT : (T.size : Int) = 32 := by
    have : T.size = 32 := by rw [← data_len, eT, mk_data, macB_len]
    omega
  have hE : T.extract 0 4 = ⟨#[247, 188, 131, 244]⟩ := by rw [eT, ext_take, mac_fox]
  clear eT
  go_enter Try.func9, Try.ntmps9
  go_wp2_with (go_at_call 11; refine (HM.out _).mono ?_; rintro e w1 ⟨rfl, hb1⟩; have H1 := hid hb1; clear hb1)
  go_ret
  exact ⟨rfl, H1.out⟩

theorem mshort_any (s t : ByteArray) (c : Bool) (h : decide (s.size ≤ 4096 ∧ t.size ≤ 4096) = c) (w : World) : Calls Try.prog 10 #[.string s, .string t] w fun e w' => e = .returned (.bool c) ∧ w' = w := by
  subst h
  by_cases hs : s.size ≤ 4096
  · by_cases ht : t.size ≤ 4096
    · rw [decide_eq_true ⟨hs, ht⟩]
      have hs2 : (s.size : Int) ≤ 4096 := by omega
      have ht2 : (t.size : Int) ≤ 4096 := by omega
      clear hs ht
      go_enter Try.func10, Try.ntmps10
      go_wp2
      go_ret
      exact ⟨rfl, rfl⟩
    · rw [decide_eq_false (fun h => ht h.2)]
      have hs2 : (s.size : Int) ≤ 4096 := by omega
      have ht2 : ¬ ((t.size : Int) ≤ 4096) := by omega
      clear hs ht
      go_enter Try.func10, Try.ntmps10
      go_wp2
      go_ret
      exact ⟨rfl, rfl⟩
  · rw [decide_eq_false (fun h => hs h.1)]
    have hs2 : ¬ ((s.size : Int) ≤ 4096) := by omega
    clear hs
    go_enter Try.func10, Try.ntmps10
    go_wp2
    go_ret
    exact ⟨rfl, rfl⟩
end Go.Proofs.Ytnlmjclloaholaa
