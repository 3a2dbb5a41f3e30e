/- The document's nodes, keys of pairs, tags. -/
import Derived.Test.YtnlmjclloaholaaMaG
namespace Go.Proofs.Ytnlmjclloaholaa
open Go.RowKit

theorem of_same {P : Program} {f : FuncId} {args : Array Value} {v : Value} (h : ∀ w : World, Calls P f args w fun e w' => e = .returned v ∧ w' = w) (u : World) :
    Calls P f args u fun e w' => e = .returned v ∧ Below u.heap.size u w' :=
  (h u).mono fun _ _ ⟨he, hw⟩ => ⟨he, hw ▸ Below.refl _ _⟩
theorem node_nat {a : Int} (h : nodeB a = true) : ∃ n : Nat, a = (n : Int) ∧ n < 200 := by
  obtain ⟨h0, h1⟩ := of_decide_eq_true h
  exact ⟨a.toNat, by omega, by omega⟩
theorem nNode_any (n : Int) (w : World) : Calls Try.prog 27 #[.int .i64 n] w fun e w' => e = .returned (.bool (nodeB n)) ∧ w' = w := by
  by_cases h0 : 0 ≤ n
  · by_cases h1 : n < 200
    · rw [nodeB_yes h0 h1]
      go_enter Try.func27, Try.ntmps27
      go_wp2
      go_ret
      exact ⟨rfl, rfl⟩
    · rw [nodeB_no (fun h => h1 h.2)]
      go_enter Try.func27, Try.ntmps27
      go_wp2
      go_ret
      exact ⟨rfl, rfl⟩
  · rw [nodeB_no (fun h => h0 h.1)]
    go_enter Try.func27, Try.ntmps27
    go_wp2
    go_ret
    exact ⟨rfl, rfl⟩
theorem nNode_at (n : Int) (c : Bool) (h : nodeB n = c) (w : World) : Calls Try.prog 27 #[.int .i64 n] w fun e w' => e = .returned (.bool c) ∧ w' = w := by
  rw [← h]; exact nNode_any n w
theorem npair_no (s : ByteArray) (a b : Int) (h : (nodeB a && nodeB b) = false) (w : World) :
    Calls Try.prog 14 #[.string s, .int .i64 a, .int .i64 b] w fun e w' => e = .returned (.tuple #[.string ⟨#[]⟩, .int .i64 1]) ∧ w' = w := by
  cases ha : nodeB a with
  | false =>
    have HN := hid ha
    clear ha h
    go_enter Try.func14, Try.ntmps14
    go_wp2_with (go_at_call 27; refine (nNode_at _ false (by exact HN.out) _).mono ?_; rintro e wx ⟨rfl, rfl⟩)
    go_ret2
    exact ⟨rfl, rfl⟩
  | true =>
    have hb : nodeB b = false := by simpa [ha] using h
    have HN := hid (And.intro ha hb)
    clear ha hb h
    go_enter Try.func14, Try.ntmps14
    go_wp2_with (first
      | (go_at_call 27; have := M1; refine (nNode_at _ false (by exact HN.out.2) _).mono ?_; rintro e wx ⟨rfl, rfl⟩)
      | (go_at_call 27; refine (nNode_at _ true (by exact HN.out.1) _).mono ?_; rintro e wx ⟨rfl, rfl⟩; have M1 := hid True.intro))
    go_ret2
    exact ⟨rfl, rfl⟩

/-- A text of two small numbers. -/
def two (c d : Nat) : ByteArray := ⟨#[UInt8.ofNat c, UInt8.ofNat d]⟩
theorem two_text (c d : Nat) (hc : c < 256) (hd : d < 256) (u : World) (g : Nat) (hg : g = u.heap.size) :
    (convert 41 9 (.slice (some ⟨g, 0, none⟩) 2 2)).run Try.prog (u.alloc (.cells #[.int .u8 (c : Int), .int .u8 (d : Int)] 5)) = .ok (.string (two c d)) (u.alloc (.cells #[.int .u8 (c : Int), .int .u8 (d : Int)] 5)) := by
  subst hg
  have hx : bC [UInt8.ofNat c, UInt8.ofNat d] = [.int .u8 (c : Int), .int .u8 (d : Int)] := by simp [bC]; omega
  exact row_text (u.alloc (.cells #[.int .u8 (c : Int), .int .u8 (d : Int)] 5)) u.heap.size 2 [UInt8.ofNat c, UInt8.ofNat d] (fun j v hv => cell_at (L := [.int .u8 (c : Int), .int .u8 (d : Int)]) (t := 5) (fr := (0, 0)) (heap_alloc_last u _) j v (by rw [← hx]; exact hv)) 2 rfl
/-- .. of one. -/
def one (c : Nat) : ByteArray := ⟨#[UInt8.ofNat c]⟩
theorem one_text (c : Nat) (hc : c < 256) (u : World) (g : Nat) (hg : g = u.heap.size) :
    (convert 41 9 (.slice (some ⟨g, 0, none⟩) 1 1)).run Try.prog (u.alloc (.cells #[.int .u8 (c : Int)] 5)) = .ok (.string (one c)) (u.alloc (.cells #[.int .u8 (c : Int)] 5)) := by
  subst hg
  have hx : bC [UInt8.ofNat c] = [.int .u8 (c : Int)] := by simp [bC]; omega
  exact row_text (u.alloc (.cells #[.int .u8 (c : Int)] 5)) u.heap.size 1 [UInt8.ofNat c] (fun j v hv => cell_at (L := [.int .u8 (c : Int)]) (t := 5) (fr := (0, 0)) (heap_alloc_last u _) j v (by rw [← hx]; exact hv)) 1 rfl

set_option maxRecDepth 100000 in
set_option maxHeartbeats 1600000 in
theorem npair_yes (s : ByteArray) (hs : s.size ≤ 1000000) (a b : Nat) (ha : a < 200) (hb : b < 200) (w : World) :
    Calls Try.prog 14 #[.string s, .int .i64 (a : Int), .int .i64 (b : Int)] w fun e w' => e = .returned (.tuple #[.string ⟨(pairB s.data.toList a b).toArray⟩, .int .i64 0]) ∧ Below w.heap.size w w' := by
  have HN := hid (And.intro (nodeB_nat a ha) (nodeB_nat b hb))
  obtain ⟨K, eK⟩ : ∃ K : ByteArray, K = ⟨(pairB s.data.toList a b).toArray⟩ := ⟨_, rfl⟩
  rw [← eK]
  by_cases h : a < b
  · have h1 : (a : Int) ≤ (b : Int) := by omega
    have h2 : (a : Int) < (b : Int) := by omega
    have HT := hid (two_text a b (by omega) (by omega))
    have HQ : Hid (∀ u : World, Calls Try.prog 24 #[.string (s ++ two a b)] u fun e w' => e = .returned (.string K) ∧ Below u.heap.size u w') := hid (fun u => by
      have := qsum_s (s ++ two a b) (by rw [ByteArray.size_append]; show s.size + 2 ≤ _; omega) u
      rw [eK, pairB, show min a b = a by omega, show max a b = b by omega]
      rw [shaS, ByteArray.data_append, Array.toList_append] at this
      exact this)
    have hz : ((two a b).size : Int) = 2 := rfl
    have hs2 : (s.size : Int) ≤ 1000000 := by omega
    have ha0 : (0 : Int) ≤ (a : Int) := Int.natCast_nonneg _
    have hb0 : (0 : Int) ≤ (b : Int) := Int.natCast_nonneg _
    have ha1 : (a : Int) < 256 := by omega
    have hb1 : (b : Int) < 256 := by omega
    clear eK hs ha hb
    go_enter Try.func14, Try.ntmps14
    go_wp2_with (first
      | (go_at_call 27; have := M1; refine (nNode_at _ true (by exact HN.out.2) _).mono ?_; rintro e wx ⟨rfl, rfl⟩)
      | (go_at_call 27; refine (nNode_at _ true (by exact HN.out.1) _).mono ?_; rintro e wx ⟨rfl, rfl⟩; have M1 := hid True.intro)
      | rw [HT.out _ _ rfl]
      | (go_at_call 24; refine (HQ.out _).mono ?_; rintro e w1 ⟨rfl, hb1⟩; have H1 := hid hb1; clear hb1))
    go_ret2
    exact ⟨rfl, ((Below.refl _ _).alloc (Nat.le_refl _) _).trans (H1.out.mono (by simp))⟩
  by_cases h3 : a = b
  · subst h3
    have HT := hid (two_text a a (by omega) (by omega))
    have HQ : Hid (∀ u : World, Calls Try.prog 24 #[.string (s ++ two a a)] u fun e w' => e = .returned (.string K) ∧ Below u.heap.size u w') := hid (fun u => by
      have := qsum_s (s ++ two a a) (by rw [ByteArray.size_append]; show s.size + 2 ≤ _; omega) u
      rw [eK, pairB, show min a a = a by omega, show max a a = a by omega]
      rw [shaS, ByteArray.data_append, Array.toList_append] at this
      exact this)
    have hz : ((two a a).size : Int) = 2 := rfl
    have hs2 : (s.size : Int) ≤ 1000000 := by omega
    have ha0 : (0 : Int) ≤ (a : Int) := Int.natCast_nonneg _
    have ha1 : (a : Int) < 256 := by omega
    clear eK hs ha hb
    go_enter Try.func14, Try.ntmps14
    go_wp2_with (first
      | (go_at_call 27; have := M1; refine (nNode_at _ true (by exact HN.out.2) _).mono ?_; rintro e wx ⟨rfl, rfl⟩)
      | (go_at_call 27; refine (nNode_at _ true (by exact HN.out.1) _).mono ?_; rintro e wx ⟨rfl, rfl⟩; have M1 := hid True.intro)
      | rw [HT.out _ _ rfl]
      | (go_at_call 24; refine (HQ.out _).mono ?_; rintro e w1 ⟨rfl, hb1⟩; have H1 := hid hb1; clear hb1))
    go_ret2
    exact ⟨rfl, ((Below.refl _ _).alloc (Nat.le_refl _) _).trans (H1.out.mono (by simp))⟩
  · have h1 : ¬ ((a : Int) ≤ (b : Int)) := by omega
    have h2 : (b : Int) ≤ (a : Int) := by omega
    have h4 : ¬ ((a : Int) < (b : Int)) := by omega
    have HT := hid (two_text b a (by omega) (by omega))
    have HQ : Hid (∀ u : World, Calls Try.prog 24 #[.string (s ++ two b a)] u fun e w' => e = .returned (.string K) ∧ Below u.heap.size u w') := hid (fun u => by
      have := qsum_s (s ++ two b a) (by rw [ByteArray.size_append]; show s.size + 2 ≤ _; omega) u
      rw [eK, pairB, show min a b = b by omega, show max a b = a by omega]
      rw [shaS, ByteArray.data_append, Array.toList_append] at this
      exact this)
    have hz : ((two b a).size : Int) = 2 := rfl
    have hs2 : (s.size : Int) ≤ 1000000 := by omega
    have ha0 : (0 : Int) ≤ (a : Int) := Int.natCast_nonneg _
    have hb0 : (0 : Int) ≤ (b : Int) := Int.natCast_nonneg _
    have ha1 : (a : Int) < 256 := by omega
    have hb1 : (b : Int) < 256 := by omega
    clear eK hs ha hb
    go_enter Try.func14, Try.ntmps14
    go_wp2_with (first
      | (go_at_call 27; have := M1; refine (nNode_at _ true (by exact HN.out.2) _).mono ?_; rintro e wx ⟨rfl, rfl⟩)
      | (go_at_call 27; refine (nNode_at _ true (by exact HN.out.1) _).mono ?_; rintro e wx ⟨rfl, rfl⟩; have M1 := hid True.intro)
      | rw [HT.out _ _ rfl]
      | (go_at_call 24; refine (HQ.out _).mono ?_; rintro e w1 ⟨rfl, hb1⟩; have H1 := hid hb1; clear hb1))
    go_ret2
    exact ⟨rfl, ((Below.refl _ _).alloc (Nat.le_refl _) _).trans (H1.out.mono (by simp))⟩

theorem tag_of (s t : ByteArray) (a b : Nat) : (⟨(macB (pairB s.data.toList a b) (one a ++ t).data.toList).toArray⟩ : ByteArray).extract 0 8 = ⟨(tagB s.data.toList a b t.data.toList).toArray⟩ := by
  rw [ext_take, tagB, ByteArray.data_append, Array.toList_append]
  rfl
set_option maxRecDepth 100000 in
set_option maxHeartbeats 1600000 in
theorem ntag_any (s : ByteArray) (hs : s.size ≤ 1000000) (a b : Nat) (ha : a < 200) (hb : b < 200) (t : ByteArray) (ht : t.size ≤ 100000) (w : World) :
    Calls Try.prog 30 #[.string s, .int .i64 (a : Int), .int .i64 (b : Int), .string t] w fun e w' => e = .returned (.string ⟨(tagB s.data.toList a b t.data.toList).toArray⟩) ∧ Below w.heap.size w w' := by
  obtain ⟨K, eK⟩ : ∃ K : ByteArray, K = ⟨(pairB s.data.toList a b).toArray⟩ := ⟨_, rfl⟩
  obtain ⟨T, eT⟩ : ∃ T : ByteArray, T = ⟨(macB K.data.toList (one a ++ t).data.toList).toArray⟩ := ⟨_, rfl⟩
  have hK : K.size = 32 := by rw [← data_len, eK, mk_data, pairB_len]
  have hT : T.size = 32 := by rw [← data_len, eT, mk_data, macB_len]
  have HP : Hid (∀ u : World, Calls Try.prog 14 #[.string s, .int .i64 (a : Int), .int .i64 (b : Int)] u fun e w' => e = .returned (.tuple #[.string K, .int .i64 0]) ∧ Below u.heap.size u w') := hid (fun u => by rw [eK]; exact npair_yes s hs a b ha hb u)
  have HT := hid (one_text a (by omega))
  have HM : Hid (∀ u : World, Calls Try.prog 12 #[.string K, .string (one a ++ t)] u fun e w' => e = .returned (.string T) ∧ Below u.heap.size u w') := hid (fun u => by rw [eT]; exact nmac_any K (one a ++ t) (by omega) (by rw [ByteArray.size_append]; show 1 + t.size ≤ _; omega) u)
  have HE : Hid (T.extract 0 8 = ⟨(tagB s.data.toList a b t.data.toList).toArray⟩) := hid (by rw [eT, eK]; exact tag_of s t a b)
  have hT2 : (8 : Int) ≤ (T.size : Int) := by omega
  have hc2 : ((one a).size : Int) = 1 := rfl
  have ht2 : (t.size : Int) ≤ 100000 := by omega
  have ha0 : (0 : Int) ≤ (a : Int) := Int.natCast_nonneg _
  have ha1 : (a : Int) < 256 := by omega
  clear eK eT hK hT hs ha hb ht
  go_enter Try.func30, Try.ntmps30
  go_wp2_with (first
    | (go_at_call 14; refine (HP.out _).mono ?_; rintro e w1 ⟨rfl, hb1⟩; have H1 := hid hb1; clear hb1)
    | rw [HT.out _ _ rfl]
    | (go_at_call 12; refine (HM.out _).mono ?_; rintro e w3 ⟨rfl, hb3⟩; have H3 := hid ((H1.out.alloc H1.out.size _).trans (hb3.mono (Nat.le_trans H1.out.size (by simp)))); clear hb3))
  go_ret
  exact ⟨by rw [HE.out]; rfl, H3.out⟩

theorem ncheck_yes (s : ByteArray) (hs : s.size ≤ 1000000) (a b : Nat) (ha : a < 200) (hb : b < 200) (t : ByteArray) (ht : t.size ≤ 100000) (x : ByteArray) (c : Bool) (hx : (x.toList == (⟨(tagB s.data.toList a b t.data.toList).toArray⟩ : ByteArray).toList) = c) (w : World) :
    Calls Try.prog 20 #[.string s, .int .i64 (a : Int), .int .i64 (b : Int), .string t, .string x] w fun e w' => e = .returned (.bool c) ∧ Below w.heap.size w w' := by
  have HN := hid (And.intro (nodeB_nat a ha) (nodeB_nat b hb))
  obtain ⟨T, eT⟩ : ∃ T : ByteArray, T = ⟨(tagB s.data.toList a b t.data.toList).toArray⟩ := ⟨_, rfl⟩
  have HP : Hid (∀ u : World, Calls Try.prog 30 #[.string s, .int .i64 (a : Int), .int .i64 (b : Int), .string t] u fun e w' => e = .returned (.string T) ∧ Below u.heap.size u w') := hid (fun u => by rw [eT]; exact ntag_any s hs a b ha hb t ht u)
  rw [← eT] at hx
  have HX := hid hx
  clear eT hs ha hb ht hx
  go_enter Try.func20, Try.ntmps20
  go_wp2_with (first
    | (go_at_call 27; have := M1; refine (nNode_at _ true (by exact HN.out.2) _).mono ?_; rintro e wx ⟨rfl, rfl⟩)
    | (go_at_call 27; refine (nNode_at _ true (by exact HN.out.1) _).mono ?_; rintro e wx ⟨rfl, rfl⟩; have M1 := hid True.intro)
    | (go_at_call 30; refine (HP.out _).mono ?_; rintro e w1 ⟨rfl, hb1⟩; have H1 := hid hb1; clear hb1))
  go_ret
  exact ⟨(show Ending.returned (Value.bool (x.toList == T.toList)) = _ by rw [HX.out]), H1.out⟩
theorem ncheck_no (s : ByteArray) (a b : Int) (h : (nodeB a && nodeB b) = false) (t x : ByteArray) (w : World) :
    Calls Try.prog 20 #[.string s, .int .i64 a, .int .i64 b, .string t, .string x] w fun e w' => e = .returned (.bool false) ∧ w' = w := by
  cases ha : nodeB a with
  | false =>
    have HN := hid ha
    clear ha h
    go_enter Try.func20, Try.ntmps20
    go_wp2_with (go_at_call 27; refine (nNode_at _ false (by exact HN.out) _).mono ?_; rintro e wx ⟨rfl, rfl⟩)
    go_ret
    exact ⟨rfl, rfl⟩
  | true =>
    have hb : nodeB b = false := by simpa [ha] using h
    have HN := hid (And.intro ha hb)
    clear ha hb h
    go_enter Try.func20, Try.ntmps20
    go_wp2_with (first
      | (go_at_call 27; have := M1; refine (nNode_at _ false (by exact HN.out.2) _).mono ?_; rintro e wx ⟨rfl, rfl⟩)
      | (go_at_call 27; refine (nNode_at _ true (by exact HN.out.1) _).mono ?_; rintro e wx ⟨rfl, rfl⟩; have M1 := hid True.intro))
    go_ret
    exact ⟨rfl, rfl⟩
end Go.Proofs.Ytnlmjclloaholaa
