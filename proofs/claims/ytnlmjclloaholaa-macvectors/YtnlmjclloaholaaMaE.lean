/- Nodes, keys of pairs, tags. -/
import Derived.Test.YtnlmjclloaholaaMaD
namespace Go.Proofs.Ytnlmjclloaholaa
open Go.RowKit

/-- Is it a node? -/
def nodeB (n : Int) : Bool := decide (0 ≤ n ∧ n < 200)
theorem nodeB_yes {n : Int} (h0 : 0 ≤ n) (h1 : n < 200) : nodeB n = true := decide_eq_true ⟨h0, h1⟩
theorem nodeB_no {n : Int} (h : ¬ (0 ≤ n ∧ n < 200)) : nodeB n = false := decide_eq_false h
theorem isNode_any (n : Int) (w : World) : Calls Try.prog 25 #[.int .i64 n] w fun e w' => e = .returned (.bool (nodeB n)) ∧ w' = w := by
  by_cases h0 : 0 ≤ n
  · by_cases h1 : n < 200
    · rw [nodeB_yes h0 h1]
      go_enter Try.func25, Try.ntmps25
      go_wp2
      go_ret
      exact ⟨rfl, rfl⟩
    · rw [nodeB_no (fun h => h1 h.2)]
      go_enter Try.func25, Try.ntmps25
      go_wp2
      go_ret
      exact ⟨rfl, rfl⟩
  · rw [nodeB_no (fun h => h0 h.1)]
    go_enter Try.func25, Try.ntmps25
    go_wp2
    go_ret
    exact ⟨rfl, rfl⟩
theorem byteText_any (n : Nat) (hn : n < 256) (w : World) : Calls Try.prog 39 #[.int .i64 (n : Int)] w fun e w' => e = .returned (.string ⟨#[UInt8.ofNat n]⟩) ∧ Below w.heap.size w w' := by
  have h0 : (0 : Int) ≤ (n : Int) := Int.natCast_nonneg _
  have h1 : (n : Int) < 256 := by omega
  have hc : bC [UInt8.ofNat n] = [.int .u8 (n : Int)] := by simp [bC]; omega
  have HC := hid (row_text (w.alloc (.cells #[.int .u8 (n : Int)] 5)) w.heap.size 1 [UInt8.ofNat n] (fun j v hv => cell_at (L := [.int .u8 (n : Int)]) (t := 5) (fr := (0, 0)) (heap_alloc_last w _) j v (by rw [← hc]; exact hv)) 1 rfl)
  clear hc
  go_enter Try.func39, Try.ntmps39
  go_wp2_with rw [HC.out]
  go_ret
  exact ⟨rfl, (Below.refl _ _).alloc (Nat.le_refl _) _⟩

theorem joinB_three (s t r : ByteArray) : joinB [s, t, r] = s.data.toList ++ t.data.toList ++ r.data.toList := by simp [joinB]
set_option maxRecDepth 100000 in
set_option maxHeartbeats 1600000 in
theorem pairKey_le (s : ByteArray) (hs : s.size ≤ 1000000) (a b : Nat) (ha : a < 200) (hb : b < 200) (w : World) :
    Calls Try.prog 26 #[.string s, .int .i64 (a : Int), .int .i64 (b : Int)] w fun e w' => e = .returned (.string ⟨(pairB s.data.toList a b).toArray⟩) ∧ Below w.heap.size w w' := by
  obtain ⟨T, eT⟩ : ∃ T : ByteArray, T = ⟨(pairB s.data.toList a b).toArray⟩ := ⟨_, rfl⟩
  have H0 : ∀ c d : Nat, c = min a b → d = max a b → ∀ (u : World) (g : Nat), g = u.heap.size → Calls Try.prog 22 #[.slice (some ⟨g, 0, none⟩) 3 3] (u.alloc (.cells #[.string s, .string ⟨#[UInt8.ofNat c]⟩, .string ⟨#[UInt8.ofNat d]⟩] 9)) fun e w' => e = .returned (.string T) ∧ Below u.heap.size u w' := fun c d hc hd u g hg => by
    subst hg
    have := ssum_new [s, ⟨#[UInt8.ofNat c]⟩, ⟨#[UInt8.ofNat d]⟩] #[.string s, .string ⟨#[UInt8.ofNat c]⟩, .string ⟨#[UInt8.ofNat d]⟩] 3 3 u rfl rfl (by rw [joinB_three]; simp; omega) (by decide)
    rw [joinB_three] at this
    rw [eT, pairB, ← hc, ← hd]
    have e : s.data.toList ++ (⟨#[UInt8.ofNat c]⟩ : ByteArray).data.toList ++ (⟨#[UInt8.ofNat d]⟩ : ByteArray).data.toList = s.data.toList ++ [UInt8.ofNat c, UInt8.ofNat d] := by simp
    rw [e] at this
    exact this
  rw [← eT]
  clear eT
  by_cases h : a < b
  · have h1 : (a : Int) ≤ (b : Int) := by omega
    have h2 : (a : Int) < (b : Int) := by omega
    have HS := hid (H0 a b (by omega) (by omega))
    obtain ⟨A, eA⟩ : ∃ A : ByteArray, A = ⟨#[UInt8.ofNat a]⟩ := ⟨_, rfl⟩
    obtain ⟨B, eB⟩ : ∃ B : ByteArray, B = ⟨#[UInt8.ofNat b]⟩ := ⟨_, rfl⟩
    rw [← eA, ← eB] at HS
    have HA : Hid (∀ u : World, Calls Try.prog 39 #[.int .i64 (a : Int)] u fun e w' => e = .returned (.string A) ∧ Below u.heap.size u w') := hid (fun u => by rw [eA]; exact byteText_any a (by omega) u)
    have HB : Hid (∀ u : World, Calls Try.prog 39 #[.int .i64 (b : Int)] u fun e w' => e = .returned (.string B) ∧ Below u.heap.size u w') := hid (fun u => by rw [eB]; exact byteText_any b (by omega) u)
    clear H0 h hs ha hb eA eB
    go_enter Try.func26, Try.ntmps26
    go_wp2_with (first
      | (go_at_call 39; have := H1; refine (HB.out _).mono ?_; rintro e w2 ⟨rfl, hb2⟩; have H2 := hid (H1.out.trans (hb2.mono H1.out.size)); clear hb2)
      | (go_at_call 39; refine (HA.out _).mono ?_; rintro e w1 ⟨rfl, hb1⟩; have H1 := hid hb1; clear hb1)
      | (go_at_call 22; refine (HS.out _ _ (by simp)).mono ?_; rintro e w3 ⟨rfl, hb3⟩; have H3 := hid (H2.out.trans (hb3.mono H2.out.size)); clear hb3))
    go_ret
    exact ⟨rfl, H3.out⟩
  by_cases h3 : a = b
  · subst h3
    have HS := hid (H0 a a (by omega) (by omega))
    obtain ⟨A, eA⟩ : ∃ A : ByteArray, A = ⟨#[UInt8.ofNat a]⟩ := ⟨_, rfl⟩
    rw [← eA] at HS
    have HA : Hid (∀ u : World, Calls Try.prog 39 #[.int .i64 (a : Int)] u fun e w' => e = .returned (.string A) ∧ Below u.heap.size u w') := hid (fun u => by rw [eA]; exact byteText_any a (by omega) u)
    have HB : Hid (∀ u : World, Calls Try.prog 39 #[.int .i64 (a : Int)] u fun e w' => e = .returned (.string A) ∧ Below u.heap.size u w') := hid (fun u => by rw [eA]; exact byteText_any a (by omega) u)
    clear H0 h hs ha hb eA
    go_enter Try.func26, Try.ntmps26
    go_wp2_with (first
      | (go_at_call 39; have := H1; refine (HB.out _).mono ?_; rintro e w2 ⟨rfl, hb2⟩; have H2 := hid (H1.out.trans (hb2.mono H1.out.size)); clear hb2)
      | (go_at_call 39; refine (HA.out _).mono ?_; rintro e w1 ⟨rfl, hb1⟩; have H1 := hid hb1; clear hb1)
      | (go_at_call 22; refine (HS.out _ _ (by simp)).mono ?_; rintro e w3 ⟨rfl, hb3⟩; have H3 := hid (H2.out.trans (hb3.mono H2.out.size)); clear hb3))
    go_ret
    exact ⟨rfl, H3.out⟩
  have h1 : ¬ ((a : Int) ≤ (b : Int)) := by omega
  have h4 : ¬ ((a : Int) < (b : Int)) := by omega
  have h2 : (b : Int) ≤ (a : Int) := by omega
  have HS := hid (H0 b a (by omega) (by omega))
  obtain ⟨A, eA⟩ : ∃ A : ByteArray, A = ⟨#[UInt8.ofNat b]⟩ := ⟨_, rfl⟩
  obtain ⟨B, eB⟩ : ∃ B : ByteArray, B = ⟨#[UInt8.ofNat a]⟩ := ⟨_, rfl⟩
  rw [← eA, ← eB] at HS
  have HA : Hid (∀ u : World, Calls Try.prog 39 #[.int .i64 (b : Int)] u fun e w' => e = .returned (.string A) ∧ Below u.heap.size u w') := hid (fun u => by rw [eA]; exact byteText_any b (by omega) u)
  have HB : Hid (∀ u : World, Calls Try.prog 39 #[.int .i64 (a : Int)] u fun e w' => e = .returned (.string B) ∧ Below u.heap.size u w') := hid (fun u => by rw [eB]; exact byteText_any a (by omega) u)
  clear H0 h h3 hs ha hb eA eB
  go_enter Try.func26, Try.ntmps26
  go_wp2_with (first
    | (go_at_call 39; have := H1; refine (HB.out _).mono ?_; rintro e w2 ⟨rfl, hb2⟩; have H2 := hid (H1.out.trans (hb2.mono H1.out.size)); clear hb2)
    | (go_at_call 39; refine (HA.out _).mono ?_; rintro e w1 ⟨rfl, hb1⟩; have H1 := hid hb1; clear hb1)
    | (go_at_call 22; refine (HS.out _ _ (by simp)).mono ?_; rintro e w3 ⟨rfl, hb3⟩; have H3 := hid (H2.out.trans (hb3.mono H2.out.size)); clear hb3))
  go_ret
  exact ⟨rfl, H3.out⟩

set_option maxRecDepth 100000 in
set_option maxHeartbeats 1600000 in
theorem tagOf_any (s : ByteArray) (hs : s.size ≤ 1000000) (a b : Nat) (ha : a < 200) (hb : b < 200) (t : ByteArray) (ht : t.size ≤ 100000) (w : World) :
    Calls Try.prog 29 #[.string s, .int .i64 (a : Int), .int .i64 (b : Int), .string t] w fun e w' => e = .returned (.string ⟨(tagB s.data.toList a b t.data.toList).toArray⟩) ∧ Below w.heap.size w w' := by
  obtain ⟨K, eK⟩ : ∃ K : ByteArray, K = ⟨(pairB s.data.toList a b).toArray⟩ := ⟨_, rfl⟩
  obtain ⟨c, ec⟩ : ∃ c : ByteArray, c = ⟨#[UInt8.ofNat a]⟩ := ⟨_, rfl⟩
  obtain ⟨T, eT⟩ : ∃ T : ByteArray, T = ⟨(macB K.data.toList (c ++ t).data.toList).toArray⟩ := ⟨_, rfl⟩
  have hK : K.size = 32 := by rw [← data_len, eK, mk_data, pairB_len]
  have hc : c.size = 1 := by rw [← data_len, ec]; rfl
  have hT : T.size = 32 := by rw [← data_len, eT, mk_data, macB_len]
  have HP : Hid (∀ u : World, Calls Try.prog 26 #[.string s, .int .i64 (a : Int), .int .i64 (b : Int)] u fun e w' => e = .returned (.string K) ∧ Below u.heap.size u w') := hid (fun u => by rw [eK]; exact pairKey_le s hs a b ha hb u)
  have HB : Hid (∀ u : World, Calls Try.prog 39 #[.int .i64 (a : Int)] u fun e w' => e = .returned (.string c) ∧ Below u.heap.size u w') := hid (fun u => by rw [ec]; exact byteText_any a (by omega) u)
  have HM : Hid (∀ u : World, Calls Try.prog 11 #[.string K, .string (c ++ t)] u fun e w' => e = .returned (.string T) ∧ Below u.heap.size u w') := hid (fun u => by rw [eT]; exact mac_any K (c ++ t) (by omega) (by rw [ByteArray.size_append]; omega) u)
  have HE : Hid (T.extract 0 8 = ⟨(tagB s.data.toList a b t.data.toList).toArray⟩) := hid (by
    rw [eT, ext_take, tagB, eK, ec, mk_data, ByteArray.data_append, Array.toList_append]
    rfl)
  have hT2 : (8 : Int) ≤ (T.size : Int) := by omega
  have hc2 : (c.size : Int) = 1 := by omega
  have ht2 : (t.size : Int) ≤ 100000 := by omega
  clear eK ec eT hK hc hT hs ha hb ht
  go_enter Try.func29, Try.ntmps29
  go_wp2_with (first
    | (go_at_call 26; refine (HP.out _).mono ?_; rintro e w1 ⟨rfl, hb1⟩; have H1 := hid hb1; clear hb1)
    | (go_at_call 39; refine (HB.out _).mono ?_; rintro e w2 ⟨rfl, hb2⟩; have H2 := hid (H1.out.trans (hb2.mono H1.out.size)); clear hb2)
    | (go_at_call 11; refine (HM.out _).mono ?_; rintro e w3 ⟨rfl, hb3⟩; have H3 := hid (H2.out.trans (hb3.mono H2.out.size)); clear hb3))
  go_ret
  exact ⟨by rw [HE.out]; rfl, H3.out⟩
end Go.Proofs.Ytnlmjclloaholaa
