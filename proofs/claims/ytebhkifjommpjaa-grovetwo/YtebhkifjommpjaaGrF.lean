/- The program's trees: heights, leaves, nodes. -/
import Derived.Test.YtebhkifjommpjaaGrC
namespace Go.Proofs.Ytebhkifjommpjaa
open Go.RowKit

theorem rightB_yes {h : Int} (h0 : 0 ≤ h) (h5 : h ≤ 5) : rightB h = true := decide_eq_true ⟨h0, h5⟩
theorem rightB_no {h : Int} (hn : ¬ (0 ≤ h ∧ h ≤ 5)) : rightB h = false := decide_eq_false hn
theorem isHeight_any (h : Int) (w : World) : Calls Try.prog 23 #[.int .i64 h] w fun e w' => e = .returned (.bool (rightB h)) ∧ w' = w := by
  by_cases h0 : 0 ≤ h
  · by_cases h1 : h ≤ 5
    · rw [rightB_yes h0 h1]
      go_enter Try.func23, Try.ntmps23
      go_wp2
      go_ret
      exact ⟨rfl, rfl⟩
    · rw [rightB_no (fun h => h1 h.2)]
      go_enter Try.func23, Try.ntmps23
      go_wp2
      go_ret
      exact ⟨rfl, rfl⟩
  · rw [rightB_no (fun h => h0 h.1)]
    go_enter Try.func23, Try.ntmps23
    go_wp2
    go_ret
    exact ⟨rfl, rfl⟩
theorem isHeight_at (h : Int) (b : Bool) (hb : rightB h = b) (w : World) : Calls Try.prog 23 #[.int .i64 h] w fun e w' => e = .returned (.bool b) ∧ w' = w := by
  rw [← hb]
  exact isHeight_any h w
set_option maxRecDepth 100000 in
theorem gleaves_le (h : Nat) (hh : h ≤ 5) (w : World) : Calls Try.prog 28 #[.int .i64 (h : Int)] w fun e w' => e = .returned (.int .i64 ((2 ^ h : Nat) : Int)) ∧ w' = w := by
  have key : ∀ (k : Int) (p : Int), (k = 0 ∧ p = 1) ∨ (k = 1 ∧ p = 2) ∨ (k = 2 ∧ p = 4) ∨ (k = 3 ∧ p = 8) ∨ (k = 4 ∧ p = 16) ∨ (k = 5 ∧ p = 32) → Calls Try.prog 28 #[.int .i64 k] w fun e w' => e = .returned (.int .i64 p) ∧ w' = w := by
    rintro k p (⟨rfl, rfl⟩ | ⟨rfl, rfl⟩ | ⟨rfl, rfl⟩ | ⟨rfl, rfl⟩ | ⟨rfl, rfl⟩ | ⟨rfl, rfl⟩)
    all_goals
      go_enter Try.func28, Try.ntmps28
      go_wp2
      go_ret
      exact ⟨rfl, rfl⟩
  refine key (h : Int) _ ?_
  obtain rfl | rfl | rfl | rfl | rfl | rfl : h = 0 ∨ h = 1 ∨ h = 2 ∨ h = 3 ∨ h = 4 ∨ h = 5 := by omega
  all_goals decide
theorem sigSize_le (h : Nat) (hh : h ≤ 5) (w : World) : Calls Try.prog 32 #[.int .i64 (h : Int)] w fun e w' => e = .returned (.int .i64 (561 + 32 * (h : Int))) ∧ w' = w := by
  have h5 : (h : Int) ≤ 5 := by omega
  have h0 : (0 : Int) ≤ (h : Int) := Int.natCast_nonneg _
  clear hh
  go_enter Try.func32, Try.ntmps32
  go_wp2
  go_ret
  exact ⟨rfl, rfl⟩

/-- The node l above the leaves, with p left of it. -/
def nodeP (seed : ByteArray) : Nat → Nat → ByteArray
  | 0, p => pubN seed p
  | l + 1, p => shaS (nodeP seed l (2 * p) ++ nodeP seed l (2 * p + 1))
theorem nodeP_size (seed : ByteArray) (l p : Nat) : (nodeP seed l p).size = 32 := by
  cases l with
  | zero => rw [nodeP, pubN_size]
  | succ l => rw [nodeP, shaS_size]
theorem nodeP_zero (seed : ByteArray) (p : Nat) : nodeP seed 0 p = pubN seed p := rfl
theorem nodeP_succ (seed : ByteArray) (l p : Nat) : nodeP seed (l + 1) p = shaS (nodeP seed l (2 * p) ++ nodeP seed l (2 * p + 1)) := rfl
theorem two_up (p l : Nat) : (2 * p + 1 + 1) * 2 ^ l = (p + 1) * 2 ^ (l + 1) := by
  rw [Nat.pow_succ, Nat.mul_comm (2 ^ l) 2, ← Nat.mul_assoc]
  congr 1
  omega
theorem nodeP_eq (seed : ByteArray) (h : Nat) : ∀ l p, (p + 1) * 2 ^ l ≤ 2 ^ h → nodeP seed l p = nodeS (leafL seed h) (p * 2 ^ l) l
  | 0, p, hp => by
    rw [nodeP, nodeS, Nat.pow_zero, Nat.mul_one, List.getD_eq_getElem?_getD, leafL_get seed h p (by simp at hp; omega)]
    rfl
  | l + 1, p, hp => by
    have h2 := two_up p l
    have h1 : (2 * p + 1) * 2 ^ l ≤ (2 * p + 1 + 1) * 2 ^ l := Nat.mul_le_mul_right _ (by omega)
    rw [nodeP, node_up, nodeP_eq seed h l (2 * p) (by omega), nodeP_eq seed h l (2 * p + 1) (by omega)]
theorem nodeP_root (seed : ByteArray) (h : Nat) : nodeP seed h 0 = rootS seed h := by
  rw [nodeP_eq seed h h 0 (by omega), Nat.zero_mul, rootS]
theorem nodeP_beside (seed : ByteArray) (h leaf k : Nat) (hl : leaf < 2 ^ h) (hk : k < h) : nodeP seed k (besideN (leaf / 2 ^ k)) = nodeS (leafL seed h) (besideN (leaf / 2 ^ k) * 2 ^ k) k :=
  nodeP_eq seed h k _ (by have := beside_lt leaf h k hl hk; rw [Nat.succ_mul]; exact this)
theorem sum_cat (s t : ByteArray) (hs : s.size ≤ 2000000) (ht : t.size ≤ 2000000) (u : World) (g : Nat) (hg : g = u.heap.size) :
    Calls Try.prog 41 #[.slice (some ⟨g, 0, none⟩) 2 2] (u.alloc (.cells #[.string s, .string t] 9)) fun e w' => e = .returned (.string (shaS (s ++ t))) ∧ Below u.heap.size u w' := by
  have := sum_two s t hs ht u g hg
  rw [shaS, ByteArray.data_append, Array.toList_append]
  exact this

set_option maxRecDepth 100000 in
set_option maxHeartbeats 1600000 in
theorem gnode_le (seed : ByteArray) (hs : seed.size ≤ 1000000) :
    ∀ (l p : Nat), l ≤ 5 → (p + 1) * 2 ^ l ≤ 64 → ∀ w : World,
      Calls Try.prog 24 #[.string seed, .int .i64 (l : Int), .int .i64 (p : Int)] w fun e w' => e = .returned (.string (nodeP seed l p)) ∧ Below w.heap.size w w' := by
  intro l
  induction l with
  | zero =>
    intro p _ hp w
    have hp1 : p < 256 := by simp at hp; omega
    have HK : Hid (∀ u : World, Calls Try.prog 22 #[.string seed, .int .i64 (p : Int)] u fun e w' => e = .returned (.tuple #[.string (pubN seed p), .int .i64 0]) ∧ Below u.heap.size u w') := hid (fun u => by
      have := opublic_le seed hs (p : Int) u
      rwa [(pub_yes seed p hp1).1, (pub_yes seed p hp1).2] at this)
    rw [nodeP_zero]
    obtain ⟨T, eT⟩ : ∃ T, T = pubN seed p := ⟨_, rfl⟩
    rw [← eT] at HK ⊢
    have he : ((0 : Nat) : Int) = 0 := rfl
    rw [he]
    clear he hp hp1 hs eT
    go_enter Try.func24, Try.ntmps24
    go_wp2_with (go_at_call 22; refine (HK.out _).mono ?_; rintro e w1 ⟨rfl, hb1⟩; have H1 := hid hb1; clear hb1)
    go_ret
    exact ⟨rfl, H1.out⟩
  | succ l ih =>
    intro p hl hp w
    have h2 := two_up p l
    have h1 : (2 * p + 1) * 2 ^ l ≤ (2 * p + 1 + 1) * 2 ^ l := Nat.mul_le_mul_right _ (by omega)
    have hpp : p + 1 ≤ 64 := by
      have h3 : p + 1 ≤ (p + 1) * 2 ^ (l + 1) := Nat.le_mul_of_pos_right _ (pow_pos2 _)
      omega
    obtain ⟨X, eX⟩ : ∃ X, X = nodeP seed l (2 * p) := ⟨_, rfl⟩
    obtain ⟨Y, eY⟩ : ∃ Y, Y = nodeP seed l (2 * p + 1) := ⟨_, rfl⟩
    obtain ⟨T, eT⟩ : ∃ T, T = shaS (X ++ Y) := ⟨_, rfl⟩
    rw [nodeP_succ, ← eX, ← eY, ← eT]
    have hX : X.size = 32 := by rw [eX, nodeP_size]
    have hY : Y.size = 32 := by rw [eY, nodeP_size]
    have HX : Hid (∀ u : World, Calls Try.prog 24 #[.string seed, .int .i64 (l : Int), .int .i64 (2 * (p : Int))] u fun e w' => e = .returned (.string X) ∧ Below u.heap.size u w') := hid (fun u => by rw [eX]; exact ih (2 * p) (by omega) (by omega) u)
    have HY : Hid (∀ u : World, Calls Try.prog 24 #[.string seed, .int .i64 (l : Int), .int .i64 (2 * (p : Int) + 1)] u fun e w' => e = .returned (.string Y) ∧ Below u.heap.size u w') := hid (fun u => by rw [eY]; exact ih (2 * p + 1) (by omega) (by omega) u)
    have HT : Hid (∀ (u : World) (g : Nat), g = u.heap.size → Calls Try.prog 41 #[.slice (some ⟨g, 0, none⟩) 2 2] (u.alloc (.cells #[.string X, .string Y] 9)) fun e w' => e = .returned (.string T) ∧ Below u.heap.size u w') := hid (fun u g hg => by rw [eT]; exact sum_cat X Y (by omega) (by omega) u g hg)
    have hl0 : (0 : Int) ≤ (l : Int) := Int.natCast_nonneg _
    have hl1 : (l : Int) ≤ 4 := by omega
    have hz : ¬ ((l : Int) + 1 = 0) := by omega
    have he : (((l + 1 : Nat) : Int)) = (l : Int) + 1 := by omega
    have hp0 : (0 : Int) ≤ (p : Int) := Int.natCast_nonneg _
    have hp1 : (p : Int) ≤ 64 := by omega
    rw [he]
    clear he eX eY eT hX hY hp h1 h2 ih hl hpp hs
    go_enter Try.func24, Try.ntmps24
    go_wp2_with (first
      | (go_at_call 24; have := H1; refine (HY.out _).mono ?_; rintro e w2 ⟨rfl, hb2⟩; have H2 := hid (H1.out.trans (hb2.mono H1.out.size)); clear hb2)
      | (go_at_call 24; refine (HX.out _).mono ?_; rintro e w1 ⟨rfl, hb1⟩; have H1 := hid hb1; clear hb1)
      | (go_at_call 41; refine (HT.out _ _ (by simp)).mono ?_; rintro e w3 ⟨rfl, hb3⟩; have H3 := hid (H2.out.trans (hb3.mono H2.out.size)); clear hb3))
    go_ret
    exact ⟨rfl, H3.out⟩

/-- Is it a left one? -/
def evB (p : Nat) : Bool := decide (p % 2 = 0)
theorem isLeft_any (p : Nat) (w : World) : Calls Try.prog 52 #[.int .i64 (p : Int)] w fun e w' => e = .returned (.bool (evB p)) ∧ w' = w := by
  by_cases hp : p % 2 = 0
  · rw [show evB p = true from decide_eq_true hp]
    have h1 : (p : Int) % 2 = 0 := by omega
    have h0 : (0 : Int) ≤ (p : Int) := Int.natCast_nonneg _
    clear hp
    go_enter Try.func52, Try.ntmps52
    go_wp2
    go_ret
    exact ⟨rfl, rfl⟩
  · rw [show evB p = false from decide_eq_false hp]
    have h1 : ((p : Int) % 2 == 0) = false := by
      have : ¬ ((p : Int) % 2 = 0) := by omega
      simpa using this
    have h0 : (0 : Int) ≤ (p : Int) := Int.natCast_nonneg _
    clear hp
    go_enter Try.func52, Try.ntmps52
    go_wp2
    go_ret
    exact ⟨rfl, rfl⟩
theorem isLeft_at (p : Nat) (b : Bool) (hb : evB p = b) (w : World) : Calls Try.prog 52 #[.int .i64 (p : Int)] w fun e w' => e = .returned (.bool b) ∧ w' = w := by
  rw [← hb]
  exact isLeft_any p w
theorem beside_any (p : Nat) (hp : p ≤ 1000) (w : World) : Calls Try.prog 47 #[.int .i64 (p : Int)] w fun e w' => e = .returned (.int .i64 ((besideN p : Nat) : Int)) ∧ w' = w := by
  have h0 : (0 : Int) ≤ (p : Int) := Int.natCast_nonneg _
  have h1 : (p : Int) ≤ 1000 := by omega
  by_cases hq : p % 2 = 0
  · have HB := hid (show evB p = true from decide_eq_true hq)
    rw [show ((besideN p : Nat) : Int) = (p : Int) + 1 by rw [besideN, if_neg (by omega)]; omega]
    clear hq hp
    go_enter Try.func47, Try.ntmps47
    go_wp2_with (go_at_call 52; refine (isLeft_at _ _ (by exact HB.out) _).mono ?_; rintro e wx ⟨rfl, rfl⟩)
    go_ret
    exact ⟨rfl, rfl⟩
  · have HB := hid (show evB p = false from decide_eq_false hq)
    have h2 : (1 : Int) ≤ (p : Int) := by omega
    rw [show ((besideN p : Nat) : Int) = (p : Int) - 1 by rw [besideN, if_pos (by omega)]; omega]
    clear hq hp
    go_enter Try.func47, Try.ntmps47
    go_wp2_with (go_at_call 52; refine (isLeft_at _ _ (by exact HB.out) _).mono ?_; rintro e wx ⟨rfl, rfl⟩)
    go_ret
    exact ⟨rfl, rfl⟩
end Go.Proofs.Ytebhkifjommpjaa
