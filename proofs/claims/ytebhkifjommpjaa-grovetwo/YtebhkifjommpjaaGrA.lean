/- Trees of keys, their paths and signatures, as functions of bytes. No walk here. -/
import Derived.Test.YtebhkifjommpjaaOtA
namespace Go.Proofs.Ytebhkifjommpjaa
open Go.RowKit

/-- The node above the leaves from first on, 2^h of them. -/
def nodeS (L : List ByteArray) (first : Nat) : Nat → ByteArray
  | 0 => L.getD first ⟨#[]⟩
  | h + 1 => shaS (nodeS L first h ++ nodeS L (first + 2 ^ h) h)
def pubN (seed : ByteArray) (n : Nat) : ByteArray := ⟨(pubB seed n).toArray⟩
theorem pubN_size (seed : ByteArray) (n : Nat) : (pubN seed n).size = 32 := by rw [pubN, mk_size, pubB_len]
/-- All public keys. -/
def leafL (seed : ByteArray) (h : Nat) : List ByteArray := (List.range (2 ^ h)).map (pubN seed)
theorem leafL_len (seed : ByteArray) (h : Nat) : (leafL seed h).length = 2 ^ h := by simp [leafL]
theorem leafL_get (seed : ByteArray) (h j : Nat) (hj : j < 2 ^ h) : (leafL seed h)[j]? = some (pubN seed j) := by simp [leafL, hj]
theorem leafL_size (seed : ByteArray) (h : Nat) (j : Nat) (s : ByteArray) (hs : (leafL seed h)[j]? = some s) : s.size = 32 := by
  have hj : j < 2 ^ h := by rw [← leafL_len seed h]; exact (List.getElem?_eq_some_iff.1 hs).1
  rw [leafL_get seed h j hj] at hs
  cases hs
  exact pubN_size _ _
theorem nodeS_size (L : List ByteArray) (hL : ∀ (j : Nat) (s : ByteArray), L[j]? = some s → s.size = 32) (h first : Nat) (hf : first + 2 ^ h ≤ L.length) : (nodeS L first h).size = 32 := by
  cases h with
  | zero =>
    have hlt : first < L.length := by simp at hf; omega
    rw [nodeS, List.getD_eq_getElem?_getD, List.getElem?_eq_getElem hlt]
    exact hL first _ (List.getElem?_eq_getElem hlt)
  | succ h => rw [nodeS, shaS_size]
def rootS (seed : ByteArray) (h : Nat) : ByteArray := nodeS (leafL seed h) 0 h
theorem pow_pos2 (h : Nat) : 0 < 2 ^ h := Nat.pow_pos (by decide)
theorem rootS_size (seed : ByteArray) (h : Nat) : (rootS seed h).size = 32 := nodeS_size _ (leafL_size seed h) h 0 (by rw [leafL_len]; omega)
/-- The number of the one beside it. -/
def besideN (i : Nat) : Nat := if i % 2 = 1 then i - 1 else i + 1
/-- What stands beside the way from the leaf up. -/
def pathB (L : List ByteArray) (leaf : Nat) : Nat → List UInt8
  | 0 => []
  | k + 1 => pathB L leaf k ++ (nodeS L (besideN (leaf / 2 ^ k) * 2 ^ k) k).data.toList
def gsignB (seed : ByteArray) (h leaf : Nat) (text : ByteArray) : List UInt8 := UInt8.ofNat leaf :: (signB seed leaf text ++ pathB (leafL seed h) leaf h)
theorem pow_le5 (h : Nat) (hh : h ≤ 5) : 2 ^ h ≤ 32 := Nat.le_trans (Nat.pow_le_pow_right (by decide) hh) (by decide)
/-- A number below 2^h, halved k times, is below 2^(h-k); so is the one beside it. -/
theorem div_lt (leaf h k : Nat) (hl : leaf < 2 ^ h) (hk : k < h) : leaf / 2 ^ k < 2 ^ (h - k) := by
  rw [Nat.div_lt_iff_lt_mul (pow_pos2 k), ← Nat.pow_add, Nat.sub_add_cancel (by omega)]
  exact hl
theorem beside_lt (leaf h k : Nat) (hl : leaf < 2 ^ h) (hk : k < h) : besideN (leaf / 2 ^ k) * 2 ^ k + 2 ^ k ≤ 2 ^ h := by
  have h1 := div_lt leaf h k hl hk
  obtain ⟨m, em⟩ : ∃ m, h - k = m + 1 := ⟨h - k - 1, by omega⟩
  have h2 : besideN (leaf / 2 ^ k) < 2 ^ (h - k) := by
    rw [em, Nat.pow_succ] at h1 ⊢
    unfold besideN
    generalize leaf / 2 ^ k = i at h1 ⊢
    generalize 2 ^ m = p at h1 ⊢
    split <;> omega
  have h3 : 2 ^ h = 2 ^ (h - k) * 2 ^ k := by rw [← Nat.pow_add, Nat.sub_add_cancel (by omega)]
  rw [h3, ← Nat.succ_mul]
  exact Nat.mul_le_mul_right _ h2
theorem path_len (L : List ByteArray) (hL : ∀ (j : Nat) (s : ByteArray), L[j]? = some s → s.size = 32) (leaf h : Nat) (hlen : L.length = 2 ^ h) (hl : leaf < 2 ^ h) : ∀ k, k ≤ h → (pathB L leaf k).length = 32 * k
  | 0, _ => rfl
  | k + 1, hk => by
    rw [pathB, List.length_append, path_len L hL leaf h hlen hl k (by omega), data_len, nodeS_size L hL k _ (by rw [hlen]; exact beside_lt leaf h k hl hk)]
    omega
theorem gsign_len (seed : ByteArray) (h leaf : Nat) (text : ByteArray) (hl : leaf < 2 ^ h) : (gsignB seed h leaf text).length = 561 + 32 * h := by
  rw [gsignB, List.length_cons, List.length_append, signB_len, path_len _ (leafL_size seed h) leaf h (leafL_len seed h) hl h (Nat.le_refl _)]
  omega
/-- What the way up leads to. -/
def sideS (sig : ByteArray) (k : Nat) : ByteArray := sig.extract (561 + 32 * k) (593 + 32 * k)
def upS (sig : ByteArray) (leaf : Nat) (n : ByteArray) : Nat → ByteArray
  | 0 => n
  | k + 1 => if leaf / 2 ^ k % 2 = 0 then shaS (upS sig leaf n k ++ sideS sig k) else shaS (sideS sig k ++ upS sig leaf n k)
theorem upS_even (sig : ByteArray) (leaf : Nat) (n : ByteArray) (k : Nat) (h : leaf / 2 ^ k % 2 = 0) : upS sig leaf n (k + 1) = shaS (upS sig leaf n k ++ sideS sig k) := by rw [upS, if_pos h]
theorem upS_odd (sig : ByteArray) (leaf : Nat) (n : ByteArray) (k : Nat) (h : ¬ leaf / 2 ^ k % 2 = 0) : upS sig leaf n (k + 1) = shaS (sideS sig k ++ upS sig leaf n k) := by rw [upS, if_neg h]
theorem upS_size (sig : ByteArray) (leaf : Nat) (n : ByteArray) (hn : n.size ≤ 32) (k : Nat) : (upS sig leaf n k).size ≤ 32 := by
  cases k with
  | zero => exact hn
  | succ k =>
    rw [upS]
    split <;> rw [shaS_size] <;> exact Nat.le_refl _
theorem recB_len (t s : ByteArray) : (recB t s).length = 32 := shaB_len _
/-- The first byte. -/
def headN (sig : ByteArray) : Nat := (sig.data.toList.getD 0 0).toNat
def oneS (sig : ByteArray) : ByteArray := sig.extract 1 561
def recN (text sig : ByteArray) : ByteArray := ⟨(recB text (oneS sig)).toArray⟩
theorem recN_size (text sig : ByteArray) : (recN text sig).size = 32 := by rw [recN, mk_size, recB_len]
/-- Has it the form? -/
def formB (h : Int) (sig : ByteArray) : Bool := decide (0 ≤ h ∧ h ≤ 5 ∧ sig.size = 561 + 32 * h.toNat ∧ headN sig < 2 ^ h.toNat)
/-- Is it taken? -/
def takenB (root : ByteArray) (h : Int) (text sig : ByteArray) : Bool := formB h sig && ((upS sig (headN sig) (recN text sig) h.toNat).toList == root.toList)
theorem taken_no {root : ByteArray} {h : Int} {text sig : ByteArray} (hf : formB h sig = false) : takenB root h text sig = false := by rw [takenB, hf]; rfl
theorem half_pow (leaf k : Nat) : leaf / 2 ^ (k + 1) = leaf / 2 ^ k / 2 := by rw [Nat.pow_succ, Nat.div_div_eq_div_mul]

/-! A signature is taken. -/
theorem node_up (L : List ByteArray) (i k : Nat) : nodeS L (i * 2 ^ (k + 1)) (k + 1) = shaS (nodeS L (2 * i * 2 ^ k) k ++ nodeS L ((2 * i + 1) * 2 ^ k) k) := by
  rw [nodeS, Nat.pow_succ]
  congr 3
  · rw [Nat.mul_comm 2 i, Nat.mul_assoc, Nat.mul_comm 2]
  · rw [Nat.succ_mul, Nat.mul_comm 2 i, Nat.mul_assoc, Nat.mul_comm 2]
def gsigS (seed : ByteArray) (h leaf : Nat) (text : ByteArray) : ByteArray := ⟨(gsignB seed h leaf text).toArray⟩
theorem path_take (L : List ByteArray) (leaf : Nat) : ∀ h k, k ≤ h → ∃ r, pathB L leaf h = pathB L leaf k ++ r
  | 0, k, hk => ⟨[], by obtain rfl : k = 0 := by omega
                        rfl⟩
  | h + 1, k, hk => by
    by_cases e : k = h + 1
    · exact ⟨[], by rw [e, List.append_nil]⟩
    · obtain ⟨r, hr⟩ := path_take L leaf h k (by omega)
      exact ⟨r ++ (nodeS L (besideN (leaf / 2 ^ h) * 2 ^ h) h).data.toList, by rw [pathB, hr, List.append_assoc]⟩
theorem side_sign (seed : ByteArray) (h leaf : Nat) (text : ByteArray) (hl : leaf < 2 ^ h) (k : Nat) (hk : k < h) :
    sideS (gsigS seed h leaf text) k = nodeS (leafL seed h) (besideN (leaf / 2 ^ k) * 2 ^ k) k := by
  apply ByteArray.ext
  apply Array.ext'
  rw [sideS, ext_data, gsigS, mk_data]
  obtain ⟨r, hr⟩ := path_take (leafL seed h) leaf h (k + 1) (by omega)
  have hk1 := path_len _ (leafL_size seed h) leaf h (leafL_len seed h) hl k (by omega)
  have hn : (nodeS (leafL seed h) (besideN (leaf / 2 ^ k) * 2 ^ k) k).data.toList.length = 32 := by
    rw [data_len, nodeS_size _ (leafL_size seed h) k _ (by rw [leafL_len]; exact beside_lt leaf h k hl hk)]
  have hs := signB_len seed leaf text
  rw [gsignB, hr, pathB]
  obtain ⟨X, eX⟩ : ∃ X, X = UInt8.ofNat leaf :: (signB seed leaf text ++ pathB (leafL seed h) leaf k) := ⟨_, rfl⟩
  have hX : X.length = 561 + 32 * k := by rw [eX, List.length_cons, List.length_append, hs, hk1]; omega
  obtain ⟨N, eN⟩ : ∃ N, N = (nodeS (leafL seed h) (besideN (leaf / 2 ^ k) * 2 ^ k) k).data.toList := ⟨_, rfl⟩
  rw [← eN] at hn ⊢
  have e : UInt8.ofNat leaf :: (signB seed leaf text ++ (pathB (leafL seed h) leaf k ++ N ++ r)) = X ++ (N ++ r) := by
    rw [eX]
    simp
  rw [e, List.take_append, List.take_of_length_le (by omega), List.drop_left' hX, hX, show 593 + 32 * k - (561 + 32 * k) = 32 by omega, List.take_append_of_le_length (by omega), List.take_of_length_le (by omega)]
theorem one_sign (seed : ByteArray) (h leaf : Nat) (text : ByteArray) : oneS (gsigS seed h leaf text) = ⟨(signB seed leaf text).toArray⟩ := by
  apply ByteArray.ext
  apply Array.ext'
  rw [oneS, ext_data, gsigS, mk_data]
  have hs := signB_len seed leaf text
  show ((UInt8.ofNat leaf :: (signB seed leaf text ++ _)).take 561).drop 1 = signB seed leaf text
  rw [List.take_succ_cons, List.drop_succ_cons, List.drop_zero, List.take_append_of_le_length (by omega), List.take_of_length_le (by omega)]
theorem head_sign (seed : ByteArray) (h leaf : Nat) (text : ByteArray) (hl : leaf < 256) : headN (gsigS seed h leaf text) = leaf := by
  show (UInt8.ofNat leaf).toNat = leaf
  rw [UInt8.toNat_ofNat']
  omega
theorem up_sign (seed : ByteArray) (h leaf : Nat) (text : ByteArray) (hl : leaf < 2 ^ h) : ∀ k, k ≤ h → upS (gsigS seed h leaf text) leaf (pubN seed leaf) k = nodeS (leafL seed h) (leaf / 2 ^ k * 2 ^ k) k
  | 0, _ => by
    rw [upS, nodeS, Nat.pow_zero, Nat.div_one, Nat.mul_one, List.getD_eq_getElem?_getD, leafL_get seed h leaf hl]
    rfl
  | k + 1, hk => by
    have ih := up_sign seed h leaf text hl k (by omega)
    have hb := side_sign seed h leaf text hl k (by omega)
    rw [half_pow, node_up]
    by_cases he : leaf / 2 ^ k % 2 = 0
    · rw [upS_even _ _ _ _ he, ih, hb]
      generalize leaf / 2 ^ k = i at he ⊢
      rw [besideN, if_neg (by omega), show 2 * (i / 2) = i by omega]
    · rw [upS_odd _ _ _ _ he, ih, hb]
      generalize leaf / 2 ^ k = i at he ⊢
      rw [besideN, if_pos (by omega), show 2 * (i / 2) + 1 = i by omega, show 2 * (i / 2) = i - 1 by omega]
theorem taken_sign (seed : ByteArray) (h leaf : Nat) (text : ByteArray) (hh : h ≤ 5) (hl : leaf < 2 ^ h) : takenB (rootS seed h) (h : Int) text (gsigS seed h leaf text) = true := by
  have h32 := pow_le5 h hh
  have hf : formB (h : Int) (gsigS seed h leaf text) = true := by
    refine decide_eq_true ⟨by omega, by omega, ?_, ?_⟩
    · rw [gsigS, mk_size, gsign_len seed h leaf text hl, Int.toNat_natCast]
    · rw [head_sign seed h leaf text (by omega), Int.toNat_natCast]
      exact hl
  rw [takenB, hf, head_sign seed h leaf text (by omega), Int.toNat_natCast, recN, one_sign, rec_sign]
  have := up_sign seed h leaf text hl h (Nat.le_refl _)
  rw [pubN] at this
  rw [this, Nat.div_eq_of_lt hl, Nat.zero_mul]
  show ((rootS seed h).toList == (rootS seed h).toList) = true
  simp
end Go.Proofs.Ytebhkifjommpjaa
