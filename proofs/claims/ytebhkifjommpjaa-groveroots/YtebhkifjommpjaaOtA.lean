/- Steps, digits, chains, keys and signatures as functions of bytes. No walk here. -/
import Derived.Test.YtebhkifjommpjaaGnB
namespace Go.Proofs.Ytebhkifjommpjaa
open Go.RowKit

/-- A step: the first 16 bytes of the digest. -/
def st16 (x : ByteArray) : ByteArray := ⟨((shaB x.data.toList).take 16).toArray⟩
/-- So many steps. -/
def stepN : Nat → ByteArray → ByteArray
  | 0, x => x
  | n + 1, x => st16 (stepN n x)
theorem stepN_zero (x : ByteArray) : stepN 0 x = x := rfl
theorem stepN_succ (n : Nat) (x : ByteArray) : stepN (n + 1) x = st16 (stepN n x) := rfl
theorem stepN_add (a b : Nat) (x : ByteArray) : stepN b (stepN a x) = stepN (a + b) x := by
  induction b with
  | zero => rfl
  | succ b ih => rw [stepN_succ, ih, ← Nat.add_assoc, stepN_succ]
theorem take16_size (l : List UInt8) : (⟨((shaB l).take 16).toArray⟩ : ByteArray).size = 16 := by
  rw [mk_size, List.length_take, shaB_len]; rfl
theorem st16_size (x : ByteArray) : (st16 x).size = 16 := take16_size _
theorem stepN_size (n : Nat) (x : ByteArray) (h : x.size = 16) : (stepN n x).size = 16 := by
  cases n with
  | zero => exact h
  | succ n => exact st16_size _
theorem stepN_le (n : Nat) (x : ByteArray) (m : Nat) (h : x.size ≤ m) (hm : 16 ≤ m) : (stepN n x).size ≤ m := by
  cases n with
  | zero => exact h
  | succ n => rw [stepN_succ, st16_size]; exact hm

/-- The halves of a byte. -/
def twoN (b : UInt8) : List Nat := [b.toNat / 16, b.toNat % 16]
def halfN (l : List UInt8) : List Nat := l.flatMap twoN
def sumN (l : List UInt8) : Nat := (l.map fun b => b.toNat / 16 + b.toNat % 16).sum
/-- The digits of a digest's beginning. -/
def dgN (l : List UInt8) : List Nat := halfN l ++ [(480 - sumN l) / 256, (480 - sumN l) / 16 % 16, (480 - sumN l) % 16]
def nI (l : List Nat) : List Int := l.map Int.ofNat
theorem nI_app (a b : List Nat) : nI (a ++ b) = nI a ++ nI b := by simp [nI]
theorem nI_len (a : List Nat) : (nI a).length = a.length := by simp [nI]
theorem nI_get (l : List Nat) (i : Nat) (h : i < l.length) : (nI l)[i]? = some ((l.getD i 0 : Nat) : Int) := by
  simp [nI, h]
theorem halfN_snoc (l : List UInt8) (j : Nat) (b : UInt8) (h : l[j]? = some b) : halfN (l.take (j + 1)) = halfN (l.take j) ++ twoN b := by
  rw [List.take_add_one, h]
  simp [halfN]
theorem sumN_snoc (l : List UInt8) (j : Nat) (b : UInt8) (h : l[j]? = some b) : sumN (l.take (j + 1)) = sumN (l.take j) + (b.toNat / 16 + b.toNat % 16) := by
  rw [List.take_add_one, h]
  simp [sumN]
theorem halfN_len (l : List UInt8) : (halfN l).length = 2 * l.length := by
  induction l with
  | nil => rfl
  | cons b l ih =>
    show (twoN b ++ halfN l).length = _
    rw [List.length_append, ih]
    simp [twoN]
    omega
theorem sumN_le (l : List UInt8) : sumN l ≤ 30 * l.length := by
  induction l with
  | nil => exact Nat.le_refl _
  | cons b l ih =>
    have h : sumN (b :: l) = (b.toNat / 16 + b.toNat % 16) + sumN l := by simp [sumN]
    have := b.toNat_lt
    rw [h, List.length_cons]
    omega
theorem dgN_len (l : List UInt8) (h : l.length = 16) : (dgN l).length = 35 := by
  rw [dgN, List.length_append, halfN_len, h]; rfl
theorem halfN_lt (l : List UInt8) : ∀ n ∈ halfN l, n < 16 := by
  intro n hn
  obtain ⟨b, _, hb⟩ := List.mem_flatMap.1 hn
  have := b.toNat_lt
  simp [twoN] at hb
  omega
theorem dgN_lt (l : List UInt8) : ∀ n ∈ dgN l, n < 16 := by
  intro n hn
  rcases List.mem_append.1 hn with h | h
  · exact halfN_lt l n h
  · simp at h
    omega
theorem dgN_getD (l : List UInt8) (i : Nat) : (dgN l).getD i 0 < 16 := by
  by_cases h : i < (dgN l).length
  · rw [List.getD_eq_getElem?_getD, List.getElem?_eq_getElem h]
    exact dgN_lt l _ (List.getElem_mem h)
  · rw [List.getD_eq_getElem?_getD, List.getElem?_eq_none (by omega)]
    decide
/-- The digits of a text. -/
def txtN (t : ByteArray) : List Nat := dgN ((shaB t.data.toList).take 16)
theorem take16_len (l : List UInt8) : ((shaB l).take 16).length = 16 := by rw [List.length_take, shaB_len]; rfl
theorem txtN_len (t : ByteArray) : (txtN t).length = 35 := dgN_len _ (take16_len _)
theorem txtN_lt (t : ByteArray) (i : Nat) : (txtN t).getD i 0 < 16 := dgN_getD _ i

/-- Where chains stand, one behind the other. -/
def chB (k : Nat → Nat) (p : Nat → ByteArray) (n : Nat) : List UInt8 := (List.range n).flatMap fun i => (stepN (k i) (p i)).data.toList
theorem chB_zero (k : Nat → Nat) (p : Nat → ByteArray) : chB k p 0 = [] := rfl
theorem chB_succ (k : Nat → Nat) (p : Nat → ByteArray) (n : Nat) : chB k p (n + 1) = chB k p n ++ (stepN (k n) (p n)).data.toList := by
  simp [chB, List.range_succ]
theorem chB_len (k : Nat → Nat) (p : Nat → ByteArray) (n : Nat) (h : ∀ i, i < n → (p i).size = 16) : (chB k p n).length = 16 * n := by
  induction n with
  | zero => rfl
  | succ n ih =>
    rw [chB_succ, List.length_append, ih (fun i hi => h i (Nat.lt_succ_of_lt hi)), data_len, stepN_size _ _ (h n (Nat.lt_succ_self n))]
    omega
theorem chB_congr (k k' : Nat → Nat) (p p' : Nat → ByteArray) (n : Nat) (h : ∀ i, i < n → stepN (k i) (p i) = stepN (k' i) (p' i)) : chB k p n = chB k' p' n := by
  induction n with
  | zero => rfl
  | succ n ih => rw [chB_succ, chB_succ, ih (fun i hi => h i (Nat.lt_succ_of_lt hi)), h n (Nat.lt_succ_self n)]
/-- Where a chain begins. -/
def begS (seed : ByteArray) (leaf i : Nat) : ByteArray := ⟨((shaB (seed.data.toList ++ [UInt8.ofNat leaf, UInt8.ofNat i])).take 16).toArray⟩
theorem begS_size (seed : ByteArray) (leaf i : Nat) : (begS seed leaf i).size = 16 := take16_size _
def pubB (seed : ByteArray) (leaf : Nat) : List UInt8 := shaB (chB (fun _ => 15) (begS seed leaf) 35)
def signB (seed : ByteArray) (leaf : Nat) (text : ByteArray) : List UInt8 := chB (fun i => (txtN text).getD i 0) (begS seed leaf) 35
def pieceS (sig : ByteArray) (i : Nat) : ByteArray := sig.extract (16 * i) (16 * i + 16)
def recB (text sig : ByteArray) : List UInt8 := shaB (chB (fun i => 15 - (txtN text).getD i 0) (pieceS sig) 35)
theorem pubB_len (seed : ByteArray) (leaf : Nat) : (pubB seed leaf).length = 32 := shaB_len _
theorem signB_len (seed : ByteArray) (leaf : Nat) (text : ByteArray) : (signB seed leaf text).length = 560 := by
  rw [signB, chB_len _ _ _ (fun i _ => begS_size _ _ _)]
theorem pieceS_size (sig : ByteArray) (i : Nat) (h : sig.size = 560) (hi : i < 35) : (pieceS sig i).size = 16 := by
  rw [pieceS, ← data_len, ext_data, List.length_drop, List.length_take, data_len, h]
  omega
/-- The piece of a row of chains. -/
theorem chB_piece (k : Nat → Nat) (p : Nat → ByteArray) (h : ∀ i, (p i).size = 16) (n i : Nat) (hi : i < n) :
    ((chB k p n).take (16 * i + 16)).drop (16 * i) = (stepN (k i) (p i)).data.toList := by
  induction n with
  | zero => omega
  | succ n ih =>
    have hl := chB_len k p n (fun i _ => h i)
    have hs : (stepN (k n) (p n)).data.toList.length = 16 := by rw [data_len, stepN_size _ _ (h n)]
    rw [chB_succ]
    by_cases hn : i = n
    · subst hn
      rw [List.take_of_length_le (by rw [List.length_append, hl, hs]; omega), List.drop_left' hl]
    · rw [List.take_append_of_le_length (by omega)]
      exact ih (by omega)
theorem piece_sign (seed : ByteArray) (leaf : Nat) (text : ByteArray) (i : Nat) (hi : i < 35) : pieceS ⟨(signB seed leaf text).toArray⟩ i = stepN ((txtN text).getD i 0) (begS seed leaf i) := by
  apply ByteArray.ext
  apply Array.ext'
  rw [pieceS, ext_data, mk_data]
  exact chB_piece _ _ (begS_size seed leaf) 35 i hi
/-- A signature leads to its public key. -/
theorem rec_sign (seed : ByteArray) (leaf : Nat) (text : ByteArray) : recB text ⟨(signB seed leaf text).toArray⟩ = pubB seed leaf := by
  unfold recB pubB
  congr 1
  refine chB_congr _ _ _ _ _ fun i hi => ?_
  rw [piece_sign _ _ _ _ hi, stepN_add]
  congr 1
  have := txtN_lt text i
  omega
end Go.Proofs.Ytebhkifjommpjaa
