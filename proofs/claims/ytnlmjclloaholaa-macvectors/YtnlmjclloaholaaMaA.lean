/- MACs, keys of pairs and tags, as functions of bytes. No walk here. -/
import Derived.Test.YtnlmjclloaholaaShQ
namespace Go.Proofs.Ytnlmjclloaholaa
open Go.RowKit

/-- What stands for a key: a long one is its digest. -/
def keyB (key : List UInt8) : List UInt8 := if 64 < key.length then shaB key else key
/-- .. filled up. -/
def fillB (k : List UInt8) : List UInt8 := k ++ List.replicate (64 - k.length) 0
def maskB (m : UInt8) (l : List UInt8) : List UInt8 := l.map fun c => c ^^^ m
def macB (key text : List UInt8) : List UInt8 := shaB (maskB 92 (fillB (keyB key)) ++ shaB (maskB 54 (fillB (keyB key)) ++ text))
def pairB (seed : List UInt8) (a b : Nat) : List UInt8 := shaB (seed ++ [UInt8.ofNat (min a b), UInt8.ofNat (max a b)])
def tagB (seed : List UInt8) (a b : Nat) (text : List UInt8) : List UInt8 := (macB (pairB seed a b) (UInt8.ofNat a :: text)).take 8

theorem keyB_le (k : List UInt8) : (keyB k).length ≤ 64 := by
  unfold keyB
  split
  · rw [shaB_len]; decide
  · omega
theorem fillB_len (k : List UInt8) (h : k.length ≤ 64) : (fillB k).length = 64 := by
  rw [fillB, List.length_append, List.length_replicate]
  omega
theorem maskB_len (m : UInt8) (l : List UInt8) : (maskB m l).length = l.length := by simp [maskB]
theorem macB_len (k t : List UInt8) : (macB k t).length = 32 := shaB_len _
theorem pairB_len (s : List UInt8) (a b : Nat) : (pairB s a b).length = 32 := shaB_len _
theorem pairB_comm (s : List UInt8) (a b : Nat) : pairB s a b = pairB s b a := by unfold pairB; rw [Nat.min_comm, Nat.max_comm]
theorem tagB_len (s : List UInt8) (a b : Nat) (t : List UInt8) : (tagB s a b t).length = 8 := by
  rw [tagB, List.length_take, macB_len]; rfl
/-- Noughts behind a short key change nothing. -/
theorem fill_more (k : List UInt8) (n : Nat) (h : k.length + n ≤ 64) : fillB (k ++ List.replicate n 0) = fillB k := by
  unfold fillB
  rw [List.append_assoc, List.replicate_append_replicate, List.length_append, List.length_replicate]
  congr 2
  omega
theorem mac_more (k t : List UInt8) (n : Nat) (h : k.length + n ≤ 64) : macB (k ++ List.replicate n 0) t = macB k t := by
  unfold macB
  have e1 : keyB (k ++ List.replicate n 0) = k ++ List.replicate n 0 := by
    unfold keyB
    rw [if_neg (by rw [List.length_append, List.length_replicate]; omega)]
  have e2 : keyB k = k := by
    unfold keyB
    rw [if_neg (by omega)]
  rw [e1, e2, fill_more k n h]

def foxKey : List UInt8 := [107, 101, 121]
def foxText : List UInt8 := [84, 104, 101, 32, 113, 117, 105, 99, 107, 32, 98, 114, 111, 119, 110, 32, 102, 111, 120, 32, 106, 117, 109, 112, 115, 32, 111, 118, 101, 114, 32, 116, 104, 101, 32, 108, 97, 122, 121, 32, 100, 111, 103]
set_option maxRecDepth 100000 in
theorem mac_fox : (macB foxKey foxText).take 4 = [247, 188, 131, 244] := by decide +kernel

theorem ofInt8 (x : UInt8) : BitVec.ofInt 8 (x.toNat : Int) = x.toBitVec := by
  rw [BitVec.ofInt_natCast]
  show BitVec.ofNat 8 x.toBitVec.toNat = _
  simp
theorem b_xor (x y : UInt8) : bits .xor .u8 (x.toNat : Int) (y.toNat : Int) = ((x ^^^ y).toNat : Int) := by
  show IntKind.u8.wrap ((BitVec.ofInt 8 (x.toNat : Int) ^^^ BitVec.ofInt 8 (y.toNat : Int)).toNat : Int) = _
  rw [ofInt8, ofInt8]
  have e : (x.toBitVec ^^^ y.toBitVec).toNat = (x ^^^ y).toNat := rfl
  rw [e]
  have h := (x ^^^ y).toNat_lt
  generalize (x ^^^ y).toNat = n at h
  simp [IntKind.wrap, IntKind.bits, IntKind.signed]
  omega
theorem bC_set (l : List UInt8) (j : Nat) (v : Value) (x : UInt8) (hv : v = .int .u8 (x.toNat : Int)) : (bC l).toArray.setIfInBounds j v = (bC (l.set j x)).toArray := by
  subst hv
  simp [bC, List.map_set]
/-- Masked as far as k. -/
def maskK (m : UInt8) (l : List UInt8) (k : Nat) : List UInt8 := maskB m (l.take k) ++ l.drop k
theorem maskK_len (m : UInt8) (l : List UInt8) (k : Nat) : (maskK m l k).length = l.length := by
  rw [maskK, List.length_append, maskB_len, List.length_take, List.length_drop]; omega
theorem maskK_get (m : UInt8) (l : List UInt8) (k : Nat) (h : k < l.length) : (maskK m l k).getD k 0 = l.getD k 0 := by
  have e : (maskB m (l.take k)).length = k := by rw [maskB_len, List.length_take]; omega
  simp [maskK, List.getD, List.getElem?_append_right, e, h]
theorem maskK_set (m : UInt8) (l : List UInt8) (k : Nat) (h : k < l.length) : (maskK m l k).set k (l.getD k 0 ^^^ m) = maskK m l (k + 1) := by
  have e : (maskB m (l.take k)).length = k := by rw [maskB_len, List.length_take]; omega
  have e2 : l.drop k = l.getD k 0 :: l.drop (k + 1) := by
    rw [List.drop_eq_getElem_cons h]
    simp [List.getD, h]
  have e3 : l.take (k + 1) = l.take k ++ [l.getD k 0] := by
    rw [List.take_add_one]
    simp [List.getD, h]
  unfold maskK
  rw [List.set_append_right _ _ (by rw [e]; exact Nat.le_refl _), e, Nat.sub_self, e2, e3]
  simp [maskB]
theorem maskK_all (m : UInt8) (l : List UInt8) (k : Nat) (h : l.length ≤ k) : maskK m l k = maskB m l := by
  unfold maskK
  rw [List.take_of_length_le h, List.drop_eq_nil_of_le h, List.append_nil]
/-- A short text copied into a row of noughts. -/
theorem fill_copy (l : List UInt8) : splice (bC z64B) 0 (bC l) = bC (fillB l) := by
  have e : ∀ n, bC (List.replicate n 0) = List.replicate n (.int .u8 0) := fun n => by
    unfold bC
    rw [List.map_replicate]
    rfl
  unfold splice fillB z64B
  rw [List.take_zero, List.nil_append, Nat.zero_add, bC_len, bC_app, e, e, List.drop_replicate]
end Go.Proofs.Ytnlmjclloaholaa
