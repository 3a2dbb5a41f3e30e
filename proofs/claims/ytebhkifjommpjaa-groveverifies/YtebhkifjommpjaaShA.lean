/- Words of 32 bits: what the model's numbers are of them, and what turning, shifting and adding does. No walk here. -/
import Derived.Test.YtebhkifjommpjaaBaB
namespace Go.Proofs.Ytebhkifjommpjaa
open Go.RowKit

/-- A word's number. -/
def u (x : BitVec 32) : Int := (x.toNat : Int)
theorem u_nonneg (x : BitVec 32) : 0 ≤ u x := Int.natCast_nonneg _
theorem u_lt (x : BitVec 32) : u x < 4294967296 := by have := x.isLt; unfold u; omega
theorem u_lit (n : Nat) (h : n < 4294967296) : (n : Int) = u (BitVec.ofNat 32 n) := by
  simp [u, Nat.mod_eq_of_lt h]

theorem ofInt_u (x : BitVec 32) : BitVec.ofInt 32 (u x) = x := by
  unfold u
  rw [BitVec.ofInt_natCast, BitVec.ofNat_toNat]
  simp
theorem wrap_u (x : BitVec 32) : IntKind.u32.wrap (x.toNat : Int) = u x := by
  have := x.isLt
  unfold u
  simp [IntKind.wrap, IntKind.bits, IntKind.signed]
  omega
theorem u_or (x y : BitVec 32) : bits .or .u32 (u x) (u y) = u (x ||| y) := by
  show IntKind.u32.wrap ((BitVec.ofInt 32 (u x) ||| BitVec.ofInt 32 (u y)).toNat : Int) = _
  rw [ofInt_u, ofInt_u, wrap_u]
theorem u_and (x y : BitVec 32) : bits .and .u32 (u x) (u y) = u (x &&& y) := by
  show IntKind.u32.wrap ((BitVec.ofInt 32 (u x) &&& BitVec.ofInt 32 (u y)).toNat : Int) = _
  rw [ofInt_u, ofInt_u, wrap_u]
theorem u_xor (x y : BitVec 32) : bits .xor .u32 (u x) (u y) = u (x ^^^ y) := by
  show IntKind.u32.wrap ((BitVec.ofInt 32 (u x) ^^^ BitVec.ofInt 32 (u y)).toNat : Int) = _
  rw [ofInt_u, ofInt_u, wrap_u]
theorem u_not (x : BitVec 32) : bits .xor .u32 IntKind.u32.max (u x) = u (~~~ x) := by
  show IntKind.u32.wrap ((BitVec.ofInt 32 IntKind.u32.max ^^^ BitVec.ofInt 32 (u x)).toNat : Int) = _
  have h1 : BitVec.ofInt 32 IntKind.u32.max = BitVec.allOnes 32 := by decide
  rw [h1, ofInt_u, BitVec.allOnes_xor, wrap_u]
theorem u_add (x y : BitVec 32) : (u x + u y) % 4294967296 = u (x + y) := by
  unfold u
  rw [BitVec.toNat_add]
  omega
theorem u_shr (x : BitVec 32) (k : Nat) : u x / ((2 ^ k : Nat) : Int) = u (x >>> k) := by
  unfold u
  rw [BitVec.toNat_ushiftRight, Nat.shiftRight_eq_div_pow]
  rfl
theorem u_shl (x : BitVec 32) (k : Nat) : u x * ((2 ^ k : Nat) : Int) % 4294967296 = u (x <<< k) := by
  unfold u
  rw [BitVec.toNat_shiftLeft, Nat.shiftLeft_eq]
  rfl

/-- Turned right. -/
def rotr (x : BitVec 32) (n : Nat) : BitVec 32 := (x >>> n) ||| (x <<< (32 - n))

/-- The small and the great sigmas. -/
def sg0 (x : BitVec 32) : BitVec 32 := rotr x 7 ^^^ rotr x 18 ^^^ (x >>> 3)
def sg1 (x : BitVec 32) : BitVec 32 := rotr x 17 ^^^ rotr x 19 ^^^ (x >>> 10)
def Sg0 (x : BitVec 32) : BitVec 32 := rotr x 2 ^^^ rotr x 13 ^^^ rotr x 22
def Sg1 (x : BitVec 32) : BitVec 32 := rotr x 6 ^^^ rotr x 11 ^^^ rotr x 25
def ch (e f g : BitVec 32) : BitVec 32 := (e &&& f) ^^^ (~~~ e &&& g)
def maj (a b c : BitVec 32) : BitVec 32 := (a &&& b) ^^^ (a &&& c) ^^^ (b &&& c)
theorem ch_or (e f g : BitVec 32) : (e &&& f) ||| (~~~ e &&& g) = ch e f g := by
  unfold ch
  ext i hi
  simp
  cases e[i] <;> cases f[i] <;> cases g[i] <;> rfl
theorem maj_or (a b c : BitVec 32) : (a &&& b) ||| (a &&& c) ||| (b &&& c) = maj a b c := by
  unfold maj
  ext i hi
  simp
  cases a[i] <;> cases b[i] <;> cases c[i] <;> rfl

/-- The constants. -/
def kList : List (BitVec 32) := [
  0x428a2f98, 0x71374491, 0xb5c0fbcf, 0xe9b5dba5, 0x3956c25b, 0x59f111f1, 0x923f82a4, 0xab1c5ed5,
  0xd807aa98, 0x12835b01, 0x243185be, 0x550c7dc3, 0x72be5d74, 0x80deb1fe, 0x9bdc06a7, 0xc19bf174,
  0xe49b69c1, 0xefbe4786, 0x0fc19dc6, 0x240ca1cc, 0x2de92c6f, 0x4a7484aa, 0x5cb0a9dc, 0x76f988da,
  0x983e5152, 0xa831c66d, 0xb00327c8, 0xbf597fc7, 0xc6e00bf3, 0xd5a79147, 0x06ca6351, 0x14292967,
  0x27b70a85, 0x2e1b2138, 0x4d2c6dfc, 0x53380d13, 0x650a7354, 0x766a0abb, 0x81c2c92e, 0x92722c85,
  0xa2bfe8a1, 0xa81a664b, 0xc24b8b70, 0xc76c51a3, 0xd192e819, 0xd6990624, 0xf40e3585, 0x106aa070,
  0x19a4c116, 0x1e376c08, 0x2748774c, 0x34b0bcb5, 0x391c0cb3, 0x4ed8aa4a, 0x5b9cca4f, 0x682e6ff3,
  0x748f82ee, 0x78a5636f, 0x84c87814, 0x8cc70208, 0x90befffa, 0xa4506ceb, 0xbef9a3f7, 0xc67178f2]
/-- The start. -/
def hList : List (BitVec 32) := [0x6a09e667, 0xbb67ae85, 0x3c6ef372, 0xa54ff53a, 0x510e527f, 0x9b05688c, 0x1f83d9ab, 0x5be0cd19]
/-- Words as cells. -/
def uC (l : List (BitVec 32)) : List Value := l.map fun x => .int .u32 (u x)
theorem uC_len (l : List (BitVec 32)) : (uC l).length = l.length := by simp [uC]
theorem uC_app (a b : List (BitVec 32)) : uC (a ++ b) = uC a ++ uC b := by simp [uC]
theorem uC_get (l : List (BitVec 32)) (i : Nat) (h : i < l.length) : (uC l)[i]? = some (.int .u32 (u (l.getD i 0))) := by
  simp [uC, List.getD, h]

/-- Four bytes as a word. -/
def be4 (a b c d : UInt8) : BitVec 32 := BitVec.ofNat 32 (((a.toNat * 256 + b.toNat) * 256 + c.toNat) * 256 + d.toNat)
theorem u_be4 (a b c d : UInt8) : u (be4 a b c d) = ((((a.toNat * 256 + b.toNat) * 256 + c.toNat) * 256 + d.toNat : Nat) : Int) := by
  unfold u be4
  have := a.toNat_lt; have := b.toNat_lt; have := c.toNat_lt; have := d.toNat_lt
  rw [BitVec.toNat_ofNat]
  omega
/-- The first words of a block. -/
def words16 : Nat → List UInt8 → List (BitVec 32)
  | 0, _ => []
  | n + 1, a :: b :: c :: d :: r => be4 a b c d :: words16 n r
  | _ + 1, _ => []
theorem words16_len : ∀ (n : Nat) (l : List UInt8), l.length = 4 * n → (words16 n l).length = n
  | 0, _, _ => rfl
  | n + 1, a :: b :: c :: d :: r, h => by
    simp only [words16, List.length_cons] at h ⊢
    rw [words16_len n r (by omega)]
  | n + 1, [], h => by simp at h
  | n + 1, [_], h => by simp at h; omega
  | n + 1, [_, _], h => by simp at h; omega
  | n + 1, [_, _, _], h => by simp at h; omega
/-- One word more. -/
def nextW (l : List (BitVec 32)) : BitVec 32 := sg1 (l.getD (l.length - 2) 0) + l.getD (l.length - 7) 0 + sg0 (l.getD (l.length - 15) 0) + l.getD (l.length - 16) 0
def moreW : Nat → List (BitVec 32) → List (BitVec 32)
  | 0, l => l
  | n + 1, l => moreW n (l ++ [nextW l])
theorem moreW_len : ∀ (n : Nat) (l : List (BitVec 32)), (moreW n l).length = l.length + n
  | 0, _ => rfl
  | n + 1, l => by rw [moreW, moreW_len n]; simp; omega
/-- All words of a block. -/
def sched (l : List UInt8) : List (BitVec 32) := moreW 48 (words16 16 l)
theorem sched_len (l : List UInt8) (h : l.length = 64) : (sched l).length = 64 := by
  rw [sched, moreW_len, words16_len 16 l (by omega)]

/-- The eight words. -/
structure St where
  a : BitVec 32
  b : BitVec 32
  c : BitVec 32
  d : BitVec 32
  e : BitVec 32
  f : BitVec 32
  g : BitVec 32
  h : BitVec 32
def St.list (s : St) : List (BitVec 32) := [s.a, s.b, s.c, s.d, s.e, s.f, s.g, s.h]
def St.start : St := ⟨0x6a09e667, 0xbb67ae85, 0x3c6ef372, 0xa54ff53a, 0x510e527f, 0x9b05688c, 0x1f83d9ab, 0x5be0cd19⟩
def rU (s : St) (k w : BitVec 32) : BitVec 32 := s.h + Sg1 s.e + ch s.e s.f s.g + k + w
def rV (s : St) : BitVec 32 := Sg0 s.a + maj s.a s.b s.c
/-- One round. -/
def round1 (s : St) (k w : BitVec 32) : St := ⟨rU s k w + rV s, s.a, s.b, s.c, s.d + rU s k w, s.e, s.f, s.g⟩
/-- n rounds from t on. -/
def roundsN (W : List (BitVec 32)) : Nat → Nat → St → St
  | 0, _, s => s
  | n + 1, t, s => roundsN W n (t + 1) (round1 s (kList.getD t 0) (W.getD t 0))
def St.plus (s x : St) : St := ⟨s.a + x.a, s.b + x.b, s.c + x.c, s.d + x.d, s.e + x.e, s.f + x.f, s.g + x.g, s.h + x.h⟩
/-- The state behind a block with these words. -/
def behindW (s : St) (W : List (BitVec 32)) : St := s.plus (roundsN W 64 0 s)
def step (s : St) (l : List UInt8) : St := behindW s (sched l)
/-- The state behind all whole blocks. -/
def blocks : Nat → St → List UInt8 → St
  | 0, s, _ => s
  | n + 1, s, l => blocks n (step s (l.take 64)) (l.drop 64)
def hashB (s : St) (l : List UInt8) : St := blocks (l.length / 64) s l
theorem hashB_short (s : St) (l : List UInt8) (h : l.length < 64) : hashB s l = s := by
  unfold hashB
  rw [Nat.div_eq_of_lt h]; rfl
theorem hashB_cons (s : St) (a b : List UInt8) (h : a.length = 64) : hashB s (a ++ b) = hashB (step s a) b := by
  unfold hashB
  have e : (a ++ b).length / 64 = b.length / 64 + 1 := by simp [h]
  rw [e, blocks, ← h]
  simp
theorem hashB_app (s : St) (a b : List UInt8) : ∀ (n : Nat), a.length = 64 * n → hashB s (a ++ b) = hashB (hashB s a) b := by
  intro n
  induction n generalizing s a with
  | zero => intro h; obtain rfl := List.eq_nil_of_length_eq_zero (by omega : a.length = 0); simp [hashB_short]
  | succ n ih =>
    intro h
    have e : a = a.take 64 ++ a.drop 64 := (List.take_append_drop 64 a).symm
    have l1 : (a.take 64).length = 64 := by simp; omega
    rw [e, List.append_assoc, hashB_cons _ _ _ l1, hashB_cons _ _ _ l1]
    exact ih _ _ (by simp; omega)

/-- The bytes of a word. -/
def wBytes (x : BitVec 32) : List UInt8 := [UInt8.ofNat (x.toNat / 16777216), UInt8.ofNat (x.toNat / 65536), UInt8.ofNat (x.toNat / 256), UInt8.ofNat x.toNat]
def St.text (s : St) : List UInt8 := s.list.flatMap wBytes

def zerosN (n : Nat) : Nat := (64 - (n + 9) % 64) % 64
def padB (n : Nat) : List UInt8 := 128 :: (List.replicate (zerosN n) 0 ++ be 8 (8 * n))
theorem padB_len (n : Nat) : (padB n).length = 9 + zerosN n := by simp [padB, be_len]; omega
def shaB (l : List UInt8) : List UInt8 := (hashB .start (l ++ padB l.length)).text
theorem text_len (s : St) : s.text.length = 32 := by simp [St.text, St.list, wBytes]
theorem shaB_len (l : List UInt8) : (shaB l).length = 32 := text_len _

set_option maxRecDepth 100000 in
theorem sha_abc : (shaB [97, 98, 99]).take 4 = [186, 120, 22, 191] := by decide +kernel

end Go.Proofs.Ytebhkifjommpjaa
