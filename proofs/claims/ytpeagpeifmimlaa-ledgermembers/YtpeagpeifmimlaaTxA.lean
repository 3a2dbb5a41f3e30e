/- The document's writer, as the walks of its users see it: what lies in it, numbers, bits, texts put to it, its end. -/
import Derived.Test.YtpeagpeifmimlaaMwT
import Derived.Test.YtpeagpeifmimlaaBaB
namespace Go.Proofs.Ytpeagpeifmimlaa
open Go.RowKit

theorem wLx (lim : Int) (l : List UInt8) (s n : Nat) (hn : n < 256 ^ s) (hl : (l.length : Int) + s ≤ lim) : wL lim l 0 s (n : Int) = l ++ be s n ∧ wE lim l 0 s (n : Int) = 0 := by
  have h : adm lim l.length 0 (inR s (n : Int)) s = 0 := by
    have hi : inR s (n : Int) = true := by
      unfold inR
      exact decide_eq_true ⟨Int.natCast_nonneg _, by exact_mod_cast hn⟩
    rw [hi]
    unfold adm
    rw [if_pos rfl, if_pos rfl, if_neg (by omega)]
  exact ⟨by rw [wL, if_pos h, Int.toNat_natCast], by rw [wE, h]⟩
theorem xLx (lim : Int) (l : List UInt8) (s : ByteArray) (hs : s.size ≤ 65535) (hl : (l.length : Int) + (2 + s.size) ≤ lim) : xL lim l 0 s = l ++ (be 2 s.size ++ s.data.toList) ∧ xE lim l 0 s = 0 := by
  have h : xE lim l 0 s = 0 := by
    unfold xE adm
    rw [if_pos rfl, decide_eq_true hs, if_pos rfl, if_neg (by omega)]
  exact ⟨by rw [xL, if_pos h], h⟩
theorem bLx (lim : Int) (l : List UInt8) (n : Nat) (hl : (l.length : Int) + 8 ≤ lim) : bL lim l 0 n = l ++ be 8 n ∧ bE lim l 0 = 0 := by
  have h : bE lim l 0 = 0 := by
    unfold bE adm
    rw [if_pos rfl, if_pos rfl, if_neg (by omega)]
  exact ⟨by rw [bL, if_pos h], h⟩
def teT (l : List UInt8) (er : Int) : ByteArray := if er = 0 then ⟨l.toArray⟩ else ⟨#[]⟩
end Go.Proofs.Ytpeagpeifmimlaa
