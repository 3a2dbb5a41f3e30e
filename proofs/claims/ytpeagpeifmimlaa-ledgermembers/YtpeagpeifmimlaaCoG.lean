/- The document's bytes of a configuration. -/
import Derived.Test.YtpeagpeifmimlaaCoE
import Derived.Test.YtpeagpeifmimlaaMwC
namespace Go.Proofs.Ytpeagpeifmimlaa
open Go.RowKit

theorem inR_yes (s n : Nat) (hn : n < 256 ^ s) : inR s (n : Int) = true := by
  unfold inR
  exact decide_eq_true ⟨Int.natCast_nonneg _, by exact_mod_cast hn⟩
theorem wL_ok (l : List UInt8) (s n : Nat) (hn : n < 256 ^ s) (hl : l.length + s ≤ 100) : wL 100 l 0 s (n : Int) = l ++ be s n ∧ wE 100 l 0 s (n : Int) = 0 := by
  have h : adm 100 l.length 0 (inR s (n : Int)) s = 0 := by
    have hi : inR s (n : Int) = true := inR_yes s n hn
    rw [hi]
    unfold adm
    simp
    omega
  exact ⟨by rw [wL, if_pos h, Int.toNat_natCast], by rw [wE, h]⟩
def memBytes (l : List Int) : List UInt8 := l.flatMap fun x => be 1 x.toNat
/-- The bytes of a right configuration. -/
def confB (ep : Int) (l : List Int) : List UInt8 := be 1 67 ++ be 2 ep.toNat ++ be 1 l.length ++ memBytes l
theorem memBytes_len (l : List Int) : (memBytes l).length = l.length := by
  induction l with
  | nil => rfl
  | cons x l ih =>
    show (be 1 x.toNat ++ memBytes l).length = _
    rw [List.length_append, be_len, ih, List.length_cons]
    omega
theorem memBytes_snoc (l : List Int) (j : Nat) (hj : j < l.length) : memBytes (l.take (j + 1)) = memBytes (l.take j) ++ be 1 (l.getD j 0).toNat := by
  rw [List.take_add_one, getD_some hj, memBytes, List.flatMap_append]
  simp [memBytes]
def textC (ep : Int) (l : List Int) : ByteArray := if rightC ep l then ⟨(confB ep l).toArray⟩ else ⟨#[]⟩
def textE (ep : Int) (l : List Int) : Int := if rightC ep l then 0 else 1
end Go.Proofs.Ytpeagpeifmimlaa
