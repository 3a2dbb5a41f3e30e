/- The contracts of package pack's writers. -/
import Derived.Test.YtpeagpeifmimlaaPkM
namespace Go.Proofs.Ytpeagpeifmimlaa
open Go.RowKit

/-- Nothing but draws. -/
structure Still (w w' : World) : Prop where
  os : w'.os = w.os
  tape : w'.tape = w.tape
  output : w'.output = w.output
  heap : w'.heap = w.heap
theorem Still.refl (w : World) : Still w w := ⟨rfl, rfl, rfl, rfl⟩
theorem Still.drew (w : World) : Still w w.drew := ⟨rfl, rfl, rfl, rfl⟩
theorem Still.kept {w w' : World} (h : Still w w') (b : Nat) (r : Option Nat) : Kept b r w w' := ⟨h.os, h.tape, h.output, by rw [h.heap]; exact Nat.le_refl _, fun k _ _ _ => by rw [h.heap]⟩
theorem ownsRow_of_heap {w w' : World} (e : w'.heap = w.heap) {base : Nat} {t : TypeId} {size : Nat} {v : Value} {n : Nat} {xs : List Value} (h : w.ownsRow base t size v n xs) : w'.ownsRow base t size v n xs := by
  unfold World.ownsRow at h ⊢
  rw [e]
  exact h
/-- The error behind a thing of that size: the first one stays. -/
def adm (lim : Int) (n : Nat) (er : Int) (inR : Bool) (size : Int) : Int := if er = 0 then (if inR then (if lim - n < size then 3 else 0) else 4) else er

theorem adm_bad (lim : Int) (n : Nat) (size : Int) : adm lim n 0 false size = 4 := by simp [adm]
theorem adm_er (lim : Int) (n : Nat) (er : Int) (inR : Bool) (size : Int) (he : er ≠ 0) : adm lim n er inR size = er := by simp [adm, he]
theorem adm_long (lim : Int) (n : Nat) (size : Int) (h : lim - n < size) : adm lim n 0 true size = 3 := by simp [adm, h]
theorem adm_ok (lim : Int) (n : Nat) (size : Int) (h : ¬ lim - n < size) : adm lim n 0 true size = 0 := by simp [adm, h]

end Go.Proofs.Ytpeagpeifmimlaa
