/- Signers at work: all else stays. -/
import Derived.Test.YtchlmcpnjpllnaaPaTM
import Derived.Test.YtchlmcpnjpllnaaX11
namespace Go.Proofs.Ytchlmcpnjpllnaa
open Go.RowKit

def isSg (w : World) (k : Nat) : Prop := ∃ c fr, w.heap[k]? = some (.cells c 93 fr)
/-- What is no signer is as it was, and all below B. -/
structure Ng (B : Nat) (w w' : World) : Prop where
  os : w'.os = w.os
  tape : w'.tape = w.tape
  output : w'.output = w.output
  size : w.heap.size ≤ w'.heap.size
  block : ∀ k, k < w.heap.size → (k < B ∨ ¬ isSg w k) → w'.heap[k]? = w.heap[k]?
theorem Ng.refl (B : Nat) (w : World) : Ng B w w := ⟨rfl, rfl, rfl, Nat.le_refl _, fun _ _ _ => rfl⟩
theorem Ng.trans {B : Nat} {x y z : World} (h : Ng B x y) (k : Ng B y z) : Ng B x z :=
  ⟨k.os.trans h.os, k.tape.trans h.tape, k.output.trans h.output, Nat.le_trans h.size k.size, fun i hi hs => by
    have e := h.block i hi hs
    refine (k.block i (Nat.lt_of_lt_of_le hi h.size) ?_).trans e
    rcases hs with hs | hs
    · exact .inl hs
    · exact .inr (fun ⟨c, fr, hc⟩ => hs ⟨c, fr, by rw [← e]; exact hc⟩)⟩
theorem Ng.of {B : Nat} {x y : World} (h : Below x.heap.size x y) : Ng B x y := ⟨h.os, h.tape, h.output, h.size, fun k hk _ => h.block k hk⟩
theorem Ng.but {B b : Nat} {x y : World} (h : But b x y) (hB : B ≤ b) (hs : isSg x b) : Ng B x y :=
  ⟨h.os, h.tape, h.output, h.size, fun k hk hc => h.block k hk (fun e => by
    subst e
    rcases hc with hc | hc
    · omega
    · exact hc hs)⟩
theorem Ng.below {B : Nat} {x y : World} (h : Ng B x y) (hB : B ≤ x.heap.size) : Below B x y := ⟨h.os, h.tape, h.output, h.size, fun k hk => h.block k (by omega) (.inl hk)⟩
theorem Ng.grown {B : Nat} {x y z : World} {o : Obj} {r : Option Nat} (h : Ng B x y) (hg : (y.alloc o).grownBy z r) (hr : ∀ k, r = some k → x.heap.size ≤ k) : Ng B x z :=
  ⟨hg.os.trans h.os, hg.tape.trans h.tape, hg.output.trans h.output, by have h1 := hg.size; have h2 := h.size; simp at h1; omega, fun k hk hs => by
    have hlt := Nat.lt_of_lt_of_le hk h.size
    exact ((hg.block k (by simp; omega) (fun e => by have := hr k e.symm; omega)).trans (Below.heap_alloc y o k hlt)).trans (h.block k hk hs)⟩
theorem no_sg {w : World} {k : Nat} {c : Array Value} {T : TypeId} {fr : Nat × Nat} (h : w.heap[k]? = some (.cells c T fr)) (hT : T ≠ 93) : ¬ isSg w k := fun ⟨c', fr', h'⟩ => by
  rw [h] at h'
  cases h'
  exact hT rfl
theorem own_ng {B B0 : Nat} {w w' : World} {e : TypeId} {z : Nat} {v : Value} {n : Nat} {xs : List Value} (h : w.ownsRow B e z v n xs) (he : e ≠ 93) (hn : Ng B0 w w') : w'.ownsRow B e z v n xs :=
  own_far h (fun k hk => by
    obtain ⟨cur, hc⟩ := own_type h hk
    exact hn.block k (lt_of_blk hc) (.inr (no_sg hc he)))
theorem PpAt.ng {B0 : Nat} {w w' : World} {b : Nat} {ep : Int} {v : Value} (h : PpAt w b ep v 24) (hn : Ng B0 w w') : PpAt w' b ep v 24 := (hn.block b h.lt (.inr (no_sg h (by decide)))).trans h
theorem sdS_inj (seed : ByteArray) (i j : Nat) (hi : i < 256) (hj : j < 256) (h : sdS seed i = sdS seed j) : i = j := by
  have h1 : (sdS seed i).data.toList = (sdS seed j).data.toList := by rw [h]
  rw [sdS, sdS, ByteArray.data_append, ByteArray.data_append, Array.toList_append, Array.toList_append] at h1
  have h2 := List.append_cancel_left h1
  have h3 : UInt8.ofNat i = UInt8.ofNat j := by simpa using h2
  have h4 := congrArg UInt8.toNat h3
  rw [ofNat_back i hi, ofNat_back j hj] at h4
  exact h4
/-- The signers from j on have signed nothing yet. -/
def Fresh (w : World) (bs : Nat → Nat) (seed : ByteArray) (j n : Nat) : Prop := ∀ i, j ≤ i → i < n → SgAt w (bs i) (sdS seed i) 3 0
theorem Fresh.keep {w w' : World} {bs : Nat → Nat} {seed : ByteArray} {j n : Nat} (h : Fresh w bs seed j n) (hb : Below w.heap.size w w') : Fresh w' bs seed j n := fun i h1 h2 => (h i h1 h2).keep hb
theorem Fresh.but {w w' : World} {bs : Nat → Nat} {seed : ByteArray} {j n : Nat} (h : Fresh w bs seed j n) (hj : j < n) (hn : n ≤ 100) (hb : But (bs j) w w') : Fresh w' bs seed (j + 1) n := fun i h1 h2 =>
  (h i (by omega) h2).but hb (fun e => by
    have a := h i (by omega) h2
    have b := h j (Nat.le_refl _) hj
    rw [← e] at b
    have hc : some (Obj.cells #[.string (sdS seed i), .int .i64 ((3 : Nat) : Int), .int .i64 ((0 : Nat) : Int)] 93 (0, 0)) = some (Obj.cells #[.string (sdS seed j), .int .i64 ((3 : Nat) : Int), .int .i64 ((0 : Nat) : Int)] 93 (0, 0)) := a.symm.trans b
    simp at hc
    have := sdS_inj seed i j (by omega) (by omega) hc
    omega)
theorem Fresh.grown {w w' : World} {bs : Nat → Nat} {seed : ByteArray} {j n : Nat} {o : Obj} {B : Nat} {e : TypeId} {z : Nat} {v : Value} {k : Nat} {xs : List Value} (h : Fresh w bs seed j n) (ho : w.ownsRow B e z v k xs) (he : e ≠ 93) (hg : (w.alloc o).grownBy w' v.ownBlock) : Fresh w' bs seed j n := fun i h1 h2 => by
  have a := h i h1 h2
  refine ((hg.block (bs i) (by have := a.lt; simp; omega) (fun e2 => ?_)).trans (Below.heap_alloc w o _ a.lt)).trans a
  obtain ⟨cur, hc⟩ := own_type ho e2.symm
  exact no_sg hc he ⟨_, _, a⟩
end Go.Proofs.Ytchlmcpnjpllnaa
