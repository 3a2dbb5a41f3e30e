/- The document's Noted. -/
import Derived.Test.YtgnapfgiefdlaabTeF
import Derived.Maps.AppendAt
namespace Go.Proofs.Ytgnapfgiefdlaab
open Go.RowKit

/-- A list with those that don't stand in it. -/
def noted (l : List (Int × ByteArray)) : List (Int × ByteArray) → List (Int × ByteArray)
  | [] => l
  | s :: ss => noted (if stands l s = true then l else l ++ [s]) ss
theorem noted_app (l a b : List (Int × ByteArray)) : noted l (a ++ b) = noted (noted l a) b := by
  induction a generalizing l with
  | nil => rfl
  | cons s a ih => exact ih _
theorem noted_yes {l : List (Int × ByteArray)} {s : Int × ByteArray} (h : stands l s = true) : noted l [s] = l := by simp [noted, h]
theorem noted_no {l : List (Int × ByteArray)} {s : Int × ByteArray} (h : stands l s = false) : noted l [s] = l ++ [s] := by simp [noted, h]
theorem noted_len (ss : List (Int × ByteArray)) : ∀ l, (noted l ss).length ≤ l.length + ss.length := by
  induction ss with
  | nil => intro l; exact Nat.le_refl _
  | cons s ss ih =>
    intro l
    refine Nat.le_trans (ih _) ?_
    split <;> simp <;> omega
theorem noted_mem (ss : List (Int × ByteArray)) (z : Int × ByteArray) : ∀ l, z ∈ noted l ss ↔ z ∈ l ∨ z ∈ ss := by
  induction ss with
  | nil => intro l; simp [noted]
  | cons s ss ih =>
    intro l
    rw [noted, ih, List.mem_cons]
    by_cases h : stands l s = true
    · rw [if_pos h]
      have := (stands_iff _ _).1 h
      constructor
      · rintro (h | h)
        · exact .inl h
        · exact .inr (.inr h)
      · rintro (h | rfl | h)
        · exact .inl h
        · exact .inl this
        · exact .inr h
    · rw [if_neg h, List.mem_append, List.mem_singleton]
      constructor
      · rintro ((h | h) | h)
        · exact .inl h
        · exact .inr (.inl h)
        · exact .inr (.inr h)
      · rintro (h | h | h)
        · exact .inl (.inl h)
        · exact .inl (.inr h)
        · exact .inr h
theorem noted_nodup (ss : List (Int × ByteArray)) : ∀ l, l.Nodup → (noted l ss).Nodup := by
  induction ss with
  | nil => intro l h; exact h
  | cons s ss ih =>
    intro l h
    rw [noted]
    split
    · exact ih _ h
    · next hs =>
      refine ih _ (List.nodup_append.2 ⟨h, by simp, fun x hx y hy e => ?_⟩)
      rw [List.mem_singleton.1 hy] at e
      rw [e] at hx
      exact hs ((stands_iff _ _).2 hx)
/-- The list as it grows: all other blocks stay. -/
structure NoSt (B : Nat) (w0 w : World) (v0 v : Value) (L : List (Int × ByteArray)) : Prop where
  own : w.ownsRow B 23 2 v L.length (pC L)
  grown : w0.grownBy w v0.ownBlock
  at_ : v.ownBlock = v0.ownBlock ∨ ∃ k, v.ownBlock = some k ∧ w0.heap.size ≤ k
theorem NoSt.keep {B : Nat} {w0 w w' : World} {v0 v : Value} {L : List (Int × ByteArray)} (h : NoSt B w0 w v0 v L) (hb : Below w.heap.size w w') : NoSt B w0 w' v0 v L :=
  ⟨ownsRow_keep h.own hb, ⟨hb.os.trans h.grown.os, hb.tape.trans h.grown.tape, hb.output.trans h.grown.output, Nat.le_trans h.grown.size hb.size, fun k hk hne => (hb.block k (Nat.lt_of_lt_of_le hk h.grown.size)).trans (h.grown.block k hk hne)⟩, h.at_⟩
theorem NoSt.pairs {B : Nat} {w0 w : World} {v0 v : Value} {L : List (Int × ByteArray)} (h : NoSt B w0 w v0 v L) : ∃ ad cap, v = .slice ad L.length cap ∧ PairsIn w ad L := own_pairsT h.own
theorem NoSt.append {B : Nat} {w0 w w' : World} {v0 v v' : Value} {L : List (Int × ByteArray)} {s : Int × ByteArray} (h : NoSt B w0 w v0 v L) (hown : w'.ownsRow B 23 2 v' (L.length + 1) (pC L ++ pC [s])) (hg : w.grownBy w' v.ownBlock) (ha : v'.ownBlock = v.ownBlock ∨ v'.ownBlock = some w.heap.size) : NoSt B w0 w' v0 v' (L ++ [s]) := by
  refine ⟨by rw [List.length_append, pC_app]; exact hown, ⟨hg.os.trans h.grown.os, hg.tape.trans h.grown.tape, hg.output.trans h.grown.output, Nat.le_trans h.grown.size hg.size, fun k hk hne => (hg.block k (Nat.lt_of_lt_of_le hk h.grown.size) ?_).trans (h.grown.block k hk hne)⟩, ?_⟩
  · intro e
    rcases h.at_ with h1 | ⟨j, h1, h2⟩
    · exact hne (e.trans h1)
    · rw [h1] at e
      cases e
      omega
  · rcases ha with e | e
    · rw [e]; exact h.at_
    · exact .inr ⟨_, e, h.grown.size⟩
theorem pairs_but {w w' : World} {b : Option Addr} {ss : List (Int × ByteArray)} {row : Option Nat} (hP : PairsIn w b ss) (hne : ∀ ad, b = some ad → ss ≠ [] → row ≠ some ad.block) (hg : w.grownBy w' row) : PairsIn w' b ss := by
  by_cases h0 : ss = []
  · exact .inl h0
  rcases hP with h | ⟨g, o, rfl, hlt, hc⟩
  · exact .inl h
  · refine .inr ⟨g, o, rfl, Nat.lt_of_lt_of_le hlt hg.size, fun j p hj => ?_⟩
    have hh := hg.block g hlt (fun e => hne _ rfl h0 e.symm)
    have := hc j p hj
    exact ⟨(World.cell?_of_block (a := ⟨g, _, none⟩) hh).trans this.1, (World.cell?_of_block (a := ⟨g, _, none⟩) hh).trans this.2⟩
end Go.Proofs.Ytgnapfgiefdlaab
