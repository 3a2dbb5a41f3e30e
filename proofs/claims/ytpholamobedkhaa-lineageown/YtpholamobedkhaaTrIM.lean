/- What stays of a chain when more is known; a tracker of the law alone. No walk here. -/
import Derived.Test.YtpholamobedkhaaMg13
namespace Go.Proofs.Ytpholamobedkhaa
open Go.RowKit

theorem call_more {fm : List Int} {ls : List Lk} {one : Bool} {cs : List Lk} (h : callE fm ls one cs = 0) : ls.length < (callL fm ls one cs).length := by
  unfold callL
  rw [if_pos h]
  cases one with
  | true => simp
  | false =>
    rw [if_neg (by decide)]
    unfold callE at h
    rw [if_neg (by decide)] at h
    exact (take_ok h).2.2.1
theorem call_less {fm : List Int} {ls : List Lk} {one : Bool} {cs : List Lk} (h : callE fm ls one cs ≠ 0) : callL fm ls one cs = ls := by
  unfold callL
  rw [if_neg h]
/-- Of an epoch that was known the configuration stays. -/
theorem call_stays {fm : List Int} {ls : List Lk} {one : Bool} {cs : List Lk} (hl : Good ls) (i : Nat) (k1 k2 : Lk) (h1 : ls[i]? = some k1) (h2 : (callL fm ls one cs)[i]? = some k2) : k1.1 = k2.1 ∧ k1.2.1 = k2.2.1 := by
  by_cases h : callE fm ls one cs = 0
  · unfold callL at h2
    rw [if_pos h] at h2
    cases one with
    | true =>
      rw [if_pos rfl, List.getElem?_append_left (List.getElem?_eq_some_iff.1 h1).1, h1] at h2
      cases h2
      exact ⟨rfl, rfl⟩
    | false =>
      rw [if_neg (by decide)] at h2
      unfold callE at h
      rw [if_neg (by decide)] at h
      exact take_stays hl h i k1 k2 h1 h2
  · rw [call_less h, h1] at h2
    cases h2
    exact ⟨rfl, rfl⟩
theorem other_self (ls : List Lk) : otherTo ls ls ls.length = false := by
  rw [otherTo, List.any_eq_false]
  intro i _
  simp
theorem take_self {fm : List Int} {ls : List Lk} (h : chainE 0 fm [] ls = 0) : takeE 0 fm ls ls = 17 := by
  have hl := (good_of h).len
  rw [takeE, if_neg (by omega), if_neg (by simpa using h), if_neg (by rw [other_self]; decide), if_pos (Nat.le_refl _)]
theorem take_known {fm : List Int} {ls cs : List Lk} (h : chainE 0 fm [] cs = 0) (h0 : takeE 0 fm ls cs ≠ 0) : takeE 0 fm ls cs = 22 ∨ (takeE 0 fm ls cs = 17 ∧ cs.length ≤ ls.length) := by
  have hl := (good_of h).len
  unfold takeE at h0 ⊢
  rw [if_neg (by omega), if_neg (by simpa using h)] at h0 ⊢
  split
  · exact .inl rfl
  · next h1 =>
    rw [if_neg h1] at h0
    split
    · next h2 => exact .inr ⟨rfl, h2⟩
    · next h2 => rw [if_neg h2] at h0; exact absurd rfl h0
/-- A tracker of the program in the law's memory. -/
structure GrSt (w0 w : World) (O : Nat → Prop) (v : Value) (fm : List Int) (ls : List Lk) : Prop where
  tr : TrAt O w v fm ls
  bel : Below w0.heap.size w0 w
  oN : ∀ k, O k → w0.heap.size ≤ k
theorem GrSt.keep {w0 w w' : World} {O : Nat → Prop} {v : Value} {fm : List Int} {ls : List Lk} (h : GrSt w0 w O v fm ls) (hb : Below w.heap.size w w') : GrSt w0 w' O v fm ls :=
  ⟨h.tr.under hb, h.bel.trans (hb.mono h.bel.size), h.oN⟩
theorem GrSt.step {w0 w w' : World} {O O' : Nat → Prop} {v : Value} {fm : List Int} {ls ls' : List Lk} (h : GrSt w0 w O v fm ls) (ho : Outs O w w') (ht : TrAt O' w' v fm ls') (hO : ∀ k, O' k → O k ∨ w.heap.size ≤ k) : GrSt w0 w' O' v fm ls' :=
  ⟨ht, h.bel.trans (ho.below h.bel.size h.oN), fun k hk => by
    rcases hO k hk with hq | hq
    · exact h.oN k hq
    · exact Nat.le_trans h.bel.size hq⟩
/-- A chain that was handed out stays while the tracker takes more. -/
theorem OwnD.apart {T : TypeId} {sz C : Nat} {F O : Nat → Prop} {w w' : World} {v : Value} {es : List (List Dat)} (h : OwnD T sz C F w v es) (ho : Outs O w w') (hF : ∀ k, F k → C ≤ k) (hO : ∀ k, O k → k < C) : OwnD T sz C F w' v es :=
  h.keep ho.size (fun k hk hFk => ho.block k hk (fun hq => by have := hF k hFk; have := hO k hq; omega)) (fun g hg => ho.block g (h.lt g hg).2 (fun hq => by have := (h.lt g hg).1; have := hO g hq; omega))
end Go.Proofs.Ytpholamobedkhaa
