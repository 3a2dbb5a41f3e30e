/- Two messages as the document compares them: the same, field by field. No walk here. -/
import Derived.Test.YthjgnfeadagmeaaGreatWsCM
namespace Go.Proofs.YthjgnfeadagmeaaGreat
open Go.RowKit

def lnSame (a b : Ln) : Bool := (decide (a.1.1 = b.1.1) && decide (a.1.2 = b.1.2)) && decide (a.2 = b.2)
def lnsP (l1 l2 : List Ln) (i : Nat) : Bool := lnSame (l1.getD i ln0) (l2.getD i ln0)
/-- The last row. -/
def endSame (a b : Ms) : Bool := wholeB a.rq b.rq && (sameS a.rs.1 a.rs.2 b.rs.1 b.rs.2 && (decide (a.nx = b.nx) && (decide (a.sg = b.sg) && cgsSame a.cg b.cg)))
def sameMs (a b : Ms) : Bool := decide (a.k = b.k) && (decide (a.ep = b.ep) && (decide (a.v = b.v) && (decide (a.sl = b.sl) && (decide (a.tx = b.tx) && (decide (a.ln.length = b.ln.length) && (allTo (lnsP a.ln b.ln) a.ln.length && endSame a b))))))
theorem list_alike {α : Type} {d : α} {f : α → α → Bool} {g : α → α} (hf : ∀ a b, f a b = true ↔ g a = g b) (l1 l2 : List α) (hl : l1.length = l2.length) : allTo (fun i => f (l1.getD i d) (l2.getD i d)) l1.length = true ↔ l1.map g = l2.map g := by
  constructor
  · intro h
    apply List.ext_getElem (by rw [List.length_map, List.length_map, hl])
    intro i h1 h2
    rw [List.length_map] at h1 h2
    have := (hf _ _).1 (allTo_at h i h1)
    simpa [h1, h2] using this
  · intro h
    refine allTo_of fun i hi => (hf _ _).2 ?_
    have h2 : i < l2.length := by omega
    have := congrArg (fun l => l[i]?) h
    simpa [hi, h2] using this
theorem whole_norm (x y : Rq) : wholeB x y = true ↔ normR x = normR y := by
  cases x; cases y
  simp only [wholeB_iff, normR, Rq.mk.injEq]
  constructor
  · rintro ⟨q1, q2, q3, q4, q5, q6⟩; simp_all
  · intro h; simp_all
theorem ctSame_iff (a b : Ct) : ctSame a b = true ↔ nCt a = nCt b := by
  obtain ⟨a1, a2, a3, a4⟩ := a
  obtain ⟨b1, b2, b3, b4⟩ := b
  simp only [ctSame, Bool.and_eq_true, decide_eq_true_eq, whole_norm, nCt, Prod.mk.injEq]
theorem ctsSame_iff (a b : List Ct) : ctsSame a b = true ↔ a.map nCt = b.map nCt := by
  rw [ctsSame, Bool.and_eq_true, decide_eq_true_eq]
  constructor
  · rintro ⟨h1, h2⟩; exact (list_alike ctSame_iff a b h1).1 h2
  · intro h
    have hl : a.length = b.length := by simpa using congrArg List.length h
    exact ⟨hl, (list_alike ctSame_iff a b hl).2 h⟩
theorem cgSame_iff (a b : Cg) : cgSame a b = true ↔ nCg a = nCg b := by
  obtain ⟨a1, a2, a3, a4⟩ := a
  obtain ⟨b1, b2, b3, b4⟩ := b
  simp only [cgSame, Bool.and_eq_true, decide_eq_true_eq, ctsSame_iff, nCg, Prod.mk.injEq]
  constructor
  · rintro ⟨h1, h2, h3, h4⟩; exact ⟨h1, h2, h4, h3⟩
  · rintro ⟨h1, h2, h3, h4⟩; exact ⟨h1, h2, h4, h3⟩
theorem cgsSame_iff (a b : List Cg) : cgsSame a b = true ↔ a.map nCg = b.map nCg := by
  rw [cgsSame, Bool.and_eq_true, decide_eq_true_eq]
  constructor
  · rintro ⟨h1, h2⟩; exact (list_alike cgSame_iff a b h1).1 h2
  · intro h
    have hl : a.length = b.length := by simpa using congrArg List.length h
    exact ⟨hl, (list_alike cgSame_iff a b hl).2 h⟩
theorem lnSame_iff (a b : Ln) : lnSame a b = true ↔ id a = id b := by
  obtain ⟨⟨a1, a2⟩, a3⟩ := a
  obtain ⟨⟨b1, b2⟩, b3⟩ := b
  simp only [lnSame, Bool.and_eq_true, decide_eq_true_eq, id, Prod.mk.injEq]
theorem lnsSame_iff (a b : List Ln) (hl : a.length = b.length) : allTo (lnsP a b) a.length = true ↔ a = b := by
  have := list_alike (d := ln0) lnSame_iff a b hl
  rw [List.map_id, List.map_id] at this
  exact this
theorem sameMs_iff (a b : Ms) : sameMs a b = true ↔ normM a = normM b := by
  obtain ⟨k1, e1, v1, s1, r1, x1, t1, n1, g1, c1, l1⟩ := a
  obtain ⟨k2, e2, v2, s2, r2, x2, t2, n2, g2, c2, l2⟩ := b
  obtain ⟨x1, y1⟩ := x1
  obtain ⟨x2, y2⟩ := x2
  simp only [sameMs, endSame, Bool.and_eq_true, decide_eq_true_eq, whole_norm, sameS, cgsSame_iff, normM, Ms.mk.injEq, Prod.mk.injEq]
  constructor
  · rintro ⟨h1, h2, h3, h4, h5, h6, h7, h8, ⟨h9, h10⟩, h11, h12, h13⟩
    exact ⟨h1, h2, h3, h4, h8, ⟨h9, h10⟩, h5, h11, h12, h13, (lnsSame_iff _ _ h6).1 h7⟩
  · rintro ⟨h1, h2, h3, h4, h8, ⟨h9, h10⟩, h5, h11, h12, h13, h14⟩
    exact ⟨h1, h2, h3, h4, h5, by rw [h14], (lnsSame_iff _ _ (by rw [h14])).2 h14, h8, ⟨h9, h10⟩, h11, h12, h13⟩
end Go.Proofs.YthjgnfeadagmeaaGreat
