/- Two changes, tested as the law does. No walk here. -/
import Derived.Test.YtpflcneoojakdaaChVM
namespace Go.Proofs.Ytpflcneoojakdaa
open Go.RowKit

theorem text_neU {x y : ByteArray} (h : ¬ x = y) : (x.toList == y.toList) = false := by
  rw [beq_eq_false_iff_ne, ByteArray.toList_eq, ByteArray.toList_eq]
  intro he
  exact h (ByteArray.ext (Array.toList_inj.1 he))
theorem pairs_atU {w : World} {a : Option Addr} {ps : List (Int × ByteArray)} (h : PairsIn w a ps) (j : Nat) (p : Int × ByteArray) (hp : ps[j]? = some p) : ∃ g off, a = some ⟨g, off, none⟩ ∧ g < w.heap.size ∧ w.cell? ⟨g, off + j * 2, none⟩ = some (.int .i64 p.1) ∧ w.cell? ⟨g, off + j * 2 + 1, none⟩ = some (.string p.2) := by
  rcases h with e | ⟨g, off, ha, hg, hc⟩
  · rw [e] at hp; cases hp
  · obtain ⟨k1, k2⟩ := hc j p hp
    exact ⟨g, off, ha, hg, k1, k2⟩
theorem take_growU {α : Type} {l1 l2 : List α} {j : Nat} {s : α} (h : l1.take j = l2.take j) (h1 : l1[j]? = some s) (h2 : l2[j]? = some s) : l1.take (j + 1) = l2.take (j + 1) := by
  rw [List.take_add_one, List.take_add_one, h, h1, h2]
theorem ne_atU {α : Type} {l1 l2 : List α} {j : Nat} {s t : α} (h1 : l1[j]? = some s) (h2 : l2[j]? = some t) (h : ¬ s = t) : l1 ≠ l2 := by
  rintro rfl
  rw [h1] at h2
  exact h (Option.some.inj h2)
/-- The head of two certificates, as the law tests it. -/
def ctHd (a b : Ct) : Bool := decide (a.1 = b.1) && (decide (a.2.1 = b.2.1) && (wholeB a.2.2.1 b.2.2.1 && decide (a.2.2.2.length = b.2.2.2.length)))
def ctSm (a b : Ct) : Bool := decide (a.1 = b.1) && (decide (a.2.1 = b.2.1) && (wholeB a.2.2.1 b.2.2.1 && decide (a.2.2.2 = b.2.2.2)))
theorem ctSm_hd {a b : Ct} (h : ctHd a b = false) : ctSm a b = false := by
  rw [Bool.eq_false_iff] at h ⊢
  intro hs
  apply h
  simp only [ctSm, ctHd, Bool.and_eq_true, decide_eq_true_eq] at hs ⊢
  exact ⟨hs.1, hs.2.1, hs.2.2.1, congrArg _ hs.2.2.2⟩
theorem ctSm_yes {a b : Ct} (h : ctHd a b = true) (hs : a.2.2.2 = b.2.2.2) : ctSm a b = true := by
  simp only [ctSm, ctHd, Bool.and_eq_true, decide_eq_true_eq] at h ⊢
  exact ⟨h.1, h.2.1, h.2.2.1, hs⟩
theorem ctSm_no {a b : Ct} (hs : a.2.2.2 ≠ b.2.2.2) : ctSm a b = false := by
  rw [Bool.eq_false_iff]
  intro h
  simp only [ctSm, Bool.and_eq_true, decide_eq_true_eq] at h
  exact hs h.2.2.2
theorem ctSm_iff (a b : Ct) : ctSm a b = true ↔ nCt a = nCt b := by
  obtain ⟨a1, a2, a3, a4⟩ := a
  obtain ⟨b1, b2, b3, b4⟩ := b
  simp only [ctSm, Bool.and_eq_true, decide_eq_true_eq, wholeB_iff, nCt, Prod.mk.injEq]
  constructor
  · rintro ⟨h1, h2, ⟨q1, q2, q3, q4, q5, q6⟩, h4⟩
    refine ⟨h1, h2, ?_, h4⟩
    cases a3; cases b3
    simp only [normR] at *
    simp only [q1, q2, q3, q4, q5, q6]
  · rintro ⟨h1, h2, h3, h4⟩
    refine ⟨h1, h2, ?_, h4⟩
    cases a3; cases b3
    simp only [normR, Rq.mk.injEq] at h3 ⊢
    simp_all
/-- What the law tests ahead of the certificates. -/
def unH (e f : Int) (a b : Cg) : Bool := decide (e = f) && (decide (a.1 = b.1) && (decide (a.2.1 = b.2.1) && decide (a.2.2.1.length = b.2.2.1.length)))
def unP (a b : Cg) (i : Nat) : Bool := ctSm (a.2.2.1.getD i ct0) (b.2.2.1.getD i ct0)
theorem un_iff (e f : Int) (a b : Cg) : nCx e a = nCx f b ↔ unH e f a b = true ∧ allTo (unP a b) a.2.2.1.length = true := by
  simp only [nCx, Prod.mk.injEq, unH, Bool.and_eq_true, decide_eq_true_eq]
  constructor
  · rintro ⟨h1, h2, h3, h4⟩
    have hl : a.2.2.1.length = b.2.2.1.length := by simpa using congrArg List.length h4
    refine ⟨⟨h1, h2, h3, hl⟩, allTo_of fun i hi => ?_⟩
    rw [unP, ctSm_iff]
    have h5 : (a.2.2.1.map nCt)[i]? = (b.2.2.1.map nCt)[i]? := by rw [h4]
    have hi2 : i < b.2.2.1.length := by omega
    simp only [List.getElem?_map, List.getElem?_eq_getElem hi, List.getElem?_eq_getElem hi2, Option.map_some, Option.some.injEq] at h5
    simpa [List.getD_eq_getElem?_getD, List.getElem?_eq_getElem hi, List.getElem?_eq_getElem hi2] using h5
  · rintro ⟨⟨h1, h2, h3, hl⟩, h4⟩
    refine ⟨h1, h2, h3, List.ext_getElem (by simpa using hl) fun i hi hi2 => ?_⟩
    rw [List.length_map] at hi hi2
    have h5 := (ctSm_iff _ _).1 (allTo_at h4 i hi)
    simpa [List.getD_eq_getElem?_getD, List.getElem?_eq_getElem hi, List.getElem?_eq_getElem hi2] using h5
end Go.Proofs.Ytpflcneoojakdaa
