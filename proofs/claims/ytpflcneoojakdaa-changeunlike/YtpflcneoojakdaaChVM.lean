/- Unlike changes have unlike texts. No walk here. -/
import Derived.Test.YtpflcneoojakdaaChAM
namespace Go.Proofs.Ytpflcneoojakdaa
open Go.RowKit

/-- A change by its text, its epoch and all but its signature. -/
abbrev Cx := Int × Int × Int × List Ct
def cxL (x : Cx) : List UInt8 := be 2 x.1.toNat ++ (be 1 x.2.1.toNat ++ (be 1 x.2.2.1.toNat ++ lsL ctL x.2.2.2))
def cxV (x : Cx) : Prop := iV 2 x.1 ∧ iV 1 x.2.1 ∧ iV 1 x.2.2.1 ∧ (x.2.2.2.length < 256 ∧ ∀ y, y ∈ x.2.2.2 → ctV y)
def pCx : Ps Cx := pSeq (pI 2) (pSeq (pI 1) (pSeq (pI 1) (pList pCt)))
theorem inv_cx : Inv pCx cxL cxV := (inv_I 2).seq ((inv_I 1).seq ((inv_I 1).seq inv_ct.list))
theorem cx_inj {x y : Cx} (hx : cxV x) (hy : cxV y) (h : cxL x = cxL y) : x = y := by
  obtain ⟨s1, h1, _⟩ := inv_cx.good ⟨(cxL x).toArray⟩ x [] hx (by simp)
  obtain ⟨s2, h2, _⟩ := inv_cx.good ⟨(cxL x).toArray⟩ y [] hy (by simp [h])
  rw [h1] at h2
  simp only [Option.some.injEq, Prod.mk.injEq] at h2
  exact h2.1
def nCx (e : Int) (c : Cg) : Cx := (e, c.1, c.2.1, c.2.2.1.map nCt)
theorem chL_cx (e : Int) (c : Cg) : chL e c = be 1 86 ++ cxL (nCx e c) := by
  rw [chL, cxL, nCx]
  show _ = be 1 86 ++ (be 2 e.toNat ++ (be 1 c.1.toNat ++ (be 1 c.2.1.toNat ++ lsL ctL (c.2.2.1.map nCt))))
  rw [ls_norm ctL_norm]
theorem cx_valid {e : Int} {c : Cg} (h : chE e c = 0) (hb : ∀ x, x ∈ c.2.2.1 → x.2.2.1.b < 18446744073709551616) : cxV (nCx e c) := by
  obtain ⟨h1, h2⟩ := chE_ok h
  obtain ⟨f1, f2, f3, f4⟩ := fi_parts h1
  refine ⟨in_valid f1 (by decide) (by decide), in_valid f2 (by decide) (by decide), in_valid f3 (by decide) (by decide), ?_, fun y hy => ?_⟩
  · have := (cts_parts f4).1
    show (c.2.2.1.map nCt).length < 256
    rw [List.length_map]
    omega
  · obtain ⟨x, hx, rfl⟩ := List.mem_map.1 hy
    refine ct_valid f1 (cts_mem f4 hx) (hb x hx) ?_
    have h3 : (ctL x).length ≤ (c.2.2.1.flatMap ctL).length := flat_le hx
    have h4 : (c.2.2.1.flatMap ctL).length ≤ (chL e c).length := by
      rw [chL, lsL]
      simp only [List.length_append]
      omega
    omega
/-- The same text just if all is the same but the bits of NaNs and the signatures. -/
theorem chT_iff {e f : Int} {a b : Cg} (ha : chE e a = 0) (hb : chE f b = 0) (hra : ∀ x, x ∈ a.2.2.1 → x.2.2.1.b < 18446744073709551616) (hrb : ∀ x, x ∈ b.2.2.1 → x.2.2.1.b < 18446744073709551616) : chT e a = chT f b ↔ nCx e a = nCx f b := by
  rw [chT, if_pos ha, chT, if_pos hb]
  constructor
  · intro h
    have h1 : chL e a = chL f b := by
      have := congrArg (fun s : ByteArray => s.data.toList) h
      simpa using this
    rw [chL_cx, chL_cx] at h1
    exact cx_inj (cx_valid ha hra) (cx_valid hb hrb) (List.append_cancel_left h1)
  · intro h
    rw [chL_cx, chL_cx, h]
end Go.Proofs.Ytpflcneoojakdaa
