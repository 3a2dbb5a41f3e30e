/- Results and their texts; what is prepared, states, and their texts; that these part. No walk here. -/
import Derived.Test.YtpeagpeifmimlaaDsA
import Derived.Test.YtpeagpeifmimlaaPkN
namespace Go.Proofs.Ytpeagpeifmimlaa
open Go.RowKit

def rsB (c : Int) : Bool := decide (0 ≤ c) && decide (c ≤ 8)
def rsL (c : Int) (f : Nat) : List UInt8 := be 1 c.toNat ++ be 8 (canW f)
def rsT (c : Int) (f : Nat) : ByteArray := if rsB c then ⟨(rsL c f).toArray⟩ else ⟨#[]⟩
def rsE (c : Int) : Int := if rsB c then 0 else 1
def rsCode (t : ByteArray) : Nat := rN t false 1
def rsBits (t : ByteArray) : Nat := rN (rd1 t).s (rd1 t).sh 8
def rsEnd (t : ByteArray) : Rd := (rd1 t).num 8
def okRs (t : ByteArray) : Bool := ((canW (rsBits t) == rsBits t) && decide (endOf (rsEnd t).s (rsEnd t).sh = 0)) && decide (rsCode t ≤ 8)
def rsC (t : ByteArray) : Int := if okRs t then rsCode t else 0
def rsF (t : ByteArray) : Nat := if okRs t then fromW (rsBits t) else 0
def rsR (t : ByteArray) : Int := if okRs t then 0 else 5
def sameS (c : Int) (f : Nat) (c' : Int) (f' : Nat) : Bool := decide (c = c') && decide (canW f = canW f')
theorem rs_back {c : Int} {f : Nat} (h : rsB c = true) (hf : f < 18446744073709551616) : okRs (rsT c f) = true ∧ rsC (rsT c f) = c ∧ rsF (rsT c f) = canW f := by
  simp only [rsB, Bool.and_eq_true, decide_eq_true_eq] at h
  have hT : (rsT c f).data.toList = rsL c f := by
    rw [rsT, if_pos (by simp only [rsB, Bool.and_eq_true, decide_eq_true_eq]; exact h)]
  generalize rsT c f = t at hT ⊢
  have e1 := rd_good t 1 c.toNat _ hT (by omega)
  have q1 : rd1 t = ⟨rS t false 1, false⟩ := by rw [rd1, Rd.num, e1.2.2]
  have h1 := e1.2.1
  generalize rS t false 1 = s1 at q1 h1
  have e2 := rd_good s1 8 (canW f) [] (by rw [List.append_nil]; exact h1) (canW_lt hf)
  have hb : rsBits t = canW f := by rw [rsBits, q1]; exact e2.1
  have he : endOf (rsEnd t).s (rsEnd t).sh = 0 := by rw [rsEnd, q1, Rd.num, e2.2.2]; exact end_of e2.2.1
  have hc : rsCode t = c.toNat := e1.1
  have hok : okRs t = true := by
    rw [okRs, hb, he, hc, canW_idem]
    simp
    omega
  refine ⟨hok, ?_, ?_⟩
  · rw [rsC, if_pos hok, hc, Int.toNat_of_nonneg h.1]
  · rw [rsF, if_pos hok, hb, fromW_can]
theorem rs_told {t : ByteArray} (h : okRs t = true) : rsB (rsC t) = true ∧ rsT (rsC t) (rsF t) = t ∧ rsF t < 18446744073709551616 := by
  have hc : rsC t = rsCode t := by rw [rsC, if_pos h]
  have hf : rsF t = fromW (rsBits t) := by rw [rsF, if_pos h]
  simp only [okRs, Bool.and_eq_true, decide_eq_true_eq] at h
  obtain ⟨⟨h1, h2⟩, h3⟩ := h
  obtain ⟨f1, f2⟩ := fromW_ok h1
  obtain ⟨g2, z2⟩ := end_ok h2
  obtain ⟨g1, z1⟩ := rd_back (rd1 t).s (rd1 t).sh 8 g2
  obtain ⟨_, z0⟩ := rd_back t false 1 g1
  have hB : rsB (rsC t) = true := by
    rw [hc]
    simp only [rsB, Bool.and_eq_true, decide_eq_true_eq]
    omega
  refine ⟨hB, ?_, ?_⟩
  · rw [rsT, if_pos hB]
    apply ByteArray.ext
    apply Array.ext'
    show rsL (rsC t) (rsF t) = t.data.toList
    rw [rsL, hc, hf, f1, f2, z0, Int.toNat_natCast]
    refine congrArg (be 1 (rsCode t) ++ ·) ?_
    refine Eq.trans ?_ z1.symm
    rw [show (rS (rd1 t).s (rd1 t).sh 8).data.toList = [] from z2, List.append_nil]
    rfl
  · rw [hf, f1]
    exact rN_lt (rd1 t).s (rd1 t).sh 8
/-- What is prepared. -/
def spB (e v s : Int) : Bool := (inR 4 e && inR 4 v) && inR 4 s
def prL (e v s : Int) : List UInt8 := be 1 80 ++ (be 4 e.toNat ++ (be 4 v.toNat ++ be 4 s.toNat))
def prT (e v s : Int) (r : Rq) : ByteArray := if rqE r = 0 then (if spB e v s then ⟨(prL e v s ++ (rqT r).data.toList).toArray⟩ else ⟨#[]⟩) else ⟨#[]⟩
def prE (e v s : Int) (r : Rq) : Int := if rqE r = 0 then (if spB e v s then 0 else 1) else 1
/-- A state. -/
def stT (s : Int) (x : ByteArray) : ByteArray := if inR 4 s then ⟨(be 1 83 ++ be 4 s.toNat ++ x.data.toList).toArray⟩ else ⟨#[]⟩
def stE (s : Int) : Int := if inR 4 s then 0 else 1
theorem inR4 {n : Int} (h : inR 4 n = true) : 0 ≤ n ∧ n < 4294967296 := by
  have := of_decide_eq_true h
  simpa using this
theorem be_inj {n a b : Nat} (ha : a < 256 ^ n) (hb : b < 256 ^ n) (h : be n a = be n b) : a = b := by
  have := congrArg val h
  rw [val_be, val_be, Nat.mod_eq_of_lt ha, Nat.mod_eq_of_lt hb] at this
  exact this
theorem prE_ok {e v s : Int} {r : Rq} (h : prE e v s r = 0) : rqE r = 0 ∧ inR 4 e = true ∧ inR 4 v = true ∧ inR 4 s = true ∧ (prT e v s r).data.toList = prL e v s ++ (rqT r).data.toList := by
  unfold prE at h
  split at h
  · next h1 =>
    split at h
    · next h2 =>
      have h3 := h2
      rw [spB, Bool.and_eq_true_iff, Bool.and_eq_true_iff] at h3
      exact ⟨h1, h3.1.1, h3.1.2, h3.2, by rw [prT, if_pos h1, if_pos h2]⟩
    · cases h
  · cases h
theorem prE_bad {e v s : Int} {r : Rq} (h : prE e v s r ≠ 0) : prT e v s r = ⟨#[]⟩ := by
  unfold prE at h
  unfold prT
  split
  · next h1 =>
    rw [if_pos h1] at h
    split
    · next h2 => rw [if_pos h2] at h; exact absurd rfl h
    · rfl
  · rfl
/-- What is prepared elsewhere, or is another request, has another text. -/
theorem pr_parts {e v s : Int} {r : Rq} {e' v' s' : Int} {r' : Rq} (h : prE e v s r = 0) (h' : prE e' v' s' r' = 0) : prT e v s r = prT e' v' s' r' ↔ (e = e' ∧ v = v' ∧ s = s' ∧ rqT r = rqT r') := by
  obtain ⟨_, a1, a2, a3, a4⟩ := prE_ok h
  obtain ⟨_, b1, b2, b3, b4⟩ := prE_ok h'
  have c1 := inR4 a1
  have c2 := inR4 a2
  have c3 := inR4 a3
  have d1 := inR4 b1
  have d2 := inR4 b2
  have d3 := inR4 b3
  refine ⟨fun hq => ?_, fun ⟨h1, h2, h3, h4⟩ => ?_⟩
  · rw [hq, b4] at a4
    unfold prL at a4
    simp only [List.append_assoc] at a4
    have i1 := List.append_inj a4 rfl
    have i2 := List.append_inj i1.2 (by rw [be_len, be_len])
    have i3 := List.append_inj i2.2 (by rw [be_len, be_len])
    have i4 := List.append_inj i3.2 (by rw [be_len, be_len])
    have k2 := be_inj (by omega) (by omega) i2.1
    have k3 := be_inj (by omega) (by omega) i3.1
    have k4 := be_inj (by omega) (by omega) i4.1
    refine ⟨by omega, by omega, by omega, ?_⟩
    apply ByteArray.ext
    apply Array.ext'
    exact i4.2.symm
  · apply ByteArray.ext
    apply Array.ext'
    rw [a4, b4, h1, h2, h3, h4]
theorem first_of {t : ByteArray} {x : UInt8} {l : List UInt8} (h : t.data.toList = x :: l) : t.data.toList.head? = some x := by rw [h]; rfl
theorem pr_first {e v s : Int} {r : Rq} (h : prE e v s r = 0) : (prT e v s r).data.toList.head? = some 80 := by rw [(prE_ok h).2.2.2.2]; rfl
theorem st_first {s : Int} {x : ByteArray} (h : stE s = 0) : (stT s x).data.toList.head? = some 83 := by
  have hs : inR 4 s = true := by
    unfold stE at h
    split at h
    · next h1 => exact h1
    · cases h
  rw [stT, if_pos hs]
  rfl
theorem rq_first {r : Rq} (h : rqE r = 0) : (rqT r).data.toList.head? = some 0 ∨ (rqT r).data.toList.head? = some 1 := by
  rcases (rqE_iff r).1 h with h1 | h1
  · left; rw [(nul_text h1).1]; rfl
  · right; rw [rqT, right_null h1, h1]; rfl
end Go.Proofs.Ytpeagpeifmimlaa
