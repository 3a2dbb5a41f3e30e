/- Texts laid together: DsA DsB. -/
import Derived.Test.YtecidbdbdnnglaaGreatRdAM
import Derived.Test.YtecidbdbdnnglaaGreatRlB
import Derived.Test.YtecidbdbdnnglaaGreatPkNM
/- Requests, results, and their texts: which are right, what they are read as, that they come back and part. No walk here. -/
namespace Go.Proofs.YtecidbdbdnnglaaGreat
open Go.RowKit

/-- A request: client, stamp, kind, key, the word of its real, ID. -/
structure Rq where
  c : Int
  st : Int
  k : Int
  key : ByteArray
  b : Nat
  id : Int
def keyedB (r : Rq) : Bool := (decide (1 ≤ r.key.size) && decide (r.key.size ≤ 16)) && decide (r.id = 0)
def plainB (r : Rq) : Bool := decide (canW r.b = 0)
def joinB (r : Rq) : Bool := ((decide (r.key.size = 0) && plainB r) && decide (0 ≤ r.id)) && decide (r.id < 16)
def opB (r : Rq) : Bool := if r.k = 1 ∨ r.k = 2 ∨ r.k = 3 then keyedB r else if r.k = 4 ∨ r.k = 5 then keyedB r && plainB r else if r.k = 6 ∨ r.k = 7 then joinB r else false
def rightB (r : Rq) : Bool := (((decide (1 ≤ r.c) && decide (r.c ≤ 8)) && decide (1 ≤ r.st)) && decide (r.st ≤ 1048576)) && opB r
def nullB (r : Rq) : Bool := ((((decide (r.c = 0) && decide (r.st = 0)) && decide (r.k = 0)) && decide (r.key.size = 0)) && plainB r) && decide (r.id = 0)
/-- The bytes of a right request. -/
def rqL (r : Rq) : List UInt8 := be 1 1 ++ (be 1 r.c.toNat ++ (be 4 r.st.toNat ++ (be 1 r.k.toNat ++ (be 2 r.key.size ++ (r.key.data.toList ++ (be 8 (canW r.b) ++ be 1 r.id.toNat))))))
def rqT (r : Rq) : ByteArray := if nullB r then ⟨#[0]⟩ else if rightB r then ⟨(rqL r).toArray⟩ else ⟨#[]⟩
def rqE (r : Rq) : Int := if nullB r then 0 else if rightB r then 0 else 1
/-- What is known of a right request's fields. -/
theorem right_fields {r : Rq} (h : rightB r = true) : (1 ≤ r.c ∧ r.c ≤ 8) ∧ (1 ≤ r.st ∧ r.st ≤ 1048576) ∧ (1 ≤ r.k ∧ r.k ≤ 7) ∧ r.key.size ≤ 16 ∧ (0 ≤ r.id ∧ r.id < 16) := by
  simp only [rightB, Bool.and_eq_true, decide_eq_true_eq] at h
  obtain ⟨⟨⟨⟨h1, h2⟩, h3⟩, h4⟩, h5⟩ := h
  unfold opB at h5
  split at h5
  · simp only [keyedB, Bool.and_eq_true, decide_eq_true_eq] at h5
    omega
  · split at h5
    · simp only [keyedB, Bool.and_eq_true, decide_eq_true_eq] at h5
      omega
    · split at h5
      · simp only [joinB, Bool.and_eq_true, decide_eq_true_eq] at h5
        omega
      · cases h5
theorem null_fields {r : Rq} (h : nullB r = true) : r.c = 0 ∧ r.st = 0 ∧ r.k = 0 ∧ r.key.size = 0 ∧ canW r.b = 0 ∧ r.id = 0 := by
  simp only [nullB, plainB, Bool.and_eq_true, decide_eq_true_eq] at h
  omega
theorem right_null {r : Rq} (h : rightB r = true) : nullB r = false := by
  have h1 := right_fields h
  cases hn : nullB r with
  | false => rfl
  | true => have := null_fields hn; omega
theorem rqL_len (r : Rq) : (rqL r).length = 18 + r.key.size := by
  simp only [rqL, List.length_append, be_len, data_len]
  omega
theorem rqE_iff (r : Rq) : rqE r = 0 ↔ (nullB r = true ∨ rightB r = true) := by
  unfold rqE
  split
  · next h => exact ⟨fun _ => .inl h, fun _ => rfl⟩
  · next h =>
    split
    · next h2 => exact ⟨fun _ => .inr h2, fun _ => rfl⟩
    · next h2 => exact ⟨fun e => absurd e (by decide), fun e => by rcases e with e | e; exact absurd e h; exact absurd e h2⟩
theorem rqE_bool (r : Rq) : (rqE r == 0) = (rightB r || nullB r) := by
  by_cases h : rqE r = 0
  · have h2 := (rqE_iff r).1 h
    rw [h]
    rcases h2 with h2 | h2 <;> rw [h2] <;> simp
  · have h3 : ¬ (nullB r = true ∨ rightB r = true) := fun e => h ((rqE_iff r).2 e)
    have h4 : nullB r = false := by cases e : nullB r with | false => rfl | true => exact absurd (.inl e) h3
    have h5 : rightB r = false := by cases e : rightB r with | false => rfl | true => exact absurd (.inr e) h3
    rw [h4, h5]
    simpa using h
/-- A text that was read was there. -/
theorem tx_back (s : ByteArray) (sh : Bool) (h : tB s sh = false) : sh = false ∧ s.data.toList = be 2 (tT s sh).size ++ ((tT s sh).data.toList ++ (tS s sh).data.toList) ∧ (tT s sh).size ≤ 65535 := by
  have hok : tOK s sh = true := by
    rw [tB] at h
    cases e : tOK s sh with
    | true => rfl
    | false => rw [e] at h; cases h
  have hok2 := hok
  rw [tOK, Bool.and_eq_true_iff] at hok2
  have hb := hok2.1
  rw [hasB, Bool.and_eq_true_iff] at hb
  have h2 : (2 : Nat) ≤ s.size := by have := of_decide_eq_true hb.2; omega
  have hv := of_decide_eq_true hok2.2
  have hsh : sh = false := by cases sh with | false => rfl | true => exact absurd hb.1 (by decide)
  have ht : (s.data.toList.take 2).length = 2 := by rw [List.length_take, data_len]; omega
  have hlt := val_lt (s.data.toList.take 2)
  rw [ht] at hlt
  have hbv := be_val (s.data.toList.take 2)
  rw [ht] at hbv
  have hT : (tT s sh).data.toList = (s.data.toList.drop 2).take (val (s.data.toList.take 2)) := by
    rw [tT, if_pos hok, ext_data, List.drop_take]
    congr 1
    omega
  have hS : (tS s sh).data.toList = (s.data.toList.drop 2).drop (val (s.data.toList.take 2)) := by
    rw [tS, if_pos hok, ext_data, List.take_of_length_le (i := s.size) (by rw [data_len]; exact Nat.le_refl _), List.drop_drop]
  have hz : (tT s sh).size = val (s.data.toList.take 2) := by
    rw [← data_len, hT, List.length_take, List.length_drop, data_len]
    omega
  refine ⟨hsh, ?_, by rw [hz]; omega⟩
  rw [hz, hT, hS, List.take_append_drop, hbv, List.take_append_drop]
/-- What any bytes are read as: field by field. -/
structure Rd where
  s : ByteArray
  sh : Bool
def Rd.num (x : Rd) (n : Nat) : Rd := ⟨rS x.s x.sh n, rB x.s x.sh n⟩
def Rd.txt (x : Rd) : Rd := ⟨tS x.s x.sh, tB x.s x.sh⟩
def rd1 (t : ByteArray) : Rd := (Rd.mk t false).num 1
def rd2 (t : ByteArray) : Rd := (rd1 t).num 1
def rd3 (t : ByteArray) : Rd := (rd2 t).num 4
def rd4 (t : ByteArray) : Rd := (rd3 t).num 1
def rd5 (t : ByteArray) : Rd := (rd4 t).txt
def rd6 (t : ByteArray) : Rd := (rd5 t).num 8
def rd7 (t : ByteArray) : Rd := (rd6 t).num 1
def rdHead (t : ByteArray) : Nat := rN t false 1
def rdBits (t : ByteArray) : Nat := rN (rd5 t).s (rd5 t).sh 8
def rdq (t : ByteArray) : Rq := ⟨rN (rd1 t).s (rd1 t).sh 1, rN (rd2 t).s (rd2 t).sh 4, rN (rd3 t).s (rd3 t).sh 1, tT (rd4 t).s (rd4 t).sh, fromW (rdBits t), rN (rd6 t).s (rd6 t).sh 1⟩
def okq (t : ByteArray) : Bool := ((decide (rdHead t = 1) && (canW (rdBits t) == rdBits t)) && decide (endOf (rd7 t).s (rd7 t).sh = 0)) && rightB (rdq t)
def zeroQ : Rq := ⟨0, 0, 0, ⟨#[]⟩, 0, 0⟩
def isNul (t : ByteArray) : Bool := decide (t.data.toList = [0])
def rdR (t : ByteArray) : Rq := if isNul t then zeroQ else if okq t then rdq t else zeroQ
def rdE (t : ByteArray) : Int := if isNul t then 0 else if okq t then 0 else 5
/-- Are two requests one, field by field? -/
def wholeB (x y : Rq) : Bool := ((((decide (x.c = y.c) && decide (x.st = y.st)) && decide (x.k = y.k)) && decide (x.key = y.key)) && decide (x.id = y.id)) && decide (canW x.b = canW y.b)
theorem wholeB_iff (x y : Rq) : wholeB x y = true ↔ (x.c = y.c ∧ x.st = y.st ∧ x.k = y.k ∧ x.key = y.key ∧ x.id = y.id ∧ canW x.b = canW y.b) := by
  simp only [wholeB, Bool.and_eq_true, decide_eq_true_eq]
  exact ⟨fun ⟨⟨⟨⟨⟨a, b⟩, c⟩, d⟩, e⟩, f⟩ => ⟨a, b, c, d, e, f⟩, fun ⟨a, b, c, d, e, f⟩ => ⟨⟨⟨⟨⟨a, b⟩, c⟩, d⟩, e⟩, f⟩⟩
theorem wholeB_self (x : Rq) : wholeB x x = true := (wholeB_iff x x).2 ⟨rfl, rfl, rfl, rfl, rfl, rfl⟩
/-- Requests that are one are told alike. -/
theorem whole_alike {x y : Rq} (h : wholeB x y = true) : nullB x = nullB y ∧ rightB x = rightB y ∧ rqT x = rqT y ∧ rqE x = rqE y := by
  obtain ⟨c, st, k, key, b, id⟩ := x
  obtain ⟨c', st', k', key', b', id'⟩ := y
  obtain ⟨h1, h2, h3, h4, h5, h6⟩ := (wholeB_iff _ _).1 h
  simp only at h1 h2 h3 h4 h5 h6
  subst h1 h2 h3 h4 h5
  have hn : nullB ⟨c, st, k, key, b, id⟩ = nullB ⟨c, st, k, key, b', id⟩ := by simp only [nullB, plainB, h6]
  have hr : rightB ⟨c, st, k, key, b, id⟩ = rightB ⟨c, st, k, key, b', id⟩ := by simp only [rightB, opB, keyedB, joinB, plainB, h6]
  have hl : rqL ⟨c, st, k, key, b, id⟩ = rqL ⟨c, st, k, key, b', id⟩ := by simp only [rqL, h6]
  exact ⟨hn, hr, by rw [rqT, rqT, hn, hr, hl], by rw [rqE, rqE, hn, hr]⟩
theorem fromW_can (b : Nat) : fromW (canW b) = canW b := by
  unfold fromW
  rw [canW_idem]
  simp
theorem fromW_ok {n : Nat} (h : (canW n == n) = true) : fromW n = n ∧ canW n = n := by
  have : canW n = n := by simpa using h
  unfold fromW
  rw [h]
  exact ⟨rfl, this⟩
/-- What a right request tells is read as it. -/
theorem read_back {r : Rq} (h : rightB r = true) (hb : r.b < 18446744073709551616) : okq (rqT r) = true ∧ rdq (rqT r) = { r with b := canW r.b } ∧ isNul (rqT r) = false := by
  obtain ⟨⟨c1, c2⟩, ⟨s1, s2⟩, ⟨k1, k2⟩, hk, i1, i2⟩ := right_fields h
  have hT : (rqT r).data.toList = rqL r := by rw [rqT, right_null h, h]; rfl
  generalize rqT r = t at hT
  have e1 := rd_good t 1 1 _ hT (by decide)
  have q1 : rd1 t = ⟨rS t false 1, false⟩ := by rw [rd1, Rd.num, e1.2.2]
  have h1 := e1.2.1
  generalize rS t false 1 = s1 at q1 h1
  have e2 := rd_good s1 1 r.c.toNat _ h1 (by omega)
  have q2 : rd2 t = ⟨rS s1 false 1, false⟩ := by rw [rd2, q1, Rd.num, e2.2.2]
  have h2 := e2.2.1
  have v2 := e2.1
  clear e2 h1
  generalize rS s1 false 1 = s2 at q2 h2
  have e3 := rd_good s2 4 r.st.toNat _ h2 (by omega)
  have q3 : rd3 t = ⟨rS s2 false 4, false⟩ := by rw [rd3, q2, Rd.num, e3.2.2]
  have h3 := e3.2.1
  have v3 := e3.1
  clear e3 h2
  generalize rS s2 false 4 = s3 at q3 h3
  have e4 := rd_good s3 1 r.k.toNat _ h3 (by omega)
  have q4 : rd4 t = ⟨rS s3 false 1, false⟩ := by rw [rd4, q3, Rd.num, e4.2.2]
  have h4 := e4.2.1
  have v4 := e4.1
  clear e4 h3
  generalize rS s3 false 1 = s4 at q4 h4
  have e5 := tx_good s4 r.key _ h4 (by omega)
  have q5 : rd5 t = ⟨tS s4 false, false⟩ := by rw [rd5, q4, Rd.txt, e5.2.2]
  have h5 := e5.2.1
  have v5 := e5.1
  clear e5 h4
  generalize tS s4 false = s5 at q5 h5
  have hcl := canW_lt hb
  have e6 := rd_good s5 8 (canW r.b) _ h5 hcl
  have q6 : rd6 t = ⟨rS s5 false 8, false⟩ := by rw [rd6, q5, Rd.num, e6.2.2]
  have h6 := e6.2.1
  have v6 := e6.1
  clear e6 h5
  generalize rS s5 false 8 = s6 at q6 h6
  have e7 := rd_good s6 1 r.id.toNat [] (by rw [List.append_nil]; exact h6) (by omega)
  have q7 : endOf (rd7 t).s (rd7 t).sh = 0 := by rw [rd7, q6, Rd.num, e7.2.2]; exact end_of e7.2.1
  have hbits : rdBits t = canW r.b := by rw [rdBits, q5]; exact v6
  have hq : rdq t = { r with b := canW r.b } := by
    rw [rdq, hbits, q1, q2, q3, q4, q6, fromW_can]
    simp only [v2, v3, v4, v5, e7.1]
    rw [Int.toNat_of_nonneg (by omega), Int.toNat_of_nonneg (by omega), Int.toNat_of_nonneg (by omega), Int.toNat_of_nonneg (by omega)]
  refine ⟨?_, hq, ?_⟩
  · have hw : wholeB { r with b := canW r.b } r = true := (wholeB_iff _ _).2 ⟨rfl, rfl, rfl, rfl, rfl, canW_idem r.b⟩
    rw [okq, hq, (whole_alike hw).2.1, h, hbits, canW_idem, show rdHead t = 1 from e1.1, q7]
    simp
  · rw [isNul, hT]
    exact decide_eq_false (by intro e; have := congrArg List.length e; rw [rqL_len] at this; simp at this; omega)
/-- What is read as a right request is its text. -/
theorem told_back {t : ByteArray} (h : okq t = true) : rightB (rdq t) = true ∧ rqT (rdq t) = t ∧ (rdq t).b < 18446744073709551616 := by
  simp only [okq, Bool.and_eq_true, decide_eq_true_eq] at h
  obtain ⟨⟨⟨h1, h2⟩, h3⟩, h4⟩ := h
  obtain ⟨f1, f2⟩ := fromW_ok h2
  obtain ⟨g7, z7⟩ := end_ok h3
  obtain ⟨g6, z6⟩ := rd_back (rd6 t).s (rd6 t).sh 1 g7
  obtain ⟨g5, z5⟩ := rd_back (rd5 t).s (rd5 t).sh 8 g6
  obtain ⟨g4, z4, hk⟩ := tx_back (rd4 t).s (rd4 t).sh g5
  obtain ⟨g3, z3⟩ := rd_back (rd3 t).s (rd3 t).sh 1 g4
  obtain ⟨g2, z2⟩ := rd_back (rd2 t).s (rd2 t).sh 4 g3
  obtain ⟨g1, z1⟩ := rd_back (rd1 t).s (rd1 t).sh 1 g2
  obtain ⟨_, z0⟩ := rd_back t false 1 g1
  refine ⟨h4, ?_, ?_⟩
  · rw [rqT, right_null h4, h4]
    apply ByteArray.ext
    apply Array.ext'
    show rqL (rdq t) = t.data.toList
    have hc : canW (rdq t).b = rdBits t := by
      show canW (fromW (rdBits t)) = _
      rw [f1, f2]
    rw [rqL, hc]
    have n1 : (rdq t).c.toNat = rN (rd1 t).s (rd1 t).sh 1 := Int.toNat_natCast _
    have n2 : (rdq t).st.toNat = rN (rd2 t).s (rd2 t).sh 4 := Int.toNat_natCast _
    have n3 : (rdq t).k.toNat = rN (rd3 t).s (rd3 t).sh 1 := Int.toNat_natCast _
    have n4 : (rdq t).id.toNat = rN (rd6 t).s (rd6 t).sh 1 := Int.toNat_natCast _
    rw [n1, n2, n3, n4, show (rdq t).key = tT (rd4 t).s (rd4 t).sh from rfl]
    rw [z0, show rN t false 1 = 1 from h1]
    congr 1
    refine Eq.trans ?_ z1.symm
    congr 1
    refine Eq.trans ?_ z2.symm
    congr 1
    refine Eq.trans ?_ z3.symm
    congr 1
    refine Eq.trans ?_ z4.symm
    congr 1
    congr 1
    refine Eq.trans ?_ z5.symm
    congr 1
    refine Eq.trans ?_ z6.symm
    rw [show (rS (rd6 t).s (rd6 t).sh 1).data.toList = [] from z7, List.append_nil]
  · show fromW (rdBits t) < _
    rw [f1]
    have := rN_lt (rd5 t).s (rd5 t).sh 8
    exact this
theorem nul_text {r : Rq} (h : nullB r = true) : (rqT r).data.toList = [0] ∧ rqE r = 0 := by
  rw [rqT, rqE, if_pos h, if_pos h]
  exact ⟨rfl, rfl⟩
theorem zero_null : nullB zeroQ = true := by decide
/-- Unlike requests have unlike texts. -/
theorem text_parts {x y : Rq} (hx : rqE x = 0) (hy : rqE y = 0) (bx : x.b < 18446744073709551616) (by_ : y.b < 18446744073709551616) : rqT x = rqT y ↔ wholeB x y = true := by
  refine ⟨fun e => ?_, fun h => (whole_alike h).2.2.1⟩
  rcases (rqE_iff x).1 hx with h1 | h1 <;> rcases (rqE_iff y).1 hy with h2 | h2
  · obtain ⟨a1, a2, a3, a4, a5, a6⟩ := null_fields h1
    obtain ⟨b1, b2, b3, b4, b5, b6⟩ := null_fields h2
    have hk : x.key = y.key := by
      apply ByteArray.ext
      apply Array.ext'
      rw [List.eq_nil_of_length_eq_zero (show x.key.data.toList.length = 0 from a4), List.eq_nil_of_length_eq_zero (show y.key.data.toList.length = 0 from b4)]
    exact (wholeB_iff x y).2 ⟨by omega, by omega, by omega, hk, by omega, by omega⟩
  · have := (read_back h2 by_).2.2
    rw [← e, isNul, (nul_text h1).1] at this
    simp at this
  · have := (read_back h1 bx).2.2
    rw [e, isNul, (nul_text h2).1] at this
    simp at this
  · have e1 := (read_back h1 bx).2.1
    have e2 := (read_back h2 by_).2.1
    rw [e, e2] at e1
    have q1 := congrArg Rq.c e1
    have q2 := congrArg Rq.st e1
    have q3 := congrArg Rq.k e1
    have q4 := congrArg Rq.key e1
    have q5 := congrArg Rq.b e1
    have q6 := congrArg Rq.id e1
    exact (wholeB_iff x y).2 ⟨q1.symm, q2.symm, q3.symm, q4.symm, q6.symm, q5.symm⟩
end Go.Proofs.YtecidbdbdnnglaaGreat

/- Results and their texts; what is prepared, states, and their texts; that these part. No walk here. -/
namespace Go.Proofs.YtecidbdbdnnglaaGreat
open Go.RowKit

def rsB (c : Int) : Bool := decide (0 ≤ c) && decide (c ≤ 8)
def rsL (c : Int) (f : Nat) : List UInt8 := be 1 c.toNat ++ be 8 (canW f)
def rsT (c : Int) (f : Nat) : ByteArray := if rsB c then ⟨(rsL c f).toArray⟩ else ⟨#[]⟩
def rsE (c : Int) : Int := if rsB c then 0 else 1
def rsCode (t : ByteArray) : Nat := rN t false 1
def rsBits (t : ByteArray) : Nat := rN (rd1 t).s (rd1 t).sh 8
def rsEnd (t : ByteArray) : Rd := (rd1 t).num 8
def okRs (t : ByteArray) : Bool := ((canW (rsBits t) == rsBits t) && decide (endOf (rsEnd t).s (rsEnd t).sh = 0)) && decide (rsCode t ≤ 8)
def rsC (t : ByteArray) : Int := if okRs t then rsCode t else 0
def rsF (t : ByteArray) : Nat := if okRs t then fromW (rsBits t) else 0
def rsR (t : ByteArray) : Int := if okRs t then 0 else 5
def sameS (c : Int) (f : Nat) (c' : Int) (f' : Nat) : Bool := decide (c = c') && decide (canW f = canW f')
theorem rs_back {c : Int} {f : Nat} (h : rsB c = true) (hf : f < 18446744073709551616) : okRs (rsT c f) = true ∧ rsC (rsT c f) = c ∧ rsF (rsT c f) = canW f := by
  simp only [rsB, Bool.and_eq_true, decide_eq_true_eq] at h
  have hT : (rsT c f).data.toList = rsL c f := by
    rw [rsT, if_pos (by simp only [rsB, Bool.and_eq_true, decide_eq_true_eq]; exact h)]
  generalize rsT c f = t at hT ⊢
  have e1 := rd_good t 1 c.toNat _ hT (by omega)
  have q1 : rd1 t = ⟨rS t false 1, false⟩ := by rw [rd1, Rd.num, e1.2.2]
  have h1 := e1.2.1
  generalize rS t false 1 = s1 at q1 h1
  have e2 := rd_good s1 8 (canW f) [] (by rw [List.append_nil]; exact h1) (canW_lt hf)
  have hb : rsBits t = canW f := by rw [rsBits, q1]; exact e2.1
  have he : endOf (rsEnd t).s (rsEnd t).sh = 0 := by rw [rsEnd, q1, Rd.num, e2.2.2]; exact end_of e2.2.1
  have hc : rsCode t = c.toNat := e1.1
  have hok : okRs t = true := by
    rw [okRs, hb, he, hc, canW_idem]
    simp
    omega
  refine ⟨hok, ?_, ?_⟩
  · rw [rsC, if_pos hok, hc, Int.toNat_of_nonneg h.1]
  · rw [rsF, if_pos hok, hb, fromW_can]
theorem rs_told {t : ByteArray} (h : okRs t = true) : rsB (rsC t) = true ∧ rsT (rsC t) (rsF t) = t ∧ rsF t < 18446744073709551616 := by
  have hc : rsC t = rsCode t := by rw [rsC, if_pos h]
  have hf : rsF t = fromW (rsBits t) := by rw [rsF, if_pos h]
  simp only [okRs, Bool.and_eq_true, decide_eq_true_eq] at h
  obtain ⟨⟨h1, h2⟩, h3⟩ := h
  obtain ⟨f1, f2⟩ := fromW_ok h1
  obtain ⟨g2, z2⟩ := end_ok h2
  obtain ⟨g1, z1⟩ := rd_back (rd1 t).s (rd1 t).sh 8 g2
  obtain ⟨_, z0⟩ := rd_back t false 1 g1
  have hB : rsB (rsC t) = true := by
    rw [hc]
    simp only [rsB, Bool.and_eq_true, decide_eq_true_eq]
    omega
  refine ⟨hB, ?_, ?_⟩
  · rw [rsT, if_pos hB]
    apply ByteArray.ext
    apply Array.ext'
    show rsL (rsC t) (rsF t) = t.data.toList
    rw [rsL, hc, hf, f1, f2, z0, Int.toNat_natCast]
    refine congrArg (be 1 (rsCode t) ++ ·) ?_
    refine Eq.trans ?_ z1.symm
    rw [show (rS (rd1 t).s (rd1 t).sh 8).data.toList = [] from z2, List.append_nil]
    rfl
  · rw [hf, f1]
    exact rN_lt (rd1 t).s (rd1 t).sh 8
/-- What is prepared. -/
def spB (e v s : Int) : Bool := (inR 4 e && inR 4 v) && inR 4 s
def prL (e v s : Int) : List UInt8 := be 1 80 ++ (be 4 e.toNat ++ (be 4 v.toNat ++ be 4 s.toNat))
def prT (e v s : Int) (r : Rq) : ByteArray := if rqE r = 0 then (if spB e v s then ⟨(prL e v s ++ (rqT r).data.toList).toArray⟩ else ⟨#[]⟩) else ⟨#[]⟩
def prE (e v s : Int) (r : Rq) : Int := if rqE r = 0 then (if spB e v s then 0 else 1) else 1
/-- A state. -/
def stT (s : Int) (x : ByteArray) : ByteArray := if inR 4 s then ⟨(be 1 83 ++ be 4 s.toNat ++ x.data.toList).toArray⟩ else ⟨#[]⟩
def stE (s : Int) : Int := if inR 4 s then 0 else 1
theorem inR4 {n : Int} (h : inR 4 n = true) : 0 ≤ n ∧ n < 4294967296 := by
  have := of_decide_eq_true h
  simpa using this
theorem be_inj {n a b : Nat} (ha : a < 256 ^ n) (hb : b < 256 ^ n) (h : be n a = be n b) : a = b := by
  have := congrArg val h
  rw [val_be, val_be, Nat.mod_eq_of_lt ha, Nat.mod_eq_of_lt hb] at this
  exact this
theorem prE_ok {e v s : Int} {r : Rq} (h : prE e v s r = 0) : rqE r = 0 ∧ inR 4 e = true ∧ inR 4 v = true ∧ inR 4 s = true ∧ (prT e v s r).data.toList = prL e v s ++ (rqT r).data.toList := by
  unfold prE at h
  split at h
  · next h1 =>
    split at h
    · next h2 =>
      have h3 := h2
      rw [spB, Bool.and_eq_true_iff, Bool.and_eq_true_iff] at h3
      exact ⟨h1, h3.1.1, h3.1.2, h3.2, by rw [prT, if_pos h1, if_pos h2]⟩
    · cases h
  · cases h
theorem prE_bad {e v s : Int} {r : Rq} (h : prE e v s r ≠ 0) : prT e v s r = ⟨#[]⟩ := by
  unfold prE at h
  unfold prT
  split
  · next h1 =>
    rw [if_pos h1] at h
    split
    · next h2 => rw [if_pos h2] at h; exact absurd rfl h
    · rfl
  · rfl
/-- What is prepared elsewhere, or is another request, has another text. -/
theorem pr_parts {e v s : Int} {r : Rq} {e' v' s' : Int} {r' : Rq} (h : prE e v s r = 0) (h' : prE e' v' s' r' = 0) : prT e v s r = prT e' v' s' r' ↔ (e = e' ∧ v = v' ∧ s = s' ∧ rqT r = rqT r') := by
  obtain ⟨_, a1, a2, a3, a4⟩ := prE_ok h
  obtain ⟨_, b1, b2, b3, b4⟩ := prE_ok h'
  have c1 := inR4 a1
  have c2 := inR4 a2
  have c3 := inR4 a3
  have d1 := inR4 b1
  have d2 := inR4 b2
  have d3 := inR4 b3
  refine ⟨fun hq => ?_, fun ⟨h1, h2, h3, h4⟩ => ?_⟩
  · rw [hq, b4] at a4
    unfold prL at a4
    simp only [List.append_assoc] at a4
    have i1 := List.append_inj a4 rfl
    have i2 := List.append_inj i1.2 (by rw [be_len, be_len])
    have i3 := List.append_inj i2.2 (by rw [be_len, be_len])
    have i4 := List.append_inj i3.2 (by rw [be_len, be_len])
    have k2 := be_inj (by omega) (by omega) i2.1
    have k3 := be_inj (by omega) (by omega) i3.1
    have k4 := be_inj (by omega) (by omega) i4.1
    refine ⟨by omega, by omega, by omega, ?_⟩
    apply ByteArray.ext
    apply Array.ext'
    exact i4.2.symm
  · apply ByteArray.ext
    apply Array.ext'
    rw [a4, b4, h1, h2, h3, h4]
theorem first_of {t : ByteArray} {x : UInt8} {l : List UInt8} (h : t.data.toList = x :: l) : t.data.toList.head? = some x := by rw [h]; rfl
theorem pr_first {e v s : Int} {r : Rq} (h : prE e v s r = 0) : (prT e v s r).data.toList.head? = some 80 := by rw [(prE_ok h).2.2.2.2]; rfl
theorem st_first {s : Int} {x : ByteArray} (h : stE s = 0) : (stT s x).data.toList.head? = some 83 := by
  have hs : inR 4 s = true := by
    unfold stE at h
    split at h
    · next h1 => exact h1
    · cases h
  rw [stT, if_pos hs]
  rfl
theorem rq_first {r : Rq} (h : rqE r = 0) : (rqT r).data.toList.head? = some 0 ∨ (rqT r).data.toList.head? = some 1 := by
  rcases (rqE_iff r).1 h with h1 | h1
  · left; rw [(nul_text h1).1]; rfl
  · right; rw [rqT, right_null h1, h1]; rfl
end Go.Proofs.YtecidbdbdnnglaaGreat
