/- Texts laid together: WsP WiNz WiQ WiNa WiNc. -/
import Derived.Test.YtgmekkgbobmplaaGreatWsCM
import Derived.Test.YtgmekkgbobmplaaGreatWiLM
import Derived.Test.YtgmekkgbobmplaaGreatWiLbM
import Derived.Test.YtgmekkgbobmplaaGreatNa5
import Derived.Deep.DeepCutAuto
import Derived.Test.YtgmekkgbobmplaaGreatNa12
/- Two messages as the document compares them: the same, field by field. No walk here. -/
namespace Go.Proofs.YtgmekkgbobmplaaGreat
open Go.RowKit

def lnSame (a b : Ln) : Bool := (decide (a.1.1 = b.1.1) && decide (a.1.2 = b.1.2)) && decide (a.2 = b.2)
def lnsP (l1 l2 : List Ln) (i : Nat) : Bool := lnSame (l1.getD i ln0) (l2.getD i ln0)
/-- The last row. -/
def endSame (a b : Ms) : Bool := wholeB a.rq b.rq && (sameS a.rs.1 a.rs.2 b.rs.1 b.rs.2 && (decide (a.nx = b.nx) && (decide (a.sg = b.sg) && cgsSame a.cg b.cg)))
def sameMs (a b : Ms) : Bool := decide (a.k = b.k) && (decide (a.ep = b.ep) && (decide (a.v = b.v) && (decide (a.sl = b.sl) && (decide (a.tx = b.tx) && (decide (a.ln.length = b.ln.length) && (allTo (lnsP a.ln b.ln) a.ln.length && endSame a b))))))
theorem list_alike {α : Type} {d : α} {f : α → α → Bool} {g : α → α} (hf : ∀ a b, f a b = true ↔ g a = g b) (l1 l2 : List α) (hl : l1.length = l2.length) : allTo (fun i => f (l1.getD i d) (l2.getD i d)) l1.length = true ↔ l1.map g = l2.map g := by
  constructor
  · intro h
    apply List.ext_getElem (by rw [List.length_map, List.length_map, hl])
    intro i h1 h2
    rw [List.length_map] at h1 h2
    have := (hf _ _).1 (allTo_at h i h1)
    simpa [h1, h2] using this
  · intro h
    refine allTo_of fun i hi => (hf _ _).2 ?_
    have h2 : i < l2.length := by omega
    have := congrArg (fun l => l[i]?) h
    simpa [hi, h2] using this
theorem whole_norm (x y : Rq) : wholeB x y = true ↔ normR x = normR y := by
  cases x; cases y
  simp only [wholeB_iff, normR, Rq.mk.injEq]
  constructor
  · rintro ⟨q1, q2, q3, q4, q5, q6⟩; simp_all
  · intro h; simp_all
theorem ctSame_iff (a b : Ct) : ctSame a b = true ↔ nCt a = nCt b := by
  obtain ⟨a1, a2, a3, a4⟩ := a
  obtain ⟨b1, b2, b3, b4⟩ := b
  simp only [ctSame, Bool.and_eq_true, decide_eq_true_eq, whole_norm, nCt, Prod.mk.injEq]
theorem ctsSame_iff (a b : List Ct) : ctsSame a b = true ↔ a.map nCt = b.map nCt := by
  rw [ctsSame, Bool.and_eq_true, decide_eq_true_eq]
  constructor
  · rintro ⟨h1, h2⟩; exact (list_alike ctSame_iff a b h1).1 h2
  · intro h
    have hl : a.length = b.length := by simpa using congrArg List.length h
    exact ⟨hl, (list_alike ctSame_iff a b hl).2 h⟩
theorem cgSame_iff (a b : Cg) : cgSame a b = true ↔ nCg a = nCg b := by
  obtain ⟨a1, a2, a3, a4⟩ := a
  obtain ⟨b1, b2, b3, b4⟩ := b
  simp only [cgSame, Bool.and_eq_true, decide_eq_true_eq, ctsSame_iff, nCg, Prod.mk.injEq]
  constructor
  · rintro ⟨h1, h2, h3, h4⟩; exact ⟨h1, h2, h4, h3⟩
  · rintro ⟨h1, h2, h3, h4⟩; exact ⟨h1, h2, h4, h3⟩
theorem cgsSame_iff (a b : List Cg) : cgsSame a b = true ↔ a.map nCg = b.map nCg := by
  rw [cgsSame, Bool.and_eq_true, decide_eq_true_eq]
  constructor
  · rintro ⟨h1, h2⟩; exact (list_alike cgSame_iff a b h1).1 h2
  · intro h
    have hl : a.length = b.length := by simpa using congrArg List.length h
    exact ⟨hl, (list_alike cgSame_iff a b hl).2 h⟩
theorem lnSame_iff (a b : Ln) : lnSame a b = true ↔ id a = id b := by
  obtain ⟨⟨a1, a2⟩, a3⟩ := a
  obtain ⟨⟨b1, b2⟩, b3⟩ := b
  simp only [lnSame, Bool.and_eq_true, decide_eq_true_eq, id, Prod.mk.injEq]
theorem lnsSame_iff (a b : List Ln) (hl : a.length = b.length) : allTo (lnsP a b) a.length = true ↔ a = b := by
  have := list_alike (d := ln0) lnSame_iff a b hl
  rw [List.map_id, List.map_id] at this
  exact this
theorem sameMs_iff (a b : Ms) : sameMs a b = true ↔ normM a = normM b := by
  obtain ⟨k1, e1, v1, s1, r1, x1, t1, n1, g1, c1, l1⟩ := a
  obtain ⟨k2, e2, v2, s2, r2, x2, t2, n2, g2, c2, l2⟩ := b
  obtain ⟨x1, y1⟩ := x1
  obtain ⟨x2, y2⟩ := x2
  simp only [sameMs, endSame, Bool.and_eq_true, decide_eq_true_eq, whole_norm, sameS, cgsSame_iff, normM, Ms.mk.injEq, Prod.mk.injEq]
  constructor
  · rintro ⟨h1, h2, h3, h4, h5, h6, h7, h8, ⟨h9, h10⟩, h11, h12, h13⟩
    exact ⟨h1, h2, h3, h4, h8, ⟨h9, h10⟩, h5, h11, h12, h13, (lnsSame_iff _ _ h6).1 h7⟩
  · rintro ⟨h1, h2, h3, h4, h8, ⟨h9, h10⟩, h5, h11, h12, h13, h14⟩
    exact ⟨h1, h2, h3, h4, h5, by rw [h14], (lnsSame_iff _ _ (by rw [h14])).2 h14, h8, ⟨h9, h10⟩, h11, h12, h13⟩
end Go.Proofs.YtgmekkgbobmplaaGreat

/- Lists of a message in memory; what each test of a message says. -/
namespace Go.Proofs.YtgmekkgbobmplaaGreat
open Go.RowKit
theorem slice_pairs {F : Nat → Prop} {w : World} {a : Option Addr} {n c : Nat} {ps : List Sg} (h : Reads F w (.slice a n c) (dPairs ps)) : PairsIn w a ps := by
  obtain ⟨ad, cap, hv, hp, _⟩ := reads_pairs h
  cases hv
  exact hp
theorem slice_ints {F : Nat → Prop} {w : World} {a : Option Addr} {n c : Nat} {xs : List Int} (h : Reads F w (.slice a n c) (dInts xs)) : IntsIn w a xs := by
  obtain ⟨ad, cap, hv, hp, _⟩ := reads_ints h
  cases hv
  exact hp
structure Fx (F : Nat → Prop) (w : World) (m : Ms) (a13 a14 a15 a16 : Option Addr) (c13 c14 c15 c16 : Nat) : Prop where
  B : MsB m
  h0 : 0 ≤ m.ep
  h1 : m.ep ≤ 60
  L : MsL F w m (.slice a13 m.nx.length c13) (.slice a14 m.sg.length c14) (.slice a15 m.cg.length c15) (.slice a16 m.ln.length c16)
def Fit (w : World) (m : Ms) (a13 a14 a15 a16 : Option Addr) (c13 c14 c15 c16 : Nat) (b : Bool) : Prop := Calls Tryz.prog 65 #[.agg (msA m a13 a14 a15 a16 c13 c14 c15 c16).toArray] w fun e w' => e = .returned (.bool b) ∧ Below w.heap.size w w'
theorem tOnly68 {F : Nat → Prop} {w : World} {m : Ms} {a13 a14 a15 a16 : Option Addr} {c13 c14 c15 c16 : Nat} (_h : Fx F w m a13 a14 a15 a16 c13 c14 c15 c16) {b : Bool} (t : (onlyB m { r := true, g := true }) = b) : Tst w 101 #[.agg (msA m a13 a14 a15 a16 c13 c14 c15 c16).toArray, .int .i64 68] (.bool b) := fun u hu => by
  rw [← t]
  exact ionly_68 m a13 a14 a15 a16 c13 c14 c15 c16 u
theorem tOnly71 {F : Nat → Prop} {w : World} {m : Ms} {a13 a14 a15 a16 : Option Addr} {c13 c14 c15 c16 : Nat} (_h : Fx F w m a13 a14 a15 a16 c13 c14 c15 c16) {b : Bool} (t : (onlyB m { v := true, s := true, r := true, g := true }) = b) : Tst w 101 #[.agg (msA m a13 a14 a15 a16 c13 c14 c15 c16).toArray, .int .i64 71] (.bool b) := fun u hu => by
  rw [← t]
  exact ionly_71 m a13 a14 a15 a16 c13 c14 c15 c16 u
theorem tOnly7 {F : Nat → Prop} {w : World} {m : Ms} {a13 a14 a15 a16 : Option Addr} {c13 c14 c15 c16 : Nat} (_h : Fx F w m a13 a14 a15 a16 c13 c14 c15 c16) {b : Bool} (t : (onlyB m { v := true, s := true, r := true }) = b) : Tst w 101 #[.agg (msA m a13 a14 a15 a16 c13 c14 c15 c16).toArray, .int .i64 7] (.bool b) := fun u hu => by
  rw [← t]
  exact ionly_7 m a13 a14 a15 a16 c13 c14 c15 c16 u
theorem tOnly114 {F : Nat → Prop} {w : World} {m : Ms} {a13 a14 a15 a16 : Option Addr} {c13 c14 c15 c16 : Nat} (_h : Fx F w m a13 a14 a15 a16 c13 c14 c15 c16) {b : Bool} (t : (onlyB m { s := true, t := true, n := true, g := true }) = b) : Tst w 101 #[.agg (msA m a13 a14 a15 a16 c13 c14 c15 c16).toArray, .int .i64 114] (.bool b) := fun u hu => by
  rw [← t]
  exact ionly_114 m a13 a14 a15 a16 c13 c14 c15 c16 u
theorem tOnly129 {F : Nat → Prop} {w : World} {m : Ms} {a13 a14 a15 a16 : Option Addr} {c13 c14 c15 c16 : Nat} (_h : Fx F w m a13 a14 a15 a16 c13 c14 c15 c16) {b : Bool} (t : (onlyB m { v := true, c := true }) = b) : Tst w 101 #[.agg (msA m a13 a14 a15 a16 c13 c14 c15 c16).toArray, .int .i64 129] (.bool b) := fun u hu => by
  rw [← t]
  exact ionly_129 m a13 a14 a15 a16 c13 c14 c15 c16 u
theorem tOnly12 {F : Nat → Prop} {w : World} {m : Ms} {a13 a14 a15 a16 : Option Addr} {c13 c14 c15 c16 : Nat} (_h : Fx F w m a13 a14 a15 a16 c13 c14 c15 c16) {b : Bool} (t : (onlyB m { r := true, x := true }) = b) : Tst w 101 #[.agg (msA m a13 a14 a15 a16 c13 c14 c15 c16).toArray, .int .i64 12] (.bool b) := fun u hu => by
  rw [← t]
  exact ionly_12 m a13 a14 a15 a16 c13 c14 c15 c16 u
theorem tOnly0 {F : Nat → Prop} {w : World} {m : Ms} {a13 a14 a15 a16 : Option Addr} {c13 c14 c15 c16 : Nat} (_h : Fx F w m a13 a14 a15 a16 c13 c14 c15 c16) {b : Bool} (t : (onlyB m {}) = b) : Tst w 101 #[.agg (msA m a13 a14 a15 a16 c13 c14 c15 c16).toArray, .int .i64 0] (.bool b) := fun u hu => by
  rw [← t]
  exact ionly_0 m a13 a14 a15 a16 c13 c14 c15 c16 u
theorem tOnly338 {F : Nat → Prop} {w : World} {m : Ms} {a13 a14 a15 a16 : Option Addr} {c13 c14 c15 c16 : Nat} (_h : Fx F w m a13 a14 a15 a16 c13 c14 c15 c16) {b : Bool} (t : (onlyB m { s := true, t := true, g := true, l := true }) = b) : Tst w 101 #[.agg (msA m a13 a14 a15 a16 c13 c14 c15 c16).toArray, .int .i64 338] (.bool b) := fun u hu => by
  rw [← t]
  exact ionly_338 m a13 a14 a15 a16 c13 c14 c15 c16 u
theorem tPlaced {F : Nat → Prop} {w : World} {m : Ms} {a13 a14 a15 a16 : Option Addr} {c13 c14 c15 c16 : Nat} (h : Fx F w m a13 a14 a15 a16 c13 c14 c15 c16) {b : Bool} (t : (placeB m) = b) : Tst w 104 #[.agg (msA m a13 a14 a15 a16 c13 c14 c15 c16).toArray] (.bool b) := fun u hu => by
  rw [← t]
  exact iplaced_any m h.h0 h.h1 _ _ _ _ u
theorem tDeed {F : Nat → Prop} {w : World} {m : Ms} {a13 a14 a15 a16 : Option Addr} {c13 c14 c15 c16 : Nat} (_h : Fx F w m a13 a14 a15 a16 c13 c14 c15 c16) {b : Bool} (t : (askB m.rq) = b) : Tst w 105 #[.agg #[.int .i64 m.rq.c, .int .i64 m.rq.st, .int .i64 m.rq.k, .string m.rq.key, .float .f64 m.rq.b, .int .i64 m.rq.id]] (.bool b) := fun u hu => by
  rw [← t]
  exact ideed_any m.rq u
theorem tRight {F : Nat → Prop} {w : World} {m : Ms} {a13 a14 a15 a16 : Option Addr} {c13 c14 c15 c16 : Nat} (_h : Fx F w m a13 a14 a15 a16 c13 c14 c15 c16) {b : Bool} (t : (rightB m.rq) = b) : Tst w 102 #[.agg #[.int .i64 m.rq.c, .int .i64 m.rq.st, .int .i64 m.rq.k, .string m.rq.key, .float .f64 m.rq.b, .int .i64 m.rq.id]] (.bool b) := fun u hu => by
  rw [← t]
  exact dright_any m.rq u
theorem tSigs {F : Nat → Prop} {w : World} {m : Ms} {a13 a14 a15 a16 : Option Addr} {c13 c14 c15 c16 : Nat} (h : Fx F w m a13 a14 a15 a16 c13 c14 c15 c16) {k : Nat} {b : Bool} (t : (oneB m.sg k) = b) : Tst w 103 #[.slice a14 m.sg.length c14, .int .i64 (k : Int)] (.bool b) := fun u hu => by
  rw [← t]
  exact iareSigs_any a14 _ c14 m.sg rfl h.B.sg.1 _ u ((slice_pairs h.L.sg).keep hu (Nat.le_refl _))
theorem tFit {F : Nat → Prop} {w : World} {m : Ms} {a13 a14 a15 a16 : Option Addr} {c13 c14 c15 c16 : Nat} (h : Fx F w m a13 a14 a15 a16 c13 c14 c15 c16) {b : Bool} (t : (sigsB m.sg) = b) : Tst w 112 #[.slice a14 m.sg.length c14] (.bool b) := fun u hu => by
  rw [← t]
  exact ifitSigs_any a14 _ c14 m.sg rfl h.B.sg.1 u ((slice_pairs h.L.sg).keep hu (Nat.le_refl _))
theorem tChg1 {F : Nat → Prop} {w : World} {m : Ms} {a13 a14 a15 a16 : Option Addr} {c13 c14 c15 c16 : Nat} (h : Fx F w m a13 a14 a15 a16 c13 c14 c15 c16) {b : Bool} (t : (cgsB m.ep m.v m.cg 1) = b) : Tst w 109 #[.agg (msA m a13 a14 a15 a16 c13 c14 c15 c16).toArray, .int .i64 1] (.bool b) := fun u hu => by
  rw [← t]
  exact ichanges_any m h.h0 h.h1 a15 _ c15 _ _ _ 1 (by decide) h.B.cg.1 rfl h.B.cg.2 u (h.L.cg.under hu (Nat.le_refl _))
theorem tChg10 {F : Nat → Prop} {w : World} {m : Ms} {a13 a14 a15 a16 : Option Addr} {c13 c14 c15 c16 : Nat} (h : Fx F w m a13 a14 a15 a16 c13 c14 c15 c16) {b : Bool} (t : (cgsB m.ep m.v m.cg 10) = b) : Tst w 109 #[.agg (msA m a13 a14 a15 a16 c13 c14 c15 c16).toArray, .int .i64 10] (.bool b) := fun u hu => by
  rw [← t]
  exact ichanges_any m h.h0 h.h1 a15 _ c15 _ _ _ 10 (by decide) h.B.cg.1 rfl h.B.cg.2 u (h.L.cg.under hu (Nat.le_refl _))
theorem tRes {F : Nat → Prop} {w : World} {m : Ms} {a13 a14 a15 a16 : Option Addr} {c13 c14 c15 c16 : Nat} (h : Fx F w m a13 a14 a15 a16 c13 c14 c15 c16) {b : Bool} (t : (rsB m.rs.1) = b) : Tst w 110 #[.agg #[.int .i64 m.rs.1, .float .f64 m.rs.2]] (.bool b) := fun u hu => by
  rw [← t]
  exact iresult_any m.rs.1 m.rs.2 h.B.rf u
theorem tMem {F : Nat → Prop} {w : World} {m : Ms} {a13 a14 a15 a16 : Option Addr} {c13 c14 c15 c16 : Nat} (h : Fx F w m a13 a14 a15 a16 c13 c14 c15 c16) {b : Bool} (t : (memB m.nx) = b) : Tst w 108 #[.slice a13 m.nx.length c13] (.bool b) := fun u hu => by
  rw [← t]
  exact imembers_any a13 _ c13 m.nx rfl h.B.nx.1 u ((slice_ints h.L.nx).keep hu (Nat.le_refl _))
theorem tLinks {F : Nat → Prop} {w : World} {m : Ms} {a13 a14 a15 a16 : Option Addr} {c13 c14 c15 c16 : Nat} (h : Fx F w m a13 a14 a15 a16 c13 c14 c15 c16) {b : Bool} (t : (decide ((m.ln.length : Int) = m.ep) && lnsB m.ln) = b) : Tst w 111 #[.agg (msA m a13 a14 a15 a16 c13 c14 c15 c16).toArray] (.bool b) := fun u hu => by
  rw [← t]
  exact ilinks_any m h.h1 a16 _ c16 _ _ _ h.B.ln.1 rfl h.B.ln.2 u (h.L.ln.under hu (Nat.le_refl _))
theorem tAsk (r : Rq) (K : Nat) (eK : K = if nullB r then 0 else 1) (w : World) : Tst w 106 #[.agg #[.int .i64 r.c, .int .i64 r.st, .int .i64 r.k, .string r.key, .float .f64 r.b, .int .i64 r.id]] (.int .i64 (K : Int)) := fun u hu => by rw [eK]; exact iaskers_any r u
theorem tEnd (x : Int) (h0 : 0 ≤ x) (h1 : x ≤ 60) (w : World) : Tst w 107 #[.int .i64 x] (.int .i64 (4 * (x + 1))) := fun u hu => (iend_any x (by omega) h1 u).mono fun e w' ⟨h1, h2⟩ => ⟨h1, by rw [h2]; exact Below.refl _ _⟩
theorem q_no {x k n : Int} (hk : x = k) (hn : k ≠ n) : (x == n) = false := by rw [hk]; exact beq_eq_false_iff_ne.2 hn
theorem q_yes {x k : Int} (hk : x = k) : (x == k) = true := by rw [hk]; exact beq_iff_eq.2 rfl
end Go.Proofs.YtgmekkgbobmplaaGreat

/- The program's writer of messages. -/
namespace Go.Proofs.YtgmekkgbobmplaaGreat
open Go.RowKit

structure wMs (m : Ms) : Prop where
  k : 0 ≤ m.k ∧ m.k < 256
  ep : 0 ≤ m.ep ∧ m.ep < 65536
  v : 0 ≤ m.v ∧ m.v < 256
  sl : 0 ≤ m.sl ∧ m.sl < 65536
  rq : m.rq.b < 18446744073709551616
  rs : m.rs.2 < 18446744073709551616
  nx : m.nx.length < 256 ∧ ∀ x, x ∈ m.nx → 0 ≤ x ∧ x < 256
  sg : wSg m.sg
  cg : m.cg.length < 256 ∧ ∀ x, x ∈ m.cg → wCg x
  ln : m.ln.length < 256 ∧ ∀ x, x ∈ m.ln → wLn x
set_option maxRecDepth 100000 in
set_option maxHeartbeats 12800000 in
theorem iwmsg_any {F : Nat → Prop} (c : Nat) (w0 : World) (hc : w0.heap.size ≤ c) (H : List (Nat × Obj)) (m : Ms) (hz : wMs m) (a13 a14 a15 a16 : Option Addr) (c13 c14 c15 c16 : Nat) (hL : MsL F w0 m (.slice a13 m.nx.length c13) (.slice a14 m.sg.length c14) (.slice a15 m.cg.length c15) (.slice a16 m.ln.length c16)) (w : World) (l : List UInt8) (h : Pv c w0 H w l) :
    Calls Tryz.prog 67 #[.pointer (some ⟨c, 0, none⟩), .agg #[.int .i64 m.k, .int .i64 m.ep, .int .i64 m.v, .int .i64 m.sl, .int .i64 m.rq.c, .int .i64 m.rq.st, .int .i64 m.rq.k, .string m.rq.key, .float .f64 m.rq.b, .int .i64 m.rq.id, .int .i64 m.rs.1, .float .f64 m.rs.2, .string m.tx, .slice a13 m.nx.length c13, .slice a14 m.sg.length c14, .slice a15 m.cg.length c15, .slice a16 m.ln.length c16]] w fun e w' => e = .returned (.tuple #[]) ∧ Pv c w0 H w' (l ++ msL m) := by
  obtain ⟨H1, eH1⟩ : ∃ H1, H1 = (w.heap.size, Obj.cells #[.int .i64 m.k, .int .i64 m.ep, .int .i64 m.v, .int .i64 m.sl, .int .i64 m.rq.c, .int .i64 m.rq.st, .int .i64 m.rq.k, .string m.rq.key, .float .f64 m.rq.b, .int .i64 m.rq.id, .int .i64 m.rs.1, .float .f64 m.rs.2, .string m.tx, .slice a13 m.nx.length c13, .slice a14 m.sg.length c14, .slice a15 m.cg.length c15, .slice a16 m.ln.length c16] 48 (0, 0)) :: H := ⟨_, rfl⟩
  have P1 : Hid (Pv c w0 H1 (w.alloc (.cells #[.int .i64 m.k, .int .i64 m.ep, .int .i64 m.v, .int .i64 m.sl, .int .i64 m.rq.c, .int .i64 m.rq.st, .int .i64 m.rq.k, .string m.rq.key, .float .f64 m.rq.b, .int .i64 m.rq.id, .int .i64 m.rs.1, .float .f64 m.rs.2, .string m.tx, .slice a13 m.nx.length c13, .slice a14 m.sg.length c14, .slice a15 m.cg.length c15, .slice a16 m.ln.length c16] 48)) l) := hid (by rw [eH1]; exact h.push _)
  have HBx : Hid (∀ (u : World) (l : List UInt8), Pv c w0 H1 u l → BxAt u w.heap.size [.int .i64 m.k, .int .i64 m.ep, .int .i64 m.v, .int .i64 m.sl, .int .i64 m.rq.c, .int .i64 m.rq.st, .int .i64 m.rq.k, .string m.rq.key, .float .f64 m.rq.b, .int .i64 m.rq.id, .int .i64 m.rs.1, .float .f64 m.rs.2, .string m.tx, .slice a13 m.nx.length c13, .slice a14 m.sg.length c14, .slice a15 m.cg.length c15, .slice a16 m.ln.length c16] 48) := hid (fun u l hu => by rw [eH1] at hu; exact hu.box)
  have HPop : Hid (∀ (u : World) (l : List UInt8), Pv c w0 H1 u l → Pv c w0 H u l) := hid (fun u l hu => by rw [eH1] at hu; exact hu.pop)
  have HZ := hid hz
  have HL := hid hL
  have HC := hid hc
  have HN : Hid ((0 : Int) ≤ (m.nx.length : Int) ∧ (m.nx.length : Int) < 256 ∧ (0 : Int) ≤ (m.cg.length : Int) ∧ (m.cg.length : Int) < 256 ∧ (0 : Int) ≤ (m.ln.length : Int) ∧ (m.ln.length : Int) < 256) := hid (by have := hz.nx.1; have := hz.cg.1; have := hz.ln.1; omega)
  have hn13 : (m.nx.length : Int) < 256 := HN.out.2.1
  have hn15 : (m.cg.length : Int) < 256 := HN.out.2.2.2.1
  have hn16 : (m.ln.length : Int) < 256 := HN.out.2.2.2.2.2
  clear h hc hz hL eH1
  go_enter Tryz.func67, Tryz.ntmps67
  go_wp2_with (first
    | (have := P9; go_at_call 114; refine (pvbyte c w0 _ _ _ _ HN.out.1 HN.out.2.1 P9.out).mono ?_; rintro e w9 ⟨rfl, hx⟩; have P10 := hid hx; clear hx y0 y1 y2 y3 y4 y5 y6 y7 y8 y9 y10 y11 y12 y13 y14 y15 y16; have y0 := (HBx.out _ _ P10.out).cell 0 _ rfl; have y1 := (HBx.out _ _ P10.out).cell 1 _ rfl; have y2 := (HBx.out _ _ P10.out).cell 2 _ rfl; have y3 := (HBx.out _ _ P10.out).cell 3 _ rfl; have y4 := (HBx.out _ _ P10.out).cell 4 _ rfl; have y5 := (HBx.out _ _ P10.out).cell 5 _ rfl; have y6 := (HBx.out _ _ P10.out).cell 6 _ rfl; have y7 := (HBx.out _ _ P10.out).cell 7 _ rfl; have y8 := (HBx.out _ _ P10.out).cell 8 _ rfl; have y9 := (HBx.out _ _ P10.out).cell 9 _ rfl; have y10 := (HBx.out _ _ P10.out).cell 10 _ rfl; have y11 := (HBx.out _ _ P10.out).cell 11 _ rfl; have y12 := (HBx.out _ _ P10.out).cell 12 _ rfl; have y13 := (HBx.out _ _ P10.out).cell 13 _ rfl; have y14 := (HBx.out _ _ P10.out).cell 14 _ rfl; have y15 := (HBx.out _ _ P10.out).cell 15 _ rfl; have y16 := (HBx.out _ _ P10.out).cell 16 _ rfl)
    | (have := P8; go_at_call 117; refine (pvtext c w0 _ _ _ _ P8.out).mono ?_; rintro e w8 ⟨rfl, hx⟩; have P9 := hid hx; clear hx y0 y1 y2 y3 y4 y5 y6 y7 y8 y9 y10 y11 y12 y13 y14 y15 y16; have y0 := (HBx.out _ _ P9.out).cell 0 _ rfl; have y1 := (HBx.out _ _ P9.out).cell 1 _ rfl; have y2 := (HBx.out _ _ P9.out).cell 2 _ rfl; have y3 := (HBx.out _ _ P9.out).cell 3 _ rfl; have y4 := (HBx.out _ _ P9.out).cell 4 _ rfl; have y5 := (HBx.out _ _ P9.out).cell 5 _ rfl; have y6 := (HBx.out _ _ P9.out).cell 6 _ rfl; have y7 := (HBx.out _ _ P9.out).cell 7 _ rfl; have y8 := (HBx.out _ _ P9.out).cell 8 _ rfl; have y9 := (HBx.out _ _ P9.out).cell 9 _ rfl; have y10 := (HBx.out _ _ P9.out).cell 10 _ rfl; have y11 := (HBx.out _ _ P9.out).cell 11 _ rfl; have y12 := (HBx.out _ _ P9.out).cell 12 _ rfl; have y13 := (HBx.out _ _ P9.out).cell 13 _ rfl; have y14 := (HBx.out _ _ P9.out).cell 14 _ rfl; have y15 := (HBx.out _ _ P9.out).cell 15 _ rfl; have y16 := (HBx.out _ _ P9.out).cell 16 _ rfl)
    | (have := P7; go_at_call 117; refine (pvtext c w0 _ _ _ _ P7.out).mono ?_; rintro e w7 ⟨rfl, hx⟩; have P8 := hid hx; clear hx y0 y1 y2 y3 y4 y5 y6 y7 y8 y9 y10 y11 y12 y13 y14 y15 y16; have y0 := (HBx.out _ _ P8.out).cell 0 _ rfl; have y1 := (HBx.out _ _ P8.out).cell 1 _ rfl; have y2 := (HBx.out _ _ P8.out).cell 2 _ rfl; have y3 := (HBx.out _ _ P8.out).cell 3 _ rfl; have y4 := (HBx.out _ _ P8.out).cell 4 _ rfl; have y5 := (HBx.out _ _ P8.out).cell 5 _ rfl; have y6 := (HBx.out _ _ P8.out).cell 6 _ rfl; have y7 := (HBx.out _ _ P8.out).cell 7 _ rfl; have y8 := (HBx.out _ _ P8.out).cell 8 _ rfl; have y9 := (HBx.out _ _ P8.out).cell 9 _ rfl; have y10 := (HBx.out _ _ P8.out).cell 10 _ rfl; have y11 := (HBx.out _ _ P8.out).cell 11 _ rfl; have y12 := (HBx.out _ _ P8.out).cell 12 _ rfl; have y13 := (HBx.out _ _ P8.out).cell 13 _ rfl; have y14 := (HBx.out _ _ P8.out).cell 14 _ rfl; have y15 := (HBx.out _ _ P8.out).cell 15 _ rfl; have y16 := (HBx.out _ _ P8.out).cell 16 _ rfl)
    | (have := P6; go_at_call 116; refine (iwrequest_any c w0 _ m.rq HZ.out.rq _ _ P6.out).mono ?_; rintro e w6 ⟨rfl, hx⟩; have P7 := hid hx; clear hx y0 y1 y2 y3 y4 y5 y6 y7 y8 y9 y10 y11 y12 y13 y14 y15 y16; have y0 := (HBx.out _ _ P7.out).cell 0 _ rfl; have y1 := (HBx.out _ _ P7.out).cell 1 _ rfl; have y2 := (HBx.out _ _ P7.out).cell 2 _ rfl; have y3 := (HBx.out _ _ P7.out).cell 3 _ rfl; have y4 := (HBx.out _ _ P7.out).cell 4 _ rfl; have y5 := (HBx.out _ _ P7.out).cell 5 _ rfl; have y6 := (HBx.out _ _ P7.out).cell 6 _ rfl; have y7 := (HBx.out _ _ P7.out).cell 7 _ rfl; have y8 := (HBx.out _ _ P7.out).cell 8 _ rfl; have y9 := (HBx.out _ _ P7.out).cell 9 _ rfl; have y10 := (HBx.out _ _ P7.out).cell 10 _ rfl; have y11 := (HBx.out _ _ P7.out).cell 11 _ rfl; have y12 := (HBx.out _ _ P7.out).cell 12 _ rfl; have y13 := (HBx.out _ _ P7.out).cell 13 _ rfl; have y14 := (HBx.out _ _ P7.out).cell 14 _ rfl; have y15 := (HBx.out _ _ P7.out).cell 15 _ rfl; have y16 := (HBx.out _ _ P7.out).cell 16 _ rfl)
    | (have := P5; go_at_call 115; refine (pvword c w0 _ _ _ _ HZ.out.sl.1 HZ.out.sl.2 P5.out).mono ?_; rintro e w5 ⟨rfl, hx⟩; have P6 := hid hx; clear hx y0 y1 y2 y3 y4 y5 y6 y7 y8 y9 y10 y11 y12 y13 y14 y15 y16; have y0 := (HBx.out _ _ P6.out).cell 0 _ rfl; have y1 := (HBx.out _ _ P6.out).cell 1 _ rfl; have y2 := (HBx.out _ _ P6.out).cell 2 _ rfl; have y3 := (HBx.out _ _ P6.out).cell 3 _ rfl; have y4 := (HBx.out _ _ P6.out).cell 4 _ rfl; have y5 := (HBx.out _ _ P6.out).cell 5 _ rfl; have y6 := (HBx.out _ _ P6.out).cell 6 _ rfl; have y7 := (HBx.out _ _ P6.out).cell 7 _ rfl; have y8 := (HBx.out _ _ P6.out).cell 8 _ rfl; have y9 := (HBx.out _ _ P6.out).cell 9 _ rfl; have y10 := (HBx.out _ _ P6.out).cell 10 _ rfl; have y11 := (HBx.out _ _ P6.out).cell 11 _ rfl; have y12 := (HBx.out _ _ P6.out).cell 12 _ rfl; have y13 := (HBx.out _ _ P6.out).cell 13 _ rfl; have y14 := (HBx.out _ _ P6.out).cell 14 _ rfl; have y15 := (HBx.out _ _ P6.out).cell 15 _ rfl; have y16 := (HBx.out _ _ P6.out).cell 16 _ rfl)
    | (have := P4; go_at_call 114; refine (pvbyte c w0 _ _ _ _ HZ.out.v.1 HZ.out.v.2 P4.out).mono ?_; rintro e w4 ⟨rfl, hx⟩; have P5 := hid hx; clear hx y0 y1 y2 y3 y4 y5 y6 y7 y8 y9 y10 y11 y12 y13 y14 y15 y16; have y0 := (HBx.out _ _ P5.out).cell 0 _ rfl; have y1 := (HBx.out _ _ P5.out).cell 1 _ rfl; have y2 := (HBx.out _ _ P5.out).cell 2 _ rfl; have y3 := (HBx.out _ _ P5.out).cell 3 _ rfl; have y4 := (HBx.out _ _ P5.out).cell 4 _ rfl; have y5 := (HBx.out _ _ P5.out).cell 5 _ rfl; have y6 := (HBx.out _ _ P5.out).cell 6 _ rfl; have y7 := (HBx.out _ _ P5.out).cell 7 _ rfl; have y8 := (HBx.out _ _ P5.out).cell 8 _ rfl; have y9 := (HBx.out _ _ P5.out).cell 9 _ rfl; have y10 := (HBx.out _ _ P5.out).cell 10 _ rfl; have y11 := (HBx.out _ _ P5.out).cell 11 _ rfl; have y12 := (HBx.out _ _ P5.out).cell 12 _ rfl; have y13 := (HBx.out _ _ P5.out).cell 13 _ rfl; have y14 := (HBx.out _ _ P5.out).cell 14 _ rfl; have y15 := (HBx.out _ _ P5.out).cell 15 _ rfl; have y16 := (HBx.out _ _ P5.out).cell 16 _ rfl)
    | (have := P3; go_at_call 115; refine (pvword c w0 _ _ _ _ HZ.out.ep.1 HZ.out.ep.2 P3.out).mono ?_; rintro e w3 ⟨rfl, hx⟩; have P4 := hid hx; clear hx y0 y1 y2 y3 y4 y5 y6 y7 y8 y9 y10 y11 y12 y13 y14 y15 y16; have y0 := (HBx.out _ _ P4.out).cell 0 _ rfl; have y1 := (HBx.out _ _ P4.out).cell 1 _ rfl; have y2 := (HBx.out _ _ P4.out).cell 2 _ rfl; have y3 := (HBx.out _ _ P4.out).cell 3 _ rfl; have y4 := (HBx.out _ _ P4.out).cell 4 _ rfl; have y5 := (HBx.out _ _ P4.out).cell 5 _ rfl; have y6 := (HBx.out _ _ P4.out).cell 6 _ rfl; have y7 := (HBx.out _ _ P4.out).cell 7 _ rfl; have y8 := (HBx.out _ _ P4.out).cell 8 _ rfl; have y9 := (HBx.out _ _ P4.out).cell 9 _ rfl; have y10 := (HBx.out _ _ P4.out).cell 10 _ rfl; have y11 := (HBx.out _ _ P4.out).cell 11 _ rfl; have y12 := (HBx.out _ _ P4.out).cell 12 _ rfl; have y13 := (HBx.out _ _ P4.out).cell 13 _ rfl; have y14 := (HBx.out _ _ P4.out).cell 14 _ rfl; have y15 := (HBx.out _ _ P4.out).cell 15 _ rfl; have y16 := (HBx.out _ _ P4.out).cell 16 _ rfl)
    | (have := P2; go_at_call 114; refine (pvbyte c w0 _ _ _ _ HZ.out.k.1 HZ.out.k.2 P2.out).mono ?_; rintro e w2 ⟨rfl, hx⟩; have P3 := hid hx; clear hx y0 y1 y2 y3 y4 y5 y6 y7 y8 y9 y10 y11 y12 y13 y14 y15 y16; have y0 := (HBx.out _ _ P3.out).cell 0 _ rfl; have y1 := (HBx.out _ _ P3.out).cell 1 _ rfl; have y2 := (HBx.out _ _ P3.out).cell 2 _ rfl; have y3 := (HBx.out _ _ P3.out).cell 3 _ rfl; have y4 := (HBx.out _ _ P3.out).cell 4 _ rfl; have y5 := (HBx.out _ _ P3.out).cell 5 _ rfl; have y6 := (HBx.out _ _ P3.out).cell 6 _ rfl; have y7 := (HBx.out _ _ P3.out).cell 7 _ rfl; have y8 := (HBx.out _ _ P3.out).cell 8 _ rfl; have y9 := (HBx.out _ _ P3.out).cell 9 _ rfl; have y10 := (HBx.out _ _ P3.out).cell 10 _ rfl; have y11 := (HBx.out _ _ P3.out).cell 11 _ rfl; have y12 := (HBx.out _ _ P3.out).cell 12 _ rfl; have y13 := (HBx.out _ _ P3.out).cell 13 _ rfl; have y14 := (HBx.out _ _ P3.out).cell 14 _ rfl; have y15 := (HBx.out _ _ P3.out).cell 15 _ rfl; have y16 := (HBx.out _ _ P3.out).cell 16 _ rfl)
    | (go_at_call 113; refine (dresultText_any _ _ HZ.out.rs _).mono ?_; rintro e w1 ⟨rfl, hx⟩; have P2 := hid (P1.out.under hx); clear hx; have y0 := (HBx.out _ _ P2.out).cell 0 _ rfl; have y1 := (HBx.out _ _ P2.out).cell 1 _ rfl; have y2 := (HBx.out _ _ P2.out).cell 2 _ rfl; have y3 := (HBx.out _ _ P2.out).cell 3 _ rfl; have y4 := (HBx.out _ _ P2.out).cell 4 _ rfl; have y5 := (HBx.out _ _ P2.out).cell 5 _ rfl; have y6 := (HBx.out _ _ P2.out).cell 6 _ rfl; have y7 := (HBx.out _ _ P2.out).cell 7 _ rfl; have y8 := (HBx.out _ _ P2.out).cell 8 _ rfl; have y9 := (HBx.out _ _ P2.out).cell 9 _ rfl; have y10 := (HBx.out _ _ P2.out).cell 10 _ rfl; have y11 := (HBx.out _ _ P2.out).cell 11 _ rfl; have y12 := (HBx.out _ _ P2.out).cell 12 _ rfl; have y13 := (HBx.out _ _ P2.out).cell 13 _ rfl; have y14 := (HBx.out _ _ P2.out).cell 14 _ rfl; have y15 := (HBx.out _ _ P2.out).cell 15 _ rfl; have y16 := (HBx.out _ _ P2.out).cell 16 _ rfl))
  clear y0 y1 y2 y3 y4 y5 y6 y7 y8 y9 y10 y11 y12 y13 y14 y15 y16
  clear P1 P2 P3 P4 P5 P6 P7 P8 P9
  go_loopw [53] (fun i wr => ∃ j : Nat, j ≤ m.nx.length ∧ i = .int .i64 (j : Int) ∧ Pv c w0 H1 wr (l ++ be 1 m.k.toNat ++ be 2 m.ep.toNat ++ be 1 m.v.toNat ++ be 2 m.sl.toNat ++ rqX m.rq ++ txL (rsT m.rs.1 m.rs.2) ++ txL m.tx ++ be 1 m.nx.length ++ (m.nx.take j).flatMap oneL))
    (fun i _ => ((m.nx.length : Int) - intOf i).toNat)
  case atStart => exact ⟨0, Nat.zero_le _, rfl, by have := P10.out; simpa using this⟩
  case round =>
    obtain ⟨j, hj, rfl, hpv⟩ := hrel
    have HV := hid hpv
    clear hpv
    have hj0 : (0 : Int) ≤ (j : Int) := Int.natCast_nonneg _
    by_cases hjn : j = m.nx.length
    · have hj1 : ¬ ((j : Int) < (m.nx.length : Int)) := by omega
      have HE : Hid (j = m.nx.length) := hid hjn
      clear hj hjn
      have y0 := (HBx.out _ _ HV.out).cell 0 _ rfl; have y1 := (HBx.out _ _ HV.out).cell 1 _ rfl; have y2 := (HBx.out _ _ HV.out).cell 2 _ rfl; have y3 := (HBx.out _ _ HV.out).cell 3 _ rfl; have y4 := (HBx.out _ _ HV.out).cell 4 _ rfl; have y5 := (HBx.out _ _ HV.out).cell 5 _ rfl; have y6 := (HBx.out _ _ HV.out).cell 6 _ rfl; have y7 := (HBx.out _ _ HV.out).cell 7 _ rfl; have y8 := (HBx.out _ _ HV.out).cell 8 _ rfl; have y9 := (HBx.out _ _ HV.out).cell 9 _ rfl; have y10 := (HBx.out _ _ HV.out).cell 10 _ rfl; have y11 := (HBx.out _ _ HV.out).cell 11 _ rfl; have y12 := (HBx.out _ _ HV.out).cell 12 _ rfl; have y13 := (HBx.out _ _ HV.out).cell 13 _ rfl; have y14 := (HBx.out _ _ HV.out).cell 14 _ rfl; have y15 := (HBx.out _ _ HV.out).cell 15 _ rfl; have y16 := (HBx.out _ _ HV.out).cell 16 _ rfl
      obtain ⟨A1, eA1⟩ : ∃ A1, A1 = l ++ be 1 m.k.toNat ++ be 2 m.ep.toNat ++ be 1 m.v.toNat ++ be 2 m.sl.toNat ++ rqX m.rq ++ txL (rsT m.rs.1 m.rs.2) ++ txL m.tx ++ be 1 m.nx.length ++ m.nx.flatMap oneL := ⟨_, rfl⟩
      have S0 : Hid (Pv c w0 H1 wr A1) := hid (by have := HV.out; rw [HE.out, List.take_length] at this; rw [eA1]; exact this)
      have HA1 := hid eA1
      clear eA1
      go_wp2_with (first
        | (have := S1; go_at_call 114; refine (pvbyte c w0 _ _ _ _ HN.out.2.2.1 HN.out.2.2.2.1 S1.out).mono ?_; rintro e u2 ⟨rfl, hx⟩; have S2 := hid hx; clear hx y0 y1 y2 y3 y4 y5 y6 y7 y8 y9 y10 y11 y12 y13 y14 y15 y16; have y0 := (HBx.out _ _ S2.out).cell 0 _ rfl; have y1 := (HBx.out _ _ S2.out).cell 1 _ rfl; have y2 := (HBx.out _ _ S2.out).cell 2 _ rfl; have y3 := (HBx.out _ _ S2.out).cell 3 _ rfl; have y4 := (HBx.out _ _ S2.out).cell 4 _ rfl; have y5 := (HBx.out _ _ S2.out).cell 5 _ rfl; have y6 := (HBx.out _ _ S2.out).cell 6 _ rfl; have y7 := (HBx.out _ _ S2.out).cell 7 _ rfl; have y8 := (HBx.out _ _ S2.out).cell 8 _ rfl; have y9 := (HBx.out _ _ S2.out).cell 9 _ rfl; have y10 := (HBx.out _ _ S2.out).cell 10 _ rfl; have y11 := (HBx.out _ _ S2.out).cell 11 _ rfl; have y12 := (HBx.out _ _ S2.out).cell 12 _ rfl; have y13 := (HBx.out _ _ S2.out).cell 13 _ rfl; have y14 := (HBx.out _ _ S2.out).cell 14 _ rfl; have y15 := (HBx.out _ _ S2.out).cell 15 _ rfl; have y16 := (HBx.out _ _ S2.out).cell 16 _ rfl)
        | (go_at_call 118; refine (iwsigs_any c w0 HC.out _ a14 _ c14 m.sg rfl HZ.out.sg.1 HZ.out.sg.2 (slice_pairs HL.out.sg) _ _ S0.out).mono ?_; rintro e u1 ⟨rfl, hx⟩; have S1 := hid hx; clear hx y0 y1 y2 y3 y4 y5 y6 y7 y8 y9 y10 y11 y12 y13 y14 y15 y16; have y0 := (HBx.out _ _ S1.out).cell 0 _ rfl; have y1 := (HBx.out _ _ S1.out).cell 1 _ rfl; have y2 := (HBx.out _ _ S1.out).cell 2 _ rfl; have y3 := (HBx.out _ _ S1.out).cell 3 _ rfl; have y4 := (HBx.out _ _ S1.out).cell 4 _ rfl; have y5 := (HBx.out _ _ S1.out).cell 5 _ rfl; have y6 := (HBx.out _ _ S1.out).cell 6 _ rfl; have y7 := (HBx.out _ _ S1.out).cell 7 _ rfl; have y8 := (HBx.out _ _ S1.out).cell 8 _ rfl; have y9 := (HBx.out _ _ S1.out).cell 9 _ rfl; have y10 := (HBx.out _ _ S1.out).cell 10 _ rfl; have y11 := (HBx.out _ _ S1.out).cell 11 _ rfl; have y12 := (HBx.out _ _ S1.out).cell 12 _ rfl; have y13 := (HBx.out _ _ S1.out).cell 13 _ rfl; have y14 := (HBx.out _ _ S1.out).cell 14 _ rfl; have y15 := (HBx.out _ _ S1.out).cell 15 _ rfl; have y16 := (HBx.out _ _ S1.out).cell 16 _ rfl))
      clear y0 y1 y2 y3 y4 y5 y6 y7 y8 y9 y10 y11 y12 y13 y14 y15 y16 hj0 hj1
      clear HV HE S0 S1
      go_loopw [73] (fun i wr => ∃ j : Nat, j ≤ m.cg.length ∧ i = .int .i64 (j : Int) ∧ Pv c w0 H1 wr (A1 ++ sgsL m.sg ++ be 1 m.cg.length ++ (m.cg.take j).flatMap cgL))
        (fun i _ => ((m.cg.length : Int) - intOf i).toNat)
      case atStart => exact ⟨0, Nat.zero_le _, rfl, by have := S2.out; simpa using this⟩
      case round =>
        obtain ⟨j, hj, rfl, hpv⟩ := hrel
        have HV := hid hpv
        clear hpv
        have hj0 : (0 : Int) ≤ (j : Int) := Int.natCast_nonneg _
        by_cases hjn : j = m.cg.length
        · have hj1 : ¬ ((j : Int) < (m.cg.length : Int)) := by omega
          have HE : Hid (j = m.cg.length) := hid hjn
          clear hj hjn
          have y0 := (HBx.out _ _ HV.out).cell 0 _ rfl; have y1 := (HBx.out _ _ HV.out).cell 1 _ rfl; have y2 := (HBx.out _ _ HV.out).cell 2 _ rfl; have y3 := (HBx.out _ _ HV.out).cell 3 _ rfl; have y4 := (HBx.out _ _ HV.out).cell 4 _ rfl; have y5 := (HBx.out _ _ HV.out).cell 5 _ rfl; have y6 := (HBx.out _ _ HV.out).cell 6 _ rfl; have y7 := (HBx.out _ _ HV.out).cell 7 _ rfl; have y8 := (HBx.out _ _ HV.out).cell 8 _ rfl; have y9 := (HBx.out _ _ HV.out).cell 9 _ rfl; have y10 := (HBx.out _ _ HV.out).cell 10 _ rfl; have y11 := (HBx.out _ _ HV.out).cell 11 _ rfl; have y12 := (HBx.out _ _ HV.out).cell 12 _ rfl; have y13 := (HBx.out _ _ HV.out).cell 13 _ rfl; have y14 := (HBx.out _ _ HV.out).cell 14 _ rfl; have y15 := (HBx.out _ _ HV.out).cell 15 _ rfl; have y16 := (HBx.out _ _ HV.out).cell 16 _ rfl
          obtain ⟨A2, eA2⟩ : ∃ A2, A2 = A1 ++ sgsL m.sg ++ be 1 m.cg.length ++ m.cg.flatMap cgL := ⟨_, rfl⟩
          have R0 : Hid (Pv c w0 H1 wr A2) := hid (by have := HV.out; rw [HE.out, List.take_length] at this; rw [eA2]; exact this)
          have HA2 := hid eA2
          clear eA2
          go_wp2_with (go_at_call 114; refine (pvbyte c w0 _ _ _ _ HN.out.2.2.2.2.1 HN.out.2.2.2.2.2 R0.out).mono ?_; rintro e u1 ⟨rfl, hx⟩; have R1 := hid hx; clear hx y0 y1 y2 y3 y4 y5 y6 y7 y8 y9 y10 y11 y12 y13 y14 y15 y16; have y0 := (HBx.out _ _ R1.out).cell 0 _ rfl; have y1 := (HBx.out _ _ R1.out).cell 1 _ rfl; have y2 := (HBx.out _ _ R1.out).cell 2 _ rfl; have y3 := (HBx.out _ _ R1.out).cell 3 _ rfl; have y4 := (HBx.out _ _ R1.out).cell 4 _ rfl; have y5 := (HBx.out _ _ R1.out).cell 5 _ rfl; have y6 := (HBx.out _ _ R1.out).cell 6 _ rfl; have y7 := (HBx.out _ _ R1.out).cell 7 _ rfl; have y8 := (HBx.out _ _ R1.out).cell 8 _ rfl; have y9 := (HBx.out _ _ R1.out).cell 9 _ rfl; have y10 := (HBx.out _ _ R1.out).cell 10 _ rfl; have y11 := (HBx.out _ _ R1.out).cell 11 _ rfl; have y12 := (HBx.out _ _ R1.out).cell 12 _ rfl; have y13 := (HBx.out _ _ R1.out).cell 13 _ rfl; have y14 := (HBx.out _ _ R1.out).cell 14 _ rfl; have y15 := (HBx.out _ _ R1.out).cell 15 _ rfl; have y16 := (HBx.out _ _ R1.out).cell 16 _ rfl)
          clear y0 y1 y2 y3 y4 y5 y6 y7 y8 y9 y10 y11 y12 y13 y14 y15 y16 hj0 hj1
          clear HV HE R0
          go_loopw [89] (fun i wr => ∃ j : Nat, j ≤ m.ln.length ∧ i = .int .i64 (j : Int) ∧ Pv c w0 H1 wr (A2 ++ be 1 m.ln.length ++ (m.ln.take j).flatMap lnL))
            (fun i _ => ((m.ln.length : Int) - intOf i).toNat)
          case atStart => exact ⟨0, Nat.zero_le _, rfl, by have := R1.out; simpa using this⟩
          case round =>
            obtain ⟨j, hj, rfl, hpv⟩ := hrel
            have HV := hid hpv
            clear hpv
            have hj0 : (0 : Int) ≤ (j : Int) := Int.natCast_nonneg _
            by_cases hjn : j = m.ln.length
            · have hj1 : ¬ ((j : Int) < (m.ln.length : Int)) := by omega
              have HE : Hid (j = m.ln.length) := hid hjn
              clear hj hjn
              have y0 := (HBx.out _ _ HV.out).cell 0 _ rfl; have y1 := (HBx.out _ _ HV.out).cell 1 _ rfl; have y2 := (HBx.out _ _ HV.out).cell 2 _ rfl; have y3 := (HBx.out _ _ HV.out).cell 3 _ rfl; have y4 := (HBx.out _ _ HV.out).cell 4 _ rfl; have y5 := (HBx.out _ _ HV.out).cell 5 _ rfl; have y6 := (HBx.out _ _ HV.out).cell 6 _ rfl; have y7 := (HBx.out _ _ HV.out).cell 7 _ rfl; have y8 := (HBx.out _ _ HV.out).cell 8 _ rfl; have y9 := (HBx.out _ _ HV.out).cell 9 _ rfl; have y10 := (HBx.out _ _ HV.out).cell 10 _ rfl; have y11 := (HBx.out _ _ HV.out).cell 11 _ rfl; have y12 := (HBx.out _ _ HV.out).cell 12 _ rfl; have y13 := (HBx.out _ _ HV.out).cell 13 _ rfl; have y14 := (HBx.out _ _ HV.out).cell 14 _ rfl; have y15 := (HBx.out _ _ HV.out).cell 15 _ rfl; have y16 := (HBx.out _ _ HV.out).cell 16 _ rfl
              go_wp2
              go_end0
              refine ⟨rfl, ?_⟩
              have := HPop.out _ _ HV.out
              rw [HE.out, List.take_length] at this
              rw [HA2.out, HA1.out] at this
              simp only [msL, lsL, rsX, List.append_assoc] at this ⊢
              exact this
            · have hj1 : (j : Int) < (m.ln.length : Int) := by omega
              have hjl : j < m.ln.length := by omega
              obtain ⟨g, off, cp, a1, k1, a2, k2, hv, hIP, hg, hcl⟩ := ln_at HL.out.ln j hjl
              cases hv
              have hcr : ∀ (q : Nat) (u : Value), (lnC (m.ln.getD j ln0) (.slice a1 (m.ln.getD j ln0).1.2.length k1) (.slice a2 (m.ln.getD j ln0).2.length k2))[q]? = some u → wr.cell? ⟨g, off + j * 3 + q, none⟩ = some u := fun q u hq => (World.cell?_of_block (a := ⟨g, off + j * 3 + q, none⟩) (HV.out.bel.block g (Nat.lt_of_lt_of_le hg HC.out))).trans (hcl q u hq)
              have HJ := hid (And.intro hj hjn)
              have HS := hid (flat_snoc (f := lnL) (d := ln0) j hjl)
              have HBj := hid (HZ.out.ln.2 (m.ln.getD j ln0) (by rw [List.getD_eq_getElem?_getD, List.getElem?_eq_getElem hjl]; exact List.getElem_mem hjl))
              generalize m.ln.getD j ln0 = y at hcr hIP HS HBj
              have HP := hid hIP
              have d0 : wr.cell? ⟨g, off + j * 3, none⟩ = some (.int .i64 y.1.1) := hcr 0 _ rfl
              have d1 : wr.cell? ⟨g, off + j * 3 + 1, none⟩ = some (.slice a1 y.1.2.length k1) := hcr 1 _ rfl
              have d2 : wr.cell? ⟨g, off + j * 3 + 2, none⟩ = some (.slice a2 y.2.length k2) := hcr 2 _ rfl
              clear hj hjn hjl hIP hg hcl hcr
              go_wp2_with (first
                | (have := Q1; go_at_call 120; refine (iwlink_any c w0 HC.out _ y a1 _ k1 a2 _ k2 rfl HBj.out.1 HP.out.1 rfl HBj.out.2.1 HBj.out.2.2 HP.out.2 _ _ Q1.out).mono ?_; rintro e v1 ⟨rfl, h5⟩; have Q5 := hid h5; clear h5)
                | (refine wl_store_blk rfl 96 _ _ rfl wr.heap.size 0 rfl #[.int .i64 y.1.1, .slice a1 y.1.2.length k1, .slice a2 y.2.length k2] rfl [.int .i64 0, .slice none 0 0, .slice none 0 0] 96 (heap_alloc_last wr _) (by simp) (by kernel_rfl) (by simp [Value.oneCell']) ?_; intro wx Hz; have Q1 : Hid (Pv c w0 ((wr.heap.size, .cells #[.int .i64 y.1.1, .slice a1 y.1.2.length k1, .slice a2 y.2.length k2] 96 (0, 0)) :: H1) wx _) := hid (HV.out.put (Hz.out.2.below ((Below.refl wr.heap.size wr).alloc (Nat.le_refl _) _) (Nat.le_refl _)) Hz.out.1); clear Hz d0 d1 d2; have x0 := (Q1.out.box (L := [.int .i64 y.1.1, .slice a1 y.1.2.length k1, .slice a2 y.2.length k2])).cell 0 _ rfl; have x1 := (Q1.out.box (L := [.int .i64 y.1.1, .slice a1 y.1.2.length k1, .slice a2 y.2.length k2])).cell 1 _ rfl; have x2 := (Q1.out.box (L := [.int .i64 y.1.1, .slice a1 y.1.2.length k1, .slice a2 y.2.length k2])).cell 2 _ rfl))
              go_roundw
              case rel => exact ⟨j + 1, by have := HJ.out; omega, by go_num, by have := Q5.out.pop; rw [← HS.out]; simp only [List.append_assoc] at this ⊢; exact this⟩
              case measure => simp [intOf]; omega

        · have hj1 : (j : Int) < (m.cg.length : Int) := by omega
          have hjl : j < m.cg.length := by omega
          obtain ⟨g, off, cp, a8, n8, k8, hv, hRd, hg, hcl⟩ := cg_at HL.out.cg j hjl
          cases hv
          obtain ⟨_, _, hf⟩ := Reads.form hRd
          have hn8 : (m.cg.getD j cg0).2.2.1.length = n8 := by injection hf with _ h2 _; rw [h2, List.length_map]
          have hcr : ∀ (q : Nat) (u : Value), (cgC (m.cg.getD j cg0) (.slice a8 n8 k8))[q]? = some u → wr.cell? ⟨g, off + j * 5 + q, none⟩ = some u := fun q u hq => (World.cell?_of_block (a := ⟨g, off + j * 5 + q, none⟩) (HV.out.bel.block g (Nat.lt_of_lt_of_le hg HC.out))).trans (hcl q u hq)
          have HJ := hid (And.intro hj hjn)
          have HS := hid (flat_snoc (f := cgL) (d := cg0) j hjl)
          have HBj := hid (HZ.out.cg.2 (m.cg.getD j cg0) (by rw [List.getD_eq_getElem?_getD, List.getElem?_eq_getElem hjl]; exact List.getElem_mem hjl))
          generalize m.cg.getD j cg0 = y at hcr hRd HS HBj hn8
          have HP := hid (And.intro hRd hn8)
          have d0 : wr.cell? ⟨g, off + j * 5, none⟩ = some (.int .i64 y.1) := hcr 0 _ rfl
          have d1 : wr.cell? ⟨g, off + j * 5 + 1, none⟩ = some (.int .i64 y.2.1) := hcr 1 _ rfl
          have d2 : wr.cell? ⟨g, off + j * 5 + 2, none⟩ = some (.slice a8 n8 k8) := hcr 2 _ rfl
          have d3 : wr.cell? ⟨g, off + j * 5 + 3, none⟩ = some (.int .i64 y.2.2.2.1) := hcr 3 _ rfl
          have d4 : wr.cell? ⟨g, off + j * 5 + 4, none⟩ = some (.string y.2.2.2.2) := hcr 4 _ rfl
          clear hj hjn hjl hRd hg hcl hcr hf hn8
          go_wp2_with (first
            | (have := Q1; go_at_call 119; refine (iwchange_any c w0 HC.out _ y a8 n8 k8 HP.out.2 HBj.out HP.out.1 _ _ Q1.out).mono ?_; rintro e v1 ⟨rfl, h5⟩; have Q5 := hid h5; clear h5)
            | (refine wl_store_blk rfl 90 _ _ rfl wr.heap.size 0 rfl #[.int .i64 y.1, .int .i64 y.2.1, .slice a8 n8 k8, .int .i64 y.2.2.2.1, .string y.2.2.2.2] rfl [.int .i64 0, .int .i64 0, .slice none 0 0, .int .i64 0, .string ⟨#[]⟩] 90 (heap_alloc_last wr _) (by simp) (by kernel_rfl) (by simp [Value.oneCell']) ?_; intro wx Hz; have Q1 : Hid (Pv c w0 ((wr.heap.size, .cells #[.int .i64 y.1, .int .i64 y.2.1, .slice a8 n8 k8, .int .i64 y.2.2.2.1, .string y.2.2.2.2] 90 (0, 0)) :: H1) wx _) := hid (HV.out.put (Hz.out.2.below ((Below.refl wr.heap.size wr).alloc (Nat.le_refl _) _) (Nat.le_refl _)) Hz.out.1); clear Hz d0 d1 d2 d3 d4; have x0 := (Q1.out.box (L := [.int .i64 y.1, .int .i64 y.2.1, .slice a8 n8 k8, .int .i64 y.2.2.2.1, .string y.2.2.2.2])).cell 0 _ rfl; have x1 := (Q1.out.box (L := [.int .i64 y.1, .int .i64 y.2.1, .slice a8 n8 k8, .int .i64 y.2.2.2.1, .string y.2.2.2.2])).cell 1 _ rfl; have x2 := (Q1.out.box (L := [.int .i64 y.1, .int .i64 y.2.1, .slice a8 n8 k8, .int .i64 y.2.2.2.1, .string y.2.2.2.2])).cell 2 _ rfl; have x3 := (Q1.out.box (L := [.int .i64 y.1, .int .i64 y.2.1, .slice a8 n8 k8, .int .i64 y.2.2.2.1, .string y.2.2.2.2])).cell 3 _ rfl; have x4 := (Q1.out.box (L := [.int .i64 y.1, .int .i64 y.2.1, .slice a8 n8 k8, .int .i64 y.2.2.2.1, .string y.2.2.2.2])).cell 4 _ rfl))
          go_roundw
          case rel => exact ⟨j + 1, by have := HJ.out; omega, by go_num, by have := Q5.out.pop; rw [← HS.out]; simp only [List.append_assoc] at this ⊢; exact this⟩
          case measure => simp [intOf]; omega

    · have hj1 : (j : Int) < (m.nx.length : Int) := by omega
      have hjl : j < m.nx.length := by omega
      obtain ⟨g, off, rfl, hc1⟩ : ∃ g off, a13 = some ⟨g, off, none⟩ ∧ wr.cell? ⟨g, off + j, none⟩ = some (.int .i64 (m.nx.getD j 0)) := by
        rcases (slice_ints HL.out.nx).keep HV.out.bel HC.out with e | ⟨g, off, ha, hg, hc⟩
        · rw [e] at hjl; simp at hjl
        · exact ⟨g, off, ha, hc j _ (by simp [hjl])⟩
      have HJ := hid (And.intro hj hjn)
      have HS := hid (flat_snoc (f := oneL) (d := (0 : Int)) j hjl)
      have HBj := hid (HZ.out.nx.2 (m.nx.getD j 0) (by rw [List.getD_eq_getElem?_getD, List.getElem?_eq_getElem hjl]; exact List.getElem_mem hjl))
      generalize m.nx.getD j 0 = y at hc1 HS HBj
      clear hj hjn hjl
      go_wp2_with (go_at_call 114; refine (pvbyte c w0 _ _ _ _ HBj.out.1 HBj.out.2 HV.out).mono ?_; rintro e v1 ⟨rfl, h5⟩; have Q5 := hid h5; clear h5)
      go_roundw
      case rel => exact ⟨j + 1, by have := HJ.out; omega, by go_num, by have := Q5.out; rw [← HS.out]; simp only [oneL, List.append_assoc] at this ⊢; exact this⟩
      case measure => simp [intOf]; omega
end Go.Proofs.YtgmekkgbobmplaaGreat

/- The program's test of messages, kind by kind. -/
namespace Go.Proofs.YtgmekkgbobmplaaGreat
open Go.RowKit
set_option maxRecDepth 100000 in
set_option maxHeartbeats 6400000 in
theorem ifits_1_0 {F : Nat → Prop} {w : World} {m : Ms} {a13 a14 a15 a16 : Option Addr} {c13 c14 c15 c16 : Nat} (h : Fx F w m a13 a14 a15 a16 c13 c14 c15 c16) (hk : m.k = 1) (t1 : (onlyB m { r := true, g := true }) = false) : Fit w m a13 a14 a15 a16 c13 c14 c15 c16 false := by
  obtain ⟨wa, HA, hw0, hx⟩ := msA_new m a13 a14 a15 a16 c13 c14 c15 c16 48 w
  have H0 := hid (And.intro hx (Below.refl wa.heap.size wa))
  clear hx
  have HW : Hid (inB m.ep 0 60 = true) := hid (by rw [inB, decide_eq_true h.h0, decide_eq_true h.h1]; rfl)
  have q1 := q_yes hk
  obtain ⟨A, eA⟩ : ∃ A, A = Value.agg (msA m a13 a14 a15 a16 c13 c14 c15 c16).toArray := ⟨_, rfl⟩
  have HT1 := hid ((tOnly68 h t1).up hw0)
  rw [← eA] at HT1
  have HAg := hid eA
  have HW0 := hid hw0
  clear t1 h hk hw0
  unfold Fit msA
  simp only [msA] at HA eA
  replace HA := hid HA
  go_enter Tryz.func65, Tryz.ntmps65
  try simp only [List.append]
  go_upto_region 1 with fail
  rw [HA.out]
  obtain ⟨y0, y1, y2, y3, y4, y5, y6, y7, y8, y9, y10, y11, y12, y13, y14, y15, y16⟩ := msA_at H0.out.1
  rw [← eA]
  clear eA
  go_wp2_with (first
    | (have := H0; go_at_call 101; refine (HT1.out _ H0.out.2).mono ?_; rintro e w1 ⟨rfl, hb⟩; have H1 := hid (bx_next H0.out hb); clear hb y0 y1 y2 y3 y4 y5 y6 y7 y8 y9 y10 y11 y12 y13 y14 y15 y16; obtain ⟨y0, y1, y2, y3, y4, y5, y6, y7, y8, y9, y10, y11, y12, y13, y14, y15, y16⟩ := msA_at H1.out.1)
    | (have := H0; refine wl_loadB rfl 48 _ rfl w.heap.size 0 rfl (msA m a13 a14 a15 a16 c13 c14 c15 c16) 48 H0.out.1 _ Tryz.underlying48 rfl (by kernel_rfl) A HAg.out rfl ?_)
    | (go_at_call 100; refine (iwithin_any _ _ _ _).mono ?_; rintro e w1 ⟨rfl, hw⟩; rw [HW.out]; replace hw := hw.symm; subst hw))
  go_ret
  exact ⟨by simp, HW0.out.trans (H1.out.2.mono HW0.out.size)⟩
set_option maxRecDepth 100000 in
set_option maxHeartbeats 6400000 in
theorem ifits_1_1 {F : Nat → Prop} {w : World} {m : Ms} {a13 a14 a15 a16 : Option Addr} {c13 c14 c15 c16 : Nat} (h : Fx F w m a13 a14 a15 a16 c13 c14 c15 c16) (hk : m.k = 1) (t1 : (onlyB m { r := true, g := true }) = true) (t2 : (decide (m.ep = 0)) = false) : Fit w m a13 a14 a15 a16 c13 c14 c15 c16 false := by
  obtain ⟨wa, HA, hw0, hx⟩ := msA_new m a13 a14 a15 a16 c13 c14 c15 c16 48 w
  have H0 := hid (And.intro hx (Below.refl wa.heap.size wa))
  clear hx
  have HW : Hid (inB m.ep 0 60 = true) := hid (by rw [inB, decide_eq_true h.h0, decide_eq_true h.h1]; rfl)
  have q1 := q_yes hk
  obtain ⟨A, eA⟩ : ∃ A, A = Value.agg (msA m a13 a14 a15 a16 c13 c14 c15 c16).toArray := ⟨_, rfl⟩
  have HT1 := hid ((tOnly68 h t1).up hw0)
  rw [← eA] at HT1
  have b2 : (m.ep == 0) = false := by rw [beq_eq_false_iff_ne]; exact of_decide_eq_false t2
  have HAg := hid eA
  have HW0 := hid hw0
  clear t1 t2 h hk hw0
  unfold Fit msA
  simp only [msA] at HA eA
  replace HA := hid HA
  go_enter Tryz.func65, Tryz.ntmps65
  try simp only [List.append]
  go_upto_region 1 with fail
  rw [HA.out]
  obtain ⟨y0, y1, y2, y3, y4, y5, y6, y7, y8, y9, y10, y11, y12, y13, y14, y15, y16⟩ := msA_at H0.out.1
  rw [← eA]
  clear eA
  go_wp2_with (first
    | (have := H0; go_at_call 101; refine (HT1.out _ H0.out.2).mono ?_; rintro e w1 ⟨rfl, hb⟩; have H1 := hid (bx_next H0.out hb); clear hb y0 y1 y2 y3 y4 y5 y6 y7 y8 y9 y10 y11 y12 y13 y14 y15 y16; obtain ⟨y0, y1, y2, y3, y4, y5, y6, y7, y8, y9, y10, y11, y12, y13, y14, y15, y16⟩ := msA_at H1.out.1)
    | (have := H0; refine wl_loadB rfl 48 _ rfl w.heap.size 0 rfl (msA m a13 a14 a15 a16 c13 c14 c15 c16) 48 H0.out.1 _ Tryz.underlying48 rfl (by kernel_rfl) A HAg.out rfl ?_)
    | (go_at_call 100; refine (iwithin_any _ _ _ _).mono ?_; rintro e w1 ⟨rfl, hw⟩; rw [HW.out]; replace hw := hw.symm; subst hw))
  go_ret
  exact ⟨by simp, HW0.out.trans (H1.out.2.mono HW0.out.size)⟩
set_option maxRecDepth 100000 in
set_option maxHeartbeats 6400000 in
theorem ifits_1_2 {F : Nat → Prop} {w : World} {m : Ms} {a13 a14 a15 a16 : Option Addr} {c13 c14 c15 c16 : Nat} (h : Fx F w m a13 a14 a15 a16 c13 c14 c15 c16) (hk : m.k = 1) (t1 : (onlyB m { r := true, g := true }) = true) (t2 : (decide (m.ep = 0)) = true) (t3 : (rightB m.rq) = false) : Fit w m a13 a14 a15 a16 c13 c14 c15 c16 false := by
  obtain ⟨wa, HA, hw0, hx⟩ := msA_new m a13 a14 a15 a16 c13 c14 c15 c16 48 w
  have H0 := hid (And.intro hx (Below.refl wa.heap.size wa))
  clear hx
  have HW : Hid (inB m.ep 0 60 = true) := hid (by rw [inB, decide_eq_true h.h0, decide_eq_true h.h1]; rfl)
  have q1 := q_yes hk
  obtain ⟨A, eA⟩ : ∃ A, A = Value.agg (msA m a13 a14 a15 a16 c13 c14 c15 c16).toArray := ⟨_, rfl⟩
  have HT1 := hid ((tOnly68 h t1).up hw0)
  rw [← eA] at HT1
  have b2 : (m.ep == 0) = true := by rw [beq_iff_eq]; exact of_decide_eq_true t2
  have HT3 := hid ((tRight h t3).up hw0)
  have HAg := hid eA
  have HW0 := hid hw0
  clear t1 t2 t3 h hk hw0
  unfold Fit msA
  simp only [msA] at HA eA
  replace HA := hid HA
  go_enter Tryz.func65, Tryz.ntmps65
  try simp only [List.append]
  go_upto_region 1 with fail
  rw [HA.out]
  obtain ⟨y0, y1, y2, y3, y4, y5, y6, y7, y8, y9, y10, y11, y12, y13, y14, y15, y16⟩ := msA_at H0.out.1
  rw [← eA]
  clear eA
  go_wp2_with (first
    | (have := H1; go_at_call 102; refine (HT3.out _ H1.out.2).mono ?_; rintro e w2 ⟨rfl, hb⟩; have H2 := hid (bx_next H1.out hb); clear hb y0 y1 y2 y3 y4 y5 y6 y7 y8 y9 y10 y11 y12 y13 y14 y15 y16; obtain ⟨y0, y1, y2, y3, y4, y5, y6, y7, y8, y9, y10, y11, y12, y13, y14, y15, y16⟩ := msA_at H2.out.1)
    | (have := H0; go_at_call 101; refine (HT1.out _ H0.out.2).mono ?_; rintro e w1 ⟨rfl, hb⟩; have H1 := hid (bx_next H0.out hb); clear hb y0 y1 y2 y3 y4 y5 y6 y7 y8 y9 y10 y11 y12 y13 y14 y15 y16; obtain ⟨y0, y1, y2, y3, y4, y5, y6, y7, y8, y9, y10, y11, y12, y13, y14, y15, y16⟩ := msA_at H1.out.1)
    | (have := H0; refine wl_loadB rfl 48 _ rfl w.heap.size 0 rfl (msA m a13 a14 a15 a16 c13 c14 c15 c16) 48 H0.out.1 _ Tryz.underlying48 rfl (by kernel_rfl) A HAg.out rfl ?_)
    | (go_at_call 100; refine (iwithin_any _ _ _ _).mono ?_; rintro e w1 ⟨rfl, hw⟩; rw [HW.out]; replace hw := hw.symm; subst hw))
  go_ret
  exact ⟨by simp, HW0.out.trans (H2.out.2.mono HW0.out.size)⟩
set_option maxRecDepth 100000 in
set_option maxHeartbeats 6400000 in
theorem ifits_1_3 {F : Nat → Prop} {w : World} {m : Ms} {a13 a14 a15 a16 : Option Addr} {c13 c14 c15 c16 : Nat} (h : Fx F w m a13 a14 a15 a16 c13 c14 c15 c16) (hk : m.k = 1) (t1 : (onlyB m { r := true, g := true }) = true) (t2 : (decide (m.ep = 0)) = true) (t3 : (rightB m.rq) = true) (t4 : (oneB m.sg 1) = false) : Fit w m a13 a14 a15 a16 c13 c14 c15 c16 false := by
  obtain ⟨wa, HA, hw0, hx⟩ := msA_new m a13 a14 a15 a16 c13 c14 c15 c16 48 w
  have H0 := hid (And.intro hx (Below.refl wa.heap.size wa))
  clear hx
  have HW : Hid (inB m.ep 0 60 = true) := hid (by rw [inB, decide_eq_true h.h0, decide_eq_true h.h1]; rfl)
  have q1 := q_yes hk
  obtain ⟨A, eA⟩ : ∃ A, A = Value.agg (msA m a13 a14 a15 a16 c13 c14 c15 c16).toArray := ⟨_, rfl⟩
  have HT1 := hid ((tOnly68 h t1).up hw0)
  rw [← eA] at HT1
  have b2 : (m.ep == 0) = true := by rw [beq_iff_eq]; exact of_decide_eq_true t2
  have HT3 := hid ((tRight h t3).up hw0)
  have HT4 := hid ((tSigs (k := 1) h t4).up hw0)
  have HAg := hid eA
  have HW0 := hid hw0
  clear t1 t2 t3 t4 h hk hw0
  unfold Fit msA
  simp only [msA] at HA eA
  replace HA := hid HA
  go_enter Tryz.func65, Tryz.ntmps65
  try simp only [List.append]
  go_upto_region 1 with fail
  rw [HA.out]
  obtain ⟨y0, y1, y2, y3, y4, y5, y6, y7, y8, y9, y10, y11, y12, y13, y14, y15, y16⟩ := msA_at H0.out.1
  rw [← eA]
  clear eA
  go_wp2_with (first
    | (have := H2; go_at_call 103; refine (HT4.out _ H2.out.2).mono ?_; rintro e w3 ⟨rfl, hb⟩; have H3 := hid (bx_next H2.out hb); clear hb y0 y1 y2 y3 y4 y5 y6 y7 y8 y9 y10 y11 y12 y13 y14 y15 y16; obtain ⟨y0, y1, y2, y3, y4, y5, y6, y7, y8, y9, y10, y11, y12, y13, y14, y15, y16⟩ := msA_at H3.out.1)
    | (have := H1; go_at_call 102; refine (HT3.out _ H1.out.2).mono ?_; rintro e w2 ⟨rfl, hb⟩; have H2 := hid (bx_next H1.out hb); clear hb y0 y1 y2 y3 y4 y5 y6 y7 y8 y9 y10 y11 y12 y13 y14 y15 y16; obtain ⟨y0, y1, y2, y3, y4, y5, y6, y7, y8, y9, y10, y11, y12, y13, y14, y15, y16⟩ := msA_at H2.out.1)
    | (have := H0; go_at_call 101; refine (HT1.out _ H0.out.2).mono ?_; rintro e w1 ⟨rfl, hb⟩; have H1 := hid (bx_next H0.out hb); clear hb y0 y1 y2 y3 y4 y5 y6 y7 y8 y9 y10 y11 y12 y13 y14 y15 y16; obtain ⟨y0, y1, y2, y3, y4, y5, y6, y7, y8, y9, y10, y11, y12, y13, y14, y15, y16⟩ := msA_at H1.out.1)
    | (have := H0; refine wl_loadB rfl 48 _ rfl w.heap.size 0 rfl (msA m a13 a14 a15 a16 c13 c14 c15 c16) 48 H0.out.1 _ Tryz.underlying48 rfl (by kernel_rfl) A HAg.out rfl ?_)
    | (go_at_call 100; refine (iwithin_any _ _ _ _).mono ?_; rintro e w1 ⟨rfl, hw⟩; rw [HW.out]; replace hw := hw.symm; subst hw))
  go_ret
  exact ⟨by simp, HW0.out.trans (H3.out.2.mono HW0.out.size)⟩
set_option maxRecDepth 100000 in
set_option maxHeartbeats 6400000 in
theorem ifits_1_4 {F : Nat → Prop} {w : World} {m : Ms} {a13 a14 a15 a16 : Option Addr} {c13 c14 c15 c16 : Nat} (h : Fx F w m a13 a14 a15 a16 c13 c14 c15 c16) (hk : m.k = 1) (t1 : (onlyB m { r := true, g := true }) = true) (t2 : (decide (m.ep = 0)) = true) (t3 : (rightB m.rq) = true) (t4 : (oneB m.sg 1) = true) : Fit w m a13 a14 a15 a16 c13 c14 c15 c16 true := by
  obtain ⟨wa, HA, hw0, hx⟩ := msA_new m a13 a14 a15 a16 c13 c14 c15 c16 48 w
  have H0 := hid (And.intro hx (Below.refl wa.heap.size wa))
  clear hx
  have HW : Hid (inB m.ep 0 60 = true) := hid (by rw [inB, decide_eq_true h.h0, decide_eq_true h.h1]; rfl)
  have q1 := q_yes hk
  obtain ⟨A, eA⟩ : ∃ A, A = Value.agg (msA m a13 a14 a15 a16 c13 c14 c15 c16).toArray := ⟨_, rfl⟩
  have HT1 := hid ((tOnly68 h t1).up hw0)
  rw [← eA] at HT1
  have b2 : (m.ep == 0) = true := by rw [beq_iff_eq]; exact of_decide_eq_true t2
  have HT3 := hid ((tRight h t3).up hw0)
  have HT4 := hid ((tSigs (k := 1) h t4).up hw0)
  have HAg := hid eA
  have HW0 := hid hw0
  clear t1 t2 t3 t4 h hk hw0
  unfold Fit msA
  simp only [msA] at HA eA
  replace HA := hid HA
  go_enter Tryz.func65, Tryz.ntmps65
  try simp only [List.append]
  go_upto_region 1 with fail
  rw [HA.out]
  obtain ⟨y0, y1, y2, y3, y4, y5, y6, y7, y8, y9, y10, y11, y12, y13, y14, y15, y16⟩ := msA_at H0.out.1
  rw [← eA]
  clear eA
  go_wp2_with (first
    | (have := H2; go_at_call 103; refine (HT4.out _ H2.out.2).mono ?_; rintro e w3 ⟨rfl, hb⟩; have H3 := hid (bx_next H2.out hb); clear hb y0 y1 y2 y3 y4 y5 y6 y7 y8 y9 y10 y11 y12 y13 y14 y15 y16; obtain ⟨y0, y1, y2, y3, y4, y5, y6, y7, y8, y9, y10, y11, y12, y13, y14, y15, y16⟩ := msA_at H3.out.1)
    | (have := H1; go_at_call 102; refine (HT3.out _ H1.out.2).mono ?_; rintro e w2 ⟨rfl, hb⟩; have H2 := hid (bx_next H1.out hb); clear hb y0 y1 y2 y3 y4 y5 y6 y7 y8 y9 y10 y11 y12 y13 y14 y15 y16; obtain ⟨y0, y1, y2, y3, y4, y5, y6, y7, y8, y9, y10, y11, y12, y13, y14, y15, y16⟩ := msA_at H2.out.1)
    | (have := H0; go_at_call 101; refine (HT1.out _ H0.out.2).mono ?_; rintro e w1 ⟨rfl, hb⟩; have H1 := hid (bx_next H0.out hb); clear hb y0 y1 y2 y3 y4 y5 y6 y7 y8 y9 y10 y11 y12 y13 y14 y15 y16; obtain ⟨y0, y1, y2, y3, y4, y5, y6, y7, y8, y9, y10, y11, y12, y13, y14, y15, y16⟩ := msA_at H1.out.1)
    | (have := H0; refine wl_loadB rfl 48 _ rfl w.heap.size 0 rfl (msA m a13 a14 a15 a16 c13 c14 c15 c16) 48 H0.out.1 _ Tryz.underlying48 rfl (by kernel_rfl) A HAg.out rfl ?_)
    | (go_at_call 100; refine (iwithin_any _ _ _ _).mono ?_; rintro e w1 ⟨rfl, hw⟩; rw [HW.out]; replace hw := hw.symm; subst hw))
  go_ret
  exact ⟨by simp, HW0.out.trans (H3.out.2.mono HW0.out.size)⟩
theorem ifits_1 {F : Nat → Prop} {w : World} {m : Ms} {a13 a14 a15 a16 : Option Addr} {c13 c14 c15 c16 : Nat} (h : Fx F w m a13 a14 a15 a16 c13 c14 c15 c16) (hk : m.k = 1) : Fit w m a13 a14 a15 a16 c13 c14 c15 c16 (kindB m) := by
  have hV : kindB m = ((onlyB m { r := true, g := true }) && ((decide (m.ep = 0)) && ((rightB m.rq) && ((oneB m.sg 1))))) := by
    unfold kindB
    rw [if_pos hk]
  cases t1 : (onlyB m { r := true, g := true }) with
  | false =>
   rw [show kindB m = false by rw [hV, t1] <;> rfl]
   exact ifits_1_0 h hk t1
  | true =>
   cases t2 : (decide (m.ep = 0)) with
   | false =>
    rw [show kindB m = false by rw [hV, t1, t2] <;> rfl]
    exact ifits_1_1 h hk t1 t2
   | true =>
    cases t3 : (rightB m.rq) with
    | false =>
     rw [show kindB m = false by rw [hV, t1, t2, t3] <;> rfl]
     exact ifits_1_2 h hk t1 t2 t3
    | true =>
     cases t4 : (oneB m.sg 1) with
     | false =>
      rw [show kindB m = false by rw [hV, t1, t2, t3, t4] <;> rfl]
      exact ifits_1_3 h hk t1 t2 t3 t4
     | true =>
      rw [show kindB m = true by rw [hV, t1, t2, t3, t4] <;> rfl]
      exact ifits_1_4 h hk t1 t2 t3 t4
end Go.Proofs.YtgmekkgbobmplaaGreat

/- The program's test of messages, kind by kind. -/
namespace Go.Proofs.YtgmekkgbobmplaaGreat
open Go.RowKit
set_option maxRecDepth 100000 in
set_option maxHeartbeats 6400000 in
theorem ifits_3_0 {F : Nat → Prop} {w : World} {m : Ms} {a13 a14 a15 a16 : Option Addr} {c13 c14 c15 c16 : Nat} (h : Fx F w m a13 a14 a15 a16 c13 c14 c15 c16) (hk : m.k = 3) (t1 : (onlyB m { v := true, s := true, r := true, g := true }) = false) : Fit w m a13 a14 a15 a16 c13 c14 c15 c16 false := by
  obtain ⟨wa, HA, hw0, hx⟩ := msA_new m a13 a14 a15 a16 c13 c14 c15 c16 48 w
  have H0 := hid (And.intro hx (Below.refl wa.heap.size wa))
  clear hx
  have HW : Hid (inB m.ep 0 60 = true) := hid (by rw [inB, decide_eq_true h.h0, decide_eq_true h.h1]; rfl)
  have q1 := q_no (n := 1) hk (by decide); have q2 := q_no (n := 2) hk (by decide); have q3 := q_yes hk
  obtain ⟨A, eA⟩ : ∃ A, A = Value.agg (msA m a13 a14 a15 a16 c13 c14 c15 c16).toArray := ⟨_, rfl⟩
  have HT1 := hid ((tOnly71 h t1).up hw0)
  rw [← eA] at HT1
  have HAg := hid eA
  have HW0 := hid hw0
  clear t1 h hk hw0
  unfold Fit msA
  simp only [msA] at HA eA
  replace HA := hid HA
  go_enter Tryz.func65, Tryz.ntmps65
  try simp only [List.append]
  go_upto_region 1 with fail
  rw [HA.out]
  obtain ⟨y0, y1, y2, y3, y4, y5, y6, y7, y8, y9, y10, y11, y12, y13, y14, y15, y16⟩ := msA_at H0.out.1
  rw [← eA]
  clear eA
  go_wp2_with (first
    | (have := H0; go_at_call 101; refine (HT1.out _ H0.out.2).mono ?_; rintro e w1 ⟨rfl, hb⟩; have H1 := hid (bx_next H0.out hb); clear hb y0 y1 y2 y3 y4 y5 y6 y7 y8 y9 y10 y11 y12 y13 y14 y15 y16; obtain ⟨y0, y1, y2, y3, y4, y5, y6, y7, y8, y9, y10, y11, y12, y13, y14, y15, y16⟩ := msA_at H1.out.1)
    | (have := H0; refine wl_loadB rfl 48 _ rfl w.heap.size 0 rfl (msA m a13 a14 a15 a16 c13 c14 c15 c16) 48 H0.out.1 _ Tryz.underlying48 rfl (by kernel_rfl) A HAg.out rfl ?_)
    | (go_at_call 100; refine (iwithin_any _ _ _ _).mono ?_; rintro e w1 ⟨rfl, hw⟩; rw [HW.out]; replace hw := hw.symm; subst hw))
  go_ret
  exact ⟨by simp, HW0.out.trans (H1.out.2.mono HW0.out.size)⟩
set_option maxRecDepth 100000 in
set_option maxHeartbeats 6400000 in
theorem ifits_3_1 {F : Nat → Prop} {w : World} {m : Ms} {a13 a14 a15 a16 : Option Addr} {c13 c14 c15 c16 : Nat} (h : Fx F w m a13 a14 a15 a16 c13 c14 c15 c16) (hk : m.k = 3) (t1 : (onlyB m { v := true, s := true, r := true, g := true }) = true) (t2 : (placeB m) = false) : Fit w m a13 a14 a15 a16 c13 c14 c15 c16 false := by
  obtain ⟨wa, HA, hw0, hx⟩ := msA_new m a13 a14 a15 a16 c13 c14 c15 c16 48 w
  have H0 := hid (And.intro hx (Below.refl wa.heap.size wa))
  clear hx
  have HW : Hid (inB m.ep 0 60 = true) := hid (by rw [inB, decide_eq_true h.h0, decide_eq_true h.h1]; rfl)
  have q1 := q_no (n := 1) hk (by decide); have q2 := q_no (n := 2) hk (by decide); have q3 := q_yes hk
  obtain ⟨A, eA⟩ : ∃ A, A = Value.agg (msA m a13 a14 a15 a16 c13 c14 c15 c16).toArray := ⟨_, rfl⟩
  have HT1 := hid ((tOnly71 h t1).up hw0)
  rw [← eA] at HT1
  have HT2 := hid ((tPlaced h t2).up hw0)
  rw [← eA] at HT2
  have HAg := hid eA
  have HW0 := hid hw0
  clear t1 t2 h hk hw0
  unfold Fit msA
  simp only [msA] at HA eA
  replace HA := hid HA
  go_enter Tryz.func65, Tryz.ntmps65
  try simp only [List.append]
  go_upto_region 1 with fail
  rw [HA.out]
  obtain ⟨y0, y1, y2, y3, y4, y5, y6, y7, y8, y9, y10, y11, y12, y13, y14, y15, y16⟩ := msA_at H0.out.1
  rw [← eA]
  clear eA
  go_wp2_with (first
    | (have := H1; go_at_call 104; refine (HT2.out _ H1.out.2).mono ?_; rintro e w2 ⟨rfl, hb⟩; have H2 := hid (bx_next H1.out hb); clear hb y0 y1 y2 y3 y4 y5 y6 y7 y8 y9 y10 y11 y12 y13 y14 y15 y16; obtain ⟨y0, y1, y2, y3, y4, y5, y6, y7, y8, y9, y10, y11, y12, y13, y14, y15, y16⟩ := msA_at H2.out.1)
    | (have := H1; refine wl_loadB rfl 48 _ rfl w.heap.size 0 rfl (msA m a13 a14 a15 a16 c13 c14 c15 c16) 48 H1.out.1 _ Tryz.underlying48 rfl (by kernel_rfl) A HAg.out rfl ?_)
    | (have := H0; go_at_call 101; refine (HT1.out _ H0.out.2).mono ?_; rintro e w1 ⟨rfl, hb⟩; have H1 := hid (bx_next H0.out hb); clear hb y0 y1 y2 y3 y4 y5 y6 y7 y8 y9 y10 y11 y12 y13 y14 y15 y16; obtain ⟨y0, y1, y2, y3, y4, y5, y6, y7, y8, y9, y10, y11, y12, y13, y14, y15, y16⟩ := msA_at H1.out.1)
    | (have := H0; refine wl_loadB rfl 48 _ rfl w.heap.size 0 rfl (msA m a13 a14 a15 a16 c13 c14 c15 c16) 48 H0.out.1 _ Tryz.underlying48 rfl (by kernel_rfl) A HAg.out rfl ?_)
    | (go_at_call 100; refine (iwithin_any _ _ _ _).mono ?_; rintro e w1 ⟨rfl, hw⟩; rw [HW.out]; replace hw := hw.symm; subst hw))
  go_ret
  exact ⟨by simp, HW0.out.trans (H2.out.2.mono HW0.out.size)⟩
set_option maxRecDepth 100000 in
set_option maxHeartbeats 6400000 in
theorem ifits_3_2 {F : Nat → Prop} {w : World} {m : Ms} {a13 a14 a15 a16 : Option Addr} {c13 c14 c15 c16 : Nat} (h : Fx F w m a13 a14 a15 a16 c13 c14 c15 c16) (hk : m.k = 3) (t1 : (onlyB m { v := true, s := true, r := true, g := true }) = true) (t2 : (placeB m) = true) (t3 : (askB m.rq) = false) : Fit w m a13 a14 a15 a16 c13 c14 c15 c16 false := by
  obtain ⟨wa, HA, hw0, hx⟩ := msA_new m a13 a14 a15 a16 c13 c14 c15 c16 48 w
  have H0 := hid (And.intro hx (Below.refl wa.heap.size wa))
  clear hx
  have HW : Hid (inB m.ep 0 60 = true) := hid (by rw [inB, decide_eq_true h.h0, decide_eq_true h.h1]; rfl)
  have q1 := q_no (n := 1) hk (by decide); have q2 := q_no (n := 2) hk (by decide); have q3 := q_yes hk
  obtain ⟨A, eA⟩ : ∃ A, A = Value.agg (msA m a13 a14 a15 a16 c13 c14 c15 c16).toArray := ⟨_, rfl⟩
  have HT1 := hid ((tOnly71 h t1).up hw0)
  rw [← eA] at HT1
  have HT2 := hid ((tPlaced h t2).up hw0)
  rw [← eA] at HT2
  have HT3 := hid ((tDeed h t3).up hw0)
  have HAg := hid eA
  have HW0 := hid hw0
  clear t1 t2 t3 h hk hw0
  unfold Fit msA
  simp only [msA] at HA eA
  replace HA := hid HA
  go_enter Tryz.func65, Tryz.ntmps65
  try simp only [List.append]
  go_upto_region 1 with fail
  rw [HA.out]
  obtain ⟨y0, y1, y2, y3, y4, y5, y6, y7, y8, y9, y10, y11, y12, y13, y14, y15, y16⟩ := msA_at H0.out.1
  rw [← eA]
  clear eA
  go_wp2_with (first
    | (have := H2; go_at_call 105; refine (HT3.out _ H2.out.2).mono ?_; rintro e w3 ⟨rfl, hb⟩; have H3 := hid (bx_next H2.out hb); clear hb y0 y1 y2 y3 y4 y5 y6 y7 y8 y9 y10 y11 y12 y13 y14 y15 y16; obtain ⟨y0, y1, y2, y3, y4, y5, y6, y7, y8, y9, y10, y11, y12, y13, y14, y15, y16⟩ := msA_at H3.out.1)
    | (have := H1; go_at_call 104; refine (HT2.out _ H1.out.2).mono ?_; rintro e w2 ⟨rfl, hb⟩; have H2 := hid (bx_next H1.out hb); clear hb y0 y1 y2 y3 y4 y5 y6 y7 y8 y9 y10 y11 y12 y13 y14 y15 y16; obtain ⟨y0, y1, y2, y3, y4, y5, y6, y7, y8, y9, y10, y11, y12, y13, y14, y15, y16⟩ := msA_at H2.out.1)
    | (have := H1; refine wl_loadB rfl 48 _ rfl w.heap.size 0 rfl (msA m a13 a14 a15 a16 c13 c14 c15 c16) 48 H1.out.1 _ Tryz.underlying48 rfl (by kernel_rfl) A HAg.out rfl ?_)
    | (have := H0; go_at_call 101; refine (HT1.out _ H0.out.2).mono ?_; rintro e w1 ⟨rfl, hb⟩; have H1 := hid (bx_next H0.out hb); clear hb y0 y1 y2 y3 y4 y5 y6 y7 y8 y9 y10 y11 y12 y13 y14 y15 y16; obtain ⟨y0, y1, y2, y3, y4, y5, y6, y7, y8, y9, y10, y11, y12, y13, y14, y15, y16⟩ := msA_at H1.out.1)
    | (have := H0; refine wl_loadB rfl 48 _ rfl w.heap.size 0 rfl (msA m a13 a14 a15 a16 c13 c14 c15 c16) 48 H0.out.1 _ Tryz.underlying48 rfl (by kernel_rfl) A HAg.out rfl ?_)
    | (go_at_call 100; refine (iwithin_any _ _ _ _).mono ?_; rintro e w1 ⟨rfl, hw⟩; rw [HW.out]; replace hw := hw.symm; subst hw))
  go_ret
  exact ⟨by simp, HW0.out.trans (H3.out.2.mono HW0.out.size)⟩
set_option maxRecDepth 100000 in
set_option maxHeartbeats 6400000 in
theorem ifits_3_3 {F : Nat → Prop} {w : World} {m : Ms} {a13 a14 a15 a16 : Option Addr} {c13 c14 c15 c16 : Nat} (h : Fx F w m a13 a14 a15 a16 c13 c14 c15 c16) (hk : m.k = 3) (t1 : (onlyB m { v := true, s := true, r := true, g := true }) = true) (t2 : (placeB m) = true) (t3 : (askB m.rq) = true) (t4 : (oneB m.sg 1) = false) : Fit w m a13 a14 a15 a16 c13 c14 c15 c16 false := by
  obtain ⟨wa, HA, hw0, hx⟩ := msA_new m a13 a14 a15 a16 c13 c14 c15 c16 48 w
  have H0 := hid (And.intro hx (Below.refl wa.heap.size wa))
  clear hx
  have HW : Hid (inB m.ep 0 60 = true) := hid (by rw [inB, decide_eq_true h.h0, decide_eq_true h.h1]; rfl)
  have q1 := q_no (n := 1) hk (by decide); have q2 := q_no (n := 2) hk (by decide); have q3 := q_yes hk
  obtain ⟨A, eA⟩ : ∃ A, A = Value.agg (msA m a13 a14 a15 a16 c13 c14 c15 c16).toArray := ⟨_, rfl⟩
  have HT1 := hid ((tOnly71 h t1).up hw0)
  rw [← eA] at HT1
  have HT2 := hid ((tPlaced h t2).up hw0)
  rw [← eA] at HT2
  have HT3 := hid ((tDeed h t3).up hw0)
  have HT4 := hid ((tSigs (k := 1) h t4).up hw0)
  have HAg := hid eA
  have HW0 := hid hw0
  clear t1 t2 t3 t4 h hk hw0
  unfold Fit msA
  simp only [msA] at HA eA
  replace HA := hid HA
  go_enter Tryz.func65, Tryz.ntmps65
  try simp only [List.append]
  go_upto_region 1 with fail
  rw [HA.out]
  obtain ⟨y0, y1, y2, y3, y4, y5, y6, y7, y8, y9, y10, y11, y12, y13, y14, y15, y16⟩ := msA_at H0.out.1
  rw [← eA]
  clear eA
  go_wp2_with (first
    | (have := H3; go_at_call 103; refine (HT4.out _ H3.out.2).mono ?_; rintro e w4 ⟨rfl, hb⟩; have H4 := hid (bx_next H3.out hb); clear hb y0 y1 y2 y3 y4 y5 y6 y7 y8 y9 y10 y11 y12 y13 y14 y15 y16; obtain ⟨y0, y1, y2, y3, y4, y5, y6, y7, y8, y9, y10, y11, y12, y13, y14, y15, y16⟩ := msA_at H4.out.1)
    | (have := H2; go_at_call 105; refine (HT3.out _ H2.out.2).mono ?_; rintro e w3 ⟨rfl, hb⟩; have H3 := hid (bx_next H2.out hb); clear hb y0 y1 y2 y3 y4 y5 y6 y7 y8 y9 y10 y11 y12 y13 y14 y15 y16; obtain ⟨y0, y1, y2, y3, y4, y5, y6, y7, y8, y9, y10, y11, y12, y13, y14, y15, y16⟩ := msA_at H3.out.1)
    | (have := H1; go_at_call 104; refine (HT2.out _ H1.out.2).mono ?_; rintro e w2 ⟨rfl, hb⟩; have H2 := hid (bx_next H1.out hb); clear hb y0 y1 y2 y3 y4 y5 y6 y7 y8 y9 y10 y11 y12 y13 y14 y15 y16; obtain ⟨y0, y1, y2, y3, y4, y5, y6, y7, y8, y9, y10, y11, y12, y13, y14, y15, y16⟩ := msA_at H2.out.1)
    | (have := H1; refine wl_loadB rfl 48 _ rfl w.heap.size 0 rfl (msA m a13 a14 a15 a16 c13 c14 c15 c16) 48 H1.out.1 _ Tryz.underlying48 rfl (by kernel_rfl) A HAg.out rfl ?_)
    | (have := H0; go_at_call 101; refine (HT1.out _ H0.out.2).mono ?_; rintro e w1 ⟨rfl, hb⟩; have H1 := hid (bx_next H0.out hb); clear hb y0 y1 y2 y3 y4 y5 y6 y7 y8 y9 y10 y11 y12 y13 y14 y15 y16; obtain ⟨y0, y1, y2, y3, y4, y5, y6, y7, y8, y9, y10, y11, y12, y13, y14, y15, y16⟩ := msA_at H1.out.1)
    | (have := H0; refine wl_loadB rfl 48 _ rfl w.heap.size 0 rfl (msA m a13 a14 a15 a16 c13 c14 c15 c16) 48 H0.out.1 _ Tryz.underlying48 rfl (by kernel_rfl) A HAg.out rfl ?_)
    | (go_at_call 100; refine (iwithin_any _ _ _ _).mono ?_; rintro e w1 ⟨rfl, hw⟩; rw [HW.out]; replace hw := hw.symm; subst hw))
  go_ret
  exact ⟨by simp, HW0.out.trans (H4.out.2.mono HW0.out.size)⟩
set_option maxRecDepth 100000 in
set_option maxHeartbeats 6400000 in
theorem ifits_3_4 {F : Nat → Prop} {w : World} {m : Ms} {a13 a14 a15 a16 : Option Addr} {c13 c14 c15 c16 : Nat} (h : Fx F w m a13 a14 a15 a16 c13 c14 c15 c16) (hk : m.k = 3) (t1 : (onlyB m { v := true, s := true, r := true, g := true }) = true) (t2 : (placeB m) = true) (t3 : (askB m.rq) = true) (t4 : (oneB m.sg 1) = true) : Fit w m a13 a14 a15 a16 c13 c14 c15 c16 true := by
  obtain ⟨wa, HA, hw0, hx⟩ := msA_new m a13 a14 a15 a16 c13 c14 c15 c16 48 w
  have H0 := hid (And.intro hx (Below.refl wa.heap.size wa))
  clear hx
  have HW : Hid (inB m.ep 0 60 = true) := hid (by rw [inB, decide_eq_true h.h0, decide_eq_true h.h1]; rfl)
  have q1 := q_no (n := 1) hk (by decide); have q2 := q_no (n := 2) hk (by decide); have q3 := q_yes hk
  obtain ⟨A, eA⟩ : ∃ A, A = Value.agg (msA m a13 a14 a15 a16 c13 c14 c15 c16).toArray := ⟨_, rfl⟩
  have HT1 := hid ((tOnly71 h t1).up hw0)
  rw [← eA] at HT1
  have HT2 := hid ((tPlaced h t2).up hw0)
  rw [← eA] at HT2
  have HT3 := hid ((tDeed h t3).up hw0)
  have HT4 := hid ((tSigs (k := 1) h t4).up hw0)
  have HAg := hid eA
  have HW0 := hid hw0
  clear t1 t2 t3 t4 h hk hw0
  unfold Fit msA
  simp only [msA] at HA eA
  replace HA := hid HA
  go_enter Tryz.func65, Tryz.ntmps65
  try simp only [List.append]
  go_upto_region 1 with fail
  rw [HA.out]
  obtain ⟨y0, y1, y2, y3, y4, y5, y6, y7, y8, y9, y10, y11, y12, y13, y14, y15, y16⟩ := msA_at H0.out.1
  rw [← eA]
  clear eA
  go_wp2_with (first
    | (have := H3; go_at_call 103; refine (HT4.out _ H3.out.2).mono ?_; rintro e w4 ⟨rfl, hb⟩; have H4 := hid (bx_next H3.out hb); clear hb y0 y1 y2 y3 y4 y5 y6 y7 y8 y9 y10 y11 y12 y13 y14 y15 y16; obtain ⟨y0, y1, y2, y3, y4, y5, y6, y7, y8, y9, y10, y11, y12, y13, y14, y15, y16⟩ := msA_at H4.out.1)
    | (have := H2; go_at_call 105; refine (HT3.out _ H2.out.2).mono ?_; rintro e w3 ⟨rfl, hb⟩; have H3 := hid (bx_next H2.out hb); clear hb y0 y1 y2 y3 y4 y5 y6 y7 y8 y9 y10 y11 y12 y13 y14 y15 y16; obtain ⟨y0, y1, y2, y3, y4, y5, y6, y7, y8, y9, y10, y11, y12, y13, y14, y15, y16⟩ := msA_at H3.out.1)
    | (have := H1; go_at_call 104; refine (HT2.out _ H1.out.2).mono ?_; rintro e w2 ⟨rfl, hb⟩; have H2 := hid (bx_next H1.out hb); clear hb y0 y1 y2 y3 y4 y5 y6 y7 y8 y9 y10 y11 y12 y13 y14 y15 y16; obtain ⟨y0, y1, y2, y3, y4, y5, y6, y7, y8, y9, y10, y11, y12, y13, y14, y15, y16⟩ := msA_at H2.out.1)
    | (have := H1; refine wl_loadB rfl 48 _ rfl w.heap.size 0 rfl (msA m a13 a14 a15 a16 c13 c14 c15 c16) 48 H1.out.1 _ Tryz.underlying48 rfl (by kernel_rfl) A HAg.out rfl ?_)
    | (have := H0; go_at_call 101; refine (HT1.out _ H0.out.2).mono ?_; rintro e w1 ⟨rfl, hb⟩; have H1 := hid (bx_next H0.out hb); clear hb y0 y1 y2 y3 y4 y5 y6 y7 y8 y9 y10 y11 y12 y13 y14 y15 y16; obtain ⟨y0, y1, y2, y3, y4, y5, y6, y7, y8, y9, y10, y11, y12, y13, y14, y15, y16⟩ := msA_at H1.out.1)
    | (have := H0; refine wl_loadB rfl 48 _ rfl w.heap.size 0 rfl (msA m a13 a14 a15 a16 c13 c14 c15 c16) 48 H0.out.1 _ Tryz.underlying48 rfl (by kernel_rfl) A HAg.out rfl ?_)
    | (go_at_call 100; refine (iwithin_any _ _ _ _).mono ?_; rintro e w1 ⟨rfl, hw⟩; rw [HW.out]; replace hw := hw.symm; subst hw))
  go_ret
  exact ⟨by simp, HW0.out.trans (H4.out.2.mono HW0.out.size)⟩
theorem ifits_3 {F : Nat → Prop} {w : World} {m : Ms} {a13 a14 a15 a16 : Option Addr} {c13 c14 c15 c16 : Nat} (h : Fx F w m a13 a14 a15 a16 c13 c14 c15 c16) (hk : m.k = 3) : Fit w m a13 a14 a15 a16 c13 c14 c15 c16 (kindB m) := by
  have hV : kindB m = ((onlyB m { v := true, s := true, r := true, g := true }) && ((placeB m) && ((askB m.rq) && ((oneB m.sg 1))))) := by
    unfold kindB
    rw [if_neg (by rw [hk]; decide)]; rw [if_neg (by rw [hk]; decide)]; rw [if_pos hk]
  cases t1 : (onlyB m { v := true, s := true, r := true, g := true }) with
  | false =>
   rw [show kindB m = false by rw [hV, t1] <;> rfl]
   exact ifits_3_0 h hk t1
  | true =>
   cases t2 : (placeB m) with
   | false =>
    rw [show kindB m = false by rw [hV, t1, t2] <;> rfl]
    exact ifits_3_1 h hk t1 t2
   | true =>
    cases t3 : (askB m.rq) with
    | false =>
     rw [show kindB m = false by rw [hV, t1, t2, t3] <;> rfl]
     exact ifits_3_2 h hk t1 t2 t3
    | true =>
     cases t4 : (oneB m.sg 1) with
     | false =>
      rw [show kindB m = false by rw [hV, t1, t2, t3, t4] <;> rfl]
      exact ifits_3_3 h hk t1 t2 t3 t4
     | true =>
      rw [show kindB m = true by rw [hV, t1, t2, t3, t4] <;> rfl]
      exact ifits_3_4 h hk t1 t2 t3 t4
end Go.Proofs.YtgmekkgbobmplaaGreat
