/- Lists of a message in memory; what each test of a message says. -/
import Derived.Test.YtfjcpghepkmbfaaWiLM
import Derived.Test.YtfjcpghepkmbfaaWiLbM
import Derived.Deep.DeepCutAuto
namespace Go.Proofs.Ytfjcpghepkmbfaa
open Go.RowKit
theorem slice_pairs {F : Nat → Prop} {w : World} {a : Option Addr} {n c : Nat} {ps : List Sg} (h : Reads F w (.slice a n c) (dPairs ps)) : PairsIn w a ps := by
  obtain ⟨ad, cap, hv, hp, _⟩ := reads_pairs h
  cases hv
  exact hp
theorem slice_ints {F : Nat → Prop} {w : World} {a : Option Addr} {n c : Nat} {xs : List Int} (h : Reads F w (.slice a n c) (dInts xs)) : IntsIn w a xs := by
  obtain ⟨ad, cap, hv, hp, _⟩ := reads_ints h
  cases hv
  exact hp
structure Fx (F : Nat → Prop) (w : World) (m : Ms) (a13 a14 a15 a16 : Option Addr) (c13 c14 c15 c16 : Nat) : Prop where
  B : MsB m
  h0 : 0 ≤ m.ep
  h1 : m.ep ≤ 60
  L : MsL F w m (.slice a13 m.nx.length c13) (.slice a14 m.sg.length c14) (.slice a15 m.cg.length c15) (.slice a16 m.ln.length c16)
def Fit (w : World) (m : Ms) (a13 a14 a15 a16 : Option Addr) (c13 c14 c15 c16 : Nat) (b : Bool) : Prop := Calls Try.prog 15 #[.agg (msA m a13 a14 a15 a16 c13 c14 c15 c16).toArray] w fun e w' => e = .returned (.bool b) ∧ Below w.heap.size w w'
theorem tOnly68 {F : Nat → Prop} {w : World} {m : Ms} {a13 a14 a15 a16 : Option Addr} {c13 c14 c15 c16 : Nat} (_h : Fx F w m a13 a14 a15 a16 c13 c14 c15 c16) {b : Bool} (t : (onlyB m { r := true, g := true }) = b) : Tst w 27 #[.agg (msA m a13 a14 a15 a16 c13 c14 c15 c16).toArray, .int .i64 68] (.bool b) := fun u hu => by
  rw [← t]
  exact ionly_68 m a13 a14 a15 a16 c13 c14 c15 c16 u
theorem tOnly71 {F : Nat → Prop} {w : World} {m : Ms} {a13 a14 a15 a16 : Option Addr} {c13 c14 c15 c16 : Nat} (_h : Fx F w m a13 a14 a15 a16 c13 c14 c15 c16) {b : Bool} (t : (onlyB m { v := true, s := true, r := true, g := true }) = b) : Tst w 27 #[.agg (msA m a13 a14 a15 a16 c13 c14 c15 c16).toArray, .int .i64 71] (.bool b) := fun u hu => by
  rw [← t]
  exact ionly_71 m a13 a14 a15 a16 c13 c14 c15 c16 u
theorem tOnly7 {F : Nat → Prop} {w : World} {m : Ms} {a13 a14 a15 a16 : Option Addr} {c13 c14 c15 c16 : Nat} (_h : Fx F w m a13 a14 a15 a16 c13 c14 c15 c16) {b : Bool} (t : (onlyB m { v := true, s := true, r := true }) = b) : Tst w 27 #[.agg (msA m a13 a14 a15 a16 c13 c14 c15 c16).toArray, .int .i64 7] (.bool b) := fun u hu => by
  rw [← t]
  exact ionly_7 m a13 a14 a15 a16 c13 c14 c15 c16 u
theorem tOnly114 {F : Nat → Prop} {w : World} {m : Ms} {a13 a14 a15 a16 : Option Addr} {c13 c14 c15 c16 : Nat} (_h : Fx F w m a13 a14 a15 a16 c13 c14 c15 c16) {b : Bool} (t : (onlyB m { s := true, t := true, n := true, g := true }) = b) : Tst w 27 #[.agg (msA m a13 a14 a15 a16 c13 c14 c15 c16).toArray, .int .i64 114] (.bool b) := fun u hu => by
  rw [← t]
  exact ionly_114 m a13 a14 a15 a16 c13 c14 c15 c16 u
theorem tOnly129 {F : Nat → Prop} {w : World} {m : Ms} {a13 a14 a15 a16 : Option Addr} {c13 c14 c15 c16 : Nat} (_h : Fx F w m a13 a14 a15 a16 c13 c14 c15 c16) {b : Bool} (t : (onlyB m { v := true, c := true }) = b) : Tst w 27 #[.agg (msA m a13 a14 a15 a16 c13 c14 c15 c16).toArray, .int .i64 129] (.bool b) := fun u hu => by
  rw [← t]
  exact ionly_129 m a13 a14 a15 a16 c13 c14 c15 c16 u
theorem tOnly12 {F : Nat → Prop} {w : World} {m : Ms} {a13 a14 a15 a16 : Option Addr} {c13 c14 c15 c16 : Nat} (_h : Fx F w m a13 a14 a15 a16 c13 c14 c15 c16) {b : Bool} (t : (onlyB m { r := true, x := true }) = b) : Tst w 27 #[.agg (msA m a13 a14 a15 a16 c13 c14 c15 c16).toArray, .int .i64 12] (.bool b) := fun u hu => by
  rw [← t]
  exact ionly_12 m a13 a14 a15 a16 c13 c14 c15 c16 u
theorem tOnly0 {F : Nat → Prop} {w : World} {m : Ms} {a13 a14 a15 a16 : Option Addr} {c13 c14 c15 c16 : Nat} (_h : Fx F w m a13 a14 a15 a16 c13 c14 c15 c16) {b : Bool} (t : (onlyB m {}) = b) : Tst w 27 #[.agg (msA m a13 a14 a15 a16 c13 c14 c15 c16).toArray, .int .i64 0] (.bool b) := fun u hu => by
  rw [← t]
  exact ionly_0 m a13 a14 a15 a16 c13 c14 c15 c16 u
theorem tOnly338 {F : Nat → Prop} {w : World} {m : Ms} {a13 a14 a15 a16 : Option Addr} {c13 c14 c15 c16 : Nat} (_h : Fx F w m a13 a14 a15 a16 c13 c14 c15 c16) {b : Bool} (t : (onlyB m { s := true, t := true, g := true, l := true }) = b) : Tst w 27 #[.agg (msA m a13 a14 a15 a16 c13 c14 c15 c16).toArray, .int .i64 338] (.bool b) := fun u hu => by
  rw [← t]
  exact ionly_338 m a13 a14 a15 a16 c13 c14 c15 c16 u
theorem tPlaced {F : Nat → Prop} {w : World} {m : Ms} {a13 a14 a15 a16 : Option Addr} {c13 c14 c15 c16 : Nat} (h : Fx F w m a13 a14 a15 a16 c13 c14 c15 c16) {b : Bool} (t : (placeB m) = b) : Tst w 30 #[.agg (msA m a13 a14 a15 a16 c13 c14 c15 c16).toArray] (.bool b) := fun u hu => by
  rw [← t]
  exact iplaced_any m h.h0 h.h1 _ _ _ _ u
theorem tDeed {F : Nat → Prop} {w : World} {m : Ms} {a13 a14 a15 a16 : Option Addr} {c13 c14 c15 c16 : Nat} (_h : Fx F w m a13 a14 a15 a16 c13 c14 c15 c16) {b : Bool} (t : (askB m.rq) = b) : Tst w 31 #[.agg #[.int .i64 m.rq.c, .int .i64 m.rq.st, .int .i64 m.rq.k, .string m.rq.key, .float .f64 m.rq.b, .int .i64 m.rq.id]] (.bool b) := fun u hu => by
  rw [← t]
  exact ideed_any m.rq u
theorem tRight {F : Nat → Prop} {w : World} {m : Ms} {a13 a14 a15 a16 : Option Addr} {c13 c14 c15 c16 : Nat} (_h : Fx F w m a13 a14 a15 a16 c13 c14 c15 c16) {b : Bool} (t : (rightB m.rq) = b) : Tst w 28 #[.agg #[.int .i64 m.rq.c, .int .i64 m.rq.st, .int .i64 m.rq.k, .string m.rq.key, .float .f64 m.rq.b, .int .i64 m.rq.id]] (.bool b) := fun u hu => by
  rw [← t]
  exact dright_any m.rq u
theorem tSigs {F : Nat → Prop} {w : World} {m : Ms} {a13 a14 a15 a16 : Option Addr} {c13 c14 c15 c16 : Nat} (h : Fx F w m a13 a14 a15 a16 c13 c14 c15 c16) {k : Nat} {b : Bool} (t : (oneB m.sg k) = b) : Tst w 29 #[.slice a14 m.sg.length c14, .int .i64 (k : Int)] (.bool b) := fun u hu => by
  rw [← t]
  exact iareSigs_any a14 _ c14 m.sg rfl h.B.sg.1 _ u ((slice_pairs h.L.sg).keep hu (Nat.le_refl _))
theorem tFit {F : Nat → Prop} {w : World} {m : Ms} {a13 a14 a15 a16 : Option Addr} {c13 c14 c15 c16 : Nat} (h : Fx F w m a13 a14 a15 a16 c13 c14 c15 c16) {b : Bool} (t : (sigsB m.sg) = b) : Tst w 38 #[.slice a14 m.sg.length c14] (.bool b) := fun u hu => by
  rw [← t]
  exact ifitSigs_any a14 _ c14 m.sg rfl h.B.sg.1 u ((slice_pairs h.L.sg).keep hu (Nat.le_refl _))
theorem tChg1 {F : Nat → Prop} {w : World} {m : Ms} {a13 a14 a15 a16 : Option Addr} {c13 c14 c15 c16 : Nat} (h : Fx F w m a13 a14 a15 a16 c13 c14 c15 c16) {b : Bool} (t : (cgsB m.ep m.v m.cg 1) = b) : Tst w 35 #[.agg (msA m a13 a14 a15 a16 c13 c14 c15 c16).toArray, .int .i64 1] (.bool b) := fun u hu => by
  rw [← t]
  exact ichanges_any m h.h0 h.h1 a15 _ c15 _ _ _ 1 (by decide) h.B.cg.1 rfl h.B.cg.2 u (h.L.cg.under hu (Nat.le_refl _))
theorem tChg10 {F : Nat → Prop} {w : World} {m : Ms} {a13 a14 a15 a16 : Option Addr} {c13 c14 c15 c16 : Nat} (h : Fx F w m a13 a14 a15 a16 c13 c14 c15 c16) {b : Bool} (t : (cgsB m.ep m.v m.cg 10) = b) : Tst w 35 #[.agg (msA m a13 a14 a15 a16 c13 c14 c15 c16).toArray, .int .i64 10] (.bool b) := fun u hu => by
  rw [← t]
  exact ichanges_any m h.h0 h.h1 a15 _ c15 _ _ _ 10 (by decide) h.B.cg.1 rfl h.B.cg.2 u (h.L.cg.under hu (Nat.le_refl _))
theorem tRes {F : Nat → Prop} {w : World} {m : Ms} {a13 a14 a15 a16 : Option Addr} {c13 c14 c15 c16 : Nat} (h : Fx F w m a13 a14 a15 a16 c13 c14 c15 c16) {b : Bool} (t : (rsB m.rs.1) = b) : Tst w 36 #[.agg #[.int .i64 m.rs.1, .float .f64 m.rs.2]] (.bool b) := fun u hu => by
  rw [← t]
  exact iresult_any m.rs.1 m.rs.2 h.B.rf u
theorem tMem {F : Nat → Prop} {w : World} {m : Ms} {a13 a14 a15 a16 : Option Addr} {c13 c14 c15 c16 : Nat} (h : Fx F w m a13 a14 a15 a16 c13 c14 c15 c16) {b : Bool} (t : (memB m.nx) = b) : Tst w 34 #[.slice a13 m.nx.length c13] (.bool b) := fun u hu => by
  rw [← t]
  exact imembers_any a13 _ c13 m.nx rfl h.B.nx.1 u ((slice_ints h.L.nx).keep hu (Nat.le_refl _))
theorem tLinks {F : Nat → Prop} {w : World} {m : Ms} {a13 a14 a15 a16 : Option Addr} {c13 c14 c15 c16 : Nat} (h : Fx F w m a13 a14 a15 a16 c13 c14 c15 c16) {b : Bool} (t : (decide ((m.ln.length : Int) = m.ep) && lnsB m.ln) = b) : Tst w 37 #[.agg (msA m a13 a14 a15 a16 c13 c14 c15 c16).toArray] (.bool b) := fun u hu => by
  rw [← t]
  exact ilinks_any m h.h1 a16 _ c16 _ _ _ h.B.ln.1 rfl h.B.ln.2 u (h.L.ln.under hu (Nat.le_refl _))
theorem tAsk (r : Rq) (K : Nat) (eK : K = if nullB r then 0 else 1) (w : World) : Tst w 32 #[.agg #[.int .i64 r.c, .int .i64 r.st, .int .i64 r.k, .string r.key, .float .f64 r.b, .int .i64 r.id]] (.int .i64 (K : Int)) := fun u hu => by rw [eK]; exact iaskers_any r u
theorem tEnd (x : Int) (h0 : 0 ≤ x) (h1 : x ≤ 60) (w : World) : Tst w 33 #[.int .i64 x] (.int .i64 (4 * (x + 1))) := fun u hu => (iend_any x (by omega) h1 u).mono fun e w' ⟨h1, h2⟩ => ⟨h1, by rw [h2]; exact Below.refl _ _⟩
theorem q_no {x k n : Int} (hk : x = k) (hn : k ≠ n) : (x == n) = false := by rw [hk]; exact beq_eq_false_iff_ne.2 hn
theorem q_yes {x k : Int} (hk : x = k) : (x == k) = true := by rw [hk]; exact beq_iff_eq.2 rfl
end Go.Proofs.Ytfjcpghepkmbfaa
