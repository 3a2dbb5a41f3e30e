/- The document's test of two messages. -/
import Derived.Test.YthjgnfeadagmeaaGreatWsPM
import Derived.Test.YthjgnfeadagmeaaGreatOa5
import Derived.Test.YthjgnfeadagmeaaGreatWiJM
import Derived.Test.YthjgnfeadagmeaaGreatOa6
import Derived.Deep.DeepCutAuto
import Derived.Test.YthjgnfeadagmeaaGreatOa7
import Derived.Deep.DeepMust
namespace Go.Proofs.YthjgnfeadagmeaaGreat
open Go.RowKit

/-- Both messages laid. -/
structure Ms2 (w W : World) (m n : Ms) (a13 a14 a15 a16 b13 b14 b15 b16 : Option Addr) (c13 c14 c15 c16 d13 d14 d15 d16 : Nat) : Prop where
  x : BxAt W w.heap.size (msA m a13 a14 a15 a16 c13 c14 c15 c16) 48
  y : BxAt W (w.heap.size + 1) (msA n b13 b14 b15 b16 d13 d14 d15 d16) 48
  b : Below w.heap.size w W
theorem Ms2.keep {w W W2 : World} {m n : Ms} {a13 a14 a15 a16 b13 b14 b15 b16 : Option Addr} {c13 c14 c15 c16 d13 d14 d15 d16 : Nat} (h : Ms2 w W m n a13 a14 a15 a16 b13 b14 b15 b16 c13 c14 c15 c16 d13 d14 d15 d16) (hb : Below W.heap.size W W2) : Ms2 w W2 m n a13 a14 a15 a16 b13 b14 b15 b16 c13 c14 c15 c16 d13 d14 d15 d16 := ⟨h.x.keep hb, h.y.keep hb, h.b.trans (hb.mono h.b.size)⟩
theorem ms2_new (m n : Ms) (a13 a14 a15 a16 b13 b14 b15 b16 : Option Addr) (c13 c14 c15 c16 d13 d14 d15 d16 : Nat) (w : World) : ∃ W, (w.alloc (.cells (msA m a13 a14 a15 a16 c13 c14 c15 c16).toArray 48)).alloc (.cells (msA n b13 b14 b15 b16 d13 d14 d15 d16).toArray 48) = W ∧ Ms2 w W m n a13 a14 a15 a16 b13 b14 b15 b16 c13 c14 c15 c16 d13 d14 d15 d16 := by
  have h1 : Below w.heap.size w (w.alloc (.cells (msA m a13 a14 a15 a16 c13 c14 c15 c16).toArray 48)) := (Below.refl _ _).alloc (Nat.le_refl _) _
  have h2 : Below (w.alloc (.cells (msA m a13 a14 a15 a16 c13 c14 c15 c16).toArray 48)).heap.size (w.alloc (.cells (msA m a13 a14 a15 a16 c13 c14 c15 c16).toArray 48)) ((w.alloc (.cells (msA m a13 a14 a15 a16 c13 c14 c15 c16).toArray 48)).alloc (.cells (msA n b13 b14 b15 b16 d13 d14 d15 d16).toArray 48)) := (Below.refl _ _).alloc (Nat.le_refl _) _
  have hx : BxAt (w.alloc (.cells (msA m a13 a14 a15 a16 c13 c14 c15 c16).toArray 48)) w.heap.size (msA m a13 a14 a15 a16 c13 c14 c15 c16) 48 := heap_alloc_last w _
  refine ⟨_, rfl, hx.keep h2, ?_, h1.trans (h2.mono h1.size)⟩
  have := heap_alloc_last (w.alloc (.cells (msA m a13 a14 a15 a16 c13 c14 c15 c16).toArray 48)) (.cells (msA n b13 b14 b15 b16 d13 d14 d15 d16).toArray 48)
  rw [show (w.alloc (.cells (msA m a13 a14 a15 a16 c13 c14 c15 c16).toArray 48)).heap.size = w.heap.size + 1 by simp] at this
  exact this
set_option maxRecDepth 100000 in
set_option maxHeartbeats 6400000 in
theorem wsm_0 (m n : Ms) (a13 a14 a15 a16 b13 b14 b15 b16 : Option Addr) (c13 c14 c15 c16 d13 d14 d15 d16 : Nat) (w : World) (V : Bool) (hV : V = false) (t0 : (m.k == n.k) = false) :
    Calls Tryz.prog 43 #[.agg (msA m a13 a14 a15 a16 c13 c14 c15 c16).toArray, .agg (msA n b13 b14 b15 b16 d13 d14 d15 d16).toArray] w fun e w' => e = .returned (.bool V) ∧ Below w.heap.size w w' := by
  obtain ⟨W, HA, hm⟩ := ms2_new m n a13 a14 a15 a16 b13 b14 b15 b16 c13 c14 c15 c16 d13 d14 d15 d16 w
  subst hV
  have H0 := hid hm
  clear hm
  obtain ⟨y0, y1, y2, y3, y4, y5, y6, y7, y8, y9, y10, y11, y12, y13, y14, y15, y16⟩ := msA_at H0.out.x
  obtain ⟨z0, z1, z2, z3, z4, z5, z6, z7, z8, z9, z10, z11, z12, z13, z14, z15, z16⟩ := msA_at H0.out.y
  have p0 : (m.k == n.k) = false := t0
  have q0 : (m.k != n.k) = true := by rw [bne, t0]; rfl
  clear t0
  unfold msA
  simp only [msA] at HA
  replace HA := hid HA
  go_enter Tryz.func43, Tryz.ntmps43
  try simp only [List.append]
  go_upto_region 1 with fail
  rw [HA.out]
  go_wp2
  go_ret
  exact ⟨rfl, H0.out.b⟩
set_option maxRecDepth 100000 in
set_option maxHeartbeats 6400000 in
theorem wsm_1 (m n : Ms) (a13 a14 a15 a16 b13 b14 b15 b16 : Option Addr) (c13 c14 c15 c16 d13 d14 d15 d16 : Nat) (w : World) (V : Bool) (hV : V = false) (t0 : (m.k == n.k) = true) (t1 : (m.ep == n.ep) = false) :
    Calls Tryz.prog 43 #[.agg (msA m a13 a14 a15 a16 c13 c14 c15 c16).toArray, .agg (msA n b13 b14 b15 b16 d13 d14 d15 d16).toArray] w fun e w' => e = .returned (.bool V) ∧ Below w.heap.size w w' := by
  obtain ⟨W, HA, hm⟩ := ms2_new m n a13 a14 a15 a16 b13 b14 b15 b16 c13 c14 c15 c16 d13 d14 d15 d16 w
  subst hV
  have H0 := hid hm
  clear hm
  obtain ⟨y0, y1, y2, y3, y4, y5, y6, y7, y8, y9, y10, y11, y12, y13, y14, y15, y16⟩ := msA_at H0.out.x
  obtain ⟨z0, z1, z2, z3, z4, z5, z6, z7, z8, z9, z10, z11, z12, z13, z14, z15, z16⟩ := msA_at H0.out.y
  have p0 : (m.k == n.k) = true := t0
  have q0 : (m.k != n.k) = false := by rw [bne, t0]; rfl
  have p1 : (m.ep == n.ep) = false := t1
  have q1 : (m.ep != n.ep) = true := by rw [bne, t1]; rfl
  clear t0 t1
  unfold msA
  simp only [msA] at HA
  replace HA := hid HA
  go_enter Tryz.func43, Tryz.ntmps43
  try simp only [List.append]
  go_upto_region 1 with fail
  rw [HA.out]
  go_wp2
  go_ret
  exact ⟨rfl, H0.out.b⟩
set_option maxRecDepth 100000 in
set_option maxHeartbeats 6400000 in
theorem wsm_2 (m n : Ms) (a13 a14 a15 a16 b13 b14 b15 b16 : Option Addr) (c13 c14 c15 c16 d13 d14 d15 d16 : Nat) (w : World) (V : Bool) (hV : V = false) (t0 : (m.k == n.k) = true) (t1 : (m.ep == n.ep) = true) (t2 : (m.v == n.v) = false) :
    Calls Tryz.prog 43 #[.agg (msA m a13 a14 a15 a16 c13 c14 c15 c16).toArray, .agg (msA n b13 b14 b15 b16 d13 d14 d15 d16).toArray] w fun e w' => e = .returned (.bool V) ∧ Below w.heap.size w w' := by
  obtain ⟨W, HA, hm⟩ := ms2_new m n a13 a14 a15 a16 b13 b14 b15 b16 c13 c14 c15 c16 d13 d14 d15 d16 w
  subst hV
  have H0 := hid hm
  clear hm
  obtain ⟨y0, y1, y2, y3, y4, y5, y6, y7, y8, y9, y10, y11, y12, y13, y14, y15, y16⟩ := msA_at H0.out.x
  obtain ⟨z0, z1, z2, z3, z4, z5, z6, z7, z8, z9, z10, z11, z12, z13, z14, z15, z16⟩ := msA_at H0.out.y
  have p0 : (m.k == n.k) = true := t0
  have q0 : (m.k != n.k) = false := by rw [bne, t0]; rfl
  have p1 : (m.ep == n.ep) = true := t1
  have q1 : (m.ep != n.ep) = false := by rw [bne, t1]; rfl
  have p2 : (m.v == n.v) = false := t2
  have q2 : (m.v != n.v) = true := by rw [bne, t2]; rfl
  clear t0 t1 t2
  unfold msA
  simp only [msA] at HA
  replace HA := hid HA
  go_enter Tryz.func43, Tryz.ntmps43
  try simp only [List.append]
  go_upto_region 1 with fail
  rw [HA.out]
  go_wp2
  go_ret
  exact ⟨rfl, H0.out.b⟩
set_option maxRecDepth 100000 in
set_option maxHeartbeats 6400000 in
theorem wsm_3 (m n : Ms) (a13 a14 a15 a16 b13 b14 b15 b16 : Option Addr) (c13 c14 c15 c16 d13 d14 d15 d16 : Nat) (w : World) (V : Bool) (hV : V = false) (t0 : (m.k == n.k) = true) (t1 : (m.ep == n.ep) = true) (t2 : (m.v == n.v) = true) (t3 : (m.sl == n.sl) = false) :
    Calls Tryz.prog 43 #[.agg (msA m a13 a14 a15 a16 c13 c14 c15 c16).toArray, .agg (msA n b13 b14 b15 b16 d13 d14 d15 d16).toArray] w fun e w' => e = .returned (.bool V) ∧ Below w.heap.size w w' := by
  obtain ⟨W, HA, hm⟩ := ms2_new m n a13 a14 a15 a16 b13 b14 b15 b16 c13 c14 c15 c16 d13 d14 d15 d16 w
  subst hV
  have H0 := hid hm
  clear hm
  obtain ⟨y0, y1, y2, y3, y4, y5, y6, y7, y8, y9, y10, y11, y12, y13, y14, y15, y16⟩ := msA_at H0.out.x
  obtain ⟨z0, z1, z2, z3, z4, z5, z6, z7, z8, z9, z10, z11, z12, z13, z14, z15, z16⟩ := msA_at H0.out.y
  have p0 : (m.k == n.k) = true := t0
  have q0 : (m.k != n.k) = false := by rw [bne, t0]; rfl
  have p1 : (m.ep == n.ep) = true := t1
  have q1 : (m.ep != n.ep) = false := by rw [bne, t1]; rfl
  have p2 : (m.v == n.v) = true := t2
  have q2 : (m.v != n.v) = false := by rw [bne, t2]; rfl
  have p3 : (m.sl == n.sl) = false := t3
  have q3 : (m.sl != n.sl) = true := by rw [bne, t3]; rfl
  clear t0 t1 t2 t3
  unfold msA
  simp only [msA] at HA
  replace HA := hid HA
  go_enter Tryz.func43, Tryz.ntmps43
  try simp only [List.append]
  go_upto_region 1 with fail
  rw [HA.out]
  go_wp2
  go_ret
  exact ⟨rfl, H0.out.b⟩
set_option maxRecDepth 100000 in
set_option maxHeartbeats 6400000 in
theorem wsm_4 (m n : Ms) (a13 a14 a15 a16 b13 b14 b15 b16 : Option Addr) (c13 c14 c15 c16 d13 d14 d15 d16 : Nat) (w : World) (V : Bool) (hV : V = false) (t0 : (m.k == n.k) = true) (t1 : (m.ep == n.ep) = true) (t2 : (m.v == n.v) = true) (t3 : (m.sl == n.sl) = true) (t4 : (m.tx.toList == n.tx.toList) = false) :
    Calls Tryz.prog 43 #[.agg (msA m a13 a14 a15 a16 c13 c14 c15 c16).toArray, .agg (msA n b13 b14 b15 b16 d13 d14 d15 d16).toArray] w fun e w' => e = .returned (.bool V) ∧ Below w.heap.size w w' := by
  obtain ⟨W, HA, hm⟩ := ms2_new m n a13 a14 a15 a16 b13 b14 b15 b16 c13 c14 c15 c16 d13 d14 d15 d16 w
  subst hV
  have H0 := hid hm
  clear hm
  obtain ⟨y0, y1, y2, y3, y4, y5, y6, y7, y8, y9, y10, y11, y12, y13, y14, y15, y16⟩ := msA_at H0.out.x
  obtain ⟨z0, z1, z2, z3, z4, z5, z6, z7, z8, z9, z10, z11, z12, z13, z14, z15, z16⟩ := msA_at H0.out.y
  have p0 : (m.k == n.k) = true := t0
  have q0 : (m.k != n.k) = false := by rw [bne, t0]; rfl
  have p1 : (m.ep == n.ep) = true := t1
  have q1 : (m.ep != n.ep) = false := by rw [bne, t1]; rfl
  have p2 : (m.v == n.v) = true := t2
  have q2 : (m.v != n.v) = false := by rw [bne, t2]; rfl
  have p3 : (m.sl == n.sl) = true := t3
  have q3 : (m.sl != n.sl) = false := by rw [bne, t3]; rfl
  have p4 : (m.tx.toList == n.tx.toList) = false := t4
  clear t0 t1 t2 t3 t4
  unfold msA
  simp only [msA] at HA
  replace HA := hid HA
  go_enter Tryz.func43, Tryz.ntmps43
  try simp only [List.append]
  go_upto_region 1 with fail
  rw [HA.out]
  go_wp2
  go_ret
  exact ⟨rfl, H0.out.b⟩
set_option maxRecDepth 100000 in
set_option maxHeartbeats 6400000 in
theorem wsm_5 (m n : Ms) (a13 a14 a15 a16 b13 b14 b15 b16 : Option Addr) (c13 c14 c15 c16 d13 d14 d15 d16 : Nat) (w : World) (V : Bool) (hV : V = false) (t0 : (m.k == n.k) = true) (t1 : (m.ep == n.ep) = true) (t2 : (m.v == n.v) = true) (t3 : (m.sl == n.sl) = true) (t4 : (m.tx.toList == n.tx.toList) = true) (t5 : ((m.ln.length : Int) == (n.ln.length : Int)) = false) :
    Calls Tryz.prog 43 #[.agg (msA m a13 a14 a15 a16 c13 c14 c15 c16).toArray, .agg (msA n b13 b14 b15 b16 d13 d14 d15 d16).toArray] w fun e w' => e = .returned (.bool V) ∧ Below w.heap.size w w' := by
  obtain ⟨W, HA, hm⟩ := ms2_new m n a13 a14 a15 a16 b13 b14 b15 b16 c13 c14 c15 c16 d13 d14 d15 d16 w
  subst hV
  have H0 := hid hm
  clear hm
  obtain ⟨y0, y1, y2, y3, y4, y5, y6, y7, y8, y9, y10, y11, y12, y13, y14, y15, y16⟩ := msA_at H0.out.x
  obtain ⟨z0, z1, z2, z3, z4, z5, z6, z7, z8, z9, z10, z11, z12, z13, z14, z15, z16⟩ := msA_at H0.out.y
  have p0 : (m.k == n.k) = true := t0
  have q0 : (m.k != n.k) = false := by rw [bne, t0]; rfl
  have p1 : (m.ep == n.ep) = true := t1
  have q1 : (m.ep != n.ep) = false := by rw [bne, t1]; rfl
  have p2 : (m.v == n.v) = true := t2
  have q2 : (m.v != n.v) = false := by rw [bne, t2]; rfl
  have p3 : (m.sl == n.sl) = true := t3
  have q3 : (m.sl != n.sl) = false := by rw [bne, t3]; rfl
  have p4 : (m.tx.toList == n.tx.toList) = true := t4
  have p5 : ((m.ln.length : Int) == (n.ln.length : Int)) = false := t5
  have q5 : ((m.ln.length : Int) != (n.ln.length : Int)) = true := by rw [bne, t5]; rfl
  clear t0 t1 t2 t3 t4 t5
  unfold msA
  simp only [msA] at HA
  replace HA := hid HA
  go_enter Tryz.func43, Tryz.ntmps43
  try simp only [List.append]
  go_upto_region 1 with fail
  rw [HA.out]
  go_wp2
  go_ret
  exact ⟨rfl, H0.out.b⟩
/-- What its lists may measure. -/
structure MsN (m : Ms) : Prop where
  nx : m.nx.length ≤ maxLen
  sg : m.sg.length ≤ maxLen
  cg : m.cg.length ≤ maxLen ∧ ∀ x, x ∈ m.cg → cgN x
  ln : m.ln.length ≤ maxLen ∧ ∀ x, x ∈ m.ln → x.1.2.length ≤ maxLen ∧ x.2.length ≤ maxLen
theorem MsB.n {m : Ms} (h : MsB m) : MsN m := ⟨h.nx.1, h.sg.1, ⟨h.cg.1, fun x hx => ⟨(h.cg.2 x hx).2.1.1, fun c hc => ((h.cg.2 x hx).2.1.2 c hc).2.2.1⟩⟩, ⟨h.ln.1, fun x hx => ⟨(h.ln.2 x hx).2.1.1, (h.ln.2 x hx).2.2.1⟩⟩⟩
theorem sl_pairs {F : Nat → Prop} {w : World} {a : Option Addr} {n c : Nat} {ps : List Sg} (h : Reads F w (.slice a n c) (dPairs ps)) : PairsIn w a ps := by
  obtain ⟨ad, cap, hv, hp, _⟩ := reads_pairs h
  cases hv
  exact hp
theorem sl_ints {F : Nat → Prop} {w : World} {a : Option Addr} {n c : Nat} {xs : List Int} (h : Reads F w (.slice a n c) (dInts xs)) : IntsIn w a xs := by
  obtain ⟨ad, cap, hv, hp, _⟩ := reads_ints h
  cases hv
  exact hp
theorem getD_in {α : Type} {l : List α} {d : α} {i : Nat} (h : i < l.length) : l.getD i d ∈ l := by rw [List.getD_eq_getElem?_getD, List.getElem?_eq_getElem h]; exact List.getElem_mem h
set_option maxRecDepth 100000 in
set_option maxHeartbeats 6400000 in
theorem wsm_tail {F G : Nat → Prop} (m n : Ms) (a13 a14 a15 a16 b13 b14 b15 b16 : Option Addr) (c13 c14 c15 c16 d13 d14 d15 d16 : Nat) (w : World) (hB : MsN m) (hC : MsN n) (hL : MsL F w m (.slice a13 m.nx.length c13) (.slice a14 m.sg.length c14) (.slice a15 m.cg.length c15) (.slice a16 m.ln.length c16)) (hR : MsL G w n (.slice b13 n.nx.length d13) (.slice b14 n.sg.length d14) (.slice b15 n.cg.length d15) (.slice b16 n.ln.length d16)) (V : Bool) (hV : V = (allTo (lnsP m.ln n.ln) m.ln.length && endSame m n)) (t0 : (m.k == n.k) = true) (t1 : (m.ep == n.ep) = true) (t2 : (m.v == n.v) = true) (t3 : (m.sl == n.sl) = true) (t4 : (m.tx.toList == n.tx.toList) = true) (t5 : ((m.ln.length : Int) == (n.ln.length : Int)) = true) :
    Calls Tryz.prog 43 #[.agg (msA m a13 a14 a15 a16 c13 c14 c15 c16).toArray, .agg (msA n b13 b14 b15 b16 d13 d14 d15 d16).toArray] w fun e w' => e = .returned (.bool V) ∧ Below w.heap.size w w' := by
  obtain ⟨W, HA, hm⟩ := ms2_new m n a13 a14 a15 a16 b13 b14 b15 b16 c13 c14 c15 c16 d13 d14 d15 d16 w
  have hl : m.ln.length = n.ln.length := by have := beq_iff_eq.1 t5; omega
  obtain ⟨L, eL⟩ : ∃ L, L = m.ln.length := ⟨_, rfl⟩
  have HL := hid (And.intro eL (eL.trans hl))
  have hLI : (L : Int) ≤ 9223372036854775807 := by have := hB.ln.1; unfold maxLen at this; omega
  rw [← eL] at hV
  have HV := hid hV
  have HI := hid (And.intro (And.intro hB hC) (And.intro hL hR))
  have H0 := hid hm
  clear hm hV hB hC hL hR
  have cy := (msA_at H0.out.x)
  have cz := (msA_at H0.out.y)
  rw [← eL] at cy
  rw [← hl, ← eL] at cz
  rw [← hl, ← eL] at t5
  obtain ⟨y0, y1, y2, y3, y4, y5, y6, y7, y8, y9, y10, y11, y12, y13, y14, y15, y16⟩ := cy
  obtain ⟨z0, z1, z2, z3, z4, z5, z6, z7, z8, z9, z10, z11, z12, z13, z14, z15, z16⟩ := cz
  have p0 : (m.k == n.k) = true := t0
  have q0 : (m.k != n.k) = false := by rw [bne, t0]; rfl
  have p1 : (m.ep == n.ep) = true := t1
  have q1 : (m.ep != n.ep) = false := by rw [bne, t1]; rfl
  have p2 : (m.v == n.v) = true := t2
  have q2 : (m.v != n.v) = false := by rw [bne, t2]; rfl
  have p3 : (m.sl == n.sl) = true := t3
  have q3 : (m.sl != n.sl) = false := by rw [bne, t3]; rfl
  have p4 : (m.tx.toList == n.tx.toList) = true := t4
  have p5 : ((L : Int) == (L : Int)) = true := t5
  have q5 : ((L : Int) != (L : Int)) = false := by rw [bne, t5]; rfl
  clear t0 t1 t2 t3 t4 t5
  unfold msA
  simp only [msA] at HA
  rw [← hl, ← eL] at HA ⊢
  clear eL hl
  replace HA := hid HA
  go_enter Tryz.func43, Tryz.ntmps43
  try simp only [List.append]
  go_upto_region 1 with fail
  rw [HA.out]
  go_wp2
  clear y0 y1 y2 y3 y4 y5 y6 y7 y8 y9 y10 y11 y12 y13 y14 y15 y16 z0 z1 z2 z3 z4 z5 z6 z7 z8 z9 z10 z11 z12 z13 z14 z15 z16 p0 p1 p2 p3 p4 p5 q0 q1 q2 q3 q5
  go_loopw [5] (fun i wr => ∃ j : Nat, j ≤ L ∧ i = .int .i64 (j : Int) ∧ Below W.heap.size W wr ∧ allTo (lnsP m.ln n.ln) j = true)
    (fun i _ => ((L : Int) - intOf i).toNat)
  case atStart => exact ⟨0, Nat.zero_le _, rfl, Below.refl _ _, rfl⟩
  case round =>
    obtain ⟨j, hj, rfl, hbel, hok⟩ := hrel
    have HM := hid (H0.out.keep hbel)
    have HOk := hid hok
    have HBW := hid hbel
    clear hbel hok
    have cy := (msA_at HM.out.x)
    have cz := (msA_at HM.out.y)
    rw [← HL.out.1] at cy
    rw [← HL.out.2] at cz
    obtain ⟨y0, y1, y2, y3, y4, y5, y6, y7, y8, y9, y10, y11, y12, y13, y14, y15, y16⟩ := cy
    obtain ⟨z0, z1, z2, z3, z4, z5, z6, z7, z8, z9, z10, z11, z12, z13, z14, z15, z16⟩ := cz
    have hj0 : (0 : Int) ≤ (j : Int) := Int.natCast_nonneg _
    by_cases hjn : j = L
    · have hj1 : ¬ ((j : Int) < (L : Int)) := by omega
      have hvE : Hid (V = endSame m n) := hid (by rw [HV.out, ← hjn, HOk.out]; rfl)
      have HT1 := hid (show Tst wr 81 #[.agg #[.int .i64 m.rq.c, .int .i64 m.rq.st, .int .i64 m.rq.k, .string m.rq.key, .float .f64 m.rq.b, .int .i64 m.rq.id], .agg #[.int .i64 n.rq.c, .int .i64 n.rq.st, .int .i64 n.rq.k, .string n.rq.key, .float .f64 n.rq.b, .int .i64 n.rq.id]] (.bool (wholeB m.rq n.rq)) from fun u hu => qwhole_any m.rq n.rq u)
      have HT2 := hid (show Tst wr 82 #[.agg #[.int .i64 m.rs.1, .float .f64 m.rs.2], .agg #[.int .i64 n.rs.1, .float .f64 n.rs.2]] (.bool (sameS m.rs.1 m.rs.2 n.rs.1 n.rs.2)) from fun u hu => qsameResult_any m.rs.1 m.rs.2 n.rs.1 n.rs.2 u)
      have HT3 := hid (show Tst wr 83 #[.slice a13 m.nx.length c13, .slice b13 n.nx.length d13] (.bool (decide (m.nx = n.nx))) from fun u hu => sameInts_dec a13 b13 _ _ c13 d13 m.nx n.nx rfl rfl HI.out.1.1.nx HI.out.1.2.nx u ((sl_ints HI.out.2.1.nx).keep (HM.out.b.trans (hu.mono HM.out.b.size)) (Nat.le_refl _)) ((sl_ints HI.out.2.2.nx).keep (HM.out.b.trans (hu.mono HM.out.b.size)) (Nat.le_refl _)))
      have HT4 := hid (show Tst wr 80 #[.slice a14 m.sg.length c14, .slice b14 n.sg.length d14] (.bool (decide (m.sg = n.sg))) from fun u hu => wsame_dec a14 b14 _ _ c14 d14 m.sg n.sg rfl rfl HI.out.1.1.sg HI.out.1.2.sg u ((sl_pairs HI.out.2.1.sg).keep (HM.out.b.trans (hu.mono HM.out.b.size)) (Nat.le_refl _)) ((sl_pairs HI.out.2.2.sg).keep (HM.out.b.trans (hu.mono HM.out.b.size)) (Nat.le_refl _)))
      have HT5 := hid (show Tst wr 84 #[.slice a15 m.cg.length c15, .slice b15 n.cg.length d15] (.bool (cgsSame m.cg n.cg)) from fun u hu => wsameChanges_any a15 b15 _ _ c15 d15 m.cg n.cg rfl rfl HI.out.1.1.cg.1 HI.out.1.1.cg.2 HI.out.1.2.cg.2 u (HI.out.2.1.cg.under (HM.out.b.trans (hu.mono HM.out.b.size)) (Nat.le_refl _)) (HI.out.2.2.cg.under (HM.out.b.trans (hu.mono HM.out.b.size)) (Nat.le_refl _)))
      clear hj hjn
      cases x1 : (wholeB m.rq n.rq) with
      | false =>
       rw [x1] at HT1
       have hv : Hid (V = false) := hid (by rw [hvE.out, endSame, x1] <;> rfl)
       clear x1
       go_wp2_with (first
         | (have := HM; go_at_call 81; go_must (refine (HT1.out _ (Below.refl _ _)).mono ?_); rintro e v1 ⟨rfl, hb⟩; have HM1 := hid (HM.out.keep hb); have HB1 := hid (hb); clear hb y0 y1 y2 y3 y4 y5 y6 y7 y8 y9 y10 y11 y12 y13 y14 y15 y16 z0 z1 z2 z3 z4 z5 z6 z7 z8 z9 z10 z11 z12 z13 z14 z15 z16; obtain ⟨y0, y1, y2, y3, y4, y5, y6, y7, y8, y9, y10, y11, y12, y13, y14, y15, y16⟩ := msA_at HM1.out.x; obtain ⟨z0, z1, z2, z3, z4, z5, z6, z7, z8, z9, z10, z11, z12, z13, z14, z15, z16⟩ := msA_at HM1.out.y))
       go_ret
       exact ⟨by rw [hv.out]; rfl, HM1.out.b⟩
      | true =>
       rw [x1] at HT1
       cases x2 : (sameS m.rs.1 m.rs.2 n.rs.1 n.rs.2) with
       | false =>
        rw [x2] at HT2
        have hv : Hid (V = false) := hid (by rw [hvE.out, endSame, x1, x2] <;> rfl)
        clear x1 x2
        go_wp2_with (first
          | (have := HM1; go_at_call 82; go_must (refine (HT2.out _ HB1.out).mono ?_); rintro e v2 ⟨rfl, hb⟩; have HM2 := hid (HM1.out.keep hb); have HB2 := hid ((HB1.out.trans (hb.mono HB1.out.size))); clear hb y0 y1 y2 y3 y4 y5 y6 y7 y8 y9 y10 y11 y12 y13 y14 y15 y16 z0 z1 z2 z3 z4 z5 z6 z7 z8 z9 z10 z11 z12 z13 z14 z15 z16; obtain ⟨y0, y1, y2, y3, y4, y5, y6, y7, y8, y9, y10, y11, y12, y13, y14, y15, y16⟩ := msA_at HM2.out.x; obtain ⟨z0, z1, z2, z3, z4, z5, z6, z7, z8, z9, z10, z11, z12, z13, z14, z15, z16⟩ := msA_at HM2.out.y)
          | (have := HM; go_at_call 81; go_must (refine (HT1.out _ (Below.refl _ _)).mono ?_); rintro e v1 ⟨rfl, hb⟩; have HM1 := hid (HM.out.keep hb); have HB1 := hid (hb); clear hb y0 y1 y2 y3 y4 y5 y6 y7 y8 y9 y10 y11 y12 y13 y14 y15 y16 z0 z1 z2 z3 z4 z5 z6 z7 z8 z9 z10 z11 z12 z13 z14 z15 z16; obtain ⟨y0, y1, y2, y3, y4, y5, y6, y7, y8, y9, y10, y11, y12, y13, y14, y15, y16⟩ := msA_at HM1.out.x; obtain ⟨z0, z1, z2, z3, z4, z5, z6, z7, z8, z9, z10, z11, z12, z13, z14, z15, z16⟩ := msA_at HM1.out.y))
        go_ret
        exact ⟨by rw [hv.out]; rfl, HM2.out.b⟩
       | true =>
        rw [x2] at HT2
        cases x3 : (decide (m.nx = n.nx)) with
        | false =>
         rw [x3] at HT3
         have hv : Hid (V = false) := hid (by rw [hvE.out, endSame, x1, x2, x3] <;> rfl)
         clear x1 x2 x3
         go_wp2_with (first
           | (have := HM2; go_at_call 83; go_must (refine (HT3.out _ HB2.out).mono ?_); rintro e v3 ⟨rfl, hb⟩; have HM3 := hid (HM2.out.keep hb); have HB3 := hid ((HB2.out.trans (hb.mono HB2.out.size))); clear hb y0 y1 y2 y3 y4 y5 y6 y7 y8 y9 y10 y11 y12 y13 y14 y15 y16 z0 z1 z2 z3 z4 z5 z6 z7 z8 z9 z10 z11 z12 z13 z14 z15 z16; obtain ⟨y0, y1, y2, y3, y4, y5, y6, y7, y8, y9, y10, y11, y12, y13, y14, y15, y16⟩ := msA_at HM3.out.x; obtain ⟨z0, z1, z2, z3, z4, z5, z6, z7, z8, z9, z10, z11, z12, z13, z14, z15, z16⟩ := msA_at HM3.out.y)
           | (have := HM1; go_at_call 82; go_must (refine (HT2.out _ HB1.out).mono ?_); rintro e v2 ⟨rfl, hb⟩; have HM2 := hid (HM1.out.keep hb); have HB2 := hid ((HB1.out.trans (hb.mono HB1.out.size))); clear hb y0 y1 y2 y3 y4 y5 y6 y7 y8 y9 y10 y11 y12 y13 y14 y15 y16 z0 z1 z2 z3 z4 z5 z6 z7 z8 z9 z10 z11 z12 z13 z14 z15 z16; obtain ⟨y0, y1, y2, y3, y4, y5, y6, y7, y8, y9, y10, y11, y12, y13, y14, y15, y16⟩ := msA_at HM2.out.x; obtain ⟨z0, z1, z2, z3, z4, z5, z6, z7, z8, z9, z10, z11, z12, z13, z14, z15, z16⟩ := msA_at HM2.out.y)
           | (have := HM; go_at_call 81; go_must (refine (HT1.out _ (Below.refl _ _)).mono ?_); rintro e v1 ⟨rfl, hb⟩; have HM1 := hid (HM.out.keep hb); have HB1 := hid (hb); clear hb y0 y1 y2 y3 y4 y5 y6 y7 y8 y9 y10 y11 y12 y13 y14 y15 y16 z0 z1 z2 z3 z4 z5 z6 z7 z8 z9 z10 z11 z12 z13 z14 z15 z16; obtain ⟨y0, y1, y2, y3, y4, y5, y6, y7, y8, y9, y10, y11, y12, y13, y14, y15, y16⟩ := msA_at HM1.out.x; obtain ⟨z0, z1, z2, z3, z4, z5, z6, z7, z8, z9, z10, z11, z12, z13, z14, z15, z16⟩ := msA_at HM1.out.y))
         go_ret
         exact ⟨by rw [hv.out]; rfl, HM3.out.b⟩
        | true =>
         rw [x3] at HT3
         cases x4 : (decide (m.sg = n.sg)) with
         | false =>
          rw [x4] at HT4
          have hv : Hid (V = false) := hid (by rw [hvE.out, endSame, x1, x2, x3, x4] <;> rfl)
          clear x1 x2 x3 x4
          go_wp2_with (first
            | (have := HM3; go_at_call 80; go_must (refine (HT4.out _ HB3.out).mono ?_); rintro e v4 ⟨rfl, hb⟩; have HM4 := hid (HM3.out.keep hb); have HB4 := hid ((HB3.out.trans (hb.mono HB3.out.size))); clear hb y0 y1 y2 y3 y4 y5 y6 y7 y8 y9 y10 y11 y12 y13 y14 y15 y16 z0 z1 z2 z3 z4 z5 z6 z7 z8 z9 z10 z11 z12 z13 z14 z15 z16; obtain ⟨y0, y1, y2, y3, y4, y5, y6, y7, y8, y9, y10, y11, y12, y13, y14, y15, y16⟩ := msA_at HM4.out.x; obtain ⟨z0, z1, z2, z3, z4, z5, z6, z7, z8, z9, z10, z11, z12, z13, z14, z15, z16⟩ := msA_at HM4.out.y)
            | (have := HM2; go_at_call 83; go_must (refine (HT3.out _ HB2.out).mono ?_); rintro e v3 ⟨rfl, hb⟩; have HM3 := hid (HM2.out.keep hb); have HB3 := hid ((HB2.out.trans (hb.mono HB2.out.size))); clear hb y0 y1 y2 y3 y4 y5 y6 y7 y8 y9 y10 y11 y12 y13 y14 y15 y16 z0 z1 z2 z3 z4 z5 z6 z7 z8 z9 z10 z11 z12 z13 z14 z15 z16; obtain ⟨y0, y1, y2, y3, y4, y5, y6, y7, y8, y9, y10, y11, y12, y13, y14, y15, y16⟩ := msA_at HM3.out.x; obtain ⟨z0, z1, z2, z3, z4, z5, z6, z7, z8, z9, z10, z11, z12, z13, z14, z15, z16⟩ := msA_at HM3.out.y)
            | (have := HM1; go_at_call 82; go_must (refine (HT2.out _ HB1.out).mono ?_); rintro e v2 ⟨rfl, hb⟩; have HM2 := hid (HM1.out.keep hb); have HB2 := hid ((HB1.out.trans (hb.mono HB1.out.size))); clear hb y0 y1 y2 y3 y4 y5 y6 y7 y8 y9 y10 y11 y12 y13 y14 y15 y16 z0 z1 z2 z3 z4 z5 z6 z7 z8 z9 z10 z11 z12 z13 z14 z15 z16; obtain ⟨y0, y1, y2, y3, y4, y5, y6, y7, y8, y9, y10, y11, y12, y13, y14, y15, y16⟩ := msA_at HM2.out.x; obtain ⟨z0, z1, z2, z3, z4, z5, z6, z7, z8, z9, z10, z11, z12, z13, z14, z15, z16⟩ := msA_at HM2.out.y)
            | (have := HM; go_at_call 81; go_must (refine (HT1.out _ (Below.refl _ _)).mono ?_); rintro e v1 ⟨rfl, hb⟩; have HM1 := hid (HM.out.keep hb); have HB1 := hid (hb); clear hb y0 y1 y2 y3 y4 y5 y6 y7 y8 y9 y10 y11 y12 y13 y14 y15 y16 z0 z1 z2 z3 z4 z5 z6 z7 z8 z9 z10 z11 z12 z13 z14 z15 z16; obtain ⟨y0, y1, y2, y3, y4, y5, y6, y7, y8, y9, y10, y11, y12, y13, y14, y15, y16⟩ := msA_at HM1.out.x; obtain ⟨z0, z1, z2, z3, z4, z5, z6, z7, z8, z9, z10, z11, z12, z13, z14, z15, z16⟩ := msA_at HM1.out.y))
          go_ret
          exact ⟨by rw [hv.out]; rfl, HM4.out.b⟩
         | true =>
          rw [x4] at HT4
          cases x5 : (cgsSame m.cg n.cg) with
          | false =>
           rw [x5] at HT5
           have hv : Hid (V = false) := hid (by rw [hvE.out, endSame, x1, x2, x3, x4, x5] <;> rfl)
           clear x1 x2 x3 x4 x5
           go_wp2_with (first
             | (have := HM4; go_at_call 84; go_must (refine (HT5.out _ HB4.out).mono ?_); rintro e v5 ⟨rfl, hb⟩; have HM5 := hid (HM4.out.keep hb); have HB5 := hid ((HB4.out.trans (hb.mono HB4.out.size))); clear hb y0 y1 y2 y3 y4 y5 y6 y7 y8 y9 y10 y11 y12 y13 y14 y15 y16 z0 z1 z2 z3 z4 z5 z6 z7 z8 z9 z10 z11 z12 z13 z14 z15 z16; obtain ⟨y0, y1, y2, y3, y4, y5, y6, y7, y8, y9, y10, y11, y12, y13, y14, y15, y16⟩ := msA_at HM5.out.x; obtain ⟨z0, z1, z2, z3, z4, z5, z6, z7, z8, z9, z10, z11, z12, z13, z14, z15, z16⟩ := msA_at HM5.out.y)
             | (have := HM3; go_at_call 80; go_must (refine (HT4.out _ HB3.out).mono ?_); rintro e v4 ⟨rfl, hb⟩; have HM4 := hid (HM3.out.keep hb); have HB4 := hid ((HB3.out.trans (hb.mono HB3.out.size))); clear hb y0 y1 y2 y3 y4 y5 y6 y7 y8 y9 y10 y11 y12 y13 y14 y15 y16 z0 z1 z2 z3 z4 z5 z6 z7 z8 z9 z10 z11 z12 z13 z14 z15 z16; obtain ⟨y0, y1, y2, y3, y4, y5, y6, y7, y8, y9, y10, y11, y12, y13, y14, y15, y16⟩ := msA_at HM4.out.x; obtain ⟨z0, z1, z2, z3, z4, z5, z6, z7, z8, z9, z10, z11, z12, z13, z14, z15, z16⟩ := msA_at HM4.out.y)
             | (have := HM2; go_at_call 83; go_must (refine (HT3.out _ HB2.out).mono ?_); rintro e v3 ⟨rfl, hb⟩; have HM3 := hid (HM2.out.keep hb); have HB3 := hid ((HB2.out.trans (hb.mono HB2.out.size))); clear hb y0 y1 y2 y3 y4 y5 y6 y7 y8 y9 y10 y11 y12 y13 y14 y15 y16 z0 z1 z2 z3 z4 z5 z6 z7 z8 z9 z10 z11 z12 z13 z14 z15 z16; obtain ⟨y0, y1, y2, y3, y4, y5, y6, y7, y8, y9, y10, y11, y12, y13, y14, y15, y16⟩ := msA_at HM3.out.x; obtain ⟨z0, z1, z2, z3, z4, z5, z6, z7, z8, z9, z10, z11, z12, z13, z14, z15, z16⟩ := msA_at HM3.out.y)
             | (have := HM1; go_at_call 82; go_must (refine (HT2.out _ HB1.out).mono ?_); rintro e v2 ⟨rfl, hb⟩; have HM2 := hid (HM1.out.keep hb); have HB2 := hid ((HB1.out.trans (hb.mono HB1.out.size))); clear hb y0 y1 y2 y3 y4 y5 y6 y7 y8 y9 y10 y11 y12 y13 y14 y15 y16 z0 z1 z2 z3 z4 z5 z6 z7 z8 z9 z10 z11 z12 z13 z14 z15 z16; obtain ⟨y0, y1, y2, y3, y4, y5, y6, y7, y8, y9, y10, y11, y12, y13, y14, y15, y16⟩ := msA_at HM2.out.x; obtain ⟨z0, z1, z2, z3, z4, z5, z6, z7, z8, z9, z10, z11, z12, z13, z14, z15, z16⟩ := msA_at HM2.out.y)
             | (have := HM; go_at_call 81; go_must (refine (HT1.out _ (Below.refl _ _)).mono ?_); rintro e v1 ⟨rfl, hb⟩; have HM1 := hid (HM.out.keep hb); have HB1 := hid (hb); clear hb y0 y1 y2 y3 y4 y5 y6 y7 y8 y9 y10 y11 y12 y13 y14 y15 y16 z0 z1 z2 z3 z4 z5 z6 z7 z8 z9 z10 z11 z12 z13 z14 z15 z16; obtain ⟨y0, y1, y2, y3, y4, y5, y6, y7, y8, y9, y10, y11, y12, y13, y14, y15, y16⟩ := msA_at HM1.out.x; obtain ⟨z0, z1, z2, z3, z4, z5, z6, z7, z8, z9, z10, z11, z12, z13, z14, z15, z16⟩ := msA_at HM1.out.y))
           go_ret
           exact ⟨by rw [hv.out]; rfl, HM5.out.b⟩
          | true =>
           rw [x5] at HT5
           have hv : Hid (V = true) := hid (by rw [hvE.out, endSame, x1, x2, x3, x4, x5] <;> rfl)
           clear x1 x2 x3 x4 x5
           go_wp2_with (first
             | (have := HM4; go_at_call 84; go_must (refine (HT5.out _ HB4.out).mono ?_); rintro e v5 ⟨rfl, hb⟩; have HM5 := hid (HM4.out.keep hb); have HB5 := hid ((HB4.out.trans (hb.mono HB4.out.size))); clear hb y0 y1 y2 y3 y4 y5 y6 y7 y8 y9 y10 y11 y12 y13 y14 y15 y16 z0 z1 z2 z3 z4 z5 z6 z7 z8 z9 z10 z11 z12 z13 z14 z15 z16; obtain ⟨y0, y1, y2, y3, y4, y5, y6, y7, y8, y9, y10, y11, y12, y13, y14, y15, y16⟩ := msA_at HM5.out.x; obtain ⟨z0, z1, z2, z3, z4, z5, z6, z7, z8, z9, z10, z11, z12, z13, z14, z15, z16⟩ := msA_at HM5.out.y)
             | (have := HM3; go_at_call 80; go_must (refine (HT4.out _ HB3.out).mono ?_); rintro e v4 ⟨rfl, hb⟩; have HM4 := hid (HM3.out.keep hb); have HB4 := hid ((HB3.out.trans (hb.mono HB3.out.size))); clear hb y0 y1 y2 y3 y4 y5 y6 y7 y8 y9 y10 y11 y12 y13 y14 y15 y16 z0 z1 z2 z3 z4 z5 z6 z7 z8 z9 z10 z11 z12 z13 z14 z15 z16; obtain ⟨y0, y1, y2, y3, y4, y5, y6, y7, y8, y9, y10, y11, y12, y13, y14, y15, y16⟩ := msA_at HM4.out.x; obtain ⟨z0, z1, z2, z3, z4, z5, z6, z7, z8, z9, z10, z11, z12, z13, z14, z15, z16⟩ := msA_at HM4.out.y)
             | (have := HM2; go_at_call 83; go_must (refine (HT3.out _ HB2.out).mono ?_); rintro e v3 ⟨rfl, hb⟩; have HM3 := hid (HM2.out.keep hb); have HB3 := hid ((HB2.out.trans (hb.mono HB2.out.size))); clear hb y0 y1 y2 y3 y4 y5 y6 y7 y8 y9 y10 y11 y12 y13 y14 y15 y16 z0 z1 z2 z3 z4 z5 z6 z7 z8 z9 z10 z11 z12 z13 z14 z15 z16; obtain ⟨y0, y1, y2, y3, y4, y5, y6, y7, y8, y9, y10, y11, y12, y13, y14, y15, y16⟩ := msA_at HM3.out.x; obtain ⟨z0, z1, z2, z3, z4, z5, z6, z7, z8, z9, z10, z11, z12, z13, z14, z15, z16⟩ := msA_at HM3.out.y)
             | (have := HM1; go_at_call 82; go_must (refine (HT2.out _ HB1.out).mono ?_); rintro e v2 ⟨rfl, hb⟩; have HM2 := hid (HM1.out.keep hb); have HB2 := hid ((HB1.out.trans (hb.mono HB1.out.size))); clear hb y0 y1 y2 y3 y4 y5 y6 y7 y8 y9 y10 y11 y12 y13 y14 y15 y16 z0 z1 z2 z3 z4 z5 z6 z7 z8 z9 z10 z11 z12 z13 z14 z15 z16; obtain ⟨y0, y1, y2, y3, y4, y5, y6, y7, y8, y9, y10, y11, y12, y13, y14, y15, y16⟩ := msA_at HM2.out.x; obtain ⟨z0, z1, z2, z3, z4, z5, z6, z7, z8, z9, z10, z11, z12, z13, z14, z15, z16⟩ := msA_at HM2.out.y)
             | (have := HM; go_at_call 81; go_must (refine (HT1.out _ (Below.refl _ _)).mono ?_); rintro e v1 ⟨rfl, hb⟩; have HM1 := hid (HM.out.keep hb); have HB1 := hid (hb); clear hb y0 y1 y2 y3 y4 y5 y6 y7 y8 y9 y10 y11 y12 y13 y14 y15 y16 z0 z1 z2 z3 z4 z5 z6 z7 z8 z9 z10 z11 z12 z13 z14 z15 z16; obtain ⟨y0, y1, y2, y3, y4, y5, y6, y7, y8, y9, y10, y11, y12, y13, y14, y15, y16⟩ := msA_at HM1.out.x; obtain ⟨z0, z1, z2, z3, z4, z5, z6, z7, z8, z9, z10, z11, z12, z13, z14, z15, z16⟩ := msA_at HM1.out.y))
           go_ret
           exact ⟨by rw [hv.out]; rfl, HM5.out.b⟩
    · have hj1 : (j : Int) < (L : Int) := by omega
      have hjl1 : j < m.ln.length := by have := HL.out.1; omega
      have hjl2 : j < n.ln.length := by have := HL.out.2; omega
      obtain ⟨g1, off1, cp1, a1, k1, a2, k2, hv1, hP1, hg1, hc1⟩ := ln_at (HI.out.2.1.ln.under HM.out.b (Nat.le_refl _)) j hjl1
      obtain ⟨g2, off2, cp2, b1, r1, b2, r2, hv2, hP2, hg2, hc2⟩ := ln_at (HI.out.2.2.ln.under HM.out.b (Nat.le_refl _)) j hjl2
      simp only [Value.slice.injEq] at hv1 hv2
      obtain ⟨rfl, -, rfl⟩ := hv1
      obtain ⟨rfl, -, rfl⟩ := hv2
      have HP := hid (And.intro hP1 hP2)
      have HFa : Hid (lnSame (m.ln.getD j ln0) (n.ln.getD j ln0) = false → V = false) := hid (fun e => by rw [HV.out, allTo_no j (by omega) e]; rfl)
      have HTr : Hid (lnSame (m.ln.getD j ln0) (n.ln.getD j ln0) = true → allTo (lnsP m.ln n.ln) (j + 1) = true) := hid (fun e => by rw [allTo, HOk.out, lnsP, e]; rfl)
      have HBx := hid (And.intro (HI.out.1.1.ln.2 (m.ln.getD j ln0) (getD_in hjl1)) (HI.out.1.2.ln.2 (n.ln.getD j ln0) (getD_in hjl2)))
      have HJ := hid (And.intro hj hjn)
      have HG := hid (And.intro (And.intro hg1 hc1) (And.intro hg2 hc2))
      generalize m.ln.getD j ln0 = x at HP HFa HTr HBx HG
      generalize n.ln.getD j ln0 = y at HP HFa HTr HBx HG
      clear hj hjn hjl1 hjl2 hP1 hP2 hg1 hc1 hg2 hc2
      have m16 : ∀ cx : Cls wr, cx.1.cell? ⟨w.heap.size, 16, none⟩ = some (.slice (some ⟨g1, off1, none⟩) L c16) := fun cx => (cx.2.cell (p := ⟨w.heap.size, 16, none⟩) (lt_of_blk HM.out.x)).trans y16
      have e16 : ∀ cx : Cls wr, cx.1.cell? ⟨w.heap.size + 1, 16, none⟩ = some (.slice (some ⟨g2, off2, none⟩) L d16) := fun cx => (cx.2.cell (p := ⟨w.heap.size + 1, 16, none⟩) (lt_of_blk HM.out.y)).trans z16
      have f0 : ∀ cx : Cls wr, cx.1.cell? ⟨g1, off1 + j * 3, none⟩ = some (.int .i64 x.1.1) := fun cx => (cx.2.cell (p := ⟨g1, off1 + j * 3 + 0, none⟩) HG.out.1.1).trans (HG.out.1.2 0 _ rfl)
      have g3 : ∀ cx : Cls wr, cx.1.cell? ⟨g2, off2 + j * 3, none⟩ = some (.int .i64 y.1.1) := fun cx => (cx.2.cell (p := ⟨g2, off2 + j * 3 + 0, none⟩) HG.out.2.1).trans (HG.out.2.2 0 _ rfl)
      have f1 : ∀ cx : Cls wr, cx.1.cell? ⟨g1, off1 + j * 3 + 1, none⟩ = some (.slice a1 x.1.2.length k1) := fun cx => (cx.2.cell (p := ⟨g1, off1 + j * 3 + 1, none⟩) HG.out.1.1).trans (HG.out.1.2 1 _ rfl)
      have g4 : ∀ cx : Cls wr, cx.1.cell? ⟨g2, off2 + j * 3 + 1, none⟩ = some (.slice b1 y.1.2.length r1) := fun cx => (cx.2.cell (p := ⟨g2, off2 + j * 3 + 1, none⟩) HG.out.2.1).trans (HG.out.2.2 1 _ rfl)
      have f2 : ∀ cx : Cls wr, cx.1.cell? ⟨g1, off1 + j * 3 + 2, none⟩ = some (.slice a2 x.2.length k2) := fun cx => (cx.2.cell (p := ⟨g1, off1 + j * 3 + 2, none⟩) HG.out.1.1).trans (HG.out.1.2 2 _ rfl)
      have g5 : ∀ cx : Cls wr, cx.1.cell? ⟨g2, off2 + j * 3 + 2, none⟩ = some (.slice b2 y.2.length r2) := fun cx => (cx.2.cell (p := ⟨g2, off2 + j * 3 + 2, none⟩) HG.out.2.1).trans (HG.out.2.2 2 _ rfl)
      have HU1 := hid (show Tst wr 79 #[.agg #[.int .i64 x.1.1, .slice a1 x.1.2.length k1], .agg #[.int .i64 y.1.1, .slice b1 y.1.2.length r1]] (.bool (decide (x.1.1 = y.1.1) && decide (x.1.2 = y.1.2))) from fun u hu => vsame_dec _ _ a1 b1 _ _ k1 r1 x.1.2 y.1.2 rfl rfl HBx.out.1.1 HBx.out.2.1 u (HP.out.1.1.keep hu (Nat.le_refl _)) (HP.out.2.1.keep hu (Nat.le_refl _)))
      have HU2 := hid (show Tst wr 80 #[.slice a2 x.2.length k2, .slice b2 y.2.length r2] (.bool (decide (x.2 = y.2))) from fun u hu => wsame_dec a2 b2 _ _ k2 r2 x.2 y.2 rfl rfl HBx.out.1.2 HBx.out.2.2 u (HP.out.1.2.keep hu (Nat.le_refl _)) (HP.out.2.2.keep hu (Nat.le_refl _)))
      go_wp2_with fail
      clear y0 y1 y2 y3 y4 y5 y6 y7 y8 y9 y10 y11 y12 y13 y14 y15 y16 z0 z1 z2 z3 z4 z5 z6 z7 z8 z9 z10 z11 z12 z13 z14 z15 z16
      cases x1 : (decide (x.1.1 = y.1.1) && decide (x.1.2 = y.1.2)) with
      | false =>
        rw [x1] at HU1
        have HF := hid (HFa.out (by rw [lnSame, x1]; rfl))
        clear x1
        haveI := Cls.ne wr
        refine wp_region_cls wr (by kernel_rfl) (by kernel_rfl) ?_
        repeat (go_big_quiet_step ((first
          | (go_at_call 79; exact Cls.of _ (fun u hu => HU1.out u hu))
          | (go_at_call 80; exact Cls.of _ (fun u hu => HU2.out u hu)))))
        refine wpQuiet_nil ?_
        rintro _ ⟨cx, rfl⟩
        go_wp2
        go_ret
        exact ⟨by rw [HF.out]; rfl, (HM.out.b).trans (cx.2.mono HM.out.b.size)⟩
      | true =>
        rw [x1] at HU1
        cases x2 : decide (x.2 = y.2) with
        | false =>
          rw [x2] at HU2
          have HF := hid (HFa.out (by rw [lnSame, x1, x2]; rfl))
          clear x1 x2
          haveI := Cls.ne wr
          refine wp_region_cls wr (by kernel_rfl) (by kernel_rfl) ?_
          repeat (go_big_quiet_step ((first
            | (go_at_call 79; exact Cls.of _ (fun u hu => HU1.out u hu))
            | (go_at_call 80; exact Cls.of _ (fun u hu => HU2.out u hu)))))
          refine wpQuiet_nil ?_
          rintro _ ⟨cx, rfl⟩
          go_wp2
          go_ret
          exact ⟨by rw [HF.out]; rfl, (HM.out.b).trans (cx.2.mono HM.out.b.size)⟩
        | true =>
          rw [x2] at HU2
          have HT := hid (HTr.out (by rw [lnSame, x1, x2]; rfl))
          clear x1 x2
          haveI := Cls.ne wr
          refine wp_region_cls wr (by kernel_rfl) (by kernel_rfl) ?_
          repeat (go_big_quiet_step ((first
            | (go_at_call 79; exact Cls.of _ (fun u hu => HU1.out u hu))
            | (go_at_call 80; exact Cls.of _ (fun u hu => HU2.out u hu)))))
          refine wpQuiet_nil ?_
          rintro _ ⟨cx, rfl⟩
          go_wp2
          go_roundw
          case rel => exact ⟨j + 1, by have := HJ.out; omega, by go_num, HBW.out.trans (cx.2.mono HBW.out.size), HT.out⟩
          case measure => simp [intOf]; omega
theorem wsameMs_any {F G : Nat → Prop} (m n : Ms) (a13 a14 a15 a16 b13 b14 b15 b16 : Option Addr) (c13 c14 c15 c16 d13 d14 d15 d16 : Nat) (w : World) (hB : MsN m) (hC : MsN n) (hL : MsL F w m (.slice a13 m.nx.length c13) (.slice a14 m.sg.length c14) (.slice a15 m.cg.length c15) (.slice a16 m.ln.length c16)) (hR : MsL G w n (.slice b13 n.nx.length d13) (.slice b14 n.sg.length d14) (.slice b15 n.cg.length d15) (.slice b16 n.ln.length d16)) :
    Calls Tryz.prog 43 #[.agg (msA m a13 a14 a15 a16 c13 c14 c15 c16).toArray, .agg (msA n b13 b14 b15 b16 d13 d14 d15 d16).toArray] w fun e w' => e = .returned (.bool (sameMs m n)) ∧ Below w.heap.size w w' := by
  by_cases h0 : m.k = n.k
  rotate_left
  · exact wsm_0 m n a13 a14 a15 a16 b13 b14 b15 b16 c13 c14 c15 c16 d13 d14 d15 d16 w _ (by rw [sameMs, decide_eq_false h0] <;> rfl)  (beq_eq_false_iff_ne.2 h0)
  by_cases h1 : m.ep = n.ep
  rotate_left
  · exact wsm_1 m n a13 a14 a15 a16 b13 b14 b15 b16 c13 c14 c15 c16 d13 d14 d15 d16 w _ (by rw [sameMs, decide_eq_true h0, decide_eq_false h1] <;> rfl) (beq_iff_eq.2 h0) (beq_eq_false_iff_ne.2 h1)
  by_cases h2 : m.v = n.v
  rotate_left
  · exact wsm_2 m n a13 a14 a15 a16 b13 b14 b15 b16 c13 c14 c15 c16 d13 d14 d15 d16 w _ (by rw [sameMs, decide_eq_true h0, decide_eq_true h1, decide_eq_false h2] <;> rfl) (beq_iff_eq.2 h0) (beq_iff_eq.2 h1) (beq_eq_false_iff_ne.2 h2)
  by_cases h3 : m.sl = n.sl
  rotate_left
  · exact wsm_3 m n a13 a14 a15 a16 b13 b14 b15 b16 c13 c14 c15 c16 d13 d14 d15 d16 w _ (by rw [sameMs, decide_eq_true h0, decide_eq_true h1, decide_eq_true h2, decide_eq_false h3] <;> rfl) (beq_iff_eq.2 h0) (beq_iff_eq.2 h1) (beq_iff_eq.2 h2) (beq_eq_false_iff_ne.2 h3)
  by_cases h4 : m.tx = n.tx
  rotate_left
  · exact wsm_4 m n a13 a14 a15 a16 b13 b14 b15 b16 c13 c14 c15 c16 d13 d14 d15 d16 w _ (by rw [sameMs, decide_eq_true h0, decide_eq_true h1, decide_eq_true h2, decide_eq_true h3, decide_eq_false h4] <;> rfl) (beq_iff_eq.2 h0) (beq_iff_eq.2 h1) (beq_iff_eq.2 h2) (beq_iff_eq.2 h3) (text_neS h4)
  by_cases h5 : m.ln.length = n.ln.length
  rotate_left
  · exact wsm_5 m n a13 a14 a15 a16 b13 b14 b15 b16 c13 c14 c15 c16 d13 d14 d15 d16 w _ (by rw [sameMs, decide_eq_true h0, decide_eq_true h1, decide_eq_true h2, decide_eq_true h3, decide_eq_true h4, decide_eq_false h5] <;> rfl) (beq_iff_eq.2 h0) (beq_iff_eq.2 h1) (beq_iff_eq.2 h2) (beq_iff_eq.2 h3) (by rw [h4]; simp) (beq_eq_false_iff_ne.2 (by omega))
  exact wsm_tail m n a13 a14 a15 a16 b13 b14 b15 b16 c13 c14 c15 c16 d13 d14 d15 d16 w hB hC hL hR _ (by rw [sameMs, decide_eq_true h0, decide_eq_true h1, decide_eq_true h2, decide_eq_true h3, decide_eq_true h4, decide_eq_true h5] <;> rfl) (beq_iff_eq.2 h0) (beq_iff_eq.2 h1) (beq_iff_eq.2 h2) (beq_iff_eq.2 h3) (by rw [h4]; simp) (beq_iff_eq.2 (by omega))
end Go.Proofs.YthjgnfeadagmeaaGreat
