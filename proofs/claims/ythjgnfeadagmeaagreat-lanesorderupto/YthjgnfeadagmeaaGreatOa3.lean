/- Texts laid together: WiB PaA DeA DeC OpA WiC RlC ScA HlA TeA TeE TeB BaD BaE TeF TeQ ClI. -/
import Derived.Test.YthjgnfeadagmeaaGreatOa2
import Derived.Test.YthjgnfeadagmeaaGreatOa1
import Derived.Test.YthjgnfeadagmeaaGreatRows
import Derived.ProofKit
import Derived.OpenShut
import Derived.ShutString
import Derived.ChangeOld
import Derived.Deep.Slices
import Derived.Shelf.Strconv.Clone
import Derived.OrdersHeld
import Derived.Deep.QuietTactic
import Derived.Deep.RegionHeld3
import Derived.Lib.SliceRun
/- Which messages fit; their bytes there and back. No walk here. -/
namespace Go.Proofs.YthjgnfeadagmeaaGreat
open Go.RowKit

def allTo (P : Nat → Bool) : Nat → Bool
  | 0 => true
  | n + 1 => allTo P n && P n
theorem allTo_at {P : Nat → Bool} : ∀ {n : Nat}, allTo P n = true → ∀ i, i < n → P i = true
  | 0, _, i, hi => by omega
  | n + 1, h, i, hi => by
    rw [allTo, Bool.and_eq_true] at h
    by_cases e : i = n
    · rw [e]; exact h.2
    · exact allTo_at h.1 i (by omega)
theorem allTo_of {P : Nat → Bool} : ∀ {n : Nat}, (∀ i, i < n → P i = true) → allTo P n = true
  | 0, _ => rfl
  | n + 1, h => by rw [allTo, allTo_of (fun i hi => h i (by omega)), h n (by omega)]; rfl
theorem allTo_no {P : Nat → Bool} {n : Nat} (i : Nat) (hi : i < n) (h : P i = false) : allTo P n = false := by
  cases hn : allTo P n with
  | false => rfl
  | true => rw [allTo_at hn i hi] at h; cases h
theorem allTo_congr {P Q : Nat → Bool} : ∀ {n : Nat}, (∀ i, i < n → P i = Q i) → allTo P n = allTo Q n
  | 0, _ => rfl
  | n + 1, h => by rw [allTo, allTo, allTo_congr (fun i hi => h i (by omega)), h n (by omega)]
def eB : ByteArray := ⟨#[]⟩
def sg0 : Sg := (0, eB)
def ct0 : Ct := (0, 0, zeroQ, [])
def cg0 : Cg := (0, 0, [], sg0)
def ln0 : Ln := ((0, []), [])
def inB (n a b : Int) : Bool := decide (a ≤ n) && decide (n ≤ b)
def sigB (p : Sg) : Bool := inB p.1 0 199
def sigsB (l : List Sg) : Bool := decide (l.length ≤ 16) && allTo (fun i => sigB (l.getD i sg0)) l.length
def ofB (e s : Int) : Bool := decide (4 * e < s) && decide (s ≤ 4 * (e + 1))
def askB (r : Rq) : Bool := rightB r || nullB r
def ctB (e : Int) (c : Ct) : Bool := (inB c.1 0 15 && ofB e c.2.1) && (askB c.2.2.1 && sigsB c.2.2.2)
def ctAt (e : Int) (l : List Ct) (i : Nat) : Bool := ctB e (l.getD i ct0) && (decide (i = 0) || decide ((l.getD (i - 1) ct0).2.1 < (l.getD i ct0).2.1))
def ctsB (e : Int) (l : List Ct) : Bool := decide (l.length ≤ 4) && allTo (ctAt e l) l.length
def cgB (e : Int) (c : Cg) : Bool := (inB c.1 0 15 && inB c.2.1 1 15) && (ctsB e c.2.2.1 && sigB c.2.2.2)
def cgAt (e v : Int) (l : List Cg) (i : Nat) : Bool := (decide ((l.getD i cg0).2.1 = v) && cgB e (l.getD i cg0)) && (decide (i = 0) || decide ((l.getD (i - 1) cg0).1 < (l.getD i cg0).1))
def cgsB (e v : Int) (l : List Cg) (most : Nat) : Bool := (decide (1 ≤ l.length) && decide (l.length ≤ most)) && allTo (cgAt e v l) l.length
def lnAt (l : List Ln) (i : Nat) : Bool := (decide ((l.getD i ln0).1.1 = (i : Int) + 1) && rightC (l.getD i ln0).1.1 (l.getD i ln0).1.2) && sigsB (l.getD i ln0).2
def lnsB (l : List Ln) : Bool := allTo (lnAt l) l.length
/-- All fields but these are zero. -/
structure Only where
  v : Bool := false
  s : Bool := false
  r : Bool := false
  x : Bool := false
  t : Bool := false
  n : Bool := false
  g : Bool := false
  c : Bool := false
  l : Bool := false
def onlyB (m : Ms) (o : Only) : Bool := (o.v || decide (m.v = 0)) && ((o.s || decide (m.sl = 0)) && ((o.r || nullB m.rq) && ((o.x || (decide (m.rs.1 = 0) && decide (canW m.rs.2 = 0))) && ((o.t || decide (m.tx.size = 0)) && ((o.n || decide (m.nx.length = 0)) && ((o.g || decide (m.sg.length = 0)) && ((o.c || decide (m.cg.length = 0)) && (o.l || decide (m.ln.length = 0)))))))))
def placeB (m : Ms) : Bool := inB m.v 0 15 && ofB m.ep m.sl
def oneB (l : List Sg) (k : Nat) : Bool := decide (l.length = k) && sigsB l
def kindB (m : Ms) : Bool :=
  if m.k = 1 then onlyB m { r := true, g := true } && (decide (m.ep = 0) && (rightB m.rq && oneB m.sg 1))
  else if m.k = 2 then onlyB m { v := true, s := true, r := true, g := true } && (placeB m && (askB m.rq && oneB m.sg (if nullB m.rq then 0 else 1)))
  else if m.k = 3 then onlyB m { v := true, s := true, r := true, g := true } && (placeB m && (askB m.rq && oneB m.sg 1))
  else if m.k = 4 then onlyB m { v := true, s := true, r := true } && (placeB m && askB m.rq)
  else if m.k = 5 then onlyB m { s := true, t := true, n := true, g := true } && (decide (m.sl = 4 * (m.ep + 1)) && (!decide (m.tx.size = 0) && (memB m.nx && oneB m.sg 2)))
  else if m.k = 6 then onlyB m { v := true, c := true } && cgsB m.ep m.v m.cg 1
  else if m.k = 7 then onlyB m { v := true, c := true } && cgsB m.ep m.v m.cg 10
  else if m.k = 8 then onlyB m { r := true, x := true } && (rightB m.rq && rsB m.rs.1)
  else if m.k = 9 then onlyB m {}
  else if m.k = 10 then onlyB m { s := true, t := true, g := true, l := true } && (decide (1 ≤ m.ep) && (decide (m.sl = 4 * m.ep) && (!decide (m.tx.size = 0) && ((decide ((m.ln.length : Int) = m.ep) && lnsB m.ln) && sigsB m.sg))))
  else false
def fitB (m : Ms) : Bool := inB m.k 1 10 && (inB m.ep 0 60 && kindB m)
/-- Reals with one NaN. -/
def normR (r : Rq) : Rq := { r with b := canW r.b }
def nCt (c : Ct) : Ct := (c.1, c.2.1, normR c.2.2.1, c.2.2.2)
def nCg (c : Cg) : Cg := (c.1, c.2.1, c.2.2.1.map nCt, c.2.2.2)
def normM (m : Ms) : Ms := { m with rq := normR m.rq, rs := (m.rs.1, canW m.rs.2), cg := m.cg.map nCg }
theorem norm_whole (r : Rq) : wholeB (normR r) r = true := (wholeB_iff _ _).2 ⟨rfl, rfl, rfl, rfl, rfl, canW_idem r.b⟩
theorem norm_alike (r : Rq) : nullB (normR r) = nullB r ∧ rightB (normR r) = rightB r ∧ rqT (normR r) = rqT r := by
  obtain ⟨h1, h2, h3, _⟩ := whole_alike (norm_whole r)
  exact ⟨h1, h2, h3⟩
theorem rsT_norm (c : Int) (f : Nat) : rsT c (canW f) = rsT c f := by rw [rsT, rsT, rsL, rsL, canW_idem]
theorem ctL_norm (c : Ct) : ctL (nCt c) = ctL c := by
  show be 1 c.1.toNat ++ (be 2 c.2.1.toNat ++ (txL (rqT (normR c.2.2.1)) ++ sgsL c.2.2.2)) = _
  rw [(norm_alike c.2.2.1).2.2]
  rfl
theorem flat_norm {α : Type} {f : α → List UInt8} {g : α → α} (h : ∀ x, f (g x) = f x) : ∀ l : List α, (l.map g).flatMap f = l.flatMap f
  | [] => rfl
  | x :: l => by
    rw [List.map_cons, List.flatMap_cons, List.flatMap_cons, h x, flat_norm h l]
theorem ls_norm {α : Type} {f : α → List UInt8} {g : α → α} (h : ∀ x, f (g x) = f x) (l : List α) : lsL f (l.map g) = lsL f l := by rw [lsL, lsL, List.length_map, flat_norm h]
theorem cgL_norm (c : Cg) : cgL (nCg c) = cgL c := by
  show be 1 c.1.toNat ++ (be 1 c.2.1.toNat ++ (lsL ctL (c.2.2.1.map nCt) ++ sigL c.2.2.2)) = _
  rw [ls_norm ctL_norm]
  rfl
theorem msL_norm (m : Ms) : msL (normM m) = msL m := by
  show be 1 m.k.toNat ++ (be 2 m.ep.toNat ++ (be 1 m.v.toNat ++ (be 2 m.sl.toNat ++ (txL (rqT (normR m.rq)) ++ (txL (rsT m.rs.1 (canW m.rs.2)) ++ (txL m.tx ++ (lsL oneL m.nx ++ (sgsL m.sg ++ (lsL cgL (m.cg.map nCg) ++ lsL lnL m.ln))))))))) = _
  rw [(norm_alike m.rq).2.2, rsT_norm, ls_norm cgL_norm]
  rfl
/-- Bounds of what came in: a real is a word of 64 bits. -/
structure MsR (m : Ms) : Prop where
  rq : m.rq.b < 18446744073709551616
  rs : m.rs.2 < 18446744073709551616
  cg : ∀ c, c ∈ m.cg → ∀ x, x ∈ c.2.2.1 → x.2.2.1.b < 18446744073709551616
theorem can_lt {b : Nat} (h : b < 18446744073709551616) : canW b < 18446744073709551616 := by
  unfold canW
  cases nanW b with
  | true => simp
  | false => simpa using h
theorem null_zero {r : Rq} (h : nullB r = true) : normR r = zeroQ := by
  obtain ⟨h1, h2, h3, h4, h5, h6⟩ := null_fields h
  obtain ⟨c, st, k, key, b, id⟩ := r
  simp only at h1 h2 h3 h4 h5 h6
  subst h1 h2 h3 h6
  have hk : key = ⟨#[]⟩ := by
    apply ByteArray.ext
    apply Array.eq_empty_of_size_eq_zero
    exact h4
  subst hk
  show (⟨0, 0, 0, ⟨#[]⟩, canW b, 0⟩ : Rq) = zeroQ
  rw [h5]
  rfl
theorem ask_valid {r : Rq} (h : askB r = true) (hb : r.b < 18446744073709551616) : rqV (normR r) := by
  refine ⟨?_, canW_idem r.b, can_lt hb⟩
  rw [askB, Bool.or_eq_true] at h
  rcases h with h | h
  · exact .inl (by rw [(norm_alike r).2.1]; exact h)
  · exact .inr (null_zero h)
theorem in_valid {z a b : Int} {n : Nat} (h : inB z a b = true) (ha : 0 ≤ a) (hb : b.toNat < 256 ^ n) : iV n z := by
  rw [inB, Bool.and_eq_true, decide_eq_true_eq, decide_eq_true_eq] at h
  exact ⟨by omega, by omega⟩
theorem getD_mem {α : Type} {l : List α} {d : α} {x : α} (h : x ∈ l) : ∃ i, i < l.length ∧ l.getD i d = x := by
  obtain ⟨i, hi, rfl⟩ := List.getElem_of_mem h
  exact ⟨i, hi, by simp [hi]⟩
theorem sgs_valid {l : List Sg} (h : sigsB l = true) (ht : ∀ p, p ∈ l → p.2.size ≤ 65535) : sgsV l := by
  rw [sigsB, Bool.and_eq_true, decide_eq_true_eq] at h
  refine ⟨by omega, fun p hp => ?_⟩
  obtain ⟨i, hi, e⟩ := getD_mem (d := sg0) hp
  have := allTo_at h.2 i hi
  rw [e] at this
  exact ⟨in_valid this (by decide) (by decide), ht p hp⟩
/-- A part of a list's bytes is no longer than the whole. -/
theorem flat_le {α : Type} {f : α → List UInt8} : ∀ {l : List α} {x : α}, x ∈ l → (f x).length ≤ (l.flatMap f).length
  | y :: l, x, h => by
    rw [List.flatMap_cons, List.length_append]
    rcases List.mem_cons.1 h with rfl | h
    · omega
    · have := flat_le (f := f) h
      omega
theorem sgs_short {l : List Sg} {n : Nat} (h : (sgsL l).length ≤ n) : ∀ p, p ∈ l → p.2.size ≤ n := fun p hp => by
  have := flat_le (f := sigL) hp
  rw [sgsL, lsL, List.length_append] at h
  simp only [sigL, txL, List.length_append, be_len, data_len] at this
  omega
theorem ofB_valid {e s : Int} (h : ofB e s = true) (he : inB e 0 60 = true) : iV 2 s := by
  rw [ofB, Bool.and_eq_true, decide_eq_true_eq, decide_eq_true_eq] at h
  rw [inB, Bool.and_eq_true, decide_eq_true_eq, decide_eq_true_eq] at he
  exact ⟨by omega, by omega⟩
theorem ct_valid {e : Int} {c : Ct} (he : inB e 0 60 = true) (h : ctB e c = true) (hb : c.2.2.1.b < 18446744073709551616) (ht : (ctL c).length ≤ 65535) : ctV (nCt c) := by
  simp only [ctB, Bool.and_eq_true] at h
  obtain ⟨⟨h1, h2⟩, h3, h4⟩ := h
  refine ⟨in_valid h1 (by decide) (by decide), ofB_valid h2 he, ask_valid h3 hb, sgs_valid h4 (sgs_short ?_)⟩
  show (sgsL c.2.2.2).length ≤ 65535
  rw [ctL, List.length_append, List.length_append, List.length_append] at ht
  omega
theorem cg_valid {e : Int} {c : Cg} (he : inB e 0 60 = true) (h : cgB e c = true) (hb : ∀ x, x ∈ c.2.2.1 → x.2.2.1.b < 18446744073709551616) (ht : (cgL c).length ≤ 65535) : cgV (nCg c) := by
  simp only [cgB, ctsB, Bool.and_eq_true, decide_eq_true_eq] at h
  obtain ⟨⟨h1, h2⟩, ⟨h3, h4⟩, h5⟩ := h
  rw [cgL, List.length_append, List.length_append, List.length_append, lsL, List.length_append] at ht
  refine ⟨in_valid h1 (by decide) (by decide), in_valid h2 (by decide) (by decide), ⟨by show (c.2.2.1.map nCt).length < 256; rw [List.length_map]; omega, fun x hx => ?_⟩, ⟨in_valid h5 (by decide) (by decide), ?_⟩⟩
  · obtain ⟨y, hy, rfl⟩ := List.mem_map.1 hx
    obtain ⟨i, hi, e2⟩ := getD_mem (d := ct0) hy
    have := allTo_at h4 i hi
    rw [ctAt, Bool.and_eq_true, e2] at this
    have hl := flat_le (f := ctL) hy
    exact ct_valid he this.1 (hb y hy) (by omega)
  · have : (sigL c.2.2.2).length = 1 + (2 + c.2.2.2.2.size) := by simp only [sigL, txL, List.length_append, be_len, data_len]
    show c.2.2.2.2.size ≤ 65535
    omega
theorem ln_valid {l : List Ln} (h : lnsB l = true) (ht : (lsL lnL l).length ≤ 65535) : ∀ x, x ∈ l → lnV x := fun x hx => by
  obtain ⟨i, hi, e⟩ := getD_mem (d := ln0) hx
  have := allTo_at h i hi
  rw [lnAt, e, Bool.and_eq_true, Bool.and_eq_true] at this
  have hl := flat_le (f := lnL) hx
  rw [lsL, List.length_append] at ht
  refine ⟨this.1.2, sgs_valid this.2 (sgs_short ?_)⟩
  rw [lnL, List.length_append] at hl
  omega
/-- What every message that fits has. -/
structure MsW (m : Ms) : Prop where
  v : m.v = 0 ∨ inB m.v 0 15 = true
  sl : m.sl = 0 ∨ iV 2 m.sl
  rq : askB m.rq = true
  rs : (m.rs.1 = 0 ∧ canW m.rs.2 = 0) ∨ rsB m.rs.1 = true
  nx : m.nx.length = 0 ∨ memB m.nx = true
  sg : m.sg.length = 0 ∨ sigsB m.sg = true
  cg : m.cg.length = 0 ∨ (m.cg.length ≤ 10 ∧ ∀ x, x ∈ m.cg → cgB m.ep x = true)
  ln : m.ln.length = 0 ∨ (m.ln.length ≤ 60 ∧ lnsB m.ln = true)
theorem askB_null {r : Rq} (h : nullB r = true) : askB r = true := by rw [askB, h, Bool.or_true]
theorem askB_right {r : Rq} (h : rightB r = true) : askB r = true := by rw [askB, h, Bool.true_or]
theorem cgs_all {e v : Int} {l : List Cg} {k : Nat} (h : cgsB e v l k = true) (hk : k ≤ 10) : (l.length ≤ 10 ∧ ∀ x, x ∈ l → cgB e x = true) ∧ (l.length = 0 ∨ inB v 0 15 = true) := by
  simp only [cgsB, Bool.and_eq_true, decide_eq_true_eq] at h
  refine ⟨⟨by omega, fun x hx => ?_⟩, ?_⟩
  · obtain ⟨i, hi, e2⟩ := getD_mem (d := cg0) hx
    have := allTo_at h.2 i hi
    rw [cgAt, e2] at this
    simp only [Bool.and_eq_true] at this
    exact this.1.2
  · right
    have := allTo_at h.2 0 (by omega)
    simp only [cgAt, cgB, inB, Bool.and_eq_true, decide_eq_true_eq] at this ⊢
    omega
theorem fit_weak {m : Ms} (he : inB m.ep 0 60 = true) (h : kindB m = true) : MsW m := by
  have he' := he
  simp only [inB, Bool.and_eq_true, decide_eq_true_eq] at he'
  have i2 : ∀ z : Int, 0 ≤ z → z ≤ 244 → iV 2 z := fun z h1 h2 => ⟨h1, by omega⟩
  unfold kindB at h
  split at h
  · simp only [onlyB, Bool.true_or, Bool.false_or, Bool.true_and, Bool.and_eq_true, decide_eq_true_eq, oneB] at h
    obtain ⟨⟨a1, a2, a3, a4, a5, a6, a7⟩, b1, b2, b3, b4⟩ := h
    exact ⟨.inl a1, .inl a2, askB_right b2, .inl a3, .inl a5, .inr b4, .inl a6, .inl a7⟩
  split at h
  · simp only [onlyB, Bool.true_or, Bool.false_or, Bool.true_and, Bool.and_eq_true, decide_eq_true_eq, oneB, placeB] at h
    obtain ⟨⟨a3, a4, a5, a6, a7⟩, ⟨b1, b2⟩, b3, b4, b5⟩ := h
    exact ⟨.inr b1, .inr (ofB_valid b2 he), b3, .inl a3, .inl a5, .inr b5, .inl a6, .inl a7⟩
  split at h
  · simp only [onlyB, Bool.true_or, Bool.false_or, Bool.true_and, Bool.and_eq_true, decide_eq_true_eq, oneB, placeB] at h
    obtain ⟨⟨a3, a4, a5, a6, a7⟩, ⟨b1, b2⟩, b3, b4, b5⟩ := h
    exact ⟨.inr b1, .inr (ofB_valid b2 he), b3, .inl a3, .inl a5, .inr b5, .inl a6, .inl a7⟩
  split at h
  · simp only [onlyB, Bool.true_or, Bool.false_or, Bool.true_and, Bool.and_eq_true, decide_eq_true_eq, placeB] at h
    obtain ⟨⟨a3, a4, a5, a8, a6, a7⟩, ⟨b1, b2⟩, b3⟩ := h
    exact ⟨.inr b1, .inr (ofB_valid b2 he), b3, .inl a3, .inl a5, .inl a8, .inl a6, .inl a7⟩
  split at h
  · simp only [onlyB, Bool.true_or, Bool.false_or, Bool.true_and, Bool.and_eq_true, decide_eq_true_eq, oneB] at h
    obtain ⟨⟨a1, a2, a3, a6, a7⟩, b1, b2, b3, b4, b5⟩ := h
    exact ⟨.inl a1, .inr (i2 _ (by omega) (by omega)), askB_null a2, .inl a3, .inr b3, .inr b5, .inl a6, .inl a7⟩
  split at h
  · simp only [onlyB, Bool.true_or, Bool.false_or, Bool.true_and, Bool.and_eq_true, decide_eq_true_eq] at h
    obtain ⟨⟨a1, a2, a3, a4, a5, a6, a7⟩, b1⟩ := h
    obtain ⟨c1, c2⟩ := cgs_all b1 (by decide)
    exact ⟨c2.elim (fun z => absurd z (by simp only [cgsB, Bool.and_eq_true, decide_eq_true_eq] at b1; omega)) .inr, .inl a1, askB_null a2, .inl a3, .inl a5, .inl a6, .inr c1, .inl a7⟩
  split at h
  · simp only [onlyB, Bool.true_or, Bool.false_or, Bool.true_and, Bool.and_eq_true, decide_eq_true_eq] at h
    obtain ⟨⟨a1, a2, a3, a4, a5, a6, a7⟩, b1⟩ := h
    obtain ⟨c1, c2⟩ := cgs_all b1 (by decide)
    exact ⟨c2.elim (fun z => absurd z (by simp only [cgsB, Bool.and_eq_true, decide_eq_true_eq] at b1; omega)) .inr, .inl a1, askB_null a2, .inl a3, .inl a5, .inl a6, .inr c1, .inl a7⟩
  split at h
  · simp only [onlyB, Bool.true_or, Bool.false_or, Bool.true_and, Bool.and_eq_true, decide_eq_true_eq] at h
    obtain ⟨⟨a1, a2, a4, a5, a8, a6, a7⟩, b1, b2⟩ := h
    exact ⟨.inl a1, .inl a2, askB_right b1, .inr b2, .inl a5, .inl a8, .inl a6, .inl a7⟩
  split at h
  · simp only [onlyB, Bool.false_or, Bool.and_eq_true, decide_eq_true_eq] at h
    obtain ⟨a1, a2, a3, a4, a5, a6, a7, a8, a9⟩ := h
    exact ⟨.inl a1, .inl a2, askB_null a3, .inl a4, .inl a6, .inl a7, .inl a8, .inl a9⟩
  split at h
  · simp only [onlyB, Bool.true_or, Bool.false_or, Bool.true_and, Bool.and_true, Bool.and_eq_true, decide_eq_true_eq] at h
    obtain ⟨⟨a1, a2, a3, a5, a6⟩, b1, b2, b3, ⟨b4, b5⟩, b6⟩ := h
    exact ⟨.inl a1, .inr (i2 _ (by omega) (by omega)), askB_null a2, .inl a3, .inl a5, .inr b6, .inl a6, .inr ⟨by omega, b5⟩⟩
  · cases h
theorem nil_of {α : Type} {l : List α} (h : l.length = 0) : l = [] := List.eq_nil_of_length_eq_zero h
theorem fit_valid {m : Ms} (h : fitB m = true) (hr : MsR m) (hl : (msL m).length ≤ 65536) : MsV (normM m) := by
  rw [fitB, Bool.and_eq_true, Bool.and_eq_true] at h
  obtain ⟨hk, he, hB⟩ := h
  obtain ⟨w1, w2, w3, w4, w5, w6, w7, w8⟩ := fit_weak he hB
  simp only [msL, List.length_append, be_len] at hl
  have hc := hr.cg
  refine ⟨in_valid hk (by decide) (by decide), in_valid he (by decide) (by decide), ?_, ?_, ask_valid w3 hr.rq, ?_, ?_, ?_, ?_, ?_, ?_⟩
  · rcases w1 with e | e
    · show iV 1 m.v
      rw [e]
      exact ⟨by decide, by decide⟩
    · exact in_valid e (by decide) (by decide)
  · rcases w2 with e | e
    · show iV 2 m.sl
      rw [e]
      exact ⟨by decide, by decide⟩
    · exact e
  · refine ⟨?_, canW_idem _, can_lt hr.rs⟩
    rcases w4 with e | e
    · show rsB m.rs.1 = true
      rw [e.1]
      rfl
    · exact e
  · show m.tx.size ≤ 65535
    simp only [txL, List.length_append, be_len, data_len] at hl
    omega
  · show m.nx.length < 256 ∧ ∀ x, x ∈ m.nx → iV 1 x
    rcases w5 with e | e
    · rw [nil_of e]
      exact ⟨by decide, fun x hx => by cases hx⟩
    · have := mem_len e
      exact ⟨by omega, fun x hx => by have := mem_in e x hx; exact ⟨by omega, by omega⟩⟩
  · show sgsV m.sg
    rcases w6 with e | e
    · rw [nil_of e]
      exact ⟨by decide, fun x hx => by cases hx⟩
    · exact sgs_valid e (sgs_short (by omega))
  · show (m.cg.map nCg).length < 256 ∧ ∀ x, x ∈ m.cg.map nCg → cgV x
    rcases w7 with e | ⟨e1, e2⟩
    · rw [nil_of e]
      exact ⟨by decide, fun x hx => by cases hx⟩
    · refine ⟨by rw [List.length_map]; omega, fun x hx => ?_⟩
      obtain ⟨y, hy, rfl⟩ := List.mem_map.1 hx
      have h1 := flat_le (f := cgL) hy
      rw [show lsL cgL m.cg = be 1 m.cg.length ++ m.cg.flatMap cgL from rfl, List.length_append] at hl
      exact cg_valid he (e2 y hy) (hc y hy) (by omega)
  · show m.ln.length < 256 ∧ ∀ x, x ∈ m.ln → lnV x
    rcases w8 with e | ⟨e1, e2⟩
    · rw [nil_of e]
      exact ⟨by decide, fun x hx => by cases hx⟩
    · exact ⟨by omega, ln_valid e2 (by omega)⟩
/-- What a text is read as, whole. -/
def pWhole (t : ByteArray) : Option Ms := (pMs t).bind fun a => if a.2.size = 0 ∧ fitB a.1 = true then some a.1 else none
theorem fit_norm {m : Ms} : fitB (normM m) = fitB m := by
  have hct : ∀ (e : Int) (l : List Ct), ctsB e (l.map nCt) = ctsB e l := fun e l => by
    rw [ctsB, ctsB, List.length_map]
    congr 1
    refine allTo_congr (fun i hi => ?_)
    have g : ∀ k, (l.map nCt).getD k ct0 = nCt (l.getD k ct0) := fun k => by
      by_cases hk : k < l.length
      · simp [hk]
      · simp [hk]
        rfl
    rw [ctAt, ctAt, g, g]
    show (((inB _ 0 15 && ofB e _) && (askB (normR _) && sigsB _)) && _) = _
    rw [show ∀ r, askB (normR r) = askB r from fun r => by rw [askB, askB, (norm_alike r).1, (norm_alike r).2.1]]
    rfl
  have hcg : ∀ (e v : Int) (l : List Cg) (k : Nat), cgsB e v (l.map nCg) k = cgsB e v l k := fun e v l k => by
    rw [cgsB, cgsB, List.length_map]
    congr 1
    refine allTo_congr (fun i hi => ?_)
    have g : ∀ k, (l.map nCg).getD k cg0 = nCg (l.getD k cg0) := fun k => by
      by_cases hk : k < l.length
      · simp [hk]
      · simp [hk]
        rfl
    rw [cgAt, cgAt, g, g]
    show ((decide (_ = v) && ((inB _ 0 15 && inB _ 1 15) && (ctsB e (List.map nCt _) && sigB _))) && _) = _
    rw [hct]
    rfl
  have ho : ∀ o, onlyB (normM m) o = onlyB m o := fun o => by
    rw [onlyB, onlyB]
    show ((o.v || decide (m.v = 0)) && ((o.s || decide (m.sl = 0)) && ((o.r || nullB (normR m.rq)) && ((o.x || (decide (m.rs.1 = 0) && decide (canW (canW m.rs.2) = 0))) && ((o.t || decide (m.tx.size = 0)) && ((o.n || decide (m.nx.length = 0)) && ((o.g || decide (m.sg.length = 0)) && ((o.c || decide ((m.cg.map nCg).length = 0)) && (o.l || decide (m.ln.length = 0))))))))))  = _
    rw [(norm_alike m.rq).1, canW_idem, List.length_map]
  have hr : rightB (normM m).rq = rightB m.rq := (norm_alike m.rq).2.1
  have hn : nullB (normM m).rq = nullB m.rq := (norm_alike m.rq).1
  have ha : askB (normM m).rq = askB m.rq := by rw [askB, askB, hr, hn]
  have hc : ∀ k, cgsB (normM m).ep (normM m).v (normM m).cg k = cgsB m.ep m.v m.cg k := fun k => hcg _ _ _ _
  rw [fitB, fitB, kindB, kindB, ho, ho, ho, ho, ho, ho, ho, ho, hr, hn, ha, hc, hc]
  rfl
theorem whole_good {m : Ms} (h : fitB m = true) (hr : MsR m) (hl : (msL m).length ≤ 65536) : pWhole ⟨(msL m).toArray⟩ = some (normM m) := by
  obtain ⟨s', h1, h2⟩ := inv_ms.good ⟨(msL m).toArray⟩ (normM m) [] (fit_valid h hr hl) (by rw [msL_norm, List.append_nil])
  have hz : s'.size = 0 := by rw [← data_len, h2]; rfl
  rw [pWhole, h1]
  show (if s'.size = 0 ∧ fitB (normM m) = true then some (normM m) else none) = _
  rw [if_pos ⟨hz, by rw [fit_norm]; exact h⟩]
theorem whole_back {t : ByteArray} {m : Ms} (h : pWhole t = some m) : fitB m = true ∧ t.data.toList = msL m ∧ MsV m := by
  unfold pWhole at h
  cases h1 : pMs t with
  | none => rw [h1] at h; cases h
  | some a =>
    rw [h1] at h
    simp only [Option.bind_some] at h
    split at h
    · rename_i h2
      cases h
      obtain ⟨v, e⟩ := inv_ms.back t a.1 a.2 h1
      have hz : a.2.data.toList = [] := List.eq_nil_of_length_eq_zero (by rw [data_len]; exact h2.1)
      rw [hz, List.append_nil] at e
      exact ⟨h2.2, e, v⟩
    · cases h
theorem bytes_eq {a b : ByteArray} (h : a.data.toList = b.data.toList) : a = b := by
  apply ByteArray.ext
  exact Array.ext' h
/-- With more behind it is no message's. -/
theorem whole_more {m : Ms} (h : fitB m = true) (hr : MsR m) (hl : (msL m).length ≤ 65536) (t more : ByteArray) (ht : t.data.toList = msL m ++ more.data.toList) (hm : more.size ≠ 0) : pWhole t = none := by
  obtain ⟨s', h1, h2⟩ := inv_ms.good t (normM m) more.data.toList (fit_valid h hr hl) (by rw [msL_norm]; exact ht)
  have hz : s'.size = more.size := by rw [← data_len, h2, data_len]
  rw [pWhole, h1]
  show (if s'.size = 0 ∧ fitB (normM m) = true then some (normM m) else none) = none
  rw [if_neg (fun e => hm (by rw [← hz]; exact e.1))]
/-- No beginning is a message's. -/
theorem whole_cut {m : Ms} (h : fitB m = true) (hr : MsR m) (hl : (msL m).length ≤ 65536) (t : ByteArray) (k : Nat) (hk : k < (msL m).length) (ht : t.data.toList = (msL m).take k) : pWhole t = none := by
  cases hw : pWhole t with
  | none => rfl
  | some x =>
    obtain ⟨_, e, v⟩ := whole_back hw
    have hs : (⟨(msL m).toArray⟩ : ByteArray).data.toList = msL x ++ (msL m).drop k := by
      rw [← e, ht, List.take_append_drop]
    obtain ⟨s1, g1, g2⟩ := inv_ms.good ⟨(msL m).toArray⟩ x _ v hs
    obtain ⟨s2, g3, g4⟩ := inv_ms.good ⟨(msL m).toArray⟩ (normM m) [] (fit_valid h hr hl) (by rw [msL_norm, List.append_nil])
    rw [g1] at g3
    cases g3
    rw [g2] at g4
    have := congrArg List.length g4
    rw [List.length_drop, List.length_nil] at this
    omega
/-- The same bytes, the same messages but for unlike NaNs. -/
theorem msL_inj {a b : Ms} (ha : fitB a = true) (hra : MsR a) (hla : (msL a).length ≤ 65536) (hb : fitB b = true) (hrb : MsR b) (hlb : (msL b).length ≤ 65536) : msL a = msL b ↔ normM a = normM b := by
  constructor
  · intro e
    have h1 := whole_good ha hra hla
    rw [e, whole_good hb hrb hlb] at h1
    exact (Option.some.inj h1).symm
  · intro e
    rw [← msL_norm a, e, msL_norm]
end Go.Proofs.YthjgnfeadagmeaaGreat

/- Papers: pairs of a number and a text in memory; which papers are right. No walk here. -/
namespace Go.Proofs.YthjgnfeadagmeaaGreat
open Go.RowKit

/-- The pairs ps lie at a: a number and a text each. -/
def PairsIn (w : World) (a : Option Addr) (ps : List (Int × ByteArray)) : Prop :=
  ps = [] ∨ ∃ g off, a = some ⟨g, off, none⟩ ∧ g < w.heap.size ∧ ∀ j p, ps[j]? = some p → w.cell? ⟨g, off + j * 2, none⟩ = some (.int .i64 p.1) ∧ w.cell? ⟨g, off + j * 2 + 1, none⟩ = some (.string p.2)
theorem PairsIn.keep {w w' : World} {a : Option Addr} {ps : List (Int × ByteArray)} {B : Nat} (h : PairsIn w a ps) (hb : Below B w w') (hB : w.heap.size ≤ B) : PairsIn w' a ps := by
  rcases h with h | ⟨g, off, ha, hg, hc⟩
  · exact .inl h
  · exact .inr ⟨g, off, ha, Nat.lt_of_lt_of_le hg hb.size, fun j p hp => ⟨(hb.cell (p := ⟨g, _, none⟩) (Nat.lt_of_lt_of_le hg hB)).trans (hc j p hp).1, (hb.cell (p := ⟨g, _, none⟩) (Nat.lt_of_lt_of_le hg hB)).trans (hc j p hp).2⟩⟩
theorem PairsIn.at {w : World} {a : Option Addr} {ps : List (Int × ByteArray)} (h : PairsIn w a ps) (j : Nat) (p : Int × ByteArray) (hj : ps[j]? = some p) :
    ∃ g off, a = some ⟨g, off, none⟩ ∧ g < w.heap.size ∧ w.cell? ⟨g, off + j * 2, none⟩ = some (.int .i64 p.1) ∧ w.cell? ⟨g, off + j * 2 + 1, none⟩ = some (.string p.2) := by
  rcases h with h | ⟨g, off, ha, hg, hc⟩
  · rw [h] at hj; simp at hj
  · exact ⟨g, off, ha, hg, hc j p hj⟩
def pC (ps : List (Int × ByteArray)) : List Value := ps.flatMap fun p => [.int .i64 p.1, .string p.2]
theorem pC_cons (p : Int × ByteArray) (ps : List (Int × ByteArray)) : pC (p :: ps) = .int .i64 p.1 :: .string p.2 :: pC ps := rfl
theorem pC_len (ps : List (Int × ByteArray)) : (pC ps).length = ps.length * 2 := by
  induction ps with
  | nil => rfl
  | cons p ps ih => rw [pC_cons, List.length_cons, List.length_cons, ih, List.length_cons]; omega
theorem pC_app (a b : List (Int × ByteArray)) : pC (a ++ b) = pC a ++ pC b := by simp [pC]
theorem pC_get (ps : List (Int × ByteArray)) : ∀ (j : Nat) (p : Int × ByteArray), ps[j]? = some p → (pC ps)[j * 2]? = some (.int .i64 p.1) ∧ (pC ps)[j * 2 + 1]? = some (.string p.2) := by
  induction ps with
  | nil => intro j p h; simp at h
  | cons q ps ih =>
    intro j p h
    rw [pC_cons]
    cases j with
    | zero =>
      simp at h
      subst h
      exact ⟨rfl, rfl⟩
    | succ j =>
      have e1 : (j + 1) * 2 = j * 2 + 1 + 1 := by omega
      rw [e1]
      simp at h
      have := ih j p h
      exact ⟨by simpa using this.1, by simpa using this.2⟩
/-- The i-th number, the i-th text. -/
def idOf (ps : List (Int × ByteArray)) (i : Nat) : Int := (ps.getD i (0, ⟨#[]⟩)).1
def rtOf (ps : List (Int × ByteArray)) (i : Nat) : ByteArray := (ps.getD i (0, ⟨#[]⟩)).2
theorem getP_some {ps : List (Int × ByteArray)} {j : Nat} (hj : j < ps.length) : ps[j]? = some (idOf ps j, rtOf ps j) := by
  rw [List.getElem?_eq_getElem hj, idOf, rtOf, List.getD_eq_getElem?_getD, List.getElem?_eq_getElem hj]
  rfl
/-- The i-th seat is one, and stands behind the one ahead of it. -/
def okPAt (ps : List (Int × ByteArray)) (i : Nat) : Bool := decide (0 ≤ idOf ps i ∧ idOf ps i < 16) && (decide ((rtOf ps i).size = 32) && (decide (i = 0) || decide (idOf ps (i - 1) < idOf ps i)))
def okPTo (ps : List (Int × ByteArray)) : Nat → Bool
  | 0 => true
  | j + 1 => okPTo ps j && okPAt ps j
theorem okPTo_succ (ps : List (Int × ByteArray)) (j : Nat) : okPTo ps (j + 1) = (okPTo ps j && okPAt ps j) := rfl
theorem okPTo_false (ps : List (Int × ByteArray)) (j n : Nat) (h : okPTo ps j = false) (hn : j ≤ n) : okPTo ps n = false := by
  induction n with
  | zero =>
    obtain rfl : j = 0 := by omega
    exact h
  | succ n ih =>
    by_cases e : j = n + 1
    · rw [← e]; exact h
    · rw [okPTo_succ, ih (by omega)]; rfl
theorem okPAt_no1 (ps : List (Int × ByteArray)) (i : Nat) (h : ¬ (0 ≤ idOf ps i ∧ idOf ps i < 16)) : okPAt ps i = false := by rw [okPAt, decide_eq_false h]; rfl
theorem okPAt_no2 (ps : List (Int × ByteArray)) (i : Nat) (h : ¬ (rtOf ps i).size = 32) : okPAt ps i = false := by rw [okPAt, decide_eq_false h]; simp
theorem okPAt_no3 (ps : List (Int × ByteArray)) (i : Nat) (h0 : i ≠ 0) (h : ¬ (idOf ps (i - 1) < idOf ps i)) : okPAt ps i = false := by rw [okPAt, decide_eq_false h, decide_eq_false h0]; simp
theorem okPAt_yes0 (ps : List (Int × ByteArray)) (h : 0 ≤ idOf ps 0 ∧ idOf ps 0 < 16) (hs : (rtOf ps 0).size = 32) : okPAt ps 0 = true := by rw [okPAt, decide_eq_true h, decide_eq_true hs]; rfl
theorem okPAt_yes (ps : List (Int × ByteArray)) (i : Nat) (h : 0 ≤ idOf ps i ∧ idOf ps i < 16) (hs : (rtOf ps i).size = 32) (h1 : idOf ps (i - 1) < idOf ps i) : okPAt ps i = true := by rw [okPAt, decide_eq_true h, decide_eq_true hs, decide_eq_true h1]; simp
/-- Is the paper right? -/
def rightP (ep : Int) (ps : List (Int × ByteArray)) : Bool := okPTo ps ps.length && (decide (0 ≤ ep ∧ ep ≤ 65535) && decide (4 ≤ ps.length ∧ ps.length ≤ 10))
theorem okPTo_at (ps : List (Int × ByteArray)) : ∀ n, okPTo ps n = true → ∀ i, i < n → okPAt ps i = true
  | 0, _, i, hi => by omega
  | n + 1, h, i, hi => by
    rw [okPTo_succ, Bool.and_eq_true_iff] at h
    by_cases e : i = n
    · rw [e]; exact h.2
    · exact okPTo_at ps n h.1 i (by omega)
theorem rightP_parts {ep : Int} {ps : List (Int × ByteArray)} (h : rightP ep ps = true) : (0 ≤ ep ∧ ep ≤ 65535) ∧ (4 ≤ ps.length ∧ ps.length ≤ 10) ∧ ∀ i, i < ps.length → (0 ≤ idOf ps i ∧ idOf ps i < 16) ∧ (rtOf ps i).size = 32 ∧ (i = 0 ∨ idOf ps (i - 1) < idOf ps i) := by
  rw [rightP, Bool.and_eq_true_iff, Bool.and_eq_true_iff] at h
  refine ⟨of_decide_eq_true h.2.1, of_decide_eq_true h.2.2, fun i hi => ?_⟩
  have := okPTo_at ps _ h.1 i hi
  rw [okPAt, Bool.and_eq_true_iff, Bool.and_eq_true_iff, Bool.or_eq_true_iff] at this
  exact ⟨of_decide_eq_true this.1, of_decide_eq_true this.2.1, this.2.2.imp of_decide_eq_true of_decide_eq_true⟩
/-- A paper (or a configuration) in block b. -/
def PpAt (w : World) (b : Nat) (ep : Int) (v : Value) (t : TypeId) : Prop := w.heap[b]? = some (.cells #[.int .i64 ep, v] t (0, 0))
theorem PpAt.lt {w : World} {b : Nat} {ep : Int} {v : Value} {t : TypeId} (h : PpAt w b ep v t) : b < w.heap.size := lt_of_blk h
theorem PpAt.keep {w w' : World} {b : Nat} {ep : Int} {v : Value} {t : TypeId} (h : PpAt w b ep v t) (hb : Below w.heap.size w w') : PpAt w' b ep v t := (hb.block b h.lt).trans h
theorem PpAt.c0 {w : World} {b : Nat} {ep : Int} {v : Value} {t : TypeId} (h : PpAt w b ep v t) : w.cell? ⟨b, 0, none⟩ = some (.int .i64 ep) := cell_at (L := [.int .i64 ep, v]) h 0 _ rfl
theorem PpAt.c1 {w : World} {b : Nat} {ep : Int} {v : Value} {t : TypeId} (h : PpAt w b ep v t) : w.cell? ⟨b, 1, none⟩ = some v := cell_at (L := [.int .i64 ep, v]) h 1 _ rfl
theorem PpAt.new (w : World) (ep : Int) (v : Value) (t : TypeId) : PpAt (w.alloc (.cells #[.int .i64 ep, v] t)) w.heap.size ep v t := heap_alloc_last w _
end Go.Proofs.YthjgnfeadagmeaaGreat

/- Data of any depth in memory: numbers, bools, texts, lists of structs of such. No walk here. -/
namespace Go.Proofs.YthjgnfeadagmeaaGreat
open Go.RowKit

/-- What a cell tells: a number, a bool, a text, or a list, each of whose elements lies in sz cells. -/
inductive Dat where
  | i (x : Int)
  | b (x : Bool)
  | s (x : ByteArray)
  | q (x : Nat)
  | f (x : Nat)
  | l (sz : Nat) (es : List (List Dat))
/-- The value v reads as d in w, through blocks of F alone. -/
inductive Reads (F : Nat → Prop) (w : World) : Value → Dat → Prop where
  | i (x : Int) : Reads F w (.int .i64 x) (.i x)
  | b (x : Bool) : Reads F w (.bool x) (.b x)
  | s (x : ByteArray) : Reads F w (.string x) (.s x)
  | q (x : Nat) : Reads F w (.int .u64 (x : Int)) (.q x)
  | f (x : Nat) : Reads F w (.float .f64 x) (.f x)
  | nil (ad : Option Addr) (cap sz : Nat) : Reads F w (.slice ad 0 cap) (.l sz [])
  | l (g off cap sz : Nat) (es : List (List Dat)) (c : Nat → Nat → Value) (hF : F g) (hg : g < w.heap.size)
      (hs : ∀ (j : Nat) (e : List Dat), es[j]? = some e → e.length = sz)
      (hc : ∀ (j : Nat) (e : List Dat) (q : Nat) (d : Dat), es[j]? = some e → e[q]? = some d → w.cell? ⟨g, off + j * sz + q, none⟩ = some (c j q))
      (hr : ∀ (j : Nat) (e : List Dat) (q : Nat) (d : Dat), es[j]? = some e → e[q]? = some d → Reads F w (c j q) d) : Reads F w (.slice (some ⟨g, off, none⟩) es.length cap) (.l sz es)
theorem Reads.keep {F : Nat → Prop} {w w' : World} {v : Value} {d : Dat} (h : Reads F w v d) (hs : w.heap.size ≤ w'.heap.size) (hb : ∀ k, k < w.heap.size → F k → w'.heap[k]? = w.heap[k]?) : Reads F w' v d := by
  induction h with
  | i x => exact .i x
  | b x => exact .b x
  | s x => exact .s x
  | q x => exact .q x
  | f x => exact .f x
  | nil ad cap sz => exact .nil ad cap sz
  | l g off cap sz es c hF hg hsz hc _ ih => exact .l g off cap sz es c hF (Nat.lt_of_lt_of_le hg hs) hsz (fun j e q d he hd => (World.cell?_of_block (hb g hg hF)).trans (hc j e q d he hd)) ih
theorem Reads.under {F : Nat → Prop} {w w' : World} {v : Value} {d : Dat} {B : Nat} (h : Reads F w v d) (hb : Below B w w') (hB : w.heap.size ≤ B) : Reads F w' v d :=
  h.keep hb.size (fun k hk _ => hb.block k (Nat.lt_of_lt_of_le hk hB))
theorem Reads.mono {F F' : Nat → Prop} {w : World} {v : Value} {d : Dat} (h : Reads F w v d) (hF : ∀ k, k < w.heap.size → F k → F' k) : Reads F' w v d := by
  induction h with
  | i x => exact .i x
  | b x => exact .b x
  | s x => exact .s x
  | q x => exact .q x
  | f x => exact .f x
  | nil ad cap sz => exact .nil ad cap sz
  | l g off cap sz es c hFg hg hsz hc _ ih => exact .l g off cap sz es c (hF g hg hFg) hg hsz hc ih
theorem Reads.move {F F' : Nat → Prop} {w w' : World} {v : Value} {d : Dat} (h : Reads F w v d) (hs : w.heap.size ≤ w'.heap.size) (hb : ∀ k, k < w.heap.size → F k → w'.heap[k]? = w.heap[k]? ∧ F' k) : Reads F' w' v d := by
  induction h with
  | i x => exact .i x
  | b x => exact .b x
  | s x => exact .s x
  | q x => exact .q x
  | f x => exact .f x
  | nil ad cap sz => exact .nil ad cap sz
  | l g off cap sz es c hF hg hsz hc _ ih => exact .l g off cap sz es c (hb g hg hF).2 (Nat.lt_of_lt_of_le hg hs) hsz (fun j e q d he hd => (World.cell?_of_block (hb g hg hF).1).trans (hc j e q d he hd)) ih
/-- A list, opened at its j-th element. -/
theorem Reads.at {F : Nat → Prop} {w : World} {v : Value} {sz : Nat} {es : List (List Dat)} (h : Reads F w v (.l sz es)) (j : Nat) (e : List Dat) (hj : es[j]? = some e) :
    ∃ g off cap, v = .slice (some ⟨g, off, none⟩) es.length cap ∧ F g ∧ g < w.heap.size ∧ e.length = sz ∧ ∀ (q : Nat) (d : Dat), e[q]? = some d → ∃ u, w.cell? ⟨g, off + j * sz + q, none⟩ = some u ∧ Reads F w u d := by
  cases h with
  | nil ad cap sz => simp at hj
  | l g off cap sz es c hF hg hs hc hr => exact ⟨g, off, cap, rfl, hF, hg, hs j e hj, fun q d hd => ⟨c j q, hc j e q d hj hd, hr j e q d hj hd⟩⟩
theorem Reads.form {F : Nat → Prop} {w : World} {v : Value} {sz : Nat} {es : List (List Dat)} (h : Reads F w v (.l sz es)) : ∃ ad cap, v = .slice ad es.length cap := by
  cases h with
  | nil ad cap sz => exact ⟨ad, cap, rfl⟩
  | l g off cap sz es c hF hg hs hc hr => exact ⟨_, cap, rfl⟩
theorem Reads.int {F : Nat → Prop} {w : World} {v : Value} {x : Int} (h : Reads F w v (.i x)) : v = .int .i64 x := by cases h; rfl
theorem Reads.bool {F : Nat → Prop} {w : World} {v : Value} {x : Bool} (h : Reads F w v (.b x)) : v = .bool x := by cases h; rfl
theorem Reads.quad {F : Nat → Prop} {w : World} {v : Value} {x : Nat} (h : Reads F w v (.q x)) : v = .int .u64 (x : Int) := by cases h; rfl
theorem Reads.flt {F : Nat → Prop} {w : World} {v : Value} {x : Nat} (h : Reads F w v (.f x)) : v = .float .f64 x := by cases h; rfl
theorem Reads.str {F : Nat → Prop} {w : World} {v : Value} {x : ByteArray} (h : Reads F w v (.s x)) : v = .string x := by cases h; rfl
/-- Numbers, pairs, as data. -/
def dInts (xs : List Int) : Dat := .l 1 (xs.map fun x => [.i x])
def dPairs (ps : List (Int × ByteArray)) : Dat := .l 2 (ps.map fun p => [.i p.1, .s p.2])
def dStrs (ss : List ByteArray) : Dat := .l 1 (ss.map fun x => [.s x])
theorem reads_ints {F : Nat → Prop} {w : World} {v : Value} {xs : List Int} (h : Reads F w v (dInts xs)) : ∃ ad cap, v = .slice ad xs.length cap ∧ IntsIn w ad xs ∧ ∀ x, ad = some x → xs ≠ [] → F x.block := by
  cases xs with
  | nil =>
    obtain ⟨ad, cap, hv⟩ := h.form
    exact ⟨ad, cap, hv, .inl rfl, fun _ _ hne => absurd rfl hne⟩
  | cons x0 xs =>
    obtain ⟨g, off, cap, hv, hF, hg, _, _⟩ := h.at 0 [.i x0] rfl
    refine ⟨_, cap, by rw [hv, List.length_map], .inr ⟨g, off, rfl, hg, fun j z hz => ?_⟩, fun x hx _ => by cases hx; exact hF⟩
    obtain ⟨g', off', cap', hv', _, _, _, hc⟩ := h.at j [.i z] (by rw [List.getElem?_map, hz]; rfl)
    rw [hv] at hv'
    cases hv'
    obtain ⟨u, h1, h2⟩ := hc 0 (.i z) rfl
    rw [h2.int] at h1
    simpa using h1
theorem reads_pairs {F : Nat → Prop} {w : World} {v : Value} {ps : List (Int × ByteArray)} (h : Reads F w v (dPairs ps)) : ∃ ad cap, v = .slice ad ps.length cap ∧ PairsIn w ad ps ∧ ∀ x, ad = some x → ps ≠ [] → F x.block := by
  cases ps with
  | nil =>
    obtain ⟨ad, cap, hv⟩ := h.form
    exact ⟨ad, cap, hv, .inl rfl, fun _ _ hne => absurd rfl hne⟩
  | cons p0 ps =>
    obtain ⟨g, off, cap, hv, hF, hg, _, _⟩ := h.at 0 [.i p0.1, .s p0.2] rfl
    refine ⟨_, cap, by rw [hv, List.length_map], .inr ⟨g, off, rfl, hg, fun j z hz => ?_⟩, fun x hx _ => by cases hx; exact hF⟩
    obtain ⟨g', off', cap', hv', _, _, _, hc⟩ := h.at j [.i z.1, .s z.2] (by rw [List.getElem?_map, hz]; rfl)
    rw [hv] at hv'
    cases hv'
    obtain ⟨u0, h1, h2⟩ := hc 0 (.i z.1) rfl
    obtain ⟨u1, h3, h4⟩ := hc 1 (.s z.2) rfl
    rw [h2.int] at h1
    rw [h4.str] at h3
    exact ⟨by simpa using h1, h3⟩
theorem ints_reads {F : Nat → Prop} {w : World} {ad : Option Addr} {cap : Nat} {xs : List Int} (h : IntsIn w ad xs) (hF : ∀ x, ad = some x → xs ≠ [] → F x.block) : Reads F w (.slice ad xs.length cap) (dInts xs) := by
  rcases h with rfl | ⟨g, off, rfl, hg, hc⟩
  · exact .nil ad cap 1
  · cases xs with
    | nil => exact .nil _ cap 1
    | cons x0 xs =>
      have := Reads.l (F := F) (w := w) g off cap 1 ((x0 :: xs).map fun x => [Dat.i x]) (fun j _ => .int .i64 ((x0 :: xs).getD j 0)) (hF _ rfl (by simp)) hg
        (fun j e he => by rw [List.getElem?_map] at he; cases h : (x0 :: xs)[j]? with | none => rw [h] at he; cases he | some x => rw [h] at he; cases he; rfl)
        (fun j e q d he hd => by
          rw [List.getElem?_map] at he
          cases h : (x0 :: xs)[j]? with
          | none => rw [h] at he; cases he
          | some x =>
            rw [h] at he
            cases he
            cases q with
            | succ q => simp at hd
            | zero =>
              rw [Nat.mul_one, Nat.add_zero, List.getD_eq_getElem?_getD, h]
              exact hc j x h)
        (fun j e q d he hd => by
          rw [List.getElem?_map] at he
          cases h : (x0 :: xs)[j]? with
          | none => rw [h] at he; cases he
          | some x =>
            rw [h] at he
            cases he
            cases q with
            | succ q => simp at hd
            | zero =>
              simp at hd
              subst hd
              rw [List.getD_eq_getElem?_getD, h]
              exact .i x)
      rwa [List.length_map] at this
theorem pairs_reads {F : Nat → Prop} {w : World} {ad : Option Addr} {cap : Nat} {ps : List (Int × ByteArray)} (h : PairsIn w ad ps) (hF : ∀ x, ad = some x → ps ≠ [] → F x.block) : Reads F w (.slice ad ps.length cap) (dPairs ps) := by
  rcases h with rfl | ⟨g, off, rfl, hg, hc⟩
  · exact .nil ad cap 2
  · cases ps with
    | nil => exact .nil _ cap 2
    | cons p0 ps =>
      have hget : ∀ (j : Nat) (e : List Dat), ((p0 :: ps).map fun p => [Dat.i p.1, Dat.s p.2])[j]? = some e → ∃ p, (p0 :: ps)[j]? = some p ∧ e = [Dat.i p.1, Dat.s p.2] := fun j e he => by
        rw [List.getElem?_map] at he
        cases h : (p0 :: ps)[j]? with
        | none => rw [h] at he; cases he
        | some p => rw [h] at he; cases he; exact ⟨p, rfl, rfl⟩
      have := Reads.l (F := F) (w := w) g off cap 2 ((p0 :: ps).map fun p => [Dat.i p.1, Dat.s p.2]) (fun j q => if q = 0 then .int .i64 ((p0 :: ps).getD j p0).1 else .string ((p0 :: ps).getD j p0).2) (hF _ rfl (by simp)) hg
        (fun j e he => by obtain ⟨p, _, rfl⟩ := hget j e he; rfl)
        (fun j e q d he hd => by
          obtain ⟨p, hp, rfl⟩ := hget j e he
          rw [List.getD_eq_getElem?_getD, hp]
          match q, hd with
          | 0, _ => exact (hc j p hp).1
          | 1, _ => exact (hc j p hp).2)
        (fun j e q d he hd => by
          obtain ⟨p, hp, rfl⟩ := hget j e he
          rw [List.getD_eq_getElem?_getD, hp]
          match q, hd with
          | 0, hd => simp at hd; subst hd; exact .i _
          | 1, hd => simp at hd; subst hd; exact .s _)
      rwa [List.length_map] at this
end Go.Proofs.YthjgnfeadagmeaaGreat

/- The room of lists of any depth in memory. No walk here. -/
namespace Go.Proofs.YthjgnfeadagmeaaGreat
open Go.RowKit

/-- Each list has room for what it holds. -/
inductive Caps (w : World) : Value → Dat → Prop where
  | i (x : Int) : Caps w (.int .i64 x) (.i x)
  | b (x : Bool) : Caps w (.bool x) (.b x)
  | s (x : ByteArray) : Caps w (.string x) (.s x)
  | q (x : Nat) : Caps w (.int .u64 (x : Int)) (.q x)
  | f (x : Nat) : Caps w (.float .f64 x) (.f x)
  | l (ad : Option Addr) (n cap sz : Nat) (es : List (List Dat)) (hn : n ≤ cap)
      (h : ∀ (g off j q : Nat) (e : List Dat) (d : Dat) (u : Value), ad = some ⟨g, off, none⟩ → es[j]? = some e → e[q]? = some d → w.cell? ⟨g, off + j * sz + q, none⟩ = some u → Caps w u d) : Caps w (.slice ad n cap) (.l sz es)
theorem Caps.room {w : World} {v : Value} {sz : Nat} {es : List (List Dat)} (h : Caps w v (.l sz es)) : ∀ ad n c, v = .slice ad n c → n ≤ c := fun ad n c hv => by
  cases h with
  | l ad' n' cap' sz es hn h => cases hv; exact hn
theorem Caps.at {w : World} {g off n cap sz : Nat} {es : List (List Dat)} (h : Caps w (.slice (some ⟨g, off, none⟩) n cap) (.l sz es)) {j q : Nat} {e : List Dat} {d : Dat} {u : Value} (hj : es[j]? = some e) (hq : e[q]? = some d) (hu : w.cell? ⟨g, off + j * sz + q, none⟩ = some u) : Caps w u d := by
  cases h with
  | l ad n cap sz es hn h => exact h g off j q e d u rfl hj hq hu
end Go.Proofs.YthjgnfeadagmeaaGreat

/- Arguments of any depth, opened at once: what a type tells (Sh), what data fits it, and that an argument that the row reads as such reads so in memory. No walk here. -/
namespace Go.Proofs.YthjgnfeadagmeaaGreat
open Go.ChangeShapes Go.WideShapes Go.ChangeAt Go.RowKit

/-- What a type tells: a number, a bool, a text, a list, a struct (its fields one behind the other: c, u). -/
inductive Sh where
  | i | b | s | q | fl
  | l (bytes sz : Nat) (e : Sh)
  | st (f : Sh)
  | u
  | c (a r : Sh)
def Sh.sz : Sh → Nat
  | .i => 1 | .b => 1 | .s => 1 | .q => 1 | .fl => 1
  | .l _ _ _ => 1
  | .st f => f.sz
  | .u => 0
  | .c a r => a.sz + r.sz
/-- The type t (or the fields from offset o on) tells that. -/
def Sh.Of (P : Program) : Sh → TypeId ⊕ (List Field × Nat) → Prop
  | .i, .inl t => P.underlying t = some (.int .i64)
  | .b, .inl t => P.underlying t = some .bool
  | .s, .inl t => P.underlying t = some .string
  | .q, .inl t => P.underlying t = some (.int .u64)
  | .fl, .inl t => P.underlying t = some (.float .f64)
  | .l bytes sz e, .inl t => ∃ te, P.underlying t = some (.slice te) ∧ P.bytesOf te = bytes ∧ P.cellsOf te = sz ∧ e.sz = sz ∧ 0 < sz ∧ Sh.Of P e (.inl te)
  | .st f, .inl t => ∃ fs, P.underlying t = some (.struct fs) ∧ P.cellsOf t = f.sz ∧ Sh.Of P f (.inr (fs.toList, 0))
  | .u, .inr x => x.1 = []
  | .c a r, .inr x => ∃ f fs, x.1 = f :: fs ∧ f.offset = x.2 ∧ P.cellsOf f.type = a.sz ∧ Sh.Of P a (.inl f.type) ∧ Sh.Of P r (.inr (fs, x.2 + a.sz))
  | _, _ => False
/-- The data ds fits it; S: where the row bounds what is reached; U: the bulk. -/
def Fits (S : Prop) (U : Nat) : Sh → List Dat → Prop
  | .i, ds => ∃ x : Int, ds = [.i x] ∧ -9223372036854775808 ≤ x ∧ x ≤ 9223372036854775807
  | .b, ds => ∃ x : Bool, ds = [.b x]
  | .s, ds => ∃ x : ByteArray, ds = [.s x] ∧ x.size ≤ maxLen ∧ (S → x.size ≤ 140737488351232) ∧ x.size ≤ U
  | .q, ds => ∃ x : Nat, ds = [.q x] ∧ x < 18446744073709551616
  | .fl, ds => ∃ x : Nat, ds = [.f x] ∧ x < 18446744073709551616
  | .l bytes sz e, ds => ∃ es : List (List Dat), ds = [.l sz es] ∧ es.length ≤ maxLen ∧ (S → es.length * bytes ≤ 140737488351232) ∧ es.length ≤ U ∧ ∀ d, d ∈ es → Fits S U e d
  | .st f, ds => Fits S U f ds
  | .u, ds => ds = []
  | .c a r, ds => ∃ d1 d2, ds = d1 ++ d2 ∧ Fits S U a d1 ∧ Fits S U r d2
theorem Fits.mono {S S' : Prop} {U U' : Nat} (hS : S' → S) (hU : U ≤ U') : ∀ {sh : Sh} {ds : List Dat}, Fits S U sh ds → Fits S' U' sh ds
  | .i, _, h => h
  | .b, _, h => h
  | .q, _, h => h
  | .fl, _, h => h
  | .s, _, ⟨x, h1, h2, h3, h4⟩ => ⟨x, h1, h2, fun s => h3 (hS s), Nat.le_trans h4 hU⟩
  | .l _ _ _, _, ⟨es, h1, h2, h3, h4, h5⟩ => ⟨es, h1, h2, fun s => h3 (hS s), Nat.le_trans h4 hU, fun d hd => Fits.mono hS hU (h5 d hd)⟩
  | .st f, ds, h => Fits.mono (sh := f) (ds := ds) hS hU h
  | .u, _, h => h
  | .c _ _, _, ⟨d1, d2, h1, h2, h3⟩ => ⟨d1, d2, h1, Fits.mono hS hU h2, Fits.mono hS hU h3⟩
theorem Fits.len {S : Prop} {U : Nat} : ∀ {sh : Sh} {ds : List Dat}, Fits S U sh ds → ds.length = sh.sz
  | .i, _, ⟨x, h, _⟩ => by rw [h]; rfl
  | .b, _, ⟨x, h⟩ => by rw [h]; rfl
  | .q, _, ⟨x, h, _⟩ => by rw [h]; rfl
  | .fl, _, ⟨x, h, _⟩ => by rw [h]; rfl
  | .s, _, ⟨x, h, _⟩ => by rw [h]; rfl
  | .l _ _ _, _, ⟨es, h, _⟩ => by rw [h]; rfl
  | .st f, ds, h => Fits.len (sh := f) (ds := ds) h
  | .u, _, h => by rw [show _ = [] from h]; rfl
  | .c _ _, _, ⟨d1, d2, h1, h2, h3⟩ => by rw [h1, List.length_append, Fits.len h2, Fits.len h3]; rfl
/-- The cells cs read as ds. -/
def CellsAre (G : Nat → Prop) (W : World) (cs : List Value) (ds : List Dat) : Prop := ∀ (q : Nat) (d : Dat), ds[q]? = some d → ∃ u, cs[q]? = some u ∧ Reads G W u d ∧ Caps W u d
theorem cells_one {G : Nat → Prop} {W : World} {v : Value} {d : Dat} (h : Reads G W v d) (hc : Caps W v d) : CellsAre G W [v] [d] := fun q x hq => by
  cases q with
  | zero => cases hq; exact ⟨v, rfl, h, hc⟩
  | succ q => simp at hq
theorem bulkD_pos {H : Type} (d : DataW H) : 1 ≤ Rows.uptoBulk d := by
  cases d with
  | lit l => cases l <;> simp [Rows.uptoBulk]
  | _ => simp [Rows.uptoBulk]
theorem bulkD_all {H : Type} : ∀ l : List (DataW H), l.length ≤ Rows.uptoBulkAll l
  | [] => Nat.zero_le _
  | d :: r => by
    have h1 := bulkD_pos d
    have h2 := bulkD_all r
    simp only [Rows.uptoBulkAll, List.length_cons]
    omega
theorem bulkD_in {H : Type} : ∀ (l : List (DataW H)) (j : Nat) (d : DataW H), l[j]? = some d → Rows.uptoBulk d ≤ Rows.uptoBulkAll l
  | [], _, _, h => by simp at h
  | d :: r, 0, d', h => by simp at h; subst h; simp only [Rows.uptoBulkAll]; omega
  | d :: r, j + 1, d', h => by
    have := bulkD_in r j d' (by simpa using h)
    simp only [Rows.uptoBulkAll]
    omega
theorem weights_all {H : Type} {P : Program} {e : TypeId} : ∀ {ds : List (DataW H)} {j : Nat} {d : DataW H}, ds[j]? = some d → ∀ n ∈ d.weights P e, n ∈ DataW.weightsAll P e ds
  | [], _, _, h => by simp at h
  | d :: r, 0, d', h => fun n hn => by simp at h; subst h; simp only [DataW.weightsAll, List.mem_append]; exact .inl hn
  | d :: r, j + 1, d', h => fun n hn => by simp only [DataW.weightsAll, List.mem_append]; exact .inr (weights_all (by simpa using h) n hn)
theorem list_pick {α : Type} {Q : Nat → α → Prop} : ∀ n, (∀ i, i < n → ∃ x, Q i x) → ∃ xs : List α, xs.length = n ∧ ∀ i x, xs[i]? = some x → Q i x
  | 0, _ => ⟨[], rfl, fun i x h => by simp at h⟩
  | n + 1, h => by
    obtain ⟨xs, hl, hx⟩ := list_pick n (fun i hi => h i (by omega))
    obtain ⟨x, hq⟩ := h n (by omega)
    refine ⟨xs ++ [x], by simp [hl], fun i y hy => ?_⟩
    rcases Nat.lt_trichotomy i n with hi | hi | hi
    · rw [List.getElem?_append_left (by omega)] at hy; exact hx i y hy
    · subst hi; rw [List.getElem?_append_right (by omega), hl, Nat.sub_self] at hy; cases hy; exact hq
    · rw [List.getElem?_eq_none (by simp; omega)] at hy; cases hy
section
variable {H : Type} {enc : TypeId × Value → H} {W : World}
/-- A real that came in is a word of 64 bits. -/
theorem trod_real {P : Program} {t : TypeId} {fuel : Nat} {cs : List Value} {x : DataW H × List MemPlace} (ht : P.underlying t = some (.float .f64)) (h : DataW.trod enc P W 0 (fun _ => true) true fuel t cs = some x) : ∃ b : Nat, cs = [.float .f64 b] ∧ b < 18446744073709551616 := by
  have key : ∃ b : Nat, cs = [.float .f64 b] ∧ (Lit.float .f64 b).wf = true := by
    cases fuel with
    | zero => simp [DataW.trod] at h
    | succ n =>
      unfold DataW.trod at h
      rw [ht] at h
      split at h <;> simp_all
  obtain ⟨b, h1, h2⟩ := key
  exact ⟨b, h1, by simpa [Lit.wf] using h2⟩
/-- The two things that are shown of a Sh, by its build. -/
def OpensT (enc : TypeId × Value → H) (P : Program) (W : World) (sh : Sh) : Prop := ∀ (t : TypeId) (fuel : Nat) (cs : List Value) (x : DataW H × List MemPlace), sh.Of P (.inl t) → DataW.trod enc P W 0 (fun _ => true) true fuel t cs = some x →
  ∃ ds, Fits (∀ m ∈ x.1.weights P t, m ≤ reachBytes) (Rows.uptoBulk x.1) sh ds ∧ CellsAre (fun _ => True) W cs ds
def OpensF (enc : TypeId × Value → H) (P : Program) (W : World) (sh : Sh) : Prop := ∀ (fs : List Field) (o n : Nat) (cs : List Value) (xs : List (DataW H × List MemPlace)), sh.Of P (.inr (fs, o)) → xs.length = fs.length →
  (∀ (i : Nat) (f : Field), fs[i]? = some f → DataW.trod enc P W 0 (fun _ => true) true n f.type ((cs.drop f.offset).take (P.cellsOf f.type)) = xs[i]?) →
  ∃ ds, Fits (∀ m ∈ DataW.weightsEach P (fs.map (·.type)) (xs.map (·.1)), m ≤ reachBytes) (Rows.uptoBulkAll (xs.map (·.1))) sh ds ∧ CellsAre (fun _ => True) W (cs.drop o) ds
theorem opens_all (P : Program) (sh : Sh) : OpensT enc P W sh ∧ OpensF enc P W sh := by
  induction sh with
  | i =>
    refine ⟨fun t fuel cs x hO h => ?_, fun fs o n cs xs hO => by cases hO⟩
    obtain ⟨k, rfl, rfl, hwf⟩ := DataW.trod_int (by exact hO) h
    have hrg : -9223372036854775808 ≤ k ∧ k ≤ 9223372036854775807 := by simpa [Lit.wf, IntKind.min, IntKind.max, IntKind.bits, IntKind.signed] using hwf
    exact ⟨[.i k], ⟨k, rfl, hrg⟩, cells_one (.i k) (.i k)⟩
  | b =>
    refine ⟨fun t fuel cs x hO h => ?_, fun fs o n cs xs hO => by cases hO⟩
    obtain ⟨k, rfl, rfl⟩ := DataW.trod_bool (by exact hO) h
    exact ⟨[.b k], ⟨k, rfl⟩, cells_one (.b k) (.b k)⟩
  | s =>
    refine ⟨fun t fuel cs x hO h => ?_, fun fs o n cs xs hO => by cases hO⟩
    obtain ⟨k, rfl, rfl, hz⟩ := DataW.trod_string (by exact hO) h
    refine ⟨[.s k], ⟨k, rfl, hz, fun hs => ?_, ?_⟩, cells_one (.s k) (.s k)⟩
    · have := hs k.data.toList.length (by simp [DataW.weights])
      rw [reachBytes] at this
      simpa using this
    · simp [Rows.uptoBulk]
  | q =>
    refine ⟨fun t fuel cs x hO h => ?_, fun fs o n cs xs hO => by cases hO⟩
    obtain ⟨k, rfl, rfl, hwf⟩ := DataW.trod_int (by exact hO) h
    have hrg : 0 ≤ k ∧ k ≤ 18446744073709551615 := by simpa [Lit.wf, IntKind.min, IntKind.max, IntKind.bits, IntKind.signed] using hwf
    obtain ⟨n, rfl⟩ := Int.eq_ofNat_of_zero_le hrg.1
    exact ⟨[.q n], ⟨n, rfl, by omega⟩, cells_one (.q n) (.q n)⟩
  | fl =>
    refine ⟨fun t fuel cs x hO h => ?_, fun fs o n cs xs hO => by cases hO⟩
    obtain ⟨k, rfl, hk⟩ := trod_real hO h
    exact ⟨[.f k], ⟨k, rfl, hk⟩, cells_one (.f k) (.f k)⟩
  | u =>
    refine ⟨fun t fuel cs x hO h => (by cases hO), fun fs o n cs xs hO hl h => ?_⟩
    exact ⟨[], rfl, fun q d hq => by simp at hq⟩
  | st f ih =>
    refine ⟨fun t fuel cs x hO h => ?_, fun fs o n cs xs hO => by cases hO⟩
    obtain ⟨fs, hu, hc, hF⟩ := hO
    obtain ⟨xs, n, _, rfl, hl, hxl, hf⟩ := DataW.trod_struct hu h
    obtain ⟨ds, h1, h2⟩ := ih.2 fs.toList 0 n cs xs hF (by rw [hxl]; simp) (fun i g hg => hf i g (by simpa using hg))
    refine ⟨ds, Fits.mono (sh := f) (fun hs m hm => hs m (by simp only [DataW.weights, hu]; exact hm)) (by simp only [Rows.uptoBulk]; omega) h1, by simpa using h2⟩
  | c a r iha ihr =>
    refine ⟨fun t fuel cs x hO h => (by cases hO), fun fs o n cs xs hO hl h => ?_⟩
    obtain ⟨f, fs', rfl, hoff, hcell, hA, hR⟩ := hO
    cases xs with
    | nil => simp at hl
    | cons x xs =>
      have h0 := h 0 f rfl
      obtain ⟨d1, f1, c1⟩ := iha.1 f.type n _ x hA h0
      obtain ⟨d2, f2, c2⟩ := ihr.2 fs' (o + a.sz) n cs xs hR (by simpa using hl) (fun i g hg => h (i + 1) g (by simpa using hg))
      refine ⟨d1 ++ d2, ⟨d1, d2, rfl, f1.mono (fun hs m hm => hs m (by simp only [List.map_cons, DataW.weightsEach, List.mem_append]; exact .inl hm)) (by simp only [List.map_cons, Rows.uptoBulkAll]; omega), f2.mono (fun hs m hm => hs m (by simp only [List.map_cons, DataW.weightsEach, List.mem_append]; exact .inr hm)) (by simp only [List.map_cons, Rows.uptoBulkAll]; omega)⟩, ?_⟩
      · intro q d hq
        have hl1 := f1.len
        by_cases hqa : q < d1.length
        · rw [List.getElem?_append_left hqa] at hq
          obtain ⟨u, hu, hR⟩ := c1 q d hq
          refine ⟨u, ?_, hR⟩
          rw [List.getElem?_take] at hu
          split at hu
          · simp only at hoff
            rw [← hoff]
            exact hu
          · cases hu
        · rw [List.getElem?_append_right (by omega)] at hq
          obtain ⟨u, hu, hR⟩ := c2 _ d hq
          refine ⟨u, ?_, hR⟩
          rw [List.getElem?_drop] at hu ⊢
          rw [show o + q = o + a.sz + (q - d1.length) by omega]
          exact hu
  | l bytes sz e ih =>
    refine ⟨fun t fuel cs x hO h => ?_, fun fs o n cs xs hO => by cases hO⟩
    obtain ⟨te, hu, hby, hsz, hez, hz0, hE⟩ := hO
    rcases Go.Deep.open_slice hu h with ⟨rfl, rfl⟩ | ⟨ad, len, cap, m, n, D, Pl, rfl, _, hl, hm, hmm, hx, hel⟩
    · exact ⟨[.l sz []], ⟨[], rfl, Nat.zero_le _, fun _ => by simp, Nat.zero_le _, fun d hd => by simp at hd⟩, cells_one (.nil none 0 sz) (.l none 0 0 sz [] (Nat.le_refl _) (fun g off j q e d u h => by cases h))⟩
    · simp at hmm
      subst hmm
      have hx1 : x.1 = .slice ((List.range len).map D) ((List.range (m - len)).map fun j => D (len + j)) := by rw [hx]
      have each : ∀ i, i < len → ∃ d : List Dat, Fits (∀ q ∈ x.1.weights P t, q ≤ reachBytes) (Rows.uptoBulk x.1) e d ∧ ∃ cs', W.cells? 0 (ad.add (i * sz)) sz = some cs' ∧ CellsAre (fun _ => True) W cs' d := by
        intro i hi
        obtain ⟨cs', h1, h2⟩ := hel i (by omega)
        rw [hsz] at h1
        obtain ⟨d, f1, c1⟩ := ih.1 te n cs' _ hE h2
        have hget : ((List.range len).map D)[i]? = some (D i) := by rw [List.getElem?_map, List.getElem?_range hi]; rfl
        have hw : ∀ q ∈ (D i).weights P te, q ∈ x.1.weights P t := fun q hq => by
          rw [hx1]
          simp only [DataW.weights, hu, List.mem_cons, List.mem_append]
          exact .inr (.inl (weights_all hget q hq))
        have hbk : Rows.uptoBulk (D i) ≤ Rows.uptoBulk x.1 := by
          rw [hx1]
          have := bulkD_in _ i _ hget
          simp only [Rows.uptoBulk]
          omega
        exact ⟨d, f1.mono (fun hs q hq => hs q (hw q hq)) hbk, cs', h1, c1⟩
      obtain ⟨es, hil, hip⟩ := list_pick len each
      have hcellA : ∀ (j : Nat) (d : List Dat), es[j]? = some d → d.length = sz ∧ ∀ (q : Nat) (y : Dat), d[q]? = some y → ∃ u, W.cell? (ad.add (j * sz + q)) = some u ∧ Reads (fun _ => True) W u y ∧ Caps W u y := fun j d hj => by
        obtain ⟨hf, cs', h1, h2⟩ := hip j d hj
        obtain ⟨_, hlen, hc⟩ := World.cells?_some h1
        refine ⟨by rw [hf.len, hez], fun q y hy => ?_⟩
        obtain ⟨u, hu, hR⟩ := h2 q y hy
        have hq := (List.getElem?_eq_some_iff.1 hu).1
        have := hc q (by omega)
        rw [Go.Deep.add_add] at this
        exact ⟨u, this.trans hu, hR⟩
      refine ⟨[.l sz es], ⟨es, rfl, by omega, fun hs => ?_, ?_, fun d hd => ?_⟩, cells_one ?_ ?_⟩
      · have := hs ((len + (m - len)) * P.bytesOf te) (by rw [hx1]; simp [DataW.weights, hu])
        rw [hby, reachBytes] at this
        rw [hil]
        have h3 : len + (m - len) = m := by omega
        rw [h3] at this
        exact Nat.le_trans (Nat.mul_le_mul_right _ hl) this
      · rw [hx1, hil]
        have := bulkD_all ((List.range len).map D)
        rw [List.length_map, List.length_range] at this
        simp only [Rows.uptoBulk]
        omega
      · obtain ⟨i, hi, rfl⟩ := List.getElem_of_mem hd
        exact (hip i _ (List.getElem?_eq_getElem hi)).1
      · rw [← hil]
        by_cases h0 : len = 0
        · rw [List.eq_nil_of_length_eq_zero (by omega : es.length = 0)]
          exact .nil (some ad) m sz
        · obtain ⟨b, off, spot⟩ := ad
          have hcell : ∀ (j : Nat) (d : List Dat), es[j]? = some d → d.length = sz ∧ ∀ (q : Nat) (y : Dat), d[q]? = some y → ∃ u, W.cell? ((Addr.mk b off spot).add (j * sz + q)) = some u ∧ Reads (fun _ => True) W u y := fun j d hj => ⟨(hcellA j d hj).1, fun q y hy => by
            obtain ⟨u, h1, h2, _⟩ := (hcellA j d hj).2 q y hy
            exact ⟨u, h1, h2⟩⟩
          obtain ⟨d0, hd0⟩ : ∃ d, es[0]? = some d := ⟨es[0]'(by omega), List.getElem?_eq_getElem _⟩
          have hd0l := (hcell 0 d0 hd0).1
          obtain ⟨y0, hy0⟩ : ∃ y, d0[0]? = some y := ⟨d0[0]'(by omega), List.getElem?_eq_getElem _⟩
          obtain ⟨u0, hu0, _⟩ := (hcell 0 d0 hd0).2 0 y0 hy0
          have hspot : spot = none := by simpa [Addr.add] using World.cell?_spot hu0
          subst hspot
          have hb0 : b < W.heap.size := by have := World.block_lt_of_cell? W _ hu0; simpa [Addr.add] using this
          have hsome : ∀ (j : Nat) (d : List Dat) (q : Nat) (y : Dat), es[j]? = some d → d[q]? = some y → ∃ u, W.cell? ⟨b, off + j * sz + q, none⟩ = some u ∧ Reads (fun _ => True) W u y := fun j d q y hj hy => by
            obtain ⟨u, h1, h2⟩ := (hcell j d hj).2 q y hy
            rw [Addr.add_lit] at h1
            exact ⟨u, by rw [Nat.add_assoc]; exact h1, h2⟩
          refine .l b off m sz es (fun j q => (W.cell? ⟨b, off + j * sz + q, none⟩).getD undef) trivial hb0 (fun j d hj => (hcell j d hj).1) (fun j d q y hj hy => ?_) (fun j d q y hj hy => ?_)
          · obtain ⟨u, h1, _⟩ := hsome j d q y hj hy
            rw [h1]; rfl
          · obtain ⟨u, h1, h2⟩ := hsome j d q y hj hy
            rw [h1]; exact h2
      · refine .l (some ad) len m sz es hl (fun g off j q e d u hg hj hq hu => ?_)
        cases hg
        obtain ⟨u', h1, _, h2⟩ := (hcellA j e hj).2 q d hq
        rw [Addr.add_lit, ← Nat.add_assoc, hu] at h1
        cases h1
        exact h2
end
end Go.Proofs.YthjgnfeadagmeaaGreat

/- A message in memory, and as an argument. No walk here. -/
namespace Go.Proofs.YthjgnfeadagmeaaGreat
open Go.ChangeShapes Go.WideShapes Go.ChangeAt Go.RowKit

def dCt (c : Ct) : List Dat := [.i c.1, .i c.2.1, .i c.2.2.1.c, .i c.2.2.1.st, .i c.2.2.1.k, .s c.2.2.1.key, .f c.2.2.1.b, .i c.2.2.1.id, dPairs c.2.2.2]
def dCts (l : List Ct) : Dat := .l 9 (l.map dCt)
def dCg (c : Cg) : List Dat := [.i c.1, .i c.2.1, dCts c.2.2.1, .i c.2.2.2.1, .s c.2.2.2.2]
def dCgs (l : List Cg) : Dat := .l 5 (l.map dCg)
def dLn (k : Ln) : List Dat := [.i k.1.1, dInts k.1.2, dPairs k.2]
def dLns (l : List Ln) : Dat := .l 3 (l.map dLn)
def dMs (m : Ms) : List Dat := [.i m.k, .i m.ep, .i m.v, .i m.sl, .i m.rq.c, .i m.rq.st, .i m.rq.k, .s m.rq.key, .f m.rq.b, .i m.rq.id, .i m.rs.1, .f m.rs.2, .s m.tx, dInts m.nx, dPairs m.sg, dCgs m.cg, dLns m.ln]
def shInts : Sh := .l 8 1 .i
def shSig : Sh := .st (.c .i (.c .s .u))
def shSigs : Sh := .l 24 2 shSig
def shConf : Sh := .st (.c .i (.c shInts .u))
def shLink : Sh := .st (.c shConf (.c shSigs .u))
def shLinks : Sh := .l 56 3 shLink
def shOpr : Sh := .st (.c .i (.c .s (.c .fl (.c .i .u))))
def shReq : Sh := .st (.c .i (.c .i (.c shOpr .u)))
def shRes : Sh := .st (.c .i (.c .fl .u))
def shCert : Sh := .st (.c .i (.c .i (.c shReq (.c shSigs .u))))
def shCerts : Sh := .l 96 9 shCert
def shChg : Sh := .st (.c .i (.c .i (.c shCerts (.c shSig .u))))
def shChgs : Sh := .l 64 5 shChg
def shMsg : Sh := .st (.c .i (.c .i (.c .i (.c .i (.c shReq (.c shRes (.c .s (.c shInts (.c shSigs (.c shChgs (.c shLinks .u)))))))))))
theorem of_ints : shInts.Of Tryz.prog (.inl 22) := ⟨_, Tryz.underlying22, by kernel_rfl, by kernel_rfl, rfl, by decide, Tryz.underlying3⟩
theorem of_sig : shSig.Of Tryz.prog (.inl 87) := ⟨_, Tryz.underlying87, by kernel_rfl, ⟨_, _, rfl, rfl, by kernel_rfl, Tryz.underlying3, ⟨_, _, rfl, rfl, by kernel_rfl, Tryz.underlying9, rfl⟩⟩⟩
theorem of_sigs : shSigs.Of Tryz.prog (.inl 44) := ⟨_, Tryz.underlying44, by kernel_rfl, by kernel_rfl, rfl, by decide, of_sig⟩
theorem of_conf : shConf.Of Tryz.prog (.inl 94) := ⟨_, Tryz.underlying94, by kernel_rfl, ⟨_, _, rfl, rfl, by kernel_rfl, Tryz.underlying3, ⟨_, _, rfl, rfl, by kernel_rfl, of_ints, rfl⟩⟩⟩
theorem of_link : shLink.Of Tryz.prog (.inl 96) := ⟨_, Tryz.underlying96, by kernel_rfl, ⟨_, _, rfl, rfl, by kernel_rfl, of_conf, ⟨_, _, rfl, rfl, by kernel_rfl, of_sigs, rfl⟩⟩⟩
theorem of_links : shLinks.Of Tryz.prog (.inl 46) := ⟨_, Tryz.underlying46, by kernel_rfl, by kernel_rfl, rfl, by decide, of_link⟩
theorem of_opr : shOpr.Of Tryz.prog (.inl 39) := ⟨_, Tryz.underlying39, by kernel_rfl, ⟨_, _, rfl, rfl, by kernel_rfl, Tryz.underlying3, ⟨_, _, rfl, rfl, by kernel_rfl, Tryz.underlying9, ⟨_, _, rfl, rfl, by kernel_rfl, Tryz.underlying37, ⟨_, _, rfl, rfl, by kernel_rfl, Tryz.underlying3, rfl⟩⟩⟩⟩⟩
theorem of_req : shReq.Of Tryz.prog (.inl 41) := ⟨_, Tryz.underlying41, by kernel_rfl, ⟨_, _, rfl, rfl, by kernel_rfl, Tryz.underlying3, ⟨_, _, rfl, rfl, by kernel_rfl, Tryz.underlying3, ⟨_, _, rfl, rfl, by kernel_rfl, of_opr, rfl⟩⟩⟩⟩
theorem of_res : shRes.Of Tryz.prog (.inl 43) := ⟨_, Tryz.underlying43, by kernel_rfl, ⟨_, _, rfl, rfl, by kernel_rfl, Tryz.underlying3, ⟨_, _, rfl, rfl, by kernel_rfl, Tryz.underlying37, rfl⟩⟩⟩
theorem of_cert : shCert.Of Tryz.prog (.inl 92) := ⟨_, Tryz.underlying92, by kernel_rfl, ⟨_, _, rfl, rfl, by kernel_rfl, Tryz.underlying3, ⟨_, _, rfl, rfl, by kernel_rfl, Tryz.underlying3, ⟨_, _, rfl, rfl, by kernel_rfl, of_req, ⟨_, _, rfl, rfl, by kernel_rfl, of_sigs, rfl⟩⟩⟩⟩⟩
theorem of_certs : shCerts.Of Tryz.prog (.inl 88) := ⟨_, Tryz.underlying88, by kernel_rfl, by kernel_rfl, rfl, by decide, of_cert⟩
theorem of_chg : shChg.Of Tryz.prog (.inl 90) := ⟨_, Tryz.underlying90, by kernel_rfl, ⟨_, _, rfl, rfl, by kernel_rfl, Tryz.underlying3, ⟨_, _, rfl, rfl, by kernel_rfl, Tryz.underlying3, ⟨_, _, rfl, rfl, by kernel_rfl, of_certs, ⟨_, _, rfl, rfl, by kernel_rfl, of_sig, rfl⟩⟩⟩⟩⟩
theorem of_chgs : shChgs.Of Tryz.prog (.inl 45) := ⟨_, Tryz.underlying45, by kernel_rfl, by kernel_rfl, rfl, by decide, of_chg⟩
theorem of_msg : shMsg.Of Tryz.prog (.inl 48) := ⟨_, Tryz.underlying48, by kernel_rfl, ⟨_, _, rfl, rfl, by kernel_rfl, Tryz.underlying3, ⟨_, _, rfl, rfl, by kernel_rfl, Tryz.underlying3, ⟨_, _, rfl, rfl, by kernel_rfl, Tryz.underlying3, ⟨_, _, rfl, rfl, by kernel_rfl, Tryz.underlying3, ⟨_, _, rfl, rfl, by kernel_rfl, of_req, ⟨_, _, rfl, rfl, by kernel_rfl, of_res, ⟨_, _, rfl, rfl, by kernel_rfl, Tryz.underlying9, ⟨_, _, rfl, rfl, by kernel_rfl, of_ints, ⟨_, _, rfl, rfl, by kernel_rfl, of_sigs, ⟨_, _, rfl, rfl, by kernel_rfl, of_chgs, ⟨_, _, rfl, rfl, by kernel_rfl, of_links, rfl⟩⟩⟩⟩⟩⟩⟩⟩⟩⟩⟩⟩
theorem fits_map {α : Type} {f : α → List Dat} {Q : α → Prop} : ∀ (es : List (List Dat)), (∀ d, d ∈ es → ∃ x, d = f x ∧ Q x) → ∃ xs : List α, es = xs.map f ∧ ∀ x, x ∈ xs → Q x
  | [], _ => ⟨[], rfl, fun x h => by cases h⟩
  | e :: es, h => by
    obtain ⟨x, rfl, hx⟩ := h e (List.mem_cons_self ..)
    obtain ⟨xs, rfl, hxs⟩ := fits_map es (fun d hd => h d (List.mem_cons_of_mem _ hd))
    refine ⟨x :: xs, rfl, fun y hy => ?_⟩
    rcases List.mem_cons.1 hy with rfl | hy
    · exact hx
    · exact hxs y hy
/-- Bounds of what came in. -/
def iR (z : Int) : Prop := -9223372036854775808 ≤ z ∧ z ≤ 9223372036854775807
def rqR (r : Rq) : Prop := (iR r.c ∧ iR r.st) ∧ (iR r.k ∧ iR r.id) ∧ r.key.size ≤ maxLen ∧ r.b < 18446744073709551616
def sgsR (l : List Sg) : Prop := l.length ≤ maxLen ∧ ∀ p, p ∈ l → iR p.1 ∧ p.2.size ≤ maxLen
def ctR (c : Ct) : Prop := (iR c.1 ∧ iR c.2.1) ∧ rqR c.2.2.1 ∧ sgsR c.2.2.2
def cgR (c : Cg) : Prop := (iR c.1 ∧ iR c.2.1) ∧ (c.2.2.1.length ≤ maxLen ∧ ∀ x, x ∈ c.2.2.1 → ctR x) ∧ iR c.2.2.2.1 ∧ c.2.2.2.2.size ≤ maxLen
def intsR (l : List Int) : Prop := l.length ≤ maxLen ∧ ∀ x, x ∈ l → iR x
def lnR (k : Ln) : Prop := iR k.1.1 ∧ intsR k.1.2 ∧ sgsR k.2
structure MsB (m : Ms) : Prop where
  k : iR m.k
  ep : iR m.ep
  v : iR m.v
  sl : iR m.sl
  rq : rqR m.rq
  rc : iR m.rs.1
  rf : m.rs.2 < 18446744073709551616
  tx : m.tx.size ≤ maxLen
  nx : intsR m.nx
  sg : sgsR m.sg
  cg : m.cg.length ≤ maxLen ∧ ∀ x, x ∈ m.cg → cgR x
  ln : m.ln.length ≤ maxLen ∧ ∀ x, x ∈ m.ln → lnR x
theorem MsB.r {m : Ms} (h : MsB m) : MsR m := ⟨h.rq.2.2.2, h.rf, fun c hc x hx => ((h.cg.2 c hc).2.1.2 x hx).2.1.2.2.2⟩
section
variable {S : Prop} {U : Nat}
theorem fit_ints {ds : List Dat} (h : Fits S U shInts ds) : ∃ xs : List Int, ds = [dInts xs] ∧ intsR xs := by
  obtain ⟨es, rfl, h1, _, _, h3⟩ := h
  obtain ⟨xs, rfl, h4⟩ := fits_map (f := fun x : Int => [Dat.i x]) (Q := iR) es (fun d hd => by obtain ⟨x, hx, hr⟩ := h3 d hd; exact ⟨x, hx, hr⟩)
  rw [List.length_map] at h1
  exact ⟨xs, rfl, h1, h4⟩
theorem fit_sig {ds : List Dat} (h : Fits S U shSig ds) : ∃ p : Sg, ds = [.i p.1, .s p.2] ∧ iR p.1 ∧ p.2.size ≤ maxLen := by
  obtain ⟨d1, d2, rfl, ⟨x, rfl, hx⟩, d3, d4, rfl, ⟨y, rfl, hy, _⟩, rfl⟩ := h
  exact ⟨(x, y), rfl, hx, hy⟩
theorem fit_sigs {ds : List Dat} (h : Fits S U shSigs ds) : ∃ ps : List Sg, ds = [dPairs ps] ∧ sgsR ps := by
  obtain ⟨es, rfl, h1, _, _, h3⟩ := h
  obtain ⟨ps, rfl, h4⟩ := fits_map (f := fun p : Sg => [Dat.i p.1, Dat.s p.2]) (Q := fun p => iR p.1 ∧ p.2.size ≤ maxLen) es (fun d hd => fit_sig (h3 d hd))
  rw [List.length_map] at h1
  exact ⟨ps, rfl, h1, h4⟩
theorem fit_req {ds : List Dat} (h : Fits S U shReq ds) : ∃ r : Rq, ds = [.i r.c, .i r.st, .i r.k, .s r.key, .f r.b, .i r.id] ∧ rqR r := by
  obtain ⟨d1, d2, rfl, ⟨c, rfl, hc⟩, d3, d4, rfl, ⟨st, rfl, hst⟩, d5, d6, rfl, ⟨d7, d8, rfl, ⟨k, rfl, hk⟩, d9, d10, rfl, ⟨key, rfl, hkey, _⟩, d11, d12, rfl, ⟨b, rfl, hb⟩, d13, d14, rfl, ⟨id, rfl, hid⟩, rfl⟩, rfl⟩ := h
  exact ⟨⟨c, st, k, key, b, id⟩, rfl, ⟨hc, hst⟩, ⟨hk, hid⟩, hkey, hb⟩
theorem fit_cert {ds : List Dat} (h : Fits S U shCert ds) : ∃ c : Ct, ds = dCt c ∧ ctR c := by
  obtain ⟨d1, d2, rfl, ⟨v, rfl, hv⟩, d3, d4, rfl, ⟨sl, rfl, hsl⟩, d5, d6, rfl, hr, d7, d8, rfl, hs, rfl⟩ := h
  obtain ⟨r, rfl, hr2⟩ := fit_req hr
  obtain ⟨ps, rfl, hp⟩ := fit_sigs hs
  exact ⟨(v, sl, r, ps), rfl, ⟨hv, hsl⟩, hr2, hp⟩
theorem fit_certs {ds : List Dat} (h : Fits S U shCerts ds) : ∃ l : List Ct, ds = [dCts l] ∧ l.length ≤ maxLen ∧ ∀ x, x ∈ l → ctR x := by
  obtain ⟨es, rfl, h1, _, _, h3⟩ := h
  obtain ⟨l, rfl, h4⟩ := fits_map (f := dCt) (Q := ctR) es (fun d hd => fit_cert (h3 d hd))
  rw [List.length_map] at h1
  exact ⟨l, rfl, h1, h4⟩
theorem fit_chg {ds : List Dat} (h : Fits S U shChg ds) : ∃ c : Cg, ds = dCg c ∧ cgR c := by
  obtain ⟨d1, d2, rfl, ⟨v, rfl, hv⟩, d3, d4, rfl, ⟨sl, rfl, hsl⟩, d5, d6, rfl, hr, d7, d8, rfl, hs, rfl⟩ := h
  obtain ⟨l, rfl, hl⟩ := fit_certs hr
  obtain ⟨p, rfl, hp⟩ := fit_sig hs
  exact ⟨(v, sl, l, p), rfl, ⟨hv, hsl⟩, hl, hp⟩
theorem fit_chgs {ds : List Dat} (h : Fits S U shChgs ds) : ∃ l : List Cg, ds = [dCgs l] ∧ l.length ≤ maxLen ∧ ∀ x, x ∈ l → cgR x := by
  obtain ⟨es, rfl, h1, _, _, h3⟩ := h
  obtain ⟨l, rfl, h4⟩ := fits_map (f := dCg) (Q := cgR) es (fun d hd => fit_chg (h3 d hd))
  rw [List.length_map] at h1
  exact ⟨l, rfl, h1, h4⟩
theorem fit_link {ds : List Dat} (h : Fits S U shLink ds) : ∃ k : Ln, ds = dLn k ∧ lnR k := by
  obtain ⟨d1, d2, rfl, ⟨d5, d6, rfl, ⟨x, rfl, hx⟩, d7, d8, rfl, hi, rfl⟩, d3, d4, rfl, h3, rfl⟩ := h
  obtain ⟨xs, rfl, h4⟩ := fit_ints hi
  obtain ⟨ps, rfl, h6⟩ := fit_sigs h3
  exact ⟨((x, xs), ps), rfl, hx, h4, h6⟩
theorem fit_links {ds : List Dat} (h : Fits S U shLinks ds) : ∃ l : List Ln, ds = [dLns l] ∧ l.length ≤ maxLen ∧ ∀ x, x ∈ l → lnR x := by
  obtain ⟨es, rfl, h1, _, _, h3⟩ := h
  obtain ⟨l, rfl, h4⟩ := fits_map (f := dLn) (Q := lnR) es (fun d hd => fit_link (h3 d hd))
  rw [List.length_map] at h1
  exact ⟨l, rfl, h1, h4⟩
theorem fit_msg {ds : List Dat} (h : Fits S U shMsg ds) : ∃ m : Ms, ds = dMs m ∧ MsB m := by
  obtain ⟨d1, d2, rfl, ⟨k, rfl, hk⟩, d3, d4, rfl, ⟨ep, rfl, hep⟩, d5, d6, rfl, ⟨v, rfl, hv⟩, d7, d8, rfl, ⟨sl, rfl, hsl⟩, d9, d10, rfl, hr, d11, d12, rfl, ⟨e1, e2, rfl, ⟨rc, rfl, hrc⟩, e3, e4, rfl, ⟨rf, rfl, hrf⟩, rfl⟩, d13, d14, rfl, ⟨tx, rfl, htx, _⟩, d15, d16, rfl, hi, d17, d18, rfl, hs, d19, d20, rfl, hc, d21, d22, rfl, hl, rfl⟩ := h
  obtain ⟨r, rfl, hr2⟩ := fit_req hr
  obtain ⟨xs, rfl, hx⟩ := fit_ints hi
  obtain ⟨ps, rfl, hp⟩ := fit_sigs hs
  obtain ⟨cg, rfl, hcg⟩ := fit_chgs hc
  obtain ⟨ln, rfl, hln⟩ := fit_links hl
  exact ⟨⟨k, ep, v, sl, r, (rc, rf), tx, xs, ps, cg, ln⟩, rfl, ⟨hk, hep, hv, hsl, hr2, hrc, hrf, htx, hx, hp, hcg, hln⟩⟩
end
/-- A message's cells, with its four lists at v13 to v16. -/
def msC (m : Ms) (v13 v14 v15 v16 : Value) : List Value := [.int .i64 m.k, .int .i64 m.ep, .int .i64 m.v, .int .i64 m.sl, .int .i64 m.rq.c, .int .i64 m.rq.st, .int .i64 m.rq.k, .string m.rq.key, .float .f64 m.rq.b, .int .i64 m.rq.id, .int .i64 m.rs.1, .float .f64 m.rs.2, .string m.tx, v13, v14, v15, v16]
/-- The lists of a message lie in w, in blocks of F. -/
structure MsL (F : Nat → Prop) (w : World) (m : Ms) (v13 v14 v15 v16 : Value) : Prop where
  nx : Reads F w v13 (dInts m.nx)
  sg : Reads F w v14 (dPairs m.sg)
  cg : Reads F w v15 (dCgs m.cg)
  ln : Reads F w v16 (dLns m.ln)
theorem MsL.keep {F : Nat → Prop} {w w' : World} {m : Ms} {v13 v14 v15 v16 : Value} (h : MsL F w m v13 v14 v15 v16) (hs : w.heap.size ≤ w'.heap.size) (hb : ∀ k, k < w.heap.size → F k → w'.heap[k]? = w.heap[k]?) : MsL F w' m v13 v14 v15 v16 :=
  ⟨h.nx.keep hs hb, h.sg.keep hs hb, h.cg.keep hs hb, h.ln.keep hs hb⟩
theorem MsL.under {F : Nat → Prop} {w w' : World} {m : Ms} {v13 v14 v15 v16 : Value} (h : MsL F w m v13 v14 v15 v16) (hb : Below w.heap.size w w') : MsL F w' m v13 v14 v15 v16 := h.keep hb.size (fun k hk _ => hb.block k hk)
theorem ms_cells {F : Nat → Prop} {w : World} {cs : List Value} {m : Ms} (hl : cs.length = 17) (h : CellsAre F w cs (dMs m)) : ∃ v13 v14 v15 v16, cs = msC m v13 v14 v15 v16 ∧ MsL F w m v13 v14 v15 v16 := by
  match cs, hl with
  | [c0, c1, c2, c3, c4, c5, c6, c7, c8, c9, c10, c11, c12, c13, c14, c15, c16], _ =>
    obtain ⟨_, e0, r0, _⟩ := h 0 _ rfl
    obtain ⟨_, e1, r1, _⟩ := h 1 _ rfl
    obtain ⟨_, e2, r2, _⟩ := h 2 _ rfl
    obtain ⟨_, e3, r3, _⟩ := h 3 _ rfl
    obtain ⟨_, e4, r4, _⟩ := h 4 _ rfl
    obtain ⟨_, e5, r5, _⟩ := h 5 _ rfl
    obtain ⟨_, e6, r6, _⟩ := h 6 _ rfl
    obtain ⟨_, e7, r7, _⟩ := h 7 _ rfl
    obtain ⟨_, e8, r8, _⟩ := h 8 _ rfl
    obtain ⟨_, e9, r9, _⟩ := h 9 _ rfl
    obtain ⟨_, e10, r10, _⟩ := h 10 _ rfl
    obtain ⟨_, e11, r11, _⟩ := h 11 _ rfl
    obtain ⟨_, e12, r12, _⟩ := h 12 _ rfl
    obtain ⟨_, e13, r13, _⟩ := h 13 _ rfl
    obtain ⟨_, e14, r14, _⟩ := h 14 _ rfl
    obtain ⟨_, e15, r15, _⟩ := h 15 _ rfl
    obtain ⟨_, e16, r16, _⟩ := h 16 _ rfl
    cases e0; cases e1; cases e2; cases e3; cases e4; cases e5; cases e6; cases e7; cases e8; cases e9; cases e10; cases e11; cases e12; cases e13; cases e14; cases e15; cases e16
    exact ⟨c13, c14, c15, c16, by rw [r0.int, r1.int, r2.int, r3.int, r4.int, r5.int, r6.int, r7.str, r8.flt, r9.int, r10.int, r11.flt, r12.str]; rfl, r13, r14, r15, r16⟩
end Go.Proofs.YthjgnfeadagmeaaGreat

/- The contracts of the reference of package reals (all but the texts). -/
namespace Go.Proofs.YthjgnfeadagmeaaGreat
open Go.RowKit

theorem wild_any (n : Nat) (w : World) : Calls Tryz.prog 130 #[.int .u64 (n : Int)] w fun e w' => e = .returned (.bool (nanW n)) ∧ w' = w := by
  go_enter Tryz.func130, Tryz.ntmps130
  go_wp2
  · rename_i h
    go_ret
    refine ⟨?_, rfl⟩
    show Ending.returned (.bool _) = _
    congr 2
    rw [Bool.eq_iff_iff]
    simp [nanW]
    omega
  · rename_i h
    go_ret
    refine ⟨?_, rfl⟩
    have : nanW n = false := by simp [nanW]; omega
    rw [this]; rfl

theorem kbits_any (b : Nat) (w : World) : Calls Tryz.prog 89 #[.float .f64 b] w fun e w' => e = .returned (.int .u64 (canW b : Nat)) ∧ w' = w := by
  go_enter Tryz.func89, Tryz.ntmps89
  cases hn : nanW b
  · go_wp2_with (first | (go_at_call 130; refine (wild_any _ _).mono ?_; rintro e w1 ⟨rfl, rfl⟩; rw [hn]) | rw [fb_run])
    go_ret
    exact ⟨by simp [canW, hn], rfl⟩
  · go_wp2_with (first | (go_at_call 130; refine (wild_any _ _).mono ?_; rintro e w1 ⟨rfl, rfl⟩; rw [hn]) | rw [fb_run])
    go_ret
    exact ⟨by simp [canW, hn], rfl⟩

def placeW (n : Nat) : Nat := bif nanW n then 18446744073709551615 else bif decide (9223372036854775808 ≤ n) then 9223372036854775807 - n % 9223372036854775808 else 9223372036854775808 + n
theorem canW_ne (n : Nat) : (canW n == n) = !(nanW n && n != 9221120237041090560) := by
  cases h : nanW n
  · simp [canW, h]
  · simp [canW, h]
    rw [Bool.eq_iff_iff]; simp; omega
theorem rank_place (a b : Nat) (ha : a < 18446744073709551616) (hb : b < 18446744073709551616) : (rankW a < rankW b) ↔ (placeW a < placeW b) := by
  have h1 : ∀ n, nanW n = true → rankW n = 18444492273895866368 ∧ placeW n = 18446744073709551615 := fun n h => by simp [rankW, placeW, canW, h]
  have h2 : ∀ n, n < 18446744073709551616 → nanW n = false → rankW n = placeW n ∧ rankW n ≤ 18442240474082181120 := fun n hn h => by
    have hl : ¬ (9218868437227405312 < n % 9223372036854775808) := by simpa [nanW] using h
    by_cases hg : 9223372036854775808 ≤ n
    · simp [rankW, placeW, canW, h, hg]; omega
    · simp [rankW, placeW, canW, h, hg]; omega
  cases hx : nanW a <;> cases hy : nanW b
  · rw [(h2 a ha hx).1, (h2 b hb hy).1]
  · have := h2 a ha hx; have := h1 b hy; omega
  · have := h1 a hx; have := h2 b hb hy; omega
  · have := h1 a hx; have := h1 b hy; omega

theorem rank_can (a : Nat) : rankW (canW a) = rankW a := by simp only [rankW, canW_idem]

end Go.Proofs.YthjgnfeadagmeaaGreat

/- strings.Clone, as the library has it. -/
namespace Go.Proofs.YthjgnfeadagmeaaGreat
open Go.RowKit

def renLMn316 : Go.Shelf.Ren := ⟨fun | 316 => 93 | n => n, fun | 0 => 0 | 3 => 3 | 4 => 4 | 5 => 5 | 9 => 9 | 37 => 160 | 127 => 178 | n => n, fun | n => n⟩
theorem layLMn316 : Go.Proofs.LaysM.n316 Tryz.prog renLMn316 := {
  mixed := by kernel_rfl
  f316 := Tryz.func93.trans (congrArg some (by kernel_rfl))
  t0 := Tryz.underlying0
  a0 := Tryz.isAgg0
  z0 := Tryz.sizeOf0
  v0 := Tryz.zeroValue0
  t3 := Tryz.underlying3
  a3 := Tryz.isAgg3
  z3 := Tryz.sizeOf3
  v3 := Tryz.zeroValue3
  t4 := Tryz.underlying4
  a4 := Tryz.isAgg4
  z4 := Tryz.sizeOf4
  v4 := Tryz.zeroValue4
  t9 := Tryz.underlying9
  a9 := Tryz.isAgg9
  z9 := Tryz.sizeOf9
  v9 := Tryz.zeroValue9
  t37 := Tryz.underlying160
  a37 := Tryz.isAgg160
  z37 := Tryz.sizeOf160
  v37 := Tryz.zeroValue160
  t127 := Tryz.underlying178
  a127 := Tryz.isAgg178
  z127 := Tryz.sizeOf178
  v127 := Tryz.zeroValue178
  t5 := Tryz.underlying5
  a5 := Tryz.isAgg5
  z5 := Tryz.sizeOf5
  v5 := Tryz.zeroValue5
  i0 := by kernel_rfl
  i3 := by kernel_rfl
  i4 := by kernel_rfl
  i5 := by kernel_rfl
  i9 := by kernel_rfl
  i37 := by kernel_rfl
  i127 := by kernel_rfl }
set_option maxRecDepth 100000 in
theorem sclone_any (t : ByteArray) (ht : t.size ≤ 281474976710656) (w : World) : Calls Tryz.prog 57 #[.string t] w fun e w' => e = .returned (.string t) ∧ Below w.heap.size w w' := by
  have hc := fun u : World => Any.stringslite_Clone layLMn316 t u ht
  go_enter Tryz.func57, Tryz.ntmps57
  go_wp2_with (go_at_call 93; refine (hc _).mono ?_; rintro e w1 ⟨rfl, hb⟩; have H1 := hid hb; clear hb)
  go_ret
  exact ⟨rfl, H1.out⟩
end Go.Proofs.YthjgnfeadagmeaaGreat

/- Regions that draw, reads taken first, where what stands at their end writes what was read: behind the operations named (they wait for all that is taken) the condition need not hold. -/
namespace Go.Proofs.YthjgnfeadagmeaaGreat
open Go.RowKit

section
variable {P : Program} {ops : Array Oper} {Q : Exit → Act → World → Prop} {md : Region.Mode} {S : World → Prop} {ex : List Nat}
/-- k waits for i. -/
def reachB (md : Region.Mode) (ops : Array Oper) : Nat → Nat → Nat → Bool
  | 0, _, _ => false
  | n + 1, k, i => match ops[k]? with
    | none => false
    | some o => o.after.any fun e => Region.binds md e && (e.on == i || reachB md ops n e.on i)
def Closed (md : Region.Mode) (ops : Array Oper) (listed : Array Bool) : Prop := ∀ (j : Nat) (o : Oper), ops[j]? = some o → listed.getD j false = true → ∀ e ∈ o.after, Region.binds md e = true → listed.getD e.on false = true
def closedB (md : Region.Mode) (ops : Array Oper) (listed : Array Bool) : Bool := (List.range ops.size).all fun j => !(listed.getD j false) || match ops[j]? with
  | none => true
  | some o => o.after.all fun e => !(Region.binds md e) || listed.getD e.on false
theorem closed_of {listed : Array Bool} (h : closedB md ops listed = true) : Closed md ops listed := fun j o ho hl e he hb => by
  have hj : j < ops.size := (Array.getElem?_eq_some_iff.1 ho).1
  have h1 := List.all_eq_true.1 h j (List.mem_range.2 hj)
  simp only [hl, ho, Bool.not_true, Bool.false_or] at h1
  have h2 := Array.all_eq_true_iff_forall_mem.1 h1 e he
  simpa [hb] using h2
theorem reach_listed {listed : Array Bool} (hc : Closed md ops listed) {i : Nat} : ∀ (n k : Nat), reachB md ops n k i = true → (∀ o, ops[k]? = some o → ∀ e ∈ o.after, Region.binds md e = true → listed.getD e.on false = true) → listed.getD i false = true
  | 0, _, h, _ => by simp [reachB] at h
  | n + 1, k, h, hk => by
    rw [reachB] at h
    cases ho : ops[k]? with
    | none => rw [ho] at h; cases h
    | some o =>
      rw [ho] at h
      obtain ⟨q, hq, h1⟩ := Array.any_eq_true.1 h
      have he := Array.getElem_mem hq
      generalize o.after[q] = e at he h1
      rw [Bool.and_eq_true, Bool.or_eq_true] at h1
      have hl := hk o ho e he h1.1
      rcases h1.2 with h2 | h2
      · rw [beq_iff_eq] at h2
        rw [← h2]
        exact hl
      · exact reach_listed hc n e.on h2 (fun o' ho' e' he' hb' => hc e.on o' ho' hl e' he' hb')
theorem closed_step {listed : Array Bool} (hc : Closed md ops listed) {j : Nat} (hj : j ∈ Region.ready md ops listed) : Closed md ops (listed.setIfInBounds j true) := fun k o ho hl e he hb => by
  by_cases hkj : j = k
  · subst hkj
    obtain ⟨_, o', ho', hall⟩ := mem_ready.1 hj
    rw [ho] at ho'
    cases ho'
    exact getD_set_true (hall e he hb)
  · rw [getD_set_ne false hkj] at hl
    exact getD_set_true (hc k o ho hl e he hb)
def wpAnyG (P : Program) (md : Region.Mode) (ops : Array Oper) (Q : Exit → Act → World → Prop) (S : World → Prop) (ex : List Nat) : Nat → Array Bool → Act → World → Prop
  | 0, listed, a, w => Region.ready md ops listed = [] ∧ Q .normal a w
  | fuel + 1, listed, a, w =>
    (Region.ready md ops listed = [] → Q .normal a w) ∧
    ∀ i ∈ Region.ready md ops listed, wpOp P ops Q i (fun a' w' => (i ∉ ex → S w') ∧ wpAnyG P md ops Q S ex fuel (listed.setIfInBounds i true) a' w') a w
theorem wpAny_of_G : ∀ (fuel : Nat) (listed : Array Bool) (a : Act) (w : World), wpAnyG P md ops Q S ex fuel listed a w → wpAny P md ops Q fuel listed a w
  | 0, _, _, _, h => h
  | fuel + 1, _, _, _, h => ⟨h.1, fun i hi => wpOp_mono (fun a' w' h' => wpAny_of_G fuel _ a' w' h'.2) (h.2 i hi)⟩
theorem wpAnyG_first {i : Nat} {oi : Oper} {v : Value} (hi : ops[i]? = some oi) (hsel : ∀ (j : Nat) (o : Oper) cs b, ops[j]? = some o → o.op ≠ .select cs b)
    (hQ : ∀ c a w, Q (.panic c) (a.put oi.dst v) w → Q (.panic c) a w) (N : Nat) (hex : ∀ k, k ∈ ex → reachB md ops N k i = true) :
    ∀ (fuel : Nat) (listed : Array Bool) (a : Act) (w : World), Closed md ops listed →
      (∀ j oj, ops[j]? = some oj → j ≠ i → listed.getD j true = false → (∀ e ∈ oj.after, Region.binds md e = true → e.on ≠ i) → oi.apart ops oj = true) →
      i ∈ Region.ready md ops listed → YieldsIf P ops S oi v a → S w →
      wpAnyG P md ops Q S ex fuel (listed.setIfInBounds i true) (a.put oi.dst v) w → wpAnyG P md ops Q S ex (fuel + 1) listed a w := by
  intro fuel
  induction fuel with
  | zero =>
    intro listed a w _ _ hr hy hS H
    refine ⟨fun h => (by rw [h] at hr; cases hr), fun j hj => ?_⟩
    by_cases hji : j = i
    · subst hji; exact hy.wpOp hi hS ⟨fun _ => hS, H⟩
    · have := ready_mono hj hji
      rw [H.1] at this
      cases this
  | succ fuel ih =>
    intro listed a w hcl hfree hr hy hS H
    refine ⟨fun h => (by rw [h] at hr; cases hr), fun j hj => ?_⟩
    by_cases hji : j = i
    · subst hji; exact hy.wpOp hi hS ⟨fun _ => hS, H⟩
    · have h1 := H.2 j (ready_mono hj hji)
      obtain ⟨hjun, oj, hoj, hall⟩ := mem_ready.1 hj
      have hun := (mem_ready.1 hr).1
      have hnex : j ∉ ex := fun hje => by
        have hl := reach_listed hcl N j (hex j hje) (fun o ho e he hb => by rw [hoj] at ho; cases ho; exact hall e he hb)
        rcases Nat.lt_or_ge i listed.size with h' | h'
        · simp [h'] at hun hl; rw [hun] at hl; cases hl
        · simp [Array.getElem?_eq_none h'] at hl
      have hnot : ∀ e ∈ oj.after, Region.binds md e = true → e.on ≠ i := fun e he hb heq => by
        have h1 := hall e he hb
        rw [heq] at h1
        rcases Nat.lt_or_ge i listed.size with h' | h'
        · simp [h'] at hun h1; rw [hun] at h1; cases h1
        · simp [Array.getElem?_eq_none h'] at h1
      have h2 := wpOp_putIf hoj (hfree j oj hoj hji hjun hnot) (fun cs b => hsel i oi cs b hi) (fun cs b => hsel j oj cs b hoj) hQ hy h1
      have hfree' : ∀ k ok, ops[k]? = some ok → k ≠ i → (listed.setIfInBounds j true).getD k true = false →
          (∀ e ∈ ok.after, Region.binds md e = true → e.on ≠ i) → oi.apart ops ok = true := fun k ok hk hki hun hno => by
        refine hfree k ok hk hki ?_ hno
        by_cases hjk : j = k
        · subst hjk; exact hjun
        · rw [getD_set_ne true hjk] at hun; exact hun
      refine wpOp_mono (fun a' w' h3 => ⟨h3.2.1, ih (listed.setIfInBounds j true) a' w' (closed_step hcl hj) hfree' (ready_mono hr (Ne.symm hji)) h3.1 (h3.2.1 hnex) ?_⟩) h2
      rw [Array.setIfInBounds_comm _ _ hji]
      exact h3.2.2
theorem wpAnyG_take {i : Nat} {oi : Oper} {v : Value} {fuel : Nat} {listed : Array Bool} {a : Act} {w : World} (hi : ops[i]? = some oi)
    (hb : (Region.noSelect ops && (Region.free md ops listed i && ((Region.ready md ops listed).contains i && (closedB md ops listed && ex.all fun k => reachB md ops ops.size k i)))) = true)
    (hQ : ∀ c a w, Q (.panic c) (a.put oi.dst v) w → Q (.panic c) a w) (hy : YieldsIf P ops S oi v a) (hS : S w)
    (h : wpAnyG P md ops Q S ex fuel (listed.setIfInBounds i true) (a.put oi.dst v) w) : wpAnyG P md ops Q S ex (fuel + 1) listed a w := by
  simp only [Bool.and_eq_true] at hb
  obtain ⟨hs, hf, hr, hc, he⟩ := hb
  exact wpAnyG_first hi (Region.noSelect_spec hs) hQ ops.size (fun k hk => List.all_eq_true.1 he k hk) fuel listed a w (closed_of hc) (Region.free_spec hi hf) (by simpa using hr) hy hS h
theorem wpAnyG_all {rs : List Nat} {fuel : Nat} {listed : Array Bool} {a : Act} {w : World} (hr : Region.ready md ops listed = rs) (hne : rs ≠ [])
    (h : ∀ i ∈ rs, wpOp P ops Q i (fun a' w' => (i ∉ ex → S w') ∧ wpAnyG P md ops Q S ex fuel (listed.setIfInBounds i true) a' w') a w) : wpAnyG P md ops Q S ex (fuel + 1) listed a w :=
  ⟨fun h0 => absurd (hr ▸ h0) hne, hr ▸ h⟩
theorem wpAnyG_done {listed : Array Bool} {a : Act} {w : World} (hr : Region.ready md ops listed = []) (h : Q .normal a w) :
    ∀ fuel, wpAnyG P md ops Q S ex fuel listed a w
  | 0 => ⟨hr, h⟩
  | _ + 1 => ⟨fun _ => h, by rw [hr]; simp⟩
theorem wp_region_G {id : Nat} {a : Act} {w : World} (hm : P.follows .mixedOrders = true)
    (h : wpAnyG P .any ops Q S ex ops.size (Array.replicate ops.size false) a { w with drawn := w.drawn + 1 }) : (Code.region id ops true).wp P Q a w :=
  wp_region_any hm (wpAny_of_G _ _ _ _ h)
end
end Go.Proofs.YthjgnfeadagmeaaGreat

/- Signatures as pairs. No walk here. -/
namespace Go.Proofs.YthjgnfeadagmeaaGreat
open Go.RowKit

def eqP (p q : Int × ByteArray) : Bool := decide (p.1 = q.1) && decide (p.2.data.toList = q.2.data.toList)
theorem eqP_iff (p q : Int × ByteArray) : eqP p q = true ↔ p = q := by
  unfold eqP
  rw [Bool.and_eq_true_iff, decide_eq_true_iff, decide_eq_true_iff]
  constructor
  · rintro ⟨h1, h2⟩
    exact Prod.ext h1 (bytes_eq h2)
  · rintro rfl
    exact ⟨rfl, rfl⟩
def stands (l : List (Int × ByteArray)) (p : Int × ByteArray) : Bool := l.any (eqP p)
theorem stands_iff (l : List (Int × ByteArray)) (p : Int × ByteArray) : stands l p = true ↔ p ∈ l := by
  unfold stands
  rw [List.any_eq_true]
  constructor
  · rintro ⟨q, hq, h⟩
    rw [(eqP_iff p q).1 h]
    exact hq
  · intro h
    exact ⟨p, h, (eqP_iff p p).2 rfl⟩
theorem stands_no {l : List (Int × ByteArray)} {p : Int × ByteArray} (h : p ∉ l) : stands l p = false := by
  cases e : stands l p with
  | false => rfl
  | true => exact absurd ((stands_iff l p).1 e) h
theorem stands_snoc {l : List (Int × ByteArray)} {p : Int × ByteArray} {j : Nat} (h : p ∉ l.take j) (hx : (idOf l j, rtOf l j) ≠ p) (hj : j < l.length) : p ∉ l.take (j + 1) := by
  rw [List.take_add_one, getP_some hj]
  intro hm
  rcases List.mem_append.1 hm with h1 | h1
  · exact h h1
  · exact hx (List.mem_singleton.1 h1).symm
theorem stands_at {l : List (Int × ByteArray)} {p : Int × ByteArray} {j : Nat} (hx : (idOf l j, rtOf l j) = p) (hj : j < l.length) : p ∈ l := by
  rw [← hx]
  exact List.mem_of_getElem? (getP_some hj)
end Go.Proofs.YthjgnfeadagmeaaGreat

/- Who signed a text, gathered. No walk here. -/
namespace Go.Proofs.YthjgnfeadagmeaaGreat
open Go.RowKit

/-- Numbers with one text. -/
def gP (t : ByteArray) (zs : List Int) : List (Int × ByteArray) := zs.map fun z => (z, t)
theorem gP_len (t : ByteArray) (zs : List Int) : (gP t zs).length = zs.length := by simp [gP]
theorem gP_app (t : ByteArray) (a b : List Int) : gP t (a ++ b) = gP t a ++ gP t b := by simp [gP]
theorem gP_mem (t : ByteArray) (zs : List Int) (z : Int) : (z, t) ∈ gP t zs ↔ z ∈ zs := by
  unfold gP
  rw [List.mem_map]
  constructor
  · rintro ⟨y, hy, h⟩
    have e : y = z := congrArg Prod.fst h
    rw [← e]
    exact hy
  · intro h
    exact ⟨z, h, rfl⟩
theorem gP_stands (t : ByteArray) (zs : List Int) (z : Int) : stands (gP t zs) (z, t) = hasM zs z := by
  by_cases h : z ∈ zs
  · rw [(stands_iff _ _).2 ((gP_mem t zs z).2 h)]
    exact (decide_eq_true h).symm
  · rw [stands_no (fun hm => h ((gP_mem t zs z).1 hm))]
    exact (decide_eq_false h).symm
/-- The members whose signature is there, each once. -/
def gOut (l : List Int) (t : ByteArray) (ss : List (Int × ByteArray)) : Nat → List Int
  | 0 => []
  | j + 1 => gOut l t ss j ++ (if stands ss (l.getD j 0, t) = true ∧ hasM (gOut l t ss j) (l.getD j 0) = false then [l.getD j 0] else [])
theorem gOut_yes {l : List Int} {t : ByteArray} {ss : List (Int × ByteArray)} {j : Nat} (h1 : stands ss (l.getD j 0, t) = true) (h2 : hasM (gOut l t ss j) (l.getD j 0) = false) : gOut l t ss (j + 1) = gOut l t ss j ++ [l.getD j 0] := by rw [gOut, if_pos ⟨h1, h2⟩]
theorem gOut_no {l : List Int} {t : ByteArray} {ss : List (Int × ByteArray)} {j : Nat} (h : ¬ (stands ss (l.getD j 0, t) = true ∧ hasM (gOut l t ss j) (l.getD j 0) = false)) : gOut l t ss (j + 1) = gOut l t ss j := by rw [gOut, if_neg h, List.append_nil]
theorem gOut_len (l : List Int) (t : ByteArray) (ss : List (Int × ByteArray)) : ∀ j, (gOut l t ss j).length ≤ j
  | 0 => Nat.le_refl _
  | j + 1 => by
    have := gOut_len l t ss j
    rw [gOut, List.length_append]
    split <;> simp <;> omega
theorem gOut_nodup (l : List Int) (t : ByteArray) (ss : List (Int × ByteArray)) : ∀ j, (gOut l t ss j).Nodup
  | 0 => List.Pairwise.nil
  | j + 1 => by
    rw [gOut]
    split
    · next h =>
      refine List.nodup_append.2 ⟨gOut_nodup l t ss j, by simp, fun x hx y hy => ?_⟩
      rw [List.mem_singleton.1 hy]
      intro e
      rw [e] at hx
      exact of_decide_eq_false h.2 hx
    · rw [List.append_nil]
      exact gOut_nodup l t ss j
theorem gOut_mem (l : List Int) (t : ByteArray) (ss : List (Int × ByteArray)) (z : Int) : ∀ j, j ≤ l.length → (z ∈ gOut l t ss j ↔ z ∈ l.take j ∧ (z, t) ∈ ss)
  | 0, _ => by simp [gOut]
  | j + 1, hj => by
    have ih := gOut_mem l t ss z j (by omega)
    have hl : l.getD j 0 = l[j]'(by omega) := getD_get l j (by omega)
    rw [List.take_add_one, List.getElem?_eq_getElem (show j < l.length by omega)]
    by_cases hc : stands ss (l.getD j 0, t) = true ∧ hasM (gOut l t ss j) (l.getD j 0) = false
    · rw [gOut_yes hc.1 hc.2, List.mem_append, List.mem_append, ih, hl]
      constructor
      · rintro (h | h)
        · exact ⟨.inl h.1, h.2⟩
        · have e := List.mem_singleton.1 h
          refine ⟨.inr (by simp [e]), ?_⟩
          rw [e, ← hl]
          exact (stands_iff _ _).1 hc.1
      · rintro ⟨h | h, h2⟩
        · exact .inl ⟨h, h2⟩
        · exact .inr (by simpa using h)
    · rw [gOut_no hc, List.mem_append, ih]
      constructor
      · rintro ⟨h, h2⟩
        exact ⟨.inl h, h2⟩
      · rintro ⟨h | h, h2⟩
        · exact ⟨h, h2⟩
        · have e : z = l.getD j 0 := by rw [hl]; simpa using h
          have hs : stands ss (l.getD j 0, t) = true := (stands_iff _ _).2 (by rw [← e]; exact h2)
          have hh : hasM (gOut l t ss j) (l.getD j 0) = true := by
            cases e2 : hasM (gOut l t ss j) (l.getD j 0) with
            | true => rfl
            | false => exact absurd ⟨hs, e2⟩ hc
          have := of_decide_eq_true hh
          rw [← e] at this
          exact ih.1 this
/-- A list of different ones is no longer than a list that has them all. -/
theorem nodup_len {α : Type} [DecidableEq α] : ∀ (a b : List α), a.Nodup → (∀ x, x ∈ a → x ∈ b) → a.length ≤ b.length
  | [], _, _, _ => Nat.zero_le _
  | x :: a, b, h1, h2 => by
    have hx := h2 x (List.mem_cons_self ..)
    have h3 := List.nodup_cons.1 h1
    have := nodup_len a (b.erase x) h3.2 (fun y hy => (List.mem_erase_of_ne (a := y) (b := x) (fun e => h3.1 (by rw [← e]; exact hy))).2 (h2 y (List.mem_cons_of_mem _ hy)))
    rw [List.length_erase_of_mem hx] at this
    have := List.length_pos_of_mem hx
    rw [List.length_cons]
    omega
theorem gP_nodup (t : ByteArray) {zs : List Int} (h : zs.Nodup) : (gP t zs).Nodup := List.pairwise_map.2 (h.imp (fun hab e => hab (congrArg Prod.fst e)))
theorem gOut_le (l : List Int) (t : ByteArray) (ss : List (Int × ByteArray)) (j : Nat) (hj : j ≤ l.length) : (gOut l t ss j).length ≤ ss.length := by
  rw [← gP_len t]
  refine nodup_len _ _ (gP_nodup t (gOut_nodup l t ss j)) (fun x hx => ?_)
  obtain ⟨z, hz, rfl⟩ := List.mem_map.1 hx
  exact ((gOut_mem l t ss z j hj).1 hz).2
/-- .. rising. -/
def gathL (l : List Int) (t : ByteArray) (ss : List (Int × ByteArray)) : List Int := (gOut l t ss l.length).mergeSort (fun a b => decide (a ≤ b))
theorem gathL_mem (l : List Int) (t : ByteArray) (ss : List (Int × ByteArray)) (z : Int) : z ∈ gathL l t ss ↔ z ∈ l ∧ (z, t) ∈ ss := by
  rw [gathL, List.mem_mergeSort, gOut_mem l t ss z l.length (Nat.le_refl _), List.take_length]
theorem gathL_inc (l : List Int) (t : ByteArray) (ss : List (Int × ByteArray)) : Inc (gathL l t ss) := by
  have h1 : (gathL l t ss).Pairwise (fun a b => decide (a ≤ b) = true) := List.pairwise_mergeSort (fun a b c h1 h2 => by simp at *; omega) (fun a b => by simp; omega) _
  have h2 : (gathL l t ss).Nodup := (List.mergeSort_perm _ _).nodup_iff.2 (gOut_nodup l t ss _)
  exact (List.pairwise_and_iff.2 ⟨h1, h2⟩).imp (fun {a b} h => by have := of_decide_eq_true h.1; have := h.2; omega)
theorem gathL_eq {l : List Int} {t : ByteArray} {ss : List (Int × ByteArray)} {S : List Int} (h1 : Inc S) (h2 : ∀ z, z ∈ S ↔ z ∈ gOut l t ss l.length) : S = gathL l t ss :=
  inc_eq _ _ h1 (gathL_inc l t ss) (fun z => by rw [h2, gOut_mem l t ss z l.length (Nat.le_refl _), List.take_length, gathL_mem])
end Go.Proofs.YthjgnfeadagmeaaGreat

/- The document's: is a signature in the list? -/
namespace Go.Proofs.YthjgnfeadagmeaaGreat
open Go.RowKit

theorem data_list (b : ByteArray) : b.toList = b.data.toList := ByteArray.toList_eq b
theorem SgP.new (w : World) (q : Int) (r : ByteArray) : (w.alloc (.cells #[.int .i64 q, .string r] 87)).heap[w.heap.size]? = some (.cells #[.int .i64 q, .string r] 87 (0, 0)) := heap_alloc_last w _
set_option maxRecDepth 100000 in
set_option maxHeartbeats 1600000 in
theorem wstands_any (a : Option Addr) (n cap : Nat) (l : List (Int × ByteArray)) (hn : l.length = n) (hm : n ≤ maxLen) (q : Int) (r : ByteArray) (w : World) (hP : PairsIn w a l) :
    Calls Tryz.prog 44 #[.slice a n cap, .agg #[.int .i64 q, .string r]] w fun e w' => e = .returned (.bool (stands l (q, r))) ∧ Below w.heap.size w w' := by
  have hm2 : (n : Int) ≤ 9223372036854775807 := by unfold maxLen at hm; omega
  have HP := hid hP
  have HN := hid hn
  clear hP hm hn
  go_enter Tryz.func44, Tryz.ntmps44
  go_wp2
  go_loopw [5] (fun i wr => ∃ j : Nat, j ≤ n ∧ i = .int .i64 (j : Int) ∧ (q, r) ∉ l.take j ∧ wr.heap[w.heap.size]? = some (.cells #[.int .i64 q, .string r] 87 (0, 0)) ∧ Below w.heap.size w wr)
    (fun i _ => ((n : Int) - intOf i).toNat)
  case atStart => exact ⟨0, by omega, rfl, by simp, SgP.new w q r, (Below.refl _ _).alloc (Nat.le_refl _) _⟩
  case round =>
    obtain ⟨j, hj, rfl, hno, hsg, hbel⟩ := hrel
    have HB := hid (And.intro hsg hbel)
    clear hsg hbel
    by_cases hjn : j = n
    · have hj1 : ¬ ((j : Int) < (n : Int)) := by omega
      have HF : Hid (stands l (q, r) = false) := hid (stands_no (by rwa [List.take_of_length_le (by rw [HN.out]; omega)] at hno))
      clear hno hj hjn
      go_wp2
      go_ret
      exact ⟨by rw [HF.out]; rfl, HB.out.2⟩
    · have hj1 : (j : Int) < (n : Int) := by omega
      have hj0 : (0 : Int) ≤ (j : Int) := Int.natCast_nonneg _
      have hjl : j < l.length := by rw [HN.out]; omega
      obtain ⟨g1, o1, rfl, hg1, x1, y1⟩ := HP.out.at j _ (getP_some hjl)
      have hbx : ∀ c : Cls wr, Below w.heap.size w c.1 := fun c => HB.out.2.trans (c.2.mono HB.out.2.size)
      have hsb : ∀ c : Cls wr, c.1.heap[w.heap.size]? = some (.cells [.int .i64 q, .string r].toArray 87 (0, 0)) := fun c => (c.2.block _ (lt_of_blk HB.out.1)).trans HB.out.1
      have d3 : ∀ c : Cls wr, c.1.cell? ⟨w.heap.size, 0, none⟩ = some (.int .i64 q) := fun c => cell_at (hsb c) 0 _ rfl
      have d4 : ∀ c : Cls wr, c.1.cell? ⟨w.heap.size, 1, none⟩ = some (.string r) := fun c => cell_at (hsb c) 1 _ rfl
      by_cases hx : (idOf l j, rtOf l j) = (q, r)
      · have HF : Hid (stands l (q, r) = true) := hid ((stands_iff _ _).2 (stands_at hx hjl))
        have d1 : ∀ c : Cls wr, c.1.cell? ⟨g1, o1 + j * 2, none⟩ = some (.int .i64 q) := fun c => ((hbx c).cell (p := ⟨g1, _, none⟩) hg1).trans (by rw [x1, hx])
        have d2 : ∀ c : Cls wr, c.1.cell? ⟨g1, o1 + j * 2 + 1, none⟩ = some (.string r) := fun c => ((hbx c).cell (p := ⟨g1, _, none⟩) hg1).trans (by rw [y1, hx])
        clear hx x1 y1 hbx hsb hg1 hno hj hjn hjl
        go_wp2
        haveI := Cls.ne wr
        refine wp_region_cls wr (by kernel_rfl) (by kernel_rfl) ?_
        repeat (go_big_quiet_step ((fail)))
        refine wpQuiet_nil ?_
        rintro _ ⟨c, rfl⟩
        go_wp2
        go_ret
        exact ⟨by rw [HF.out]; rfl, HB.out.2.trans (c.2.mono HB.out.2.size)⟩
      · have HF : Hid ((q, r) ∉ l.take (j + 1)) := hid (stands_snoc hno hx hjl)
        obtain ⟨x, ex⟩ : ∃ x, x = idOf l j := ⟨_, rfl⟩
        obtain ⟨y, ey⟩ : ∃ y, y = rtOf l j := ⟨_, rfl⟩
        rw [← ex, ← ey] at hx
        rw [← ex] at x1
        rw [← ey] at y1
        have d1 : ∀ c : Cls wr, c.1.cell? ⟨g1, o1 + j * 2, none⟩ = some (.int .i64 x) := fun c => ((hbx c).cell (p := ⟨g1, _, none⟩) hg1).trans x1
        have d2 : ∀ c : Cls wr, c.1.cell? ⟨g1, o1 + j * 2 + 1, none⟩ = some (.string y) := fun c => ((hbx c).cell (p := ⟨g1, _, none⟩) hg1).trans y1
        have HX := hid hx
        have HJ := hid (And.intro hj hjn)
        clear x1 y1 hbx hsb hg1 hno hj hjn hjl ex ey hx
        by_cases hxq : x = q
        · have hyr : ¬ (y = r) := fun h => HX.out (by rw [hxq, h])
          have hyr2 : ¬ (y.toList = r.toList) := fun h => hyr (bytes_eq (by rw [← data_list, ← data_list]; exact h))
          have hyr3 : (y.toList == r.toList) = false := by simpa using hyr2
          subst hxq
          go_wp2
          haveI := Cls.ne wr
          refine wp_region_cls wr (by kernel_rfl) (by kernel_rfl) ?_
          repeat (go_big_quiet_step ((fail)))
          refine wpQuiet_nil ?_
          rintro _ ⟨c, rfl⟩
          go_wp2
          go_roundw
          case rel => exact ⟨j + 1, by have := HJ.out; omega, by go_num, HF.out, (c.2.block _ (lt_of_blk HB.out.1)).trans HB.out.1, HB.out.2.trans (c.2.mono HB.out.2.size)⟩
          case measure => simp [intOf]; omega
        · go_wp2
          haveI := Cls.ne wr
          refine wp_region_cls wr (by kernel_rfl) (by kernel_rfl) ?_
          repeat (go_big_quiet_step ((fail)))
          refine wpQuiet_nil ?_
          rintro _ ⟨c, rfl⟩
          go_wp2
          go_roundw
          case rel => exact ⟨j + 1, by have := HJ.out; omega, by go_num, HF.out, (c.2.block _ (lt_of_blk HB.out.1)).trans HB.out.1, HB.out.2.trans (c.2.mono HB.out.2.size)⟩
          case measure => simp [intOf]; omega
set_option maxRecDepth 100000 in
set_option maxHeartbeats 1600000 in
/-- The same lists are the same. -/
theorem wsame_yes (a1 a2 : Option Addr) (n c1 c2 : Nat) (ps : List (Int × ByteArray)) (hn : ps.length = n) (hm : n ≤ maxLen) (w : World) (h1 : PairsIn w a1 ps) (h2 : PairsIn w a2 ps) :
    Calls Tryz.prog 80 #[.slice a1 n c1, .slice a2 n c2] w fun e w' => e = .returned (.bool true) ∧ Below w.heap.size w w' := by
  have hm2 : (n : Int) ≤ 9223372036854775807 := by unfold maxLen at hm; omega
  have HP := hid (And.intro h1 h2)
  have HN := hid hn
  clear h1 h2 hm hn
  go_enter Tryz.func80, Tryz.ntmps80
  go_wp2
  go_loopw [5] (fun i wr => ∃ j : Nat, j ≤ n ∧ i = .int .i64 (j : Int) ∧ Below w.heap.size w wr)
    (fun i _ => ((n : Int) - intOf i).toNat)
  case atStart => exact ⟨0, by omega, rfl, Below.refl _ _⟩
  case round =>
    obtain ⟨j, hj, rfl, hbel⟩ := hrel
    have HB := hid hbel
    clear hbel
    by_cases hjn : j = n
    · have hj1 : ¬ ((j : Int) < (n : Int)) := by omega
      clear hj hjn
      go_wp2
      go_ret
      exact ⟨rfl, HB.out⟩
    · have hj1 : (j : Int) < (n : Int) := by omega
      have hj0 : (0 : Int) ≤ (j : Int) := Int.natCast_nonneg _
      have hp := getP_some (ps := ps) (j := j) (by rw [HN.out]; omega)
      obtain ⟨g1, o1, rfl, hg1, x1, y1⟩ := HP.out.1.at j _ hp
      obtain ⟨g2, o2, rfl, hg2, x2, y2⟩ := HP.out.2.at j _ hp
      obtain ⟨x, ex⟩ : ∃ x, x = idOf ps j := ⟨_, rfl⟩
      obtain ⟨r, er⟩ : ∃ r, r = rtOf ps j := ⟨_, rfl⟩
      rw [← ex] at x1 x2
      rw [← er] at y1 y2
      have hbx : ∀ q : Cls wr, Below w.heap.size w q.1 := fun q => HB.out.trans (q.2.mono HB.out.size)
      have d1 : ∀ q : Cls wr, q.1.cell? ⟨g1, o1 + j * 2, none⟩ = some (.int .i64 x) := fun q => ((hbx q).cell (p := ⟨g1, _, none⟩) hg1).trans x1
      have d2 : ∀ q : Cls wr, q.1.cell? ⟨g1, o1 + j * 2 + 1, none⟩ = some (.string r) := fun q => ((hbx q).cell (p := ⟨g1, _, none⟩) hg1).trans y1
      have d3 : ∀ q : Cls wr, q.1.cell? ⟨g2, o2 + j * 2, none⟩ = some (.int .i64 x) := fun q => ((hbx q).cell (p := ⟨g2, _, none⟩) hg2).trans x2
      have d4 : ∀ q : Cls wr, q.1.cell? ⟨g2, o2 + j * 2 + 1, none⟩ = some (.string r) := fun q => ((hbx q).cell (p := ⟨g2, _, none⟩) hg2).trans y2
      have HJ := hid (And.intro hj hjn)
      clear hp x1 y1 x2 y2 hbx hg1 hg2 ex er hj hjn
      go_wp2
      haveI := Cls.ne wr
      refine wp_region_cls wr (by kernel_rfl) (by kernel_rfl) ?_
      repeat (go_big_quiet_step ((fail)))
      refine wpQuiet_nil ?_
      rintro _ ⟨q, rfl⟩
      go_wp2
      go_roundw
      case rel => exact ⟨j + 1, by have := HJ.out; omega, by go_num, HB.out.trans (q.2.mono HB.out.size)⟩
      case measure => simp [intOf]; omega
end Go.Proofs.YthjgnfeadagmeaaGreat

/- What all families of texts share: one operation that is ready in a region that draws. -/
namespace Go.Proofs.YthjgnfeadagmeaaGreat
open Go.RowKit

section
variable {P : Program} {ops : Array Oper} {o : Oper} {a : Act} {w : World} {K : Act → World → Prop} {Q : Exit → Act → World → Prop}
theorem wpOp_q {i : Nat} (hi : ops[i]? = some o) (hgd : o.guard = none) (h : ∀ K' : Act → World → Prop, (∀ a w, K a w → K' a w) → o.wp P a w K' Q) : wpOp P ops Q i K a w := by
  unfold Go.wpOp
  simp only [hi]
  have hw : Region.wanted o (yielded ops a.tmps) = true := by simp [Region.wanted, hgd]
  simp only [hw, if_true]
  exact .inl (h K (fun _ _ h => h))
end
end Go.Proofs.YthjgnfeadagmeaaGreat

/- What all families of texts share: results that live in a variable; rows of one's own beside a store elsewhere. -/
namespace Go.Proofs.YthjgnfeadagmeaaGreat
open Go.RowKit

theorem ret_pair {f : Func} {a : Act} {w : World} {Q : Ending → World → Prop} {s s2 : Nat} {t : TypeId} {ad : Addr} {v v2 : Value} (hr : f.results = #[.cell s t, .tmp s2]) (hs : a.tmps.getD s undef = .pointer (some ad)) (hl : (loadVar t ad).run Tryz.prog w = .ok v w) (h2 : a.tmps.getD s2 undef = v2) (hd : a.defers = [])
    (h : Q (.returned (.tuple #[v, v2])) w) : bodyPost Tryz.prog f Q .ret a w := by
  refine bodyPost_ret (v := .tuple #[v, v2]) ?_ hd h
  have h1 : a.tmps.getD s undef = .pointer (some ad) := hs
  simp [results, hr, -Array.getD_eq_getD_getElem?, h1, h2, asAddr, hl]
theorem ret_three {f : Func} {a : Act} {w : World} {Q : Ending → World → Prop} {s s2 s3 : Nat} {t : TypeId} {ad : Addr} {v v2 v3 : Value} (hr : f.results = #[.cell s t, .tmp s2, .tmp s3]) (hs : a.tmps.getD s undef = .pointer (some ad)) (hl : (loadVar t ad).run Tryz.prog w = .ok v w) (h2 : a.tmps.getD s2 undef = v2) (h3 : a.tmps.getD s3 undef = v3) (hd : a.defers = [])
    (h : Q (.returned (.tuple #[v, v2, v3])) w) : bodyPost Tryz.prog f Q .ret a w := by
  refine bodyPost_ret (v := .tuple #[v, v2, v3]) ?_ hd h
  have h1 : a.tmps.getD s undef = .pointer (some ad) := hs
  simp [results, hr, -Array.getD_eq_getD_getElem?, h1, h2, h3, asAddr, hl]
theorem ret_four {f : Func} {a : Act} {w : World} {Q : Ending → World → Prop} {s s2 s3 s4 : Nat} {t : TypeId} {ad : Addr} {v v2 v3 v4 : Value} (hr : f.results = #[.cell s t, .tmp s2, .tmp s3, .tmp s4]) (hs : a.tmps.getD s undef = .pointer (some ad)) (hl : (loadVar t ad).run Tryz.prog w = .ok v w) (h2 : a.tmps.getD s2 undef = v2) (h3 : a.tmps.getD s3 undef = v3) (h4 : a.tmps.getD s4 undef = v4) (hd : a.defers = [])
    (h : Q (.returned (.tuple #[v, v2, v3, v4])) w) : bodyPost Tryz.prog f Q .ret a w := by
  refine bodyPost_ret (v := .tuple #[v, v2, v3, v4]) ?_ hd h
  have h1 : a.tmps.getD s undef = .pointer (some ad) := hs
  simp [results, hr, -Array.getD_eq_getD_getElem?, h1, h2, h3, h4, asAddr, hl]
theorem res_put {w : World} {b : Nat} {p q x y : Value} {T : TypeId} (h : w.heap[b]? = some (.cells #[p, q] T (0, 0))) : ((w.setCell ⟨b, 0, none⟩ x).setCell ⟨b, 1, none⟩ y).heap[b]? = some (.cells #[x, y] T (0, 0)) := by
  have h1 : (w.setCell ⟨b, 0, none⟩ x).heap[b]? = some (.cells #[x, q] T (0, 0)) := (blk_set h 0 x).trans (by simp)
  exact (blk_set h1 1 y).trans (by simp)
theorem own_put {w : World} {B z : Nat} {v : Value} {n : Nat} {xs : List Value} {e : TypeId} (h : w.ownsRow B e z v n xs) (r o : Nat) (x : Value) (hr : r < B) : (w.setCell ⟨r, o, none⟩ x).ownsRow B e z v n xs := by
  refine ⟨h.1, ?_⟩
  rcases h.2 with hn | ⟨g, cap, cur, hv, hB, hh, hx⟩
  · exact .inl hn
  · exact .inr ⟨g, cap, cur, hv, hB, (Below.heap_setCell _ _ _ _ (by show ¬ g = r; omega)).trans hh, hx⟩
theorem cell_two {w : World} {b : Nat} {x y : Value} {T : TypeId} {fr : Nat × Nat} (h : w.heap[b]? = some (.cells #[x, y] T fr)) : w.cell? ⟨b, 0, none⟩ = some x ∧ w.cell? ⟨b, 1, none⟩ = some y :=
  ⟨cell_at (L := [x, y]) h 0 _ rfl, cell_at (L := [x, y]) h 1 _ rfl⟩
end Go.Proofs.YthjgnfeadagmeaaGreat

/- The document's Gather. -/
namespace Go.Proofs.YthjgnfeadagmeaaGreat
open Go.RowKit

theorem Tryz.info87 : (Tryz.prog.info? 87).map (fun i => (i.zero, i.size, i.bytes)) = some (some (.agg #[.int .i64 0, .string ⟨#[]⟩]), 2, 24) := by kernel_rfl
theorem own_pairsT {w : World} {B : Nat} {v : Value} {ps : List (Int × ByteArray)} {T : TypeId} (h : w.ownsRow B T 2 v ps.length (pC ps)) : ∃ ad cap, v = .slice ad ps.length cap ∧ PairsIn w ad ps := by
  rcases h.2 with ⟨hv, h0⟩ | ⟨g, cap, cur, hv, hB, hh, hx⟩
  · exact ⟨none, 0, by rw [hv, h0], .inl (List.eq_nil_of_length_eq_zero h0)⟩
  · refine ⟨_, cap, hv, .inr ⟨g, 0, rfl, lt_of_blk hh, fun j p hj => ?_⟩⟩
    subst hv
    have h1 := h.cells (g := g) rfl _ _ (pC_get ps j p hj).1
    have h2 := h.cells (g := g) rfl _ _ (pC_get ps j p hj).2
    rw [Addr.add_lit] at h1 h2
    exact ⟨h1, by rw [Nat.add_assoc]; exact h2⟩
/-! Sorting in place: all but the k-th of the first i + 1 rise. -/
theorem getD_set (L : List Int) (k j : Nat) (y : Int) (hk : k < L.length) : (L.set k y).getD j 0 = if j = k then y else L.getD j 0 := by
  rw [List.getD_eq_getElem?_getD, List.getD_eq_getElem?_getD, List.getElem?_set]
  by_cases h : k = j
  · rw [if_pos h, if_pos hk, if_pos h.symm]; rfl
  · rw [if_neg h, if_neg (fun e => h e.symm)]
def srt (L : List Int) (i k : Nat) : Prop := ∀ a b, a < b → b ≤ i → b ≠ k → L.getD a 0 < L.getD b 0
def rose (L : List Int) (i : Nat) : Prop := ∀ a b, a < b → b < i → L.getD a 0 < L.getD b 0
theorem rose.srt {L : List Int} {i : Nat} (h : rose L i) : srt L i i := fun a b h1 h2 h3 => h a b h1 (by omega)
def swp (L : List Int) (k : Nat) : List Int := (L.set (k + 1) (L.getD k 0)).set k (L.getD (k + 1) 0)
theorem swp_len (L : List Int) (k : Nat) : (swp L k).length = L.length := by simp [swp]
theorem swp_get (L : List Int) (k j : Nat) (hk : k + 1 < L.length) : (swp L k).getD j 0 = if j = k then L.getD (k + 1) 0 else if j = k + 1 then L.getD k 0 else L.getD j 0 := by
  rw [swp, getD_set _ _ _ _ (by simp; omega), getD_set _ _ _ _ hk]
theorem swp_perm (L : List Int) (k : Nat) (hk : k + 1 < L.length) : (swp L k).Perm L := by
  have := List.set_set_perm hk (show k < L.length by omega)
  rw [swp, getD_get L k (by omega), getD_get L (k + 1) hk]
  exact this
theorem srt.swp {L : List Int} {i k : Nat} (h : srt L i (k + 1)) (hi : i < L.length) (hk : k + 1 ≤ i) (hg : L.getD (k + 1) 0 < L.getD k 0) : srt (swp L k) i k := fun a b h1 h2 h3 => by
  rw [swp_get L k a (by omega), swp_get L k b (by omega)]
  rw [if_neg h3]
  by_cases hb : b = k + 1
  · rw [if_pos hb]
    by_cases ha : a = k
    · rw [if_pos ha]; exact hg
    · rw [if_neg ha, if_neg (by omega)]
      exact h a k (by omega) (by omega) (by omega)
  · rw [if_neg hb]
    by_cases ha : a = k
    · rw [if_pos ha]; exact h (k + 1) b (by omega) h2 hb
    · rw [if_neg ha]
      by_cases ha2 : a = k + 1
      · rw [if_pos ha2]; exact h k b (by omega) h2 hb
      · rw [if_neg ha2]; exact h a b h1 h2 hb
theorem srt.first {L : List Int} {i : Nat} (h : srt L i 0) : rose L (i + 1) := fun a b h1 h2 => h a b h1 (by omega) (by omega)
theorem srt.here {L : List Int} {i k : Nat} (h : srt L i (k + 1)) (hd : L.Nodup) (hi : i < L.length) (hk : k + 1 ≤ i) (hg : ¬ (L.getD (k + 1) 0 < L.getD k 0)) : rose L (i + 1) := fun a b h1 h2 => by
  have hne : L.getD k 0 ≠ L.getD (k + 1) 0 := fun e => by
    rw [getD_get L k (by omega), getD_get L (k + 1) (by omega)] at e
    exact List.pairwise_iff_getElem.1 hd k (k + 1) (by omega) (by omega) (by omega) e
  by_cases hb : b = k + 1
  · subst hb
    by_cases ha : a = k
    · subst ha; omega
    · have := h a k (by omega) (by omega) (by omega)
      omega
  · exact h a b h1 (by omega) hb
theorem rose.inc {L : List Int} (h : rose L L.length) : Inc L := List.pairwise_iff_getElem.2 (fun a b ha hb hab => by
  have := h a b hab hb
  rwa [getD_get L a ha, getD_get L b hb] at this)
/-! .. in memory. -/
theorem pC_set (ps : List (Int × ByteArray)) : ∀ (k : Nat) (p : Int × ByteArray), (((pC ps).set (k * 2) (.int .i64 p.1)).set (k * 2 + 1) (.string p.2)) = pC (ps.set k p) := by
  induction ps with
  | nil => intro k p; rfl
  | cons q ps ih =>
    intro k p
    cases k with
    | zero => rfl
    | succ k =>
      rw [pC_cons, show (k + 1) * 2 = k * 2 + 1 + 1 by omega, List.set_cons_succ, List.set_cons_succ, List.set_cons_succ, List.set_cons_succ, ih k p, List.set_cons_succ, pC_cons]
theorem gP_set (t : ByteArray) (L : List Int) (k : Nat) (x : Int) : gP t (L.set k x) = (gP t L).set k (x, t) := by simp [gP, List.map_set]
theorem own_cellset {w : World} {B z : Nat} {g cp n : Nat} {xs : List Value} {e : TypeId} (h : w.ownsRow B e z (.slice (some ⟨g, 0, none⟩) n cp) n xs) (o : Nat) (x : Value) : (w.setCell ⟨g, o, none⟩ x).ownsRow B e z (.slice (some ⟨g, 0, none⟩) n cp) n (xs.set o x) := by
  refine ⟨by rw [List.length_set]; exact h.1, ?_⟩
  rcases h.2 with ⟨hv, _⟩ | ⟨g', cap, cur, hv, hB, hh, hc1, hc2, hc3, hc4⟩
  · exact absurd hv (by simp)
  · cases hv
    refine .inr ⟨g, cp, _, rfl, hB, (blk_set hh o x).trans rfl, hc1, hc2, by simp [hc3], ?_⟩
    rw [← hc4]
    simp [List.take_set]
theorem own_two {w : World} {B : Nat} {g cp n : Nat} {ps : List (Int × ByteArray)} {e : TypeId} (h : w.ownsRow B e 2 (.slice (some ⟨g, 0, none⟩) n cp) n (pC ps)) (k : Nat) (p : Int × ByteArray) : ((w.setCell ⟨g, k * 2, none⟩ (.int .i64 p.1)).setCell ⟨g, k * 2 + 1, none⟩ (.string p.2)).ownsRow B e 2 (.slice (some ⟨g, 0, none⟩) n cp) n (pC (ps.set k p)) := by
  have := own_cellset (own_cellset h (k * 2) (.int .i64 p.1)) (k * 2 + 1) (.string p.2)
  rwa [pC_set] at this
theorem ownsRow_low {w : World} {B B' : Nat} {e : TypeId} {z : Nat} {v : Value} {n : Nat} {xs : List Value} (h : w.ownsRow B e z v n xs) (hB : B' ≤ B) : w.ownsRow B' e z v n xs := by
  refine ⟨h.1, ?_⟩
  rcases h.2 with hn | ⟨g, cap, cur, hv, hg, hx⟩
  · exact .inl hn
  · exact .inr ⟨g, cap, cur, hv, by omega, hx⟩
theorem below_drewN (w : World) (n : Nat) : Below w.heap.size w (w.drewN n) := ⟨rfl, rfl, rfl, Nat.le_refl _, fun _ _ => rfl⟩
/-- What is gathered so far lies in a row of its own. -/
structure GaSt (w0 w : World) (v : Value) (t : ByteArray) (O : List Int) : Prop where
  own : w.ownsRow w0.heap.size 87 2 v O.length (pC (gP t O))
  bel : Below w0.heap.size w0 w
theorem GaSt.keep {w0 w w' : World} {v : Value} {t : ByteArray} {O : List Int} (h : GaSt w0 w v t O) (hb : Below w.heap.size w w') : GaSt w0 w' v t O := ⟨ownsRow_keep h.own hb, h.bel.trans (hb.mono h.bel.size)⟩
theorem GaSt.pairs {w0 w : World} {v : Value} {t : ByteArray} {O : List Int} (h : GaSt w0 w v t O) : ∃ ad cap, v = .slice ad O.length cap ∧ PairsIn w ad (gP t O) := by
  obtain ⟨ad, cap, hv, hi⟩ := own_pairsT (ps := gP t O) (by rw [gP_len]; exact h.own)
  rw [gP_len] at hv
  exact ⟨ad, cap, hv, hi⟩
theorem GaSt.cells {w0 w : World} {g n cp : Nat} {t : ByteArray} {L : List Int} (h : GaSt w0 w (.slice (some ⟨g, 0, none⟩) n cp) t L) (k : Nat) (hk : k < L.length) : w.cell? ⟨g, k * 2, none⟩ = some (.int .i64 (L.getD k 0)) ∧ w.cell? ⟨g, k * 2 + 1, none⟩ = some (.string t) := by
  have hp : (gP t L)[k]? = some (L.getD k 0, t) := by rw [gP, List.getElem?_map, getD_some hk]; rfl
  have h1 := h.own.cells (g := g) rfl _ _ (pC_get _ k _ hp).1
  have h2 := h.own.cells (g := g) rfl _ _ (pC_get _ k _ hp).2
  rw [Addr.add_lit, Nat.zero_add] at h1 h2
  exact ⟨h1, h2⟩
theorem GaSt.blk {w0 w : World} {g n cp : Nat} {t : ByteArray} {L : List Int} (h : GaSt w0 w (.slice (some ⟨g, 0, none⟩) n cp) t L) : w0.heap.size ≤ g ∧ g < w.heap.size := h.own.lt g rfl
theorem GaSt.free {w0 w : World} {g n cp : Nat} {t : ByteArray} {L : List Int} (h : GaSt w0 w (.slice (some ⟨g, 0, none⟩) n cp) t L) (hn : L.length = n) (j : Nat) : w.frozen? ⟨g, j, none⟩ = false := by
  subst hn
  exact h.own.frozenAt j
theorem GaSt.put {w0 w : World} {g n cp : Nat} {t : ByteArray} {L : List Int} (h : GaSt w0 w (.slice (some ⟨g, 0, none⟩) n cp) t L) (hn : L.length = n) (k : Nat) (y : Int) : GaSt w0 ((w.setCell ⟨g, k * 2, none⟩ (.int .i64 y)).setCell ⟨g, k * 2 + 1, none⟩ (.string t)) (.slice (some ⟨g, 0, none⟩) n cp) t (L.set k y) := by
  subst hn
  refine ⟨?_, (h.bel.setCell h.blk.1 _).setCell h.blk.1 _⟩
  rw [List.length_set, gP_set]
  exact own_two h.own k (y, t)
end Go.Proofs.YthjgnfeadagmeaaGreat

/- Lists of signatures copied into rows of one's own; a thing said by Heard in memory. -/
namespace Go.Proofs.YthjgnfeadagmeaaGreat
open Go.RowKit

theorem pC_two : ∀ (ps : List (Int × ByteArray)) (j : Nat) (u : Value), (pC ps)[j]? = some u → ∃ p, ps[j / 2]? = some p ∧ ((j % 2 = 0 ∧ u = .int .i64 p.1) ∨ (j % 2 = 1 ∧ u = .string p.2))
  | [], j, u, h => by simp [pC] at h
  | p :: ps, 0, u, h => by
    rw [pC_cons] at h
    simp at h
    exact ⟨p, by simp, .inl ⟨rfl, h.symm⟩⟩
  | p :: ps, 1, u, h => by
    rw [pC_cons] at h
    simp at h
    exact ⟨p, by simp, .inr ⟨rfl, h.symm⟩⟩
  | p :: ps, j + 2, u, h => by
    rw [pC_cons] at h
    simp at h
    obtain ⟨q, hq, hu⟩ := pC_two ps j u h
    refine ⟨q, ?_, ?_⟩
    · rw [show (j + 2) / 2 = j / 2 + 1 by omega]
      simpa using hq
    · rw [show (j + 2) % 2 = j % 2 by omega]
      exact hu
theorem pC_cell1 (ps : List (Int × ByteArray)) : ∀ v ∈ pC ps, v.oneCell' = true := by
  intro v hv
  obtain ⟨j, hj, rfl⟩ := List.getElem_of_mem hv
  obtain ⟨p, _, h | h⟩ := pC_two ps j _ (List.getElem?_eq_getElem hj)
  · rw [h.2]; rfl
  · rw [h.2]; rfl
theorem pairs_cells {w : World} {ad : Addr} {ps : List (Int × ByteArray)} (h : PairsIn w (some ad) ps) (j : Nat) (u : Value) (hu : (pC ps)[j]? = some u) : w.cell? (ad.add j) = some u := by
  obtain ⟨p, hp, hu⟩ := pC_two ps j u hu
  obtain ⟨g, off, ha, hg, h0, h1⟩ := h.at (j / 2) p hp
  cases ha
  rw [Addr.add_lit]
  rcases hu with ⟨hj, rfl⟩ | ⟨hj, rfl⟩
  · rw [show off + j = off + j / 2 * 2 by omega]; exact h0
  · rw [show off + j = off + j / 2 * 2 + 1 by omega]; exact h1
/-- The slice v holds the signatures ps, in a row of its own; nothing below B has turned since w0. -/
structure OwnedT (B : Nat) (w0 w : World) (v : Value) (ps : List (Int × ByteArray)) : Prop where
  own : w.ownsRow B 87 2 v ps.length (pC ps)
  bel : Below B w0 w
  le : B ≤ w.heap.size
theorem OwnedT.nil {B : Nat} {w0 w : World} (h : Below B w0 w) (hB : B ≤ w.heap.size) : OwnedT B w0 w (.slice none 0 0) [] := ⟨⟨rfl, .inl ⟨rfl, rfl⟩⟩, h, hB⟩
theorem OwnedT.alloc {B : Nat} {w0 w : World} {v : Value} {l : List (Int × ByteArray)} (h : OwnedT B w0 w v l) (o : Obj) : OwnedT B w0 (w.alloc o) v l :=
  ⟨h.own.alloc o, h.bel.alloc h.le o, by have := h.le; simp; omega⟩
theorem OwnedT.grow {B : Nat} {w0 w w2 : World} {v v2 : Value} {l xs : List (Int × ByteArray)} {m : Nat} (h : OwnedT B w0 w v l) (hm : xs.length = m) (h2 : w2.ownsRow B 87 2 v2 (l.length + m) (pC l ++ pC xs)) (hg : w.grownBy w2 v.ownBlock) : OwnedT B w0 w2 v2 (l ++ xs) :=
  ⟨by rw [List.length_append, pC_app, hm]; exact h2, h.bel.grown hg h.le (fun k hk => (h.own.lt k hk).1), Nat.le_trans h.le hg.size⟩
theorem OwnedT.form {B : Nat} {w0 w : World} {v : Value} {l : List (Int × ByteArray)} (h : OwnedT B w0 w v l) (hl : 0 < l.length) : ∃ g cap, v = .slice (some ⟨g, 0, none⟩) l.length cap ∧ l.length ≤ cap ∧ cap ≤ maxLen ∧ g < w.heap.size ∧ B ≤ g ∧ PairsIn w (some ⟨g, 0, none⟩) l := by
  rcases h.own.2 with ⟨_, h0⟩ | ⟨g, cap, cur, hv, hb, hh, hnc, hcp, hcs, htake⟩
  · omega
  · obtain ⟨ad, c2, hv2, hp⟩ := own_pairsT h.own
    rw [hv] at hv2
    cases hv2
    exact ⟨g, cap, hv, hnc, hcp, lt_of_blk hh, hb, hp⟩
section
variable {o : Oper} {a : Act} {w : World} {Q : Exit → Act → World → Prop} {ops : Array Oper} {rest : List Oper} {K : Act → World → Prop}
/-- A copy of one's own. -/
theorem owp_ownT (x y : Operand) (ho : o.op = .call { callee := .builtin .append, args := #[x, y], argTypes := #[44, 44] })
    (hx : a.eval x = .slice none 0 0) (ad : Option Addr) (n cap : Nat) (ps : List (Int × ByteArray)) (hy : a.eval y = .slice ad n cap) (hn : ps.length = n) (hS : PairsIn w ad ps) (hl : n * 24 ≤ 140737488355328)
    (h : ∀ v' w', Hid (OwnedT w.heap.size w w' v' ps) → K (a.put o.dst v') w') : o.wp Tryz.prog a w K Q := by
  obtain ⟨i0, hi0, hz0, hz1, hz2⟩ := info_parts Tryz.info87
  cases ad with
  | none =>
    obtain rfl : ps = [] := by rcases hS with h | ⟨g, off, ha, _⟩; exact h; cases ha
    obtain rfl : 0 = n := hn
    refine owp_value (v := .slice none 0 0) (w' := w) ?_ (h _ _ (OwnedT.nil (Below.refl _ _) (Nat.le_refl _)))
    simp [execOp, ho, resolve, invoke, builtin, hx, hy, Builtin.append_, run_underlying Tryz.underlying44, sizeOf, typeInfo, hi0, Builtin.lenOf, Builtin.firstCells, Result.andThen]
  | some ad =>
    refine wp_append_own w x y 44 ho w.heap.size 87 i0 (.agg #[.int .i64 0, .string ⟨#[]⟩]) 2 24 Tryz.underlying44 hi0 hz0 hz1 hz2 rfl (by decide) (.slice none 0 0) 0 [] hx ⟨rfl, .inl ⟨rfl, rfl⟩⟩ ad n cap (pC ps) hy (by rw [pC_len, hn]) (fun j v hv => pairs_cells hS j v hv) (pC_cell1 ps) (by unfold maxLen; omega) (by omega) (Nat.le_refl _) (fun v' w' hown hgrow _ => ?_)
    rw [Nat.zero_add, List.nil_append, ← hn] at hown
    exact h _ _ ⟨hown, (Below.refl _ _).grown hgrow (Nat.le_refl _) (fun k hk => by cases hk), hgrow.size⟩
theorem wl_ownT (hgd : o.guard = none) (x y : Operand) (ho : o.op = .call { callee := .builtin .append, args := #[x, y], argTypes := #[44, 44] })
    (hx : a.eval x = .slice none 0 0) (ad : Option Addr) (n cap : Nat) (ps : List (Int × ByteArray)) (hy : a.eval y = .slice ad n cap) (hn : ps.length = n) (hS : PairsIn w ad ps) (hl : n * 24 ≤ 140737488355328)
    (h : ∀ v' w', Hid (OwnedT w.heap.size w w' v' ps) → wpList Tryz.prog ops Q rest (a.put o.dst v') w') : wpList Tryz.prog ops Q (o :: rest) a w :=
  wpList_plain hgd fun _ hK => owp_ownT x y ho hx ad n cap ps hy hn hS hl fun v' w' h' => hK _ _ (h v' w' h')
end
theorem gathL_le (l : List Int) (t : ByteArray) (ss : List (Int × ByteArray)) : (gathL l t ss).length ≤ ss.length := by
  rw [gathL, List.length_mergeSort]
  exact gOut_le l t ss l.length (Nat.le_refl _)
end Go.Proofs.YthjgnfeadagmeaaGreat

/- slices.Clone of numbers: new memory. -/
namespace Go.Proofs.YthjgnfeadagmeaaGreat
open Go.RowKit

def Free (w : World) (k : Nat) : Prop := ∃ (cs : Array Value) (T : TypeId), w.heap[k]? = some (.cells cs T (0, 0))
theorem Free.lt {w : World} {k : Nat} (h : Free w k) : k < w.heap.size := by obtain ⟨_, _, h⟩ := h; exact lt_of_blk h
theorem Free.keep {w w' : World} {k : Nat} (h : Free w k) (hb : w'.heap[k]? = w.heap[k]?) : Free w' k := by obtain ⟨c, T, h⟩ := h; exact ⟨c, T, hb.trans h⟩
/-- A list of numbers in memory of its own, at block B or later, that may be written. -/
structure NewI (B : Nat) (w : World) (ad : Option Addr) (l : List Int) : Prop where
  ints : IntsIn w ad l
  far : ∀ x, ad = some x → B ≤ x.block ∧ Free w x.block
theorem NewI.keep {B : Nat} {w w' : World} {ad : Option Addr} {l : List Int} (h : NewI B w ad l) (hb : Below w.heap.size w w') : NewI B w' ad l :=
  ⟨h.ints.keep hb (Nat.le_refl _), fun x hx => ⟨(h.far x hx).1, (h.far x hx).2.keep (hb.block _ (h.far x hx).2.lt)⟩⟩
theorem OwnedI.slice {B : Nat} {w0 w : World} {v : Value} {zs : List Int} (h : OwnedI B w0 w v zs) : ∃ ad cap, v = .slice ad zs.length cap ∧ IntsIn w ad zs ∧ ∀ x, ad = some x → B ≤ x.block ∧ x.block < w.heap.size := by
  rcases h.own.2 with ⟨hv, h0⟩ | ⟨g, cap, cur, hv, hb, hh, hr⟩
  · exact ⟨none, 0, by rw [hv, h0], .inl (List.eq_nil_of_length_eq_zero h0), fun x hx => by cases hx⟩
  · refine ⟨_, cap, hv, .inr ⟨g, 0, rfl, lt_of_blk hh, fun j s hj => ?_⟩, fun x hx => by cases hx; exact ⟨hb, lt_of_blk hh⟩⟩
    subst hv
    have := h.own.cells (g := g) rfl j _ (iC_get zs j s hj)
    rwa [Addr.add_lit] at this
theorem OwnedI.new {B : Nat} {w0 w : World} {v : Value} {zs : List Int} (h : OwnedI B w0 w v zs) : ∃ ad cap, v = .slice ad zs.length cap ∧ NewI B w ad zs := by
  obtain ⟨ad, cap, hv, hi, _⟩ := h.slice
  refine ⟨ad, cap, hv, hi, fun x hx => ?_⟩
  rcases h.own.2 with ⟨hv2, h0⟩ | ⟨g, cap, cur, hv2, hb, hh, hr⟩
  · rw [hv, hx] at hv2; cases hv2
  · rw [hv, hx] at hv2; cases hv2; exact ⟨hb, _, _, hh⟩
set_option maxRecDepth 100000 in
set_option maxHeartbeats 2000000 in
theorem cloneInts_any (a : Option Addr) (n cap : Nat) (l : List Int) (hn : l.length = n) (hm : n * 8 ≤ 140737488355328) (w : World) (hI : IntsIn w a l) :
    Calls Tryz.prog 30 #[.slice a n cap] w fun e w' => ∃ a1 c1, e = .returned (.slice a1 n c1) ∧ NewI w.heap.size w' a1 l ∧ Below w.heap.size w w' := by
  have q22 : ∀ (w : World) (a : Option Addr) (n c n' c' : Nat), (binOp .eql 22 (.slice a n c) (.slice none n' c')).run Tryz.prog w = .ok (.bool a.isNone) w := fun w a n c n' c' => Lib.run_eql_slice_nil w _ _ a n c n' c' Tryz.underlying22
  cases a with
  | none =>
    obtain rfl : l = [] := by rcases hI with h | ⟨g, off, ha, _⟩; exact h; cases ha
    obtain rfl : 0 = n := hn
    clear hI hm
    go_enter Tryz.func30, Tryz.ntmps30
    go_wp2
    go_ret
    first | exact ⟨none, 0, rfl, ⟨.inl rfl, fun x hx => by cases hx⟩, Below.refl _ _⟩ | exact ⟨none, ⟨0, rfl⟩, ⟨.inl rfl, fun x hx => by cases hx⟩, Below.refl _ _⟩
  | some ad =>
    obtain ⟨i0, hi0, hz0, hz1, hz2⟩ := info_parts Tryz.info3
    have HP := hid hI
    have HN := hid (And.intro hn hm)
    clear hI hn hm
    go_enter Tryz.func30, Tryz.ntmps30
    go_wp2_with (at_builtin; refine wpList_append_own _ rfl _ _ 22 rfl w.heap.size 3 i0 (.int .i64 0) 1 8 Tryz.underlying22 hi0 hz0 hz1 hz2 rfl (by decide) _ _ _ rfl (World.ownsRow_made w #[] 0 (Nat.le_refl _) (Nat.zero_le _) rfl) ad n cap (iC l) rfl ?qc1 ?qc2 ?qc3 ?qc4 ?qc5 ?qc6 ?_)
    case qc1 => rw [iC_len, HN.out.1, Nat.mul_one]
    case qc2 =>
      intro j u hj
      obtain ⟨s, hs, rfl⟩ := iC_back l j u hj
      obtain ⟨g', off', eg, _, h1⟩ := HP.out.at j s hs
      cases eg
      rw [Addr.add_lit]
      exact Lib.cell?_alloc_some _ h1
    case qc3 => exact iC_one l
    case qc4 => have := HN.out.2; unfold maxLen; omega
    case qc5 => have := HN.out.2; omega
    case qc6 => simp
    intro v' w1 hown hgrow hnil
    have HO : Hid (OwnedI w.heap.size w w1 v' l) := hid ⟨by rw [HN.out.1]; simpa using hown, ((Below.refl _ w).alloc (Nat.le_refl _) _).grown hgrow (by simp) (by intro k hk; simp [Value.ownBlock] at hk; omega), by have := hgrow.size; simp at this; omega⟩
    clear hown hgrow hnil
    obtain ⟨a1, c1, hv, hN⟩ := HO.out.new
    rw [HN.out.1] at hv
    subst hv
    have HNw := hid hN
    clear hN
    go_wp2
    go_ret
    first | exact ⟨a1, c1, rfl, HNw.out, HO.out.bel⟩ | exact ⟨a1, ⟨c1, rfl⟩, HNw.out, HO.out.bel⟩

end Go.Proofs.YthjgnfeadagmeaaGreat
