/- Texts laid together: PaA WiA CoF CoI WiB DeA DeC OpA WiC WiT. -/
import Derived.Test.YtfjcpghepkmbfaaGa2
import Derived.Test.YtfjcpghepkmbfaaGa1
import Derived.Test.YtfjcpghepkmbfaaRows
import Derived.ProofKit
import Derived.OpenShut
import Derived.ShutString
import Derived.ChangeOld
import Derived.Deep.Slices
import Derived.WalkLawsBesides
/- Papers: pairs of a number and a text in memory; which papers are right. No walk here. -/
namespace Go.Proofs.Ytfjcpghepkmbfaa
open Go.RowKit

/-- The pairs ps lie at a: a number and a text each. -/
def PairsIn (w : World) (a : Option Addr) (ps : List (Int × ByteArray)) : Prop :=
  ps = [] ∨ ∃ g off, a = some ⟨g, off, none⟩ ∧ g < w.heap.size ∧ ∀ j p, ps[j]? = some p → w.cell? ⟨g, off + j * 2, none⟩ = some (.int .i64 p.1) ∧ w.cell? ⟨g, off + j * 2 + 1, none⟩ = some (.string p.2)
theorem PairsIn.keep {w w' : World} {a : Option Addr} {ps : List (Int × ByteArray)} {B : Nat} (h : PairsIn w a ps) (hb : Below B w w') (hB : w.heap.size ≤ B) : PairsIn w' a ps := by
  rcases h with h | ⟨g, off, ha, hg, hc⟩
  · exact .inl h
  · exact .inr ⟨g, off, ha, Nat.lt_of_lt_of_le hg hb.size, fun j p hp => ⟨(hb.cell (p := ⟨g, _, none⟩) (Nat.lt_of_lt_of_le hg hB)).trans (hc j p hp).1, (hb.cell (p := ⟨g, _, none⟩) (Nat.lt_of_lt_of_le hg hB)).trans (hc j p hp).2⟩⟩
theorem PairsIn.at {w : World} {a : Option Addr} {ps : List (Int × ByteArray)} (h : PairsIn w a ps) (j : Nat) (p : Int × ByteArray) (hj : ps[j]? = some p) :
    ∃ g off, a = some ⟨g, off, none⟩ ∧ g < w.heap.size ∧ w.cell? ⟨g, off + j * 2, none⟩ = some (.int .i64 p.1) ∧ w.cell? ⟨g, off + j * 2 + 1, none⟩ = some (.string p.2) := by
  rcases h with h | ⟨g, off, ha, hg, hc⟩
  · rw [h] at hj; simp at hj
  · exact ⟨g, off, ha, hg, hc j p hj⟩
def pC (ps : List (Int × ByteArray)) : List Value := ps.flatMap fun p => [.int .i64 p.1, .string p.2]
theorem pC_cons (p : Int × ByteArray) (ps : List (Int × ByteArray)) : pC (p :: ps) = .int .i64 p.1 :: .string p.2 :: pC ps := rfl
theorem pC_len (ps : List (Int × ByteArray)) : (pC ps).length = ps.length * 2 := by
  induction ps with
  | nil => rfl
  | cons p ps ih => rw [pC_cons, List.length_cons, List.length_cons, ih, List.length_cons]; omega
theorem pC_app (a b : List (Int × ByteArray)) : pC (a ++ b) = pC a ++ pC b := by simp [pC]
theorem pC_get (ps : List (Int × ByteArray)) : ∀ (j : Nat) (p : Int × ByteArray), ps[j]? = some p → (pC ps)[j * 2]? = some (.int .i64 p.1) ∧ (pC ps)[j * 2 + 1]? = some (.string p.2) := by
  induction ps with
  | nil => intro j p h; simp at h
  | cons q ps ih =>
    intro j p h
    rw [pC_cons]
    cases j with
    | zero =>
      simp at h
      subst h
      exact ⟨rfl, rfl⟩
    | succ j =>
      have e1 : (j + 1) * 2 = j * 2 + 1 + 1 := by omega
      rw [e1]
      simp at h
      have := ih j p h
      exact ⟨by simpa using this.1, by simpa using this.2⟩
/-- The i-th number, the i-th text. -/
def idOf (ps : List (Int × ByteArray)) (i : Nat) : Int := (ps.getD i (0, ⟨#[]⟩)).1
def rtOf (ps : List (Int × ByteArray)) (i : Nat) : ByteArray := (ps.getD i (0, ⟨#[]⟩)).2
theorem getP_some {ps : List (Int × ByteArray)} {j : Nat} (hj : j < ps.length) : ps[j]? = some (idOf ps j, rtOf ps j) := by
  rw [List.getElem?_eq_getElem hj, idOf, rtOf, List.getD_eq_getElem?_getD, List.getElem?_eq_getElem hj]
  rfl
/-- The i-th seat is one, and stands behind the one ahead of it. -/
def okPAt (ps : List (Int × ByteArray)) (i : Nat) : Bool := decide (0 ≤ idOf ps i ∧ idOf ps i < 16) && (decide ((rtOf ps i).size = 32) && (decide (i = 0) || decide (idOf ps (i - 1) < idOf ps i)))
def okPTo (ps : List (Int × ByteArray)) : Nat → Bool
  | 0 => true
  | j + 1 => okPTo ps j && okPAt ps j
theorem okPTo_succ (ps : List (Int × ByteArray)) (j : Nat) : okPTo ps (j + 1) = (okPTo ps j && okPAt ps j) := rfl
theorem okPTo_false (ps : List (Int × ByteArray)) (j n : Nat) (h : okPTo ps j = false) (hn : j ≤ n) : okPTo ps n = false := by
  induction n with
  | zero =>
    obtain rfl : j = 0 := by omega
    exact h
  | succ n ih =>
    by_cases e : j = n + 1
    · rw [← e]; exact h
    · rw [okPTo_succ, ih (by omega)]; rfl
theorem okPAt_no1 (ps : List (Int × ByteArray)) (i : Nat) (h : ¬ (0 ≤ idOf ps i ∧ idOf ps i < 16)) : okPAt ps i = false := by rw [okPAt, decide_eq_false h]; rfl
theorem okPAt_no2 (ps : List (Int × ByteArray)) (i : Nat) (h : ¬ (rtOf ps i).size = 32) : okPAt ps i = false := by rw [okPAt, decide_eq_false h]; simp
theorem okPAt_no3 (ps : List (Int × ByteArray)) (i : Nat) (h0 : i ≠ 0) (h : ¬ (idOf ps (i - 1) < idOf ps i)) : okPAt ps i = false := by rw [okPAt, decide_eq_false h, decide_eq_false h0]; simp
theorem okPAt_yes0 (ps : List (Int × ByteArray)) (h : 0 ≤ idOf ps 0 ∧ idOf ps 0 < 16) (hs : (rtOf ps 0).size = 32) : okPAt ps 0 = true := by rw [okPAt, decide_eq_true h, decide_eq_true hs]; rfl
theorem okPAt_yes (ps : List (Int × ByteArray)) (i : Nat) (h : 0 ≤ idOf ps i ∧ idOf ps i < 16) (hs : (rtOf ps i).size = 32) (h1 : idOf ps (i - 1) < idOf ps i) : okPAt ps i = true := by rw [okPAt, decide_eq_true h, decide_eq_true hs, decide_eq_true h1]; simp
/-- Is the paper right? -/
def rightP (ep : Int) (ps : List (Int × ByteArray)) : Bool := okPTo ps ps.length && (decide (0 ≤ ep ∧ ep ≤ 65535) && decide (4 ≤ ps.length ∧ ps.length ≤ 10))
theorem okPTo_at (ps : List (Int × ByteArray)) : ∀ n, okPTo ps n = true → ∀ i, i < n → okPAt ps i = true
  | 0, _, i, hi => by omega
  | n + 1, h, i, hi => by
    rw [okPTo_succ, Bool.and_eq_true_iff] at h
    by_cases e : i = n
    · rw [e]; exact h.2
    · exact okPTo_at ps n h.1 i (by omega)
theorem rightP_parts {ep : Int} {ps : List (Int × ByteArray)} (h : rightP ep ps = true) : (0 ≤ ep ∧ ep ≤ 65535) ∧ (4 ≤ ps.length ∧ ps.length ≤ 10) ∧ ∀ i, i < ps.length → (0 ≤ idOf ps i ∧ idOf ps i < 16) ∧ (rtOf ps i).size = 32 ∧ (i = 0 ∨ idOf ps (i - 1) < idOf ps i) := by
  rw [rightP, Bool.and_eq_true_iff, Bool.and_eq_true_iff] at h
  refine ⟨of_decide_eq_true h.2.1, of_decide_eq_true h.2.2, fun i hi => ?_⟩
  have := okPTo_at ps _ h.1 i hi
  rw [okPAt, Bool.and_eq_true_iff, Bool.and_eq_true_iff, Bool.or_eq_true_iff] at this
  exact ⟨of_decide_eq_true this.1, of_decide_eq_true this.2.1, this.2.2.imp of_decide_eq_true of_decide_eq_true⟩
/-- A paper (or a configuration) in block b. -/
def PpAt (w : World) (b : Nat) (ep : Int) (v : Value) (t : TypeId) : Prop := w.heap[b]? = some (.cells #[.int .i64 ep, v] t (0, 0))
theorem PpAt.lt {w : World} {b : Nat} {ep : Int} {v : Value} {t : TypeId} (h : PpAt w b ep v t) : b < w.heap.size := lt_of_blk h
theorem PpAt.keep {w w' : World} {b : Nat} {ep : Int} {v : Value} {t : TypeId} (h : PpAt w b ep v t) (hb : Below w.heap.size w w') : PpAt w' b ep v t := (hb.block b h.lt).trans h
theorem PpAt.c0 {w : World} {b : Nat} {ep : Int} {v : Value} {t : TypeId} (h : PpAt w b ep v t) : w.cell? ⟨b, 0, none⟩ = some (.int .i64 ep) := cell_at (L := [.int .i64 ep, v]) h 0 _ rfl
theorem PpAt.c1 {w : World} {b : Nat} {ep : Int} {v : Value} {t : TypeId} (h : PpAt w b ep v t) : w.cell? ⟨b, 1, none⟩ = some v := cell_at (L := [.int .i64 ep, v]) h 1 _ rfl
theorem PpAt.new (w : World) (ep : Int) (v : Value) (t : TypeId) : PpAt (w.alloc (.cells #[.int .i64 ep, v] t)) w.heap.size ep v t := heap_alloc_last w _
end Go.Proofs.Ytfjcpghepkmbfaa

/- Readers and tellers of bytes that fit each other. No walk here. -/
namespace Go.Proofs.Ytfjcpghepkmbfaa
open Go.RowKit

abbrev Ps (α : Type) := ByteArray → Option (α × ByteArray)
/-- What is told is read, what is read was told. -/
structure Inv {α : Type} (p : Ps α) (f : α → List UInt8) (V : α → Prop) : Prop where
  good : ∀ (s : ByteArray) (x : α) (rest : List UInt8), V x → s.data.toList = f x ++ rest → ∃ s', p s = some (x, s') ∧ s'.data.toList = rest
  back : ∀ (s : ByteArray) (x : α) (s' : ByteArray), p s = some (x, s') → V x ∧ s.data.toList = f x ++ s'.data.toList
def pN (n : Nat) : Ps Nat := fun s => if rB s false n = false then some (rN s false n, rS s false n) else none
theorem inv_N (n : Nat) : Inv (pN n) (be n) (fun k => k < 256 ^ n) where
  good s k rest hk h := by
    obtain ⟨h1, h2, h3⟩ := rd_good s n k rest h hk
    exact ⟨rS s false n, by rw [pN, if_pos h3, h1], h2⟩
  back s k s' h := by
    unfold pN at h
    split at h
    · rename_i h3
      cases h
      exact ⟨rN_lt s false n, (rd_back s false n h3).2⟩
    · cases h
def pT : Ps ByteArray := fun s => if tB s false = false then some (tT s false, tS s false) else none
def txL (x : ByteArray) : List UInt8 := be 2 x.size ++ x.data.toList
theorem inv_T : Inv pT txL (fun x => x.size ≤ 65535) where
  good s x rest hx h := by
    rw [txL, List.append_assoc] at h
    obtain ⟨h1, h2, h3⟩ := tx_good s x rest h hx
    exact ⟨tS s false, by rw [pT, if_pos h3, h1], h2⟩
  back s x s' h := by
    unfold pT at h
    split at h
    · rename_i h3
      cases h
      obtain ⟨_, h4, h5⟩ := tx_back s false h3
      exact ⟨h5, by rw [txL, List.append_assoc]; exact h4⟩
    · cases h
def pSeq {α β : Type} (p : Ps α) (q : Ps β) : Ps (α × β) := fun s => (p s).bind fun a => (q a.2).map fun b => ((a.1, b.1), b.2)
theorem Inv.seq {α β : Type} {p : Ps α} {q : Ps β} {f : α → List UInt8} {g : β → List UInt8} {V : α → Prop} {W : β → Prop} (hp : Inv p f V) (hq : Inv q g W) : Inv (pSeq p q) (fun z => f z.1 ++ g z.2) (fun z => V z.1 ∧ W z.2) where
  good s z rest hz h := by
    rw [List.append_assoc] at h
    obtain ⟨s1, h1, h2⟩ := hp.good s z.1 _ hz.1 h
    obtain ⟨s2, h3, h4⟩ := hq.good s1 z.2 rest hz.2 h2
    exact ⟨s2, by rw [pSeq, h1]; simp [h3], h4⟩
  back s z s' h := by
    unfold pSeq at h
    cases h1 : p s with
    | none => rw [h1] at h; cases h
    | some a =>
      rw [h1] at h
      simp only [Option.bind_some] at h
      cases h2 : q a.2 with
      | none => rw [h2] at h; cases h
      | some b =>
        rw [h2] at h
        simp only [Option.map_some, Option.some.injEq, Prod.mk.injEq] at h
        obtain ⟨rfl, rfl⟩ := h
        obtain ⟨v1, e1⟩ := hp.back s a.1 a.2 h1
        obtain ⟨v2, e2⟩ := hq.back a.2 b.1 b.2 h2
        exact ⟨⟨v1, v2⟩, by rw [e1, e2, List.append_assoc]⟩
def pMap {α β : Type} (d : α → Option β) (p : Ps α) : Ps β := fun s => (p s).bind fun a => (d a.1).map fun y => (y, a.2)
theorem Inv.map {α β : Type} {p : Ps α} {f : α → List UInt8} {V : α → Prop} (hp : Inv p f V) (d : α → Option β) (e : β → α) (W : β → Prop) (h1 : ∀ y, W y → V (e y) ∧ d (e y) = some y) (h2 : ∀ x y, V x → d x = some y → W y ∧ e y = x) : Inv (pMap d p) (fun y => f (e y)) W where
  good s y rest hy h := by
    obtain ⟨v, hd⟩ := h1 y hy
    obtain ⟨s1, h3, h4⟩ := hp.good s (e y) rest v h
    exact ⟨s1, by rw [pMap, h3]; simp [hd], h4⟩
  back s y s' h := by
    unfold pMap at h
    cases h3 : p s with
    | none => rw [h3] at h; cases h
    | some a =>
      rw [h3] at h
      simp only [Option.bind_some] at h
      cases h4 : d a.1 with
      | none => rw [h4] at h; cases h
      | some z =>
        rw [h4] at h
        simp only [Option.map_some, Option.some.injEq, Prod.mk.injEq] at h
        obtain ⟨rfl, rfl⟩ := h
        obtain ⟨v1, e1⟩ := hp.back s a.1 a.2 h3
        obtain ⟨w1, e2⟩ := h2 a.1 z v1 h4
        exact ⟨w1, by rw [e1, e2]⟩
def pMany {α : Type} (p : Ps α) : Nat → ByteArray → Option (List α × ByteArray)
  | 0, s => some ([], s)
  | k + 1, s => (pMany p k s).bind fun a => (p a.2).map fun b => (a.1 ++ [b.1], b.2)
theorem Inv.many {α : Type} {p : Ps α} {f : α → List UInt8} {V : α → Prop} (hp : Inv p f V) : ∀ k, Inv (pMany p k) (fun l => l.flatMap f) (fun l => l.length = k ∧ ∀ x, x ∈ l → V x)
  | 0 => ⟨fun s l rest hl h => by
      obtain rfl := List.eq_nil_of_length_eq_zero hl.1
      exact ⟨s, rfl, by simpa using h⟩, fun s l s' h => by
      cases h
      exact ⟨⟨rfl, fun x hx => by cases hx⟩, rfl⟩⟩
  | k + 1 => ⟨fun s l rest hl h => by
      obtain ⟨l', x, rfl⟩ : ∃ l' x, l = l' ++ [x] := ⟨l.dropLast, l.getLast (by intro e; rw [e] at hl; cases hl.1), (List.dropLast_concat_getLast _).symm⟩
      have hl' : l'.length = k := by have := hl.1; rw [List.length_append] at this; simpa using this
      rw [List.flatMap_append, List.append_assoc] at h
      obtain ⟨s1, h1, h2⟩ := (Inv.many hp k).good s l' _ ⟨hl', fun y hy => hl.2 y (List.mem_append.2 (.inl hy))⟩ h
      rw [show [x].flatMap f = f x by simp] at h2
      obtain ⟨s2, h3, h4⟩ := hp.good s1 x rest (hl.2 x (by simp)) h2
      exact ⟨s2, by rw [pMany, h1]; simp [h3], h4⟩, fun s l s' h => by
      rw [pMany] at h
      cases h1 : pMany p k s with
      | none => rw [h1] at h; cases h
      | some a =>
        rw [h1] at h
        simp only [Option.bind_some] at h
        cases h2 : p a.2 with
        | none => rw [h2] at h; cases h
        | some b =>
          rw [h2] at h
          simp only [Option.map_some, Option.some.injEq, Prod.mk.injEq] at h
          obtain ⟨rfl, rfl⟩ := h
          obtain ⟨v1, e1⟩ := (Inv.many hp k).back s a.1 a.2 h1
          obtain ⟨v2, e2⟩ := hp.back a.2 b.1 b.2 h2
          refine ⟨⟨by rw [List.length_append, v1.1]; rfl, fun x hx => ?_⟩, by rw [e1, e2, List.flatMap_append, List.append_assoc]; simp⟩
          rcases List.mem_append.1 hx with hx | hx
          · exact v1.2 x hx
          · rw [List.mem_singleton.1 hx]; exact v2⟩
def pList {α : Type} (p : Ps α) : Ps (List α) := fun s => (pN 1 s).bind fun a => pMany p a.1 a.2
def lsL {α : Type} (f : α → List UInt8) (l : List α) : List UInt8 := be 1 l.length ++ l.flatMap f
theorem Inv.list {α : Type} {p : Ps α} {f : α → List UInt8} {V : α → Prop} (hp : Inv p f V) : Inv (pList p) (lsL f) (fun l => l.length < 256 ∧ ∀ x, x ∈ l → V x) where
  good s l rest hl h := by
    rw [lsL, List.append_assoc] at h
    obtain ⟨s1, h1, h2⟩ := (inv_N 1).good s l.length _ (by simpa using hl.1) h
    obtain ⟨s2, h3, h4⟩ := (hp.many l.length).good s1 l rest ⟨rfl, hl.2⟩ h2
    exact ⟨s2, by rw [pList, h1]; exact h3, h4⟩
  back s l s' h := by
    unfold pList at h
    cases h1 : pN 1 s with
    | none => rw [h1] at h; cases h
    | some a =>
      rw [h1] at h
      simp only [Option.bind_some] at h
      obtain ⟨v1, e1⟩ := (inv_N 1).back s a.1 a.2 h1
      obtain ⟨v2, e2⟩ := (hp.many a.1).back a.2 l s' h
      exact ⟨⟨by rw [v2.1]; simpa using v1, v2.2⟩, by rw [e1, e2, lsL, v2.1, List.append_assoc]⟩
def pI (n : Nat) : Ps Int := pMap (fun k : Nat => some (k : Int)) (pN n)
theorem inv_I (n : Nat) : Inv (pI n) (fun z => be n z.toNat) (fun z => 0 ≤ z ∧ z.toNat < 256 ^ n) :=
  (inv_N n).map (fun k : Nat => some (k : Int)) Int.toNat (fun z => 0 ≤ z ∧ z.toNat < 256 ^ n) (fun y hy => ⟨hy.2, by rw [Int.toNat_of_nonneg hy.1]⟩) (fun x y hx hd => by cases hd; exact ⟨⟨Int.natCast_nonneg _, by simpa using hx⟩, by simp⟩)
/-- A signature; signatures. -/
abbrev Sg := Int × ByteArray
def sgV (p : Sg) : Prop := (0 ≤ p.1 ∧ p.1.toNat < 256 ^ 1) ∧ p.2.size ≤ 65535
def sigL (p : Sg) : List UInt8 := be 1 p.1.toNat ++ txL p.2
def pSg : Ps Sg := pSeq (pI 1) pT
theorem inv_sg : Inv pSg sigL sgV := (inv_I 1).seq inv_T
def pSgs : Ps (List Sg) := pList pSg
def sgsV (l : List Sg) : Prop := l.length < 256 ∧ ∀ x, x ∈ l → sgV x
def sgsL (l : List Sg) : List UInt8 := lsL sigL l
theorem inv_sgs : Inv pSgs sgsL sgsV := inv_sg.list
/-- A request by its text. -/
def rqV (r : Rq) : Prop := (rightB r = true ∨ r = zeroQ) ∧ canW r.b = r.b ∧ r.b < 18446744073709551616
def pRq : Ps Rq := pMap (fun t => if rdE t = 0 then some (rdR t) else none) pT
def rqX (r : Rq) : List UInt8 := txL (rqT r)
theorem zero_text : rqT zeroQ = ⟨#[0]⟩ := by decide
theorem rd_right {r : Rq} (h : rightB r = true) (hc : canW r.b = r.b) (hb : r.b < 18446744073709551616) : rdE (rqT r) = 0 ∧ rdR (rqT r) = r := by
  obtain ⟨h1, h2, h3⟩ := read_back h hb
  refine ⟨by rw [rdE, h3, h1]; rfl, ?_⟩
  rw [rdR, h3, h1]
  show rdq (rqT r) = r
  rw [h2, hc]
theorem rq_size {r : Rq} (h : rightB r = true) : (rqT r).size ≤ 34 := by
  have hk := (right_fields h).2.2.2.1
  rw [rqT, right_null h, h]
  show (ByteArray.mk (rqL r).toArray).size ≤ 34
  have : (ByteArray.mk (rqL r).toArray).size = (rqL r).length := by simp [ByteArray.size]
  rw [this, rqL_len]
  omega
theorem inv_rq : Inv pRq rqX rqV :=
  inv_T.map (fun t => if rdE t = 0 then some (rdR t) else none) rqT rqV (fun r hr => by
    rcases hr.1 with h | h
    · obtain ⟨h1, h2⟩ := rd_right h hr.2.1 hr.2.2
      exact ⟨by have := rq_size h; omega, by rw [if_pos h1, h2]⟩
    · subst h
      rw [zero_text]
      exact ⟨by decide, by rw [if_pos (by decide)]; rfl⟩) (fun t r ht hd => by
    split at hd
    · rename_i h0
      cases hd
      unfold rdE at h0
      cases hn : isNul t with
      | true =>
        have ht0 : t = ⟨#[0]⟩ := by
          have := of_decide_eq_true hn
          apply ByteArray.ext
          exact Array.ext' this
        rw [show rdR t = zeroQ by rw [rdR, hn]; rfl]
        exact ⟨⟨.inr rfl, by decide, by decide⟩, by rw [zero_text, ht0]⟩
      | false =>
        rw [hn] at h0
        cases ho : okq t with
        | false => rw [ho] at h0; cases h0
        | true =>
          obtain ⟨h1, h2, h3⟩ := told_back ho
          rw [show rdR t = rdq t by rw [rdR, hn, ho]; rfl]
          refine ⟨⟨.inl h1, ?_, h3⟩, h2⟩
          simp only [okq, Bool.and_eq_true] at ho
          obtain ⟨f1, f2⟩ := fromW_ok ho.1.1.2
          show canW (fromW (rdBits t)) = fromW (rdBits t)
          rw [f1, f2]
    · cases hd)
/-- A result by its text. -/
def rsV (x : Int × Nat) : Prop := rsB x.1 = true ∧ canW x.2 = x.2 ∧ x.2 < 18446744073709551616
def pRs : Ps (Int × Nat) := pMap (fun t => if rsR t = 0 then some (rsC t, rsF t) else none) pT
def rsX (x : Int × Nat) : List UInt8 := txL (rsT x.1 x.2)
theorem rs_sz {c : Int} {f : Nat} (h : rsB c = true) : (rsT c f).size = 9 := by
  rw [rsT, if_pos h]
  have : (ByteArray.mk (rsL c f).toArray).size = (rsL c f).length := by simp [ByteArray.size]
  rw [this, rsL, List.length_append, be_len, be_len]
theorem inv_rs : Inv pRs rsX rsV :=
  inv_T.map (fun t => if rsR t = 0 then some (rsC t, rsF t) else none) (fun x : Int × Nat => rsT x.1 x.2) rsV (fun x hx => by
    obtain ⟨h1, h2, h3⟩ := rs_back hx.1 hx.2.2
    exact ⟨by rw [rs_sz hx.1]; decide, by rw [if_pos ((show rsR (rsT x.1 x.2) = 0 by rw [rsR, h1]; rfl)), h2, h3, hx.2.1]⟩) (fun t x ht hd => by
    split at hd
    · rename_i h0
      cases hd
      cases ho : okRs t with
      | false => rw [rsR, ho] at h0; cases h0
      | true =>
        obtain ⟨h1, h2, h3⟩ := rs_told ho
        refine ⟨⟨h1, ?_, h3⟩, h2⟩
        have hk := ho
        simp only [okRs, Bool.and_eq_true] at hk
        obtain ⟨f1, f2⟩ := fromW_ok hk.1.1
        show canW (rsF t) = rsF t
        rw [rsF, if_pos ho, f1, f2]
    · cases hd)
/-- A configuration by its text. -/
def cfV (x : Int × List Int) : Prop := rightC x.1 x.2 = true
def pCf : Ps (Int × List Int) := pMap (fun t => if readE t = 0 then some (readZ t, readM t) else none) pT
def cfX (x : Int × List Int) : List UInt8 := txL (textC x.1 x.2)
theorem cf_sz {e : Int} {l : List Int} (h : rightC e l = true) : (textC e l).size ≤ 14 := by
  have := mem_len (rightC_ep h).2
  rw [textC, if_pos h]
  have hs : (ByteArray.mk (confB e l).toArray).size = (confB e l).length := by simp [ByteArray.size]
  rw [hs, confB, List.length_append, List.length_append, List.length_append, be_len, be_len, be_len, memBytes_len]
  omega
theorem inv_cf : Inv pCf cfX cfV :=
  inv_T.map (fun t => if readE t = 0 then some (readZ t, readM t) else none) (fun x : Int × List Int => textC x.1 x.2) cfV (fun x hx => by
    obtain ⟨h1, h2, h3⟩ := read_text x.1 x.2 hx
    exact ⟨by have := cf_sz hx; omega, by rw [if_pos ((show readE (textC x.1 x.2) = 0 by rw [readE, h1]; rfl)), h2, h3]⟩) (fun t x ht hd => by
    split at hd
    · rename_i h0
      cases hd
      cases ho : readB t with
      | false => rw [readE, ho] at h0; cases h0
      | true => exact text_read t ho
    · cases hd)
/-- A certificate: view, slot, request, signatures. A change: from, view, certificates, signature. A link: its configuration, its signatures. -/
abbrev Ct := Int × Int × Rq × List Sg
abbrev Cg := Int × Int × List Ct × Sg
abbrev Ln := (Int × List Int) × List Sg
def iV (n : Nat) (z : Int) : Prop := 0 ≤ z ∧ z.toNat < 256 ^ n
def ctV (c : Ct) : Prop := iV 1 c.1 ∧ iV 2 c.2.1 ∧ rqV c.2.2.1 ∧ sgsV c.2.2.2
def ctL (c : Ct) : List UInt8 := be 1 c.1.toNat ++ (be 2 c.2.1.toNat ++ (rqX c.2.2.1 ++ sgsL c.2.2.2))
def pCt : Ps Ct := pSeq (pI 1) (pSeq (pI 2) (pSeq pRq pSgs))
theorem inv_ct : Inv pCt ctL ctV := (inv_I 1).seq ((inv_I 2).seq (inv_rq.seq inv_sgs))
def cgV (c : Cg) : Prop := iV 1 c.1 ∧ iV 1 c.2.1 ∧ (c.2.2.1.length < 256 ∧ ∀ x, x ∈ c.2.2.1 → ctV x) ∧ sgV c.2.2.2
def cgL (c : Cg) : List UInt8 := be 1 c.1.toNat ++ (be 1 c.2.1.toNat ++ (lsL ctL c.2.2.1 ++ sigL c.2.2.2))
def pCg : Ps Cg := pSeq (pI 1) (pSeq (pI 1) (pSeq (pList pCt) pSg))
theorem inv_cg : Inv pCg cgL cgV := (inv_I 1).seq ((inv_I 1).seq (inv_ct.list.seq inv_sg))
def lnV (c : Ln) : Prop := cfV c.1 ∧ sgsV c.2
def lnL (c : Ln) : List UInt8 := cfX c.1 ++ sgsL c.2
def pLn : Ps Ln := pSeq pCf pSgs
theorem inv_ln : Inv pLn lnL lnV := inv_cf.seq inv_sgs
def oneL (z : Int) : List UInt8 := be 1 z.toNat
def pMem : Ps (List Int) := pList (pI 1)
theorem inv_mem : Inv pMem (lsL oneL) (fun l => l.length < 256 ∧ ∀ x, x ∈ l → iV 1 x) := (inv_I 1).list
/-- A message: kind, epoch, view, slot, request, result, text, next, signatures, changes, links. -/
structure Ms where
  k : Int
  ep : Int
  v : Int
  sl : Int
  rq : Rq
  rs : Int × Nat
  tx : ByteArray
  nx : List Int
  sg : List Sg
  cg : List Cg
  ln : List Ln
abbrev MsT := Int × Int × Int × Int × Rq × (Int × Nat) × ByteArray × List Int × List Sg × List Cg × List Ln
def Ms.t (m : Ms) : MsT := (m.k, m.ep, m.v, m.sl, m.rq, m.rs, m.tx, m.nx, m.sg, m.cg, m.ln)
def MsT.m (z : MsT) : Ms := ⟨z.1, z.2.1, z.2.2.1, z.2.2.2.1, z.2.2.2.2.1, z.2.2.2.2.2.1, z.2.2.2.2.2.2.1, z.2.2.2.2.2.2.2.1, z.2.2.2.2.2.2.2.2.1, z.2.2.2.2.2.2.2.2.2.1, z.2.2.2.2.2.2.2.2.2.2⟩
def msL (m : Ms) : List UInt8 := be 1 m.k.toNat ++ (be 2 m.ep.toNat ++ (be 1 m.v.toNat ++ (be 2 m.sl.toNat ++ (rqX m.rq ++ (rsX m.rs ++ (txL m.tx ++ (lsL oneL m.nx ++ (sgsL m.sg ++ (lsL cgL m.cg ++ lsL lnL m.ln)))))))))
structure MsV (m : Ms) : Prop where
  k : iV 1 m.k
  ep : iV 2 m.ep
  v : iV 1 m.v
  sl : iV 2 m.sl
  rq : rqV m.rq
  rs : rsV m.rs
  tx : m.tx.size ≤ 65535
  nx : m.nx.length < 256 ∧ ∀ x, x ∈ m.nx → iV 1 x
  sg : sgsV m.sg
  cg : m.cg.length < 256 ∧ ∀ x, x ∈ m.cg → cgV x
  ln : m.ln.length < 256 ∧ ∀ x, x ∈ m.ln → lnV x
def pMs : Ps Ms := pMap (fun z => some (MsT.m z)) (pSeq (pI 1) (pSeq (pI 2) (pSeq (pI 1) (pSeq (pI 2) (pSeq pRq (pSeq pRs (pSeq pT (pSeq pMem (pSeq pSgs (pSeq (pList pCg) (pList pLn)))))))))))
theorem inv_ms : Inv pMs msL MsV :=
  ((inv_I 1).seq ((inv_I 2).seq ((inv_I 1).seq ((inv_I 2).seq (inv_rq.seq (inv_rs.seq (inv_T.seq (inv_mem.seq (inv_sgs.seq (inv_cg.list.seq inv_ln.list)))))))))).map (fun z => some (MsT.m z)) Ms.t MsV
    (fun m h => ⟨⟨h.k, h.ep, h.v, h.sl, h.rq, h.rs, h.tx, h.nx, h.sg, h.cg, h.ln⟩, rfl⟩) (fun z m hz hd => by
      cases hd
      obtain ⟨h1, h2, h3, h4, h5, h6, h7, h8, h9, h10, h11⟩ := hz
      exact ⟨⟨h1, h2, h3, h4, h5, h6, h7, h8, h9, h10, h11⟩, rfl⟩)
end Go.Proofs.Ytfjcpghepkmbfaa

/- The document's: who joins, who leaves. -/
namespace Go.Proofs.Ytfjcpghepkmbfaa
open Go.RowKit

/-- The members with id, so far. -/
def joinTo (l : List Int) (id : Int) : Nat → List Int
  | 0 => []
  | j + 1 => joinTo l id j ++ (if (j : Int) = id ∨ (j : Int) ∈ l then [(j : Int)] else [])
theorem joinTo_yes (l : List Int) (id : Int) (j : Nat) (h : (j : Int) = id ∨ (j : Int) ∈ l) : joinTo l id (j + 1) = joinTo l id j ++ [(j : Int)] := by rw [joinTo, if_pos h]
theorem joinTo_no (l : List Int) (id : Int) (j : Nat) (h : ¬ ((j : Int) = id ∨ (j : Int) ∈ l)) : joinTo l id (j + 1) = joinTo l id j := by rw [joinTo, if_neg h, List.append_nil]
theorem joinTo_len (l : List Int) (id : Int) : ∀ j, (joinTo l id j).length ≤ j
  | 0 => Nat.le_refl _
  | j + 1 => by
    have := joinTo_len l id j
    rw [joinTo, List.length_append]
    split <;> simp <;> omega
def joinE (l : List Int) (id : Int) : Int := if ¬ (memB l = true ∧ 0 ≤ id ∧ id < 16) then 1 else if hasM l id = true then 7 else if 10 ≤ l.length then 10 else 0
def joinR (l : List Int) (id : Int) : List Int := if joinE l id = 0 then joinTo l id 16 else []
/-- The members without id. -/
def leaveF (l : List Int) (id : Int) : List Int := l.filter fun z => decide (z ≠ id)
def leaveE (l : List Int) (id : Int) : Int := if ¬ (memB l = true ∧ 0 ≤ id ∧ id < 16) then 1 else if hasM l id = false then 8 else if l.length ≤ 4 then 9 else 0
def leaveR (l : List Int) (id : Int) : List Int := if leaveE l id = 0 then leaveF l id else []
theorem leave_snoc (l : List Int) (id : Int) (j : Nat) (hj : j < l.length) :
    (l.getD j 0 ≠ id → leaveF (l.take (j + 1)) id = (leaveF (l.take j) id) ++ [l.getD j 0]) ∧
    (l.getD j 0 = id → leaveF (l.take (j + 1)) id = leaveF (l.take j) id) := by
  unfold leaveF
  rw [List.take_add_one, getD_some hj, List.filter_append]
  constructor
  · intro h
    rw [List.getD_eq_getElem?_getD] at h
    congr 1
    simp [h]
  · intro h
    rw [List.getD_eq_getElem?_getD] at h
    simp [h]

end Go.Proofs.Ytfjcpghepkmbfaa

/- Members as rising lists; who joined and left. No walk here. -/
namespace Go.Proofs.Ytfjcpghepkmbfaa
open Go.RowKit

abbrev Inc (l : List Int) : Prop := l.Pairwise (· < ·)
theorem inc_eq : ∀ (a b : List Int), Inc a → Inc b → (∀ x, x ∈ a ↔ x ∈ b) → a = b
  | [], [], _, _, _ => rfl
  | [], y :: b, _, _, h => absurd ((h y).2 (List.mem_cons_self ..)) (by simp)
  | x :: a, [], _, _, h => absurd ((h x).1 (List.mem_cons_self ..)) (by simp)
  | x :: a, y :: b, ha, hb, h => by
    obtain ⟨hx, ha1⟩ := List.pairwise_cons.1 ha
    obtain ⟨hy, hb1⟩ := List.pairwise_cons.1 hb
    have e : x = y := by
      have h1 := (h x).1 (List.mem_cons_self ..)
      have h2 := (h y).2 (List.mem_cons_self ..)
      rcases List.mem_cons.1 h1 with h1 | h1
      · exact h1
      · rcases List.mem_cons.1 h2 with h2 | h2
        · exact h2.symm
        · have := hx y h2
          have := hy x h1
          omega
    subst e
    congr 1
    refine inc_eq a b ha1 hb1 (fun z => ⟨fun hz => ?_, fun hz => ?_⟩)
    · rcases List.mem_cons.1 ((h z).1 (List.mem_cons_of_mem _ hz)) with rfl | h1
      · have := hx z hz; omega
      · exact h1
    · rcases List.mem_cons.1 ((h z).2 (List.mem_cons_of_mem _ hz)) with rfl | h1
      · have := hy z hz; omega
      · exact h1
theorem getD_get (l : List Int) (i : Nat) (h : i < l.length) : l.getD i 0 = l[i] := by
  rw [List.getD_eq_getElem?_getD, List.getElem?_eq_getElem h]; rfl
theorem inc_step (l : List Int) (h : ∀ i, i + 1 < l.length → l.getD i 0 < l.getD (i + 1) 0) : Inc l := by
  refine List.pairwise_iff_getElem.2 (fun i j hi hj hij => ?_)
  obtain ⟨d, rfl⟩ : ∃ d, j = i + 1 + d := ⟨j - i - 1, by omega⟩
  induction d with
  | zero =>
    have := h i hj
    rwa [getD_get l i hi, getD_get l (i + 1) hj] at this
  | succ d ih =>
    have h1 := ih (by omega) (by omega)
    have h2 := h (i + 1 + d) hj
    rw [getD_get l _ (by omega), getD_get l (i + 1 + d + 1) hj] at h2
    exact Int.lt_trans h1 h2
theorem mem_inc {l : List Int} (h : memB l = true) : Inc l := inc_step l (fun i hi => mem_rise h i hi)
theorem mem_in {l : List Int} (h : memB l = true) (x : Int) (hx : x ∈ l) : 0 ≤ x ∧ x < 16 := by
  obtain ⟨i, hi, rfl⟩ := List.getElem_of_mem hx
  have := mem_range h i hi
  rwa [getD_get l i hi] at this
theorem okTo_all (l : List Int) : ∀ n, (∀ i, i < n → okAt l i = true) → okTo l n = true
  | 0, _ => rfl
  | n + 1, h => by rw [okTo_succ, okTo_all l n (fun i hi => h i (by omega)), h n (by omega)]; rfl
/-- Rising, in range, neither few nor many: right. -/
theorem mem_of {l : List Int} (h1 : Inc l) (h2 : ∀ x, x ∈ l → 0 ≤ x ∧ x < 16) (h3 : 4 ≤ l.length ∧ l.length ≤ 10) : memB l = true := by
  rw [memB, decide_eq_true h3, Bool.and_true]
  refine okTo_all l _ (fun i hi => ?_)
  have hr := h2 _ (List.getElem_mem hi)
  rw [← getD_get l i hi] at hr
  cases i with
  | zero => exact okAt_yes0 l hr
  | succ i =>
    refine okAt_yes l (i + 1) hr ?_
    have := List.pairwise_iff_getElem.1 h1 i (i + 1) (by omega) hi (by omega)
    rwa [← getD_get l i (by omega), ← getD_get l (i + 1) hi] at this
theorem joinTo_mem (l : List Int) (id : Int) : ∀ n x, x ∈ joinTo l id n ↔ ∃ j : Nat, j < n ∧ x = (j : Int) ∧ (x = id ∨ x ∈ l)
  | 0, x => by simp [joinTo]
  | n + 1, x => by
    rw [joinTo, List.mem_append, joinTo_mem l id n x]
    constructor
    · rintro (⟨j, hj, h⟩ | h)
      · exact ⟨j, by omega, h⟩
      · split at h
        · next hc =>
          obtain rfl := List.mem_singleton.1 h
          exact ⟨n, by omega, rfl, hc⟩
        · simp at h
    · rintro ⟨j, hj, rfl, h⟩
      by_cases e : j = n
      · subst e
        right
        rw [if_pos h]
        exact List.mem_singleton.2 rfl
      · exact .inl ⟨j, by omega, rfl, h⟩
theorem joinTo_inc (l : List Int) (id : Int) : ∀ n, Inc (joinTo l id n)
  | 0 => List.Pairwise.nil
  | n + 1 => by
    rw [joinTo]
    refine List.pairwise_append.2 ⟨joinTo_inc l id n, ?_, fun x hx y hy => ?_⟩
    · split <;> simp
    · obtain ⟨j, hj, rfl, _⟩ := (joinTo_mem l id n x).1 hx
      split at hy
      · obtain rfl := List.mem_singleton.1 hy
        omega
      · simp at hy
theorem join_mem {l : List Int} {id : Int} (h : memB l = true) (h0 : 0 ≤ id ∧ id < 16) (x : Int) : x ∈ joinTo l id 16 ↔ x = id ∨ x ∈ l := by
  rw [joinTo_mem]
  constructor
  · rintro ⟨j, hj, rfl, h⟩
    exact h
  · intro hx
    have hr : 0 ≤ x ∧ x < 16 := by
      rcases hx with rfl | hx
      · exact h0
      · exact mem_in h x hx
    exact ⟨x.toNat, by omega, by omega, hx⟩
theorem leave_mem (l : List Int) (id x : Int) : x ∈ leaveF l id ↔ x ∈ l ∧ x ≠ id := by
  rw [leaveF, List.mem_filter]
  simp
theorem leave_inc {l : List Int} (h : Inc l) (id : Int) : Inc (leaveF l id) := List.Pairwise.filter _ h
theorem leave_len {l : List Int} (h : Inc l) (id : Int) (hi : id ∈ l) : (leaveF l id).length + 1 = l.length := by
  induction l with
  | nil => simp at hi
  | cons y l ih =>
    obtain ⟨hy, hl⟩ := List.pairwise_cons.1 h
    rw [leaveF, List.filter_cons]
    by_cases e : y = id
    · subst e
      rw [if_neg (by simp), List.length_cons, List.filter_eq_self.2]
      intro z hz
      have := hy z hz
      simp
      omega
    · have hi2 : id ∈ l := by
        rcases List.mem_cons.1 hi with h | h
        · exact absurd h.symm e
        · exact h
      rw [if_pos (by simp [e]), List.length_cons, List.length_cons]
      have := ih hl hi2
      rw [leaveF] at this
      omega
theorem joinE_ok {l : List Int} {id : Int} (h : joinE l id = 0) : memB l = true ∧ (0 ≤ id ∧ id < 16) ∧ id ∉ l ∧ l.length < 10 := by
  unfold joinE at h
  split at h
  · cases h
  · next h1 =>
    have h1 := Decidable.not_not.1 h1
    split at h
    · cases h
    · next h2 =>
      split at h
      · cases h
      · next h3 => exact ⟨h1.1, h1.2, fun hi => h2 (decide_eq_true hi), by omega⟩
theorem leaveE_ok {l : List Int} {id : Int} (h : leaveE l id = 0) : memB l = true ∧ (0 ≤ id ∧ id < 16) ∧ id ∈ l ∧ 4 < l.length := by
  unfold leaveE at h
  split at h
  · cases h
  · next h1 =>
    have h1 := Decidable.not_not.1 h1
    split at h
    · cases h
    · next h2 =>
      split at h
      · cases h
      · next h3 =>
        refine ⟨h1.1, h1.2, ?_, by omega⟩
        cases e : hasM l id with
        | false => exact absurd e h2
        | true => exact of_decide_eq_true e
/-- Who joined and leaves leaves the members as they were. -/
theorem join_leave {l : List Int} {id : Int} (h : joinE l id = 0) : leaveF (joinR l id) id = l ∧ (joinR l id).length = l.length + 1 := by
  obtain ⟨hm, h0, hn, hl⟩ := joinE_ok h
  have e : leaveF (joinR l id) id = l := by
    rw [joinR, if_pos h]
    refine inc_eq _ _ (leave_inc (joinTo_inc l id 16) id) (mem_inc hm) (fun x => ?_)
    rw [leave_mem, join_mem hm h0]
    constructor
    · rintro ⟨rfl | hx, hne⟩
      · exact absurd rfl hne
      · exact hx
    · intro hx
      exact ⟨.inr hx, fun e => hn (e ▸ hx)⟩
  refine ⟨e, ?_⟩
  have hin : id ∈ joinR l id := by
    rw [joinR, if_pos h, join_mem hm h0]
    exact .inl rfl
  have hinc : Inc (joinR l id) := by
    rw [joinR, if_pos h]
    exact joinTo_inc l id 16
  have := leave_len hinc id hin
  rw [e] at this
  omega
theorem join_right {l : List Int} {id : Int} (h : joinE l id = 0) : memB (joinR l id) = true := by
  obtain ⟨hm, h0, hn, hl⟩ := joinE_ok h
  have hlen := (join_leave h).2
  have := (mem_len hm).1
  refine mem_of ?_ (fun x hx => ?_) (by omega)
  · rw [joinR, if_pos h]
    exact joinTo_inc l id 16
  · rw [joinR, if_pos h, join_mem hm h0] at hx
    rcases hx with rfl | hx
    · exact h0
    · exact mem_in hm x hx
theorem leave_right {l : List Int} {id : Int} (h : leaveE l id = 0) : memB (leaveR l id) = true ∧ (leaveR l id).length + 1 = l.length := by
  obtain ⟨hm, h0, hi, hl⟩ := leaveE_ok h
  have hlen := leave_len (mem_inc hm) id hi
  have := (mem_len hm).2
  rw [leaveR, if_pos h]
  refine ⟨mem_of (leave_inc (mem_inc hm) id) (fun x hx => mem_in hm x ((leave_mem l id x).1 hx).1) (by omega), hlen⟩
theorem join_then {l : List Int} {id : Int} (h : joinE l id = 0) : leaveE (joinR l id) id = 0 ∧ leaveR (joinR l id) id = l := by
  obtain ⟨hm, h0, hn, hl⟩ := joinE_ok h
  have hin : hasM (joinR l id) id = true := decide_eq_true (by rw [joinR, if_pos h, join_mem hm h0]; exact .inl rfl)
  have e : leaveE (joinR l id) id = 0 := by
    have := (mem_len hm).1
    rw [leaveE, if_neg (fun hc => hc ⟨join_right h, h0⟩), hin, if_neg (by decide), if_neg (by rw [(join_leave h).2]; omega)]
  exact ⟨e, by rw [leaveR, if_pos e, (join_leave h).1]⟩
theorem leave_then {l : List Int} {id : Int} (h : leaveE l id = 0) : joinE (leaveR l id) id = 0 ∧ joinR (leaveR l id) id = l := by
  obtain ⟨hm, h0, hi, hl⟩ := leaveE_ok h
  have hR : leaveR l id = leaveF l id := by rw [leaveR, if_pos h]
  have hno : ¬ hasM (leaveR l id) id = true := fun hc => by
    have := of_decide_eq_true hc
    rw [hR, leave_mem] at this
    exact this.2 rfl
  have e : joinE (leaveR l id) id = 0 := by
    have h2 := (leave_right h).2
    have := (mem_len hm).2
    rw [joinE, if_neg (fun hc => hc ⟨(leave_right h).1, h0⟩), if_neg hno, if_neg (by omega)]
  refine ⟨e, ?_⟩
  rw [joinR, if_pos e]
  refine inc_eq _ _ (joinTo_inc _ id 16) (mem_inc hm) (fun x => ?_)
  rw [join_mem (leave_right h).1 h0, hR, leave_mem]
  constructor
  · rintro (rfl | hx)
    · exact hi
    · exact hx.1
  · intro hx
    by_cases e : x = id
    · exact .inl e
    · exact .inr ⟨hx, e⟩
theorem has_join {l : List Int} {id : Int} (h : joinE l id = 0) (z : Int) : hasM (joinR l id) z = (decide (z = id) || hasM l z) := by
  obtain ⟨hm, h0, hn, hl⟩ := joinE_ok h
  have hiff : z ∈ joinR l id ↔ z = id ∨ z ∈ l := by rw [joinR, if_pos h, join_mem hm h0]
  unfold hasM
  by_cases h1 : z = id <;> by_cases h2 : z ∈ l <;> by_cases h3 : z ∈ joinR l id <;> simp_all
theorem has_leave {l : List Int} {id : Int} (h : leaveE l id = 0) (z : Int) : hasM (leaveR l id) z = (decide (z ≠ id) && hasM l z) := by
  have hiff : z ∈ leaveR l id ↔ z ∈ l ∧ z ≠ id := by rw [leaveR, if_pos h, leave_mem]
  unfold hasM
  by_cases h1 : z = id <;> by_cases h2 : z ∈ l <;> by_cases h3 : z ∈ leaveR l id <;> simp_all
end Go.Proofs.Ytfjcpghepkmbfaa

/- Which messages fit; their bytes there and back. No walk here. -/
namespace Go.Proofs.Ytfjcpghepkmbfaa
open Go.RowKit

def allTo (P : Nat → Bool) : Nat → Bool
  | 0 => true
  | n + 1 => allTo P n && P n
theorem allTo_at {P : Nat → Bool} : ∀ {n : Nat}, allTo P n = true → ∀ i, i < n → P i = true
  | 0, _, i, hi => by omega
  | n + 1, h, i, hi => by
    rw [allTo, Bool.and_eq_true] at h
    by_cases e : i = n
    · rw [e]; exact h.2
    · exact allTo_at h.1 i (by omega)
theorem allTo_of {P : Nat → Bool} : ∀ {n : Nat}, (∀ i, i < n → P i = true) → allTo P n = true
  | 0, _ => rfl
  | n + 1, h => by rw [allTo, allTo_of (fun i hi => h i (by omega)), h n (by omega)]; rfl
theorem allTo_no {P : Nat → Bool} {n : Nat} (i : Nat) (hi : i < n) (h : P i = false) : allTo P n = false := by
  cases hn : allTo P n with
  | false => rfl
  | true => rw [allTo_at hn i hi] at h; cases h
theorem allTo_congr {P Q : Nat → Bool} : ∀ {n : Nat}, (∀ i, i < n → P i = Q i) → allTo P n = allTo Q n
  | 0, _ => rfl
  | n + 1, h => by rw [allTo, allTo, allTo_congr (fun i hi => h i (by omega)), h n (by omega)]
def eB : ByteArray := ⟨#[]⟩
def sg0 : Sg := (0, eB)
def ct0 : Ct := (0, 0, zeroQ, [])
def cg0 : Cg := (0, 0, [], sg0)
def ln0 : Ln := ((0, []), [])
def inB (n a b : Int) : Bool := decide (a ≤ n) && decide (n ≤ b)
def sigB (p : Sg) : Bool := inB p.1 0 199
def sigsB (l : List Sg) : Bool := decide (l.length ≤ 16) && allTo (fun i => sigB (l.getD i sg0)) l.length
def ofB (e s : Int) : Bool := decide (4 * e < s) && decide (s ≤ 4 * (e + 1))
def askB (r : Rq) : Bool := rightB r || nullB r
def ctB (e : Int) (c : Ct) : Bool := (inB c.1 0 15 && ofB e c.2.1) && (askB c.2.2.1 && sigsB c.2.2.2)
def ctAt (e : Int) (l : List Ct) (i : Nat) : Bool := ctB e (l.getD i ct0) && (decide (i = 0) || decide ((l.getD (i - 1) ct0).2.1 < (l.getD i ct0).2.1))
def ctsB (e : Int) (l : List Ct) : Bool := decide (l.length ≤ 4) && allTo (ctAt e l) l.length
def cgB (e : Int) (c : Cg) : Bool := (inB c.1 0 15 && inB c.2.1 1 15) && (ctsB e c.2.2.1 && sigB c.2.2.2)
def cgAt (e v : Int) (l : List Cg) (i : Nat) : Bool := (decide ((l.getD i cg0).2.1 = v) && cgB e (l.getD i cg0)) && (decide (i = 0) || decide ((l.getD (i - 1) cg0).1 < (l.getD i cg0).1))
def cgsB (e v : Int) (l : List Cg) (most : Nat) : Bool := (decide (1 ≤ l.length) && decide (l.length ≤ most)) && allTo (cgAt e v l) l.length
def lnAt (l : List Ln) (i : Nat) : Bool := (decide ((l.getD i ln0).1.1 = (i : Int) + 1) && rightC (l.getD i ln0).1.1 (l.getD i ln0).1.2) && sigsB (l.getD i ln0).2
def lnsB (l : List Ln) : Bool := allTo (lnAt l) l.length
/-- All fields but these are zero. -/
structure Only where
  v : Bool := false
  s : Bool := false
  r : Bool := false
  x : Bool := false
  t : Bool := false
  n : Bool := false
  g : Bool := false
  c : Bool := false
  l : Bool := false
def onlyB (m : Ms) (o : Only) : Bool := (o.v || decide (m.v = 0)) && ((o.s || decide (m.sl = 0)) && ((o.r || nullB m.rq) && ((o.x || (decide (m.rs.1 = 0) && decide (canW m.rs.2 = 0))) && ((o.t || decide (m.tx.size = 0)) && ((o.n || decide (m.nx.length = 0)) && ((o.g || decide (m.sg.length = 0)) && ((o.c || decide (m.cg.length = 0)) && (o.l || decide (m.ln.length = 0)))))))))
def placeB (m : Ms) : Bool := inB m.v 0 15 && ofB m.ep m.sl
def oneB (l : List Sg) (k : Nat) : Bool := decide (l.length = k) && sigsB l
def kindB (m : Ms) : Bool :=
  if m.k = 1 then onlyB m { r := true, g := true } && (decide (m.ep = 0) && (rightB m.rq && oneB m.sg 1))
  else if m.k = 2 then onlyB m { v := true, s := true, r := true, g := true } && (placeB m && (askB m.rq && oneB m.sg (if nullB m.rq then 0 else 1)))
  else if m.k = 3 then onlyB m { v := true, s := true, r := true, g := true } && (placeB m && (askB m.rq && oneB m.sg 1))
  else if m.k = 4 then onlyB m { v := true, s := true, r := true } && (placeB m && askB m.rq)
  else if m.k = 5 then onlyB m { s := true, t := true, n := true, g := true } && (decide (m.sl = 4 * (m.ep + 1)) && (!decide (m.tx.size = 0) && (memB m.nx && oneB m.sg 2)))
  else if m.k = 6 then onlyB m { v := true, c := true } && cgsB m.ep m.v m.cg 1
  else if m.k = 7 then onlyB m { v := true, c := true } && cgsB m.ep m.v m.cg 10
  else if m.k = 8 then onlyB m { r := true, x := true } && (rightB m.rq && rsB m.rs.1)
  else if m.k = 9 then onlyB m {}
  else if m.k = 10 then onlyB m { s := true, t := true, g := true, l := true } && (decide (1 ≤ m.ep) && (decide (m.sl = 4 * m.ep) && (!decide (m.tx.size = 0) && ((decide ((m.ln.length : Int) = m.ep) && lnsB m.ln) && sigsB m.sg))))
  else false
def fitB (m : Ms) : Bool := inB m.k 1 10 && (inB m.ep 0 60 && kindB m)
/-- Reals with one NaN. -/
def normR (r : Rq) : Rq := { r with b := canW r.b }
def nCt (c : Ct) : Ct := (c.1, c.2.1, normR c.2.2.1, c.2.2.2)
def nCg (c : Cg) : Cg := (c.1, c.2.1, c.2.2.1.map nCt, c.2.2.2)
def normM (m : Ms) : Ms := { m with rq := normR m.rq, rs := (m.rs.1, canW m.rs.2), cg := m.cg.map nCg }
theorem norm_whole (r : Rq) : wholeB (normR r) r = true := (wholeB_iff _ _).2 ⟨rfl, rfl, rfl, rfl, rfl, canW_idem r.b⟩
theorem norm_alike (r : Rq) : nullB (normR r) = nullB r ∧ rightB (normR r) = rightB r ∧ rqT (normR r) = rqT r := by
  obtain ⟨h1, h2, h3, _⟩ := whole_alike (norm_whole r)
  exact ⟨h1, h2, h3⟩
theorem rsT_norm (c : Int) (f : Nat) : rsT c (canW f) = rsT c f := by rw [rsT, rsT, rsL, rsL, canW_idem]
theorem ctL_norm (c : Ct) : ctL (nCt c) = ctL c := by
  show be 1 c.1.toNat ++ (be 2 c.2.1.toNat ++ (txL (rqT (normR c.2.2.1)) ++ sgsL c.2.2.2)) = _
  rw [(norm_alike c.2.2.1).2.2]
  rfl
theorem flat_norm {α : Type} {f : α → List UInt8} {g : α → α} (h : ∀ x, f (g x) = f x) : ∀ l : List α, (l.map g).flatMap f = l.flatMap f
  | [] => rfl
  | x :: l => by
    rw [List.map_cons, List.flatMap_cons, List.flatMap_cons, h x, flat_norm h l]
theorem ls_norm {α : Type} {f : α → List UInt8} {g : α → α} (h : ∀ x, f (g x) = f x) (l : List α) : lsL f (l.map g) = lsL f l := by rw [lsL, lsL, List.length_map, flat_norm h]
theorem cgL_norm (c : Cg) : cgL (nCg c) = cgL c := by
  show be 1 c.1.toNat ++ (be 1 c.2.1.toNat ++ (lsL ctL (c.2.2.1.map nCt) ++ sigL c.2.2.2)) = _
  rw [ls_norm ctL_norm]
  rfl
theorem msL_norm (m : Ms) : msL (normM m) = msL m := by
  show be 1 m.k.toNat ++ (be 2 m.ep.toNat ++ (be 1 m.v.toNat ++ (be 2 m.sl.toNat ++ (txL (rqT (normR m.rq)) ++ (txL (rsT m.rs.1 (canW m.rs.2)) ++ (txL m.tx ++ (lsL oneL m.nx ++ (sgsL m.sg ++ (lsL cgL (m.cg.map nCg) ++ lsL lnL m.ln))))))))) = _
  rw [(norm_alike m.rq).2.2, rsT_norm, ls_norm cgL_norm]
  rfl
/-- Bounds of what came in: a real is a word of 64 bits. -/
structure MsR (m : Ms) : Prop where
  rq : m.rq.b < 18446744073709551616
  rs : m.rs.2 < 18446744073709551616
  cg : ∀ c, c ∈ m.cg → ∀ x, x ∈ c.2.2.1 → x.2.2.1.b < 18446744073709551616
theorem can_lt {b : Nat} (h : b < 18446744073709551616) : canW b < 18446744073709551616 := by
  unfold canW
  cases nanW b with
  | true => simp
  | false => simpa using h
theorem null_zero {r : Rq} (h : nullB r = true) : normR r = zeroQ := by
  obtain ⟨h1, h2, h3, h4, h5, h6⟩ := null_fields h
  obtain ⟨c, st, k, key, b, id⟩ := r
  simp only at h1 h2 h3 h4 h5 h6
  subst h1 h2 h3 h6
  have hk : key = ⟨#[]⟩ := by
    apply ByteArray.ext
    apply Array.eq_empty_of_size_eq_zero
    exact h4
  subst hk
  show (⟨0, 0, 0, ⟨#[]⟩, canW b, 0⟩ : Rq) = zeroQ
  rw [h5]
  rfl
theorem ask_valid {r : Rq} (h : askB r = true) (hb : r.b < 18446744073709551616) : rqV (normR r) := by
  refine ⟨?_, canW_idem r.b, can_lt hb⟩
  rw [askB, Bool.or_eq_true] at h
  rcases h with h | h
  · exact .inl (by rw [(norm_alike r).2.1]; exact h)
  · exact .inr (null_zero h)
theorem in_valid {z a b : Int} {n : Nat} (h : inB z a b = true) (ha : 0 ≤ a) (hb : b.toNat < 256 ^ n) : iV n z := by
  rw [inB, Bool.and_eq_true, decide_eq_true_eq, decide_eq_true_eq] at h
  exact ⟨by omega, by omega⟩
theorem getD_mem {α : Type} {l : List α} {d : α} {x : α} (h : x ∈ l) : ∃ i, i < l.length ∧ l.getD i d = x := by
  obtain ⟨i, hi, rfl⟩ := List.getElem_of_mem h
  exact ⟨i, hi, by simp [hi]⟩
theorem sgs_valid {l : List Sg} (h : sigsB l = true) (ht : ∀ p, p ∈ l → p.2.size ≤ 65535) : sgsV l := by
  rw [sigsB, Bool.and_eq_true, decide_eq_true_eq] at h
  refine ⟨by omega, fun p hp => ?_⟩
  obtain ⟨i, hi, e⟩ := getD_mem (d := sg0) hp
  have := allTo_at h.2 i hi
  rw [e] at this
  exact ⟨in_valid this (by decide) (by decide), ht p hp⟩
/-- A part of a list's bytes is no longer than the whole. -/
theorem flat_le {α : Type} {f : α → List UInt8} : ∀ {l : List α} {x : α}, x ∈ l → (f x).length ≤ (l.flatMap f).length
  | y :: l, x, h => by
    rw [List.flatMap_cons, List.length_append]
    rcases List.mem_cons.1 h with rfl | h
    · omega
    · have := flat_le (f := f) h
      omega
theorem sgs_short {l : List Sg} {n : Nat} (h : (sgsL l).length ≤ n) : ∀ p, p ∈ l → p.2.size ≤ n := fun p hp => by
  have := flat_le (f := sigL) hp
  rw [sgsL, lsL, List.length_append] at h
  simp only [sigL, txL, List.length_append, be_len, data_len] at this
  omega
theorem ofB_valid {e s : Int} (h : ofB e s = true) (he : inB e 0 60 = true) : iV 2 s := by
  rw [ofB, Bool.and_eq_true, decide_eq_true_eq, decide_eq_true_eq] at h
  rw [inB, Bool.and_eq_true, decide_eq_true_eq, decide_eq_true_eq] at he
  exact ⟨by omega, by omega⟩
theorem ct_valid {e : Int} {c : Ct} (he : inB e 0 60 = true) (h : ctB e c = true) (hb : c.2.2.1.b < 18446744073709551616) (ht : (ctL c).length ≤ 65535) : ctV (nCt c) := by
  simp only [ctB, Bool.and_eq_true] at h
  obtain ⟨⟨h1, h2⟩, h3, h4⟩ := h
  refine ⟨in_valid h1 (by decide) (by decide), ofB_valid h2 he, ask_valid h3 hb, sgs_valid h4 (sgs_short ?_)⟩
  show (sgsL c.2.2.2).length ≤ 65535
  rw [ctL, List.length_append, List.length_append, List.length_append] at ht
  omega
theorem cg_valid {e : Int} {c : Cg} (he : inB e 0 60 = true) (h : cgB e c = true) (hb : ∀ x, x ∈ c.2.2.1 → x.2.2.1.b < 18446744073709551616) (ht : (cgL c).length ≤ 65535) : cgV (nCg c) := by
  simp only [cgB, ctsB, Bool.and_eq_true, decide_eq_true_eq] at h
  obtain ⟨⟨h1, h2⟩, ⟨h3, h4⟩, h5⟩ := h
  rw [cgL, List.length_append, List.length_append, List.length_append, lsL, List.length_append] at ht
  refine ⟨in_valid h1 (by decide) (by decide), in_valid h2 (by decide) (by decide), ⟨by show (c.2.2.1.map nCt).length < 256; rw [List.length_map]; omega, fun x hx => ?_⟩, ⟨in_valid h5 (by decide) (by decide), ?_⟩⟩
  · obtain ⟨y, hy, rfl⟩ := List.mem_map.1 hx
    obtain ⟨i, hi, e2⟩ := getD_mem (d := ct0) hy
    have := allTo_at h4 i hi
    rw [ctAt, Bool.and_eq_true, e2] at this
    have hl := flat_le (f := ctL) hy
    exact ct_valid he this.1 (hb y hy) (by omega)
  · have : (sigL c.2.2.2).length = 1 + (2 + c.2.2.2.2.size) := by simp only [sigL, txL, List.length_append, be_len, data_len]
    show c.2.2.2.2.size ≤ 65535
    omega
theorem ln_valid {l : List Ln} (h : lnsB l = true) (ht : (lsL lnL l).length ≤ 65535) : ∀ x, x ∈ l → lnV x := fun x hx => by
  obtain ⟨i, hi, e⟩ := getD_mem (d := ln0) hx
  have := allTo_at h i hi
  rw [lnAt, e, Bool.and_eq_true, Bool.and_eq_true] at this
  have hl := flat_le (f := lnL) hx
  rw [lsL, List.length_append] at ht
  refine ⟨this.1.2, sgs_valid this.2 (sgs_short ?_)⟩
  rw [lnL, List.length_append] at hl
  omega
/-- What every message that fits has. -/
structure MsW (m : Ms) : Prop where
  v : m.v = 0 ∨ inB m.v 0 15 = true
  sl : m.sl = 0 ∨ iV 2 m.sl
  rq : askB m.rq = true
  rs : (m.rs.1 = 0 ∧ canW m.rs.2 = 0) ∨ rsB m.rs.1 = true
  nx : m.nx.length = 0 ∨ memB m.nx = true
  sg : m.sg.length = 0 ∨ sigsB m.sg = true
  cg : m.cg.length = 0 ∨ (m.cg.length ≤ 10 ∧ ∀ x, x ∈ m.cg → cgB m.ep x = true)
  ln : m.ln.length = 0 ∨ (m.ln.length ≤ 60 ∧ lnsB m.ln = true)
theorem askB_null {r : Rq} (h : nullB r = true) : askB r = true := by rw [askB, h, Bool.or_true]
theorem askB_right {r : Rq} (h : rightB r = true) : askB r = true := by rw [askB, h, Bool.true_or]
theorem cgs_all {e v : Int} {l : List Cg} {k : Nat} (h : cgsB e v l k = true) (hk : k ≤ 10) : (l.length ≤ 10 ∧ ∀ x, x ∈ l → cgB e x = true) ∧ (l.length = 0 ∨ inB v 0 15 = true) := by
  simp only [cgsB, Bool.and_eq_true, decide_eq_true_eq] at h
  refine ⟨⟨by omega, fun x hx => ?_⟩, ?_⟩
  · obtain ⟨i, hi, e2⟩ := getD_mem (d := cg0) hx
    have := allTo_at h.2 i hi
    rw [cgAt, e2] at this
    simp only [Bool.and_eq_true] at this
    exact this.1.2
  · right
    have := allTo_at h.2 0 (by omega)
    simp only [cgAt, cgB, inB, Bool.and_eq_true, decide_eq_true_eq] at this ⊢
    omega
theorem fit_weak {m : Ms} (he : inB m.ep 0 60 = true) (h : kindB m = true) : MsW m := by
  have he' := he
  simp only [inB, Bool.and_eq_true, decide_eq_true_eq] at he'
  have i2 : ∀ z : Int, 0 ≤ z → z ≤ 244 → iV 2 z := fun z h1 h2 => ⟨h1, by omega⟩
  unfold kindB at h
  split at h
  · simp only [onlyB, Bool.true_or, Bool.false_or, Bool.true_and, Bool.and_eq_true, decide_eq_true_eq, oneB] at h
    obtain ⟨⟨a1, a2, a3, a4, a5, a6, a7⟩, b1, b2, b3, b4⟩ := h
    exact ⟨.inl a1, .inl a2, askB_right b2, .inl a3, .inl a5, .inr b4, .inl a6, .inl a7⟩
  split at h
  · simp only [onlyB, Bool.true_or, Bool.false_or, Bool.true_and, Bool.and_eq_true, decide_eq_true_eq, oneB, placeB] at h
    obtain ⟨⟨a3, a4, a5, a6, a7⟩, ⟨b1, b2⟩, b3, b4, b5⟩ := h
    exact ⟨.inr b1, .inr (ofB_valid b2 he), b3, .inl a3, .inl a5, .inr b5, .inl a6, .inl a7⟩
  split at h
  · simp only [onlyB, Bool.true_or, Bool.false_or, Bool.true_and, Bool.and_eq_true, decide_eq_true_eq, oneB, placeB] at h
    obtain ⟨⟨a3, a4, a5, a6, a7⟩, ⟨b1, b2⟩, b3, b4, b5⟩ := h
    exact ⟨.inr b1, .inr (ofB_valid b2 he), b3, .inl a3, .inl a5, .inr b5, .inl a6, .inl a7⟩
  split at h
  · simp only [onlyB, Bool.true_or, Bool.false_or, Bool.true_and, Bool.and_eq_true, decide_eq_true_eq, placeB] at h
    obtain ⟨⟨a3, a4, a5, a8, a6, a7⟩, ⟨b1, b2⟩, b3⟩ := h
    exact ⟨.inr b1, .inr (ofB_valid b2 he), b3, .inl a3, .inl a5, .inl a8, .inl a6, .inl a7⟩
  split at h
  · simp only [onlyB, Bool.true_or, Bool.false_or, Bool.true_and, Bool.and_eq_true, decide_eq_true_eq, oneB] at h
    obtain ⟨⟨a1, a2, a3, a6, a7⟩, b1, b2, b3, b4, b5⟩ := h
    exact ⟨.inl a1, .inr (i2 _ (by omega) (by omega)), askB_null a2, .inl a3, .inr b3, .inr b5, .inl a6, .inl a7⟩
  split at h
  · simp only [onlyB, Bool.true_or, Bool.false_or, Bool.true_and, Bool.and_eq_true, decide_eq_true_eq] at h
    obtain ⟨⟨a1, a2, a3, a4, a5, a6, a7⟩, b1⟩ := h
    obtain ⟨c1, c2⟩ := cgs_all b1 (by decide)
    exact ⟨c2.elim (fun z => absurd z (by simp only [cgsB, Bool.and_eq_true, decide_eq_true_eq] at b1; omega)) .inr, .inl a1, askB_null a2, .inl a3, .inl a5, .inl a6, .inr c1, .inl a7⟩
  split at h
  · simp only [onlyB, Bool.true_or, Bool.false_or, Bool.true_and, Bool.and_eq_true, decide_eq_true_eq] at h
    obtain ⟨⟨a1, a2, a3, a4, a5, a6, a7⟩, b1⟩ := h
    obtain ⟨c1, c2⟩ := cgs_all b1 (by decide)
    exact ⟨c2.elim (fun z => absurd z (by simp only [cgsB, Bool.and_eq_true, decide_eq_true_eq] at b1; omega)) .inr, .inl a1, askB_null a2, .inl a3, .inl a5, .inl a6, .inr c1, .inl a7⟩
  split at h
  · simp only [onlyB, Bool.true_or, Bool.false_or, Bool.true_and, Bool.and_eq_true, decide_eq_true_eq] at h
    obtain ⟨⟨a1, a2, a4, a5, a8, a6, a7⟩, b1, b2⟩ := h
    exact ⟨.inl a1, .inl a2, askB_right b1, .inr b2, .inl a5, .inl a8, .inl a6, .inl a7⟩
  split at h
  · simp only [onlyB, Bool.false_or, Bool.and_eq_true, decide_eq_true_eq] at h
    obtain ⟨a1, a2, a3, a4, a5, a6, a7, a8, a9⟩ := h
    exact ⟨.inl a1, .inl a2, askB_null a3, .inl a4, .inl a6, .inl a7, .inl a8, .inl a9⟩
  split at h
  · simp only [onlyB, Bool.true_or, Bool.false_or, Bool.true_and, Bool.and_true, Bool.and_eq_true, decide_eq_true_eq] at h
    obtain ⟨⟨a1, a2, a3, a5, a6⟩, b1, b2, b3, ⟨b4, b5⟩, b6⟩ := h
    exact ⟨.inl a1, .inr (i2 _ (by omega) (by omega)), askB_null a2, .inl a3, .inl a5, .inr b6, .inl a6, .inr ⟨by omega, b5⟩⟩
  · cases h
theorem nil_of {α : Type} {l : List α} (h : l.length = 0) : l = [] := List.eq_nil_of_length_eq_zero h
theorem fit_valid {m : Ms} (h : fitB m = true) (hr : MsR m) (hl : (msL m).length ≤ 65536) : MsV (normM m) := by
  rw [fitB, Bool.and_eq_true, Bool.and_eq_true] at h
  obtain ⟨hk, he, hB⟩ := h
  obtain ⟨w1, w2, w3, w4, w5, w6, w7, w8⟩ := fit_weak he hB
  simp only [msL, List.length_append, be_len] at hl
  have hc := hr.cg
  refine ⟨in_valid hk (by decide) (by decide), in_valid he (by decide) (by decide), ?_, ?_, ask_valid w3 hr.rq, ?_, ?_, ?_, ?_, ?_, ?_⟩
  · rcases w1 with e | e
    · show iV 1 m.v
      rw [e]
      exact ⟨by decide, by decide⟩
    · exact in_valid e (by decide) (by decide)
  · rcases w2 with e | e
    · show iV 2 m.sl
      rw [e]
      exact ⟨by decide, by decide⟩
    · exact e
  · refine ⟨?_, canW_idem _, can_lt hr.rs⟩
    rcases w4 with e | e
    · show rsB m.rs.1 = true
      rw [e.1]
      rfl
    · exact e
  · show m.tx.size ≤ 65535
    simp only [txL, List.length_append, be_len, data_len] at hl
    omega
  · show m.nx.length < 256 ∧ ∀ x, x ∈ m.nx → iV 1 x
    rcases w5 with e | e
    · rw [nil_of e]
      exact ⟨by decide, fun x hx => by cases hx⟩
    · have := mem_len e
      exact ⟨by omega, fun x hx => by have := mem_in e x hx; exact ⟨by omega, by omega⟩⟩
  · show sgsV m.sg
    rcases w6 with e | e
    · rw [nil_of e]
      exact ⟨by decide, fun x hx => by cases hx⟩
    · exact sgs_valid e (sgs_short (by omega))
  · show (m.cg.map nCg).length < 256 ∧ ∀ x, x ∈ m.cg.map nCg → cgV x
    rcases w7 with e | ⟨e1, e2⟩
    · rw [nil_of e]
      exact ⟨by decide, fun x hx => by cases hx⟩
    · refine ⟨by rw [List.length_map]; omega, fun x hx => ?_⟩
      obtain ⟨y, hy, rfl⟩ := List.mem_map.1 hx
      have h1 := flat_le (f := cgL) hy
      rw [show lsL cgL m.cg = be 1 m.cg.length ++ m.cg.flatMap cgL from rfl, List.length_append] at hl
      exact cg_valid he (e2 y hy) (hc y hy) (by omega)
  · show m.ln.length < 256 ∧ ∀ x, x ∈ m.ln → lnV x
    rcases w8 with e | ⟨e1, e2⟩
    · rw [nil_of e]
      exact ⟨by decide, fun x hx => by cases hx⟩
    · exact ⟨by omega, ln_valid e2 (by omega)⟩
/-- What a text is read as, whole. -/
def pWhole (t : ByteArray) : Option Ms := (pMs t).bind fun a => if a.2.size = 0 ∧ fitB a.1 = true then some a.1 else none
theorem fit_norm {m : Ms} : fitB (normM m) = fitB m := by
  have hct : ∀ (e : Int) (l : List Ct), ctsB e (l.map nCt) = ctsB e l := fun e l => by
    rw [ctsB, ctsB, List.length_map]
    congr 1
    refine allTo_congr (fun i hi => ?_)
    have g : ∀ k, (l.map nCt).getD k ct0 = nCt (l.getD k ct0) := fun k => by
      by_cases hk : k < l.length
      · simp [hk]
      · simp [hk]
        rfl
    rw [ctAt, ctAt, g, g]
    show (((inB _ 0 15 && ofB e _) && (askB (normR _) && sigsB _)) && _) = _
    rw [show ∀ r, askB (normR r) = askB r from fun r => by rw [askB, askB, (norm_alike r).1, (norm_alike r).2.1]]
    rfl
  have hcg : ∀ (e v : Int) (l : List Cg) (k : Nat), cgsB e v (l.map nCg) k = cgsB e v l k := fun e v l k => by
    rw [cgsB, cgsB, List.length_map]
    congr 1
    refine allTo_congr (fun i hi => ?_)
    have g : ∀ k, (l.map nCg).getD k cg0 = nCg (l.getD k cg0) := fun k => by
      by_cases hk : k < l.length
      · simp [hk]
      · simp [hk]
        rfl
    rw [cgAt, cgAt, g, g]
    show ((decide (_ = v) && ((inB _ 0 15 && inB _ 1 15) && (ctsB e (List.map nCt _) && sigB _))) && _) = _
    rw [hct]
    rfl
  have ho : ∀ o, onlyB (normM m) o = onlyB m o := fun o => by
    rw [onlyB, onlyB]
    show ((o.v || decide (m.v = 0)) && ((o.s || decide (m.sl = 0)) && ((o.r || nullB (normR m.rq)) && ((o.x || (decide (m.rs.1 = 0) && decide (canW (canW m.rs.2) = 0))) && ((o.t || decide (m.tx.size = 0)) && ((o.n || decide (m.nx.length = 0)) && ((o.g || decide (m.sg.length = 0)) && ((o.c || decide ((m.cg.map nCg).length = 0)) && (o.l || decide (m.ln.length = 0))))))))))  = _
    rw [(norm_alike m.rq).1, canW_idem, List.length_map]
  have hr : rightB (normM m).rq = rightB m.rq := (norm_alike m.rq).2.1
  have hn : nullB (normM m).rq = nullB m.rq := (norm_alike m.rq).1
  have ha : askB (normM m).rq = askB m.rq := by rw [askB, askB, hr, hn]
  have hc : ∀ k, cgsB (normM m).ep (normM m).v (normM m).cg k = cgsB m.ep m.v m.cg k := fun k => hcg _ _ _ _
  rw [fitB, fitB, kindB, kindB, ho, ho, ho, ho, ho, ho, ho, ho, hr, hn, ha, hc, hc]
  rfl
theorem whole_good {m : Ms} (h : fitB m = true) (hr : MsR m) (hl : (msL m).length ≤ 65536) : pWhole ⟨(msL m).toArray⟩ = some (normM m) := by
  obtain ⟨s', h1, h2⟩ := inv_ms.good ⟨(msL m).toArray⟩ (normM m) [] (fit_valid h hr hl) (by rw [msL_norm, List.append_nil])
  have hz : s'.size = 0 := by rw [← data_len, h2]; rfl
  rw [pWhole, h1]
  show (if s'.size = 0 ∧ fitB (normM m) = true then some (normM m) else none) = _
  rw [if_pos ⟨hz, by rw [fit_norm]; exact h⟩]
theorem whole_back {t : ByteArray} {m : Ms} (h : pWhole t = some m) : fitB m = true ∧ t.data.toList = msL m ∧ MsV m := by
  unfold pWhole at h
  cases h1 : pMs t with
  | none => rw [h1] at h; cases h
  | some a =>
    rw [h1] at h
    simp only [Option.bind_some] at h
    split at h
    · rename_i h2
      cases h
      obtain ⟨v, e⟩ := inv_ms.back t a.1 a.2 h1
      have hz : a.2.data.toList = [] := List.eq_nil_of_length_eq_zero (by rw [data_len]; exact h2.1)
      rw [hz, List.append_nil] at e
      exact ⟨h2.2, e, v⟩
    · cases h
theorem bytes_eq {a b : ByteArray} (h : a.data.toList = b.data.toList) : a = b := by
  apply ByteArray.ext
  exact Array.ext' h
/-- With more behind it is no message's. -/
theorem whole_more {m : Ms} (h : fitB m = true) (hr : MsR m) (hl : (msL m).length ≤ 65536) (t more : ByteArray) (ht : t.data.toList = msL m ++ more.data.toList) (hm : more.size ≠ 0) : pWhole t = none := by
  obtain ⟨s', h1, h2⟩ := inv_ms.good t (normM m) more.data.toList (fit_valid h hr hl) (by rw [msL_norm]; exact ht)
  have hz : s'.size = more.size := by rw [← data_len, h2, data_len]
  rw [pWhole, h1]
  show (if s'.size = 0 ∧ fitB (normM m) = true then some (normM m) else none) = none
  rw [if_neg (fun e => hm (by rw [← hz]; exact e.1))]
/-- No beginning is a message's. -/
theorem whole_cut {m : Ms} (h : fitB m = true) (hr : MsR m) (hl : (msL m).length ≤ 65536) (t : ByteArray) (k : Nat) (hk : k < (msL m).length) (ht : t.data.toList = (msL m).take k) : pWhole t = none := by
  cases hw : pWhole t with
  | none => rfl
  | some x =>
    obtain ⟨_, e, v⟩ := whole_back hw
    have hs : (⟨(msL m).toArray⟩ : ByteArray).data.toList = msL x ++ (msL m).drop k := by
      rw [← e, ht, List.take_append_drop]
    obtain ⟨s1, g1, g2⟩ := inv_ms.good ⟨(msL m).toArray⟩ x _ v hs
    obtain ⟨s2, g3, g4⟩ := inv_ms.good ⟨(msL m).toArray⟩ (normM m) [] (fit_valid h hr hl) (by rw [msL_norm, List.append_nil])
    rw [g1] at g3
    cases g3
    rw [g2] at g4
    have := congrArg List.length g4
    rw [List.length_drop, List.length_nil] at this
    omega
/-- The same bytes, the same messages but for unlike NaNs. -/
theorem msL_inj {a b : Ms} (ha : fitB a = true) (hra : MsR a) (hla : (msL a).length ≤ 65536) (hb : fitB b = true) (hrb : MsR b) (hlb : (msL b).length ≤ 65536) : msL a = msL b ↔ normM a = normM b := by
  constructor
  · intro e
    have h1 := whole_good ha hra hla
    rw [e, whole_good hb hrb hlb] at h1
    exact (Option.some.inj h1).symm
  · intro e
    rw [← msL_norm a, e, msL_norm]
end Go.Proofs.Ytfjcpghepkmbfaa

/- Data of any depth in memory: numbers, bools, texts, lists of structs of such. No walk here. -/
namespace Go.Proofs.Ytfjcpghepkmbfaa
open Go.RowKit

/-- What a cell tells: a number, a bool, a text, or a list, each of whose elements lies in sz cells. -/
inductive Dat where
  | i (x : Int)
  | b (x : Bool)
  | s (x : ByteArray)
  | q (x : Nat)
  | f (x : Nat)
  | l (sz : Nat) (es : List (List Dat))
/-- The value v reads as d in w, through blocks of F alone. -/
inductive Reads (F : Nat → Prop) (w : World) : Value → Dat → Prop where
  | i (x : Int) : Reads F w (.int .i64 x) (.i x)
  | b (x : Bool) : Reads F w (.bool x) (.b x)
  | s (x : ByteArray) : Reads F w (.string x) (.s x)
  | q (x : Nat) : Reads F w (.int .u64 (x : Int)) (.q x)
  | f (x : Nat) : Reads F w (.float .f64 x) (.f x)
  | nil (ad : Option Addr) (cap sz : Nat) : Reads F w (.slice ad 0 cap) (.l sz [])
  | l (g off cap sz : Nat) (es : List (List Dat)) (c : Nat → Nat → Value) (hF : F g) (hg : g < w.heap.size)
      (hs : ∀ (j : Nat) (e : List Dat), es[j]? = some e → e.length = sz)
      (hc : ∀ (j : Nat) (e : List Dat) (q : Nat) (d : Dat), es[j]? = some e → e[q]? = some d → w.cell? ⟨g, off + j * sz + q, none⟩ = some (c j q))
      (hr : ∀ (j : Nat) (e : List Dat) (q : Nat) (d : Dat), es[j]? = some e → e[q]? = some d → Reads F w (c j q) d) : Reads F w (.slice (some ⟨g, off, none⟩) es.length cap) (.l sz es)
theorem Reads.keep {F : Nat → Prop} {w w' : World} {v : Value} {d : Dat} (h : Reads F w v d) (hs : w.heap.size ≤ w'.heap.size) (hb : ∀ k, k < w.heap.size → F k → w'.heap[k]? = w.heap[k]?) : Reads F w' v d := by
  induction h with
  | i x => exact .i x
  | b x => exact .b x
  | s x => exact .s x
  | q x => exact .q x
  | f x => exact .f x
  | nil ad cap sz => exact .nil ad cap sz
  | l g off cap sz es c hF hg hsz hc _ ih => exact .l g off cap sz es c hF (Nat.lt_of_lt_of_le hg hs) hsz (fun j e q d he hd => (World.cell?_of_block (hb g hg hF)).trans (hc j e q d he hd)) ih
theorem Reads.under {F : Nat → Prop} {w w' : World} {v : Value} {d : Dat} {B : Nat} (h : Reads F w v d) (hb : Below B w w') (hB : w.heap.size ≤ B) : Reads F w' v d :=
  h.keep hb.size (fun k hk _ => hb.block k (Nat.lt_of_lt_of_le hk hB))
theorem Reads.mono {F F' : Nat → Prop} {w : World} {v : Value} {d : Dat} (h : Reads F w v d) (hF : ∀ k, k < w.heap.size → F k → F' k) : Reads F' w v d := by
  induction h with
  | i x => exact .i x
  | b x => exact .b x
  | s x => exact .s x
  | q x => exact .q x
  | f x => exact .f x
  | nil ad cap sz => exact .nil ad cap sz
  | l g off cap sz es c hFg hg hsz hc _ ih => exact .l g off cap sz es c (hF g hg hFg) hg hsz hc ih
theorem Reads.move {F F' : Nat → Prop} {w w' : World} {v : Value} {d : Dat} (h : Reads F w v d) (hs : w.heap.size ≤ w'.heap.size) (hb : ∀ k, k < w.heap.size → F k → w'.heap[k]? = w.heap[k]? ∧ F' k) : Reads F' w' v d := by
  induction h with
  | i x => exact .i x
  | b x => exact .b x
  | s x => exact .s x
  | q x => exact .q x
  | f x => exact .f x
  | nil ad cap sz => exact .nil ad cap sz
  | l g off cap sz es c hF hg hsz hc _ ih => exact .l g off cap sz es c (hb g hg hF).2 (Nat.lt_of_lt_of_le hg hs) hsz (fun j e q d he hd => (World.cell?_of_block (hb g hg hF).1).trans (hc j e q d he hd)) ih
/-- A list, opened at its j-th element. -/
theorem Reads.at {F : Nat → Prop} {w : World} {v : Value} {sz : Nat} {es : List (List Dat)} (h : Reads F w v (.l sz es)) (j : Nat) (e : List Dat) (hj : es[j]? = some e) :
    ∃ g off cap, v = .slice (some ⟨g, off, none⟩) es.length cap ∧ F g ∧ g < w.heap.size ∧ e.length = sz ∧ ∀ (q : Nat) (d : Dat), e[q]? = some d → ∃ u, w.cell? ⟨g, off + j * sz + q, none⟩ = some u ∧ Reads F w u d := by
  cases h with
  | nil ad cap sz => simp at hj
  | l g off cap sz es c hF hg hs hc hr => exact ⟨g, off, cap, rfl, hF, hg, hs j e hj, fun q d hd => ⟨c j q, hc j e q d hj hd, hr j e q d hj hd⟩⟩
theorem Reads.form {F : Nat → Prop} {w : World} {v : Value} {sz : Nat} {es : List (List Dat)} (h : Reads F w v (.l sz es)) : ∃ ad cap, v = .slice ad es.length cap := by
  cases h with
  | nil ad cap sz => exact ⟨ad, cap, rfl⟩
  | l g off cap sz es c hF hg hs hc hr => exact ⟨_, cap, rfl⟩
theorem Reads.int {F : Nat → Prop} {w : World} {v : Value} {x : Int} (h : Reads F w v (.i x)) : v = .int .i64 x := by cases h; rfl
theorem Reads.bool {F : Nat → Prop} {w : World} {v : Value} {x : Bool} (h : Reads F w v (.b x)) : v = .bool x := by cases h; rfl
theorem Reads.quad {F : Nat → Prop} {w : World} {v : Value} {x : Nat} (h : Reads F w v (.q x)) : v = .int .u64 (x : Int) := by cases h; rfl
theorem Reads.flt {F : Nat → Prop} {w : World} {v : Value} {x : Nat} (h : Reads F w v (.f x)) : v = .float .f64 x := by cases h; rfl
theorem Reads.str {F : Nat → Prop} {w : World} {v : Value} {x : ByteArray} (h : Reads F w v (.s x)) : v = .string x := by cases h; rfl
/-- Numbers, pairs, as data. -/
def dInts (xs : List Int) : Dat := .l 1 (xs.map fun x => [.i x])
def dPairs (ps : List (Int × ByteArray)) : Dat := .l 2 (ps.map fun p => [.i p.1, .s p.2])
def dStrs (ss : List ByteArray) : Dat := .l 1 (ss.map fun x => [.s x])
theorem reads_ints {F : Nat → Prop} {w : World} {v : Value} {xs : List Int} (h : Reads F w v (dInts xs)) : ∃ ad cap, v = .slice ad xs.length cap ∧ IntsIn w ad xs ∧ ∀ x, ad = some x → xs ≠ [] → F x.block := by
  cases xs with
  | nil =>
    obtain ⟨ad, cap, hv⟩ := h.form
    exact ⟨ad, cap, hv, .inl rfl, fun _ _ hne => absurd rfl hne⟩
  | cons x0 xs =>
    obtain ⟨g, off, cap, hv, hF, hg, _, _⟩ := h.at 0 [.i x0] rfl
    refine ⟨_, cap, by rw [hv, List.length_map], .inr ⟨g, off, rfl, hg, fun j z hz => ?_⟩, fun x hx _ => by cases hx; exact hF⟩
    obtain ⟨g', off', cap', hv', _, _, _, hc⟩ := h.at j [.i z] (by rw [List.getElem?_map, hz]; rfl)
    rw [hv] at hv'
    cases hv'
    obtain ⟨u, h1, h2⟩ := hc 0 (.i z) rfl
    rw [h2.int] at h1
    simpa using h1
theorem reads_pairs {F : Nat → Prop} {w : World} {v : Value} {ps : List (Int × ByteArray)} (h : Reads F w v (dPairs ps)) : ∃ ad cap, v = .slice ad ps.length cap ∧ PairsIn w ad ps ∧ ∀ x, ad = some x → ps ≠ [] → F x.block := by
  cases ps with
  | nil =>
    obtain ⟨ad, cap, hv⟩ := h.form
    exact ⟨ad, cap, hv, .inl rfl, fun _ _ hne => absurd rfl hne⟩
  | cons p0 ps =>
    obtain ⟨g, off, cap, hv, hF, hg, _, _⟩ := h.at 0 [.i p0.1, .s p0.2] rfl
    refine ⟨_, cap, by rw [hv, List.length_map], .inr ⟨g, off, rfl, hg, fun j z hz => ?_⟩, fun x hx _ => by cases hx; exact hF⟩
    obtain ⟨g', off', cap', hv', _, _, _, hc⟩ := h.at j [.i z.1, .s z.2] (by rw [List.getElem?_map, hz]; rfl)
    rw [hv] at hv'
    cases hv'
    obtain ⟨u0, h1, h2⟩ := hc 0 (.i z.1) rfl
    obtain ⟨u1, h3, h4⟩ := hc 1 (.s z.2) rfl
    rw [h2.int] at h1
    rw [h4.str] at h3
    exact ⟨by simpa using h1, h3⟩
theorem ints_reads {F : Nat → Prop} {w : World} {ad : Option Addr} {cap : Nat} {xs : List Int} (h : IntsIn w ad xs) (hF : ∀ x, ad = some x → xs ≠ [] → F x.block) : Reads F w (.slice ad xs.length cap) (dInts xs) := by
  rcases h with rfl | ⟨g, off, rfl, hg, hc⟩
  · exact .nil ad cap 1
  · cases xs with
    | nil => exact .nil _ cap 1
    | cons x0 xs =>
      have := Reads.l (F := F) (w := w) g off cap 1 ((x0 :: xs).map fun x => [Dat.i x]) (fun j _ => .int .i64 ((x0 :: xs).getD j 0)) (hF _ rfl (by simp)) hg
        (fun j e he => by rw [List.getElem?_map] at he; cases h : (x0 :: xs)[j]? with | none => rw [h] at he; cases he | some x => rw [h] at he; cases he; rfl)
        (fun j e q d he hd => by
          rw [List.getElem?_map] at he
          cases h : (x0 :: xs)[j]? with
          | none => rw [h] at he; cases he
          | some x =>
            rw [h] at he
            cases he
            cases q with
            | succ q => simp at hd
            | zero =>
              rw [Nat.mul_one, Nat.add_zero, List.getD_eq_getElem?_getD, h]
              exact hc j x h)
        (fun j e q d he hd => by
          rw [List.getElem?_map] at he
          cases h : (x0 :: xs)[j]? with
          | none => rw [h] at he; cases he
          | some x =>
            rw [h] at he
            cases he
            cases q with
            | succ q => simp at hd
            | zero =>
              simp at hd
              subst hd
              rw [List.getD_eq_getElem?_getD, h]
              exact .i x)
      rwa [List.length_map] at this
theorem pairs_reads {F : Nat → Prop} {w : World} {ad : Option Addr} {cap : Nat} {ps : List (Int × ByteArray)} (h : PairsIn w ad ps) (hF : ∀ x, ad = some x → ps ≠ [] → F x.block) : Reads F w (.slice ad ps.length cap) (dPairs ps) := by
  rcases h with rfl | ⟨g, off, rfl, hg, hc⟩
  · exact .nil ad cap 2
  · cases ps with
    | nil => exact .nil _ cap 2
    | cons p0 ps =>
      have hget : ∀ (j : Nat) (e : List Dat), ((p0 :: ps).map fun p => [Dat.i p.1, Dat.s p.2])[j]? = some e → ∃ p, (p0 :: ps)[j]? = some p ∧ e = [Dat.i p.1, Dat.s p.2] := fun j e he => by
        rw [List.getElem?_map] at he
        cases h : (p0 :: ps)[j]? with
        | none => rw [h] at he; cases he
        | some p => rw [h] at he; cases he; exact ⟨p, rfl, rfl⟩
      have := Reads.l (F := F) (w := w) g off cap 2 ((p0 :: ps).map fun p => [Dat.i p.1, Dat.s p.2]) (fun j q => if q = 0 then .int .i64 ((p0 :: ps).getD j p0).1 else .string ((p0 :: ps).getD j p0).2) (hF _ rfl (by simp)) hg
        (fun j e he => by obtain ⟨p, _, rfl⟩ := hget j e he; rfl)
        (fun j e q d he hd => by
          obtain ⟨p, hp, rfl⟩ := hget j e he
          rw [List.getD_eq_getElem?_getD, hp]
          match q, hd with
          | 0, _ => exact (hc j p hp).1
          | 1, _ => exact (hc j p hp).2)
        (fun j e q d he hd => by
          obtain ⟨p, hp, rfl⟩ := hget j e he
          rw [List.getD_eq_getElem?_getD, hp]
          match q, hd with
          | 0, hd => simp at hd; subst hd; exact .i _
          | 1, hd => simp at hd; subst hd; exact .s _)
      rwa [List.length_map] at this
end Go.Proofs.Ytfjcpghepkmbfaa

/- The room of lists of any depth in memory. No walk here. -/
namespace Go.Proofs.Ytfjcpghepkmbfaa
open Go.RowKit

/-- Each list has room for what it holds. -/
inductive Caps (w : World) : Value → Dat → Prop where
  | i (x : Int) : Caps w (.int .i64 x) (.i x)
  | b (x : Bool) : Caps w (.bool x) (.b x)
  | s (x : ByteArray) : Caps w (.string x) (.s x)
  | q (x : Nat) : Caps w (.int .u64 (x : Int)) (.q x)
  | f (x : Nat) : Caps w (.float .f64 x) (.f x)
  | l (ad : Option Addr) (n cap sz : Nat) (es : List (List Dat)) (hn : n ≤ cap)
      (h : ∀ (g off j q : Nat) (e : List Dat) (d : Dat) (u : Value), ad = some ⟨g, off, none⟩ → es[j]? = some e → e[q]? = some d → w.cell? ⟨g, off + j * sz + q, none⟩ = some u → Caps w u d) : Caps w (.slice ad n cap) (.l sz es)
theorem Caps.room {w : World} {v : Value} {sz : Nat} {es : List (List Dat)} (h : Caps w v (.l sz es)) : ∀ ad n c, v = .slice ad n c → n ≤ c := fun ad n c hv => by
  cases h with
  | l ad' n' cap' sz es hn h => cases hv; exact hn
theorem Caps.at {w : World} {g off n cap sz : Nat} {es : List (List Dat)} (h : Caps w (.slice (some ⟨g, off, none⟩) n cap) (.l sz es)) {j q : Nat} {e : List Dat} {d : Dat} {u : Value} (hj : es[j]? = some e) (hq : e[q]? = some d) (hu : w.cell? ⟨g, off + j * sz + q, none⟩ = some u) : Caps w u d := by
  cases h with
  | l ad n cap sz es hn h => exact h g off j q e d u rfl hj hq hu
end Go.Proofs.Ytfjcpghepkmbfaa

/- Arguments of any depth, opened at once: what a type tells (Sh), what data fits it, and that an argument that the row reads as such reads so in memory. No walk here. -/
namespace Go.Proofs.Ytfjcpghepkmbfaa
open Go.ChangeShapes Go.WideShapes Go.ChangeAt Go.RowKit

/-- What a type tells: a number, a bool, a text, a list, a struct (its fields one behind the other: c, u). -/
inductive Sh where
  | i | b | s | q | fl
  | l (bytes sz : Nat) (e : Sh)
  | st (f : Sh)
  | u
  | c (a r : Sh)
def Sh.sz : Sh → Nat
  | .i => 1 | .b => 1 | .s => 1 | .q => 1 | .fl => 1
  | .l _ _ _ => 1
  | .st f => f.sz
  | .u => 0
  | .c a r => a.sz + r.sz
/-- The type t (or the fields from offset o on) tells that. -/
def Sh.Of (P : Program) : Sh → TypeId ⊕ (List Field × Nat) → Prop
  | .i, .inl t => P.underlying t = some (.int .i64)
  | .b, .inl t => P.underlying t = some .bool
  | .s, .inl t => P.underlying t = some .string
  | .q, .inl t => P.underlying t = some (.int .u64)
  | .fl, .inl t => P.underlying t = some (.float .f64)
  | .l bytes sz e, .inl t => ∃ te, P.underlying t = some (.slice te) ∧ P.bytesOf te = bytes ∧ P.cellsOf te = sz ∧ e.sz = sz ∧ 0 < sz ∧ Sh.Of P e (.inl te)
  | .st f, .inl t => ∃ fs, P.underlying t = some (.struct fs) ∧ P.cellsOf t = f.sz ∧ Sh.Of P f (.inr (fs.toList, 0))
  | .u, .inr x => x.1 = []
  | .c a r, .inr x => ∃ f fs, x.1 = f :: fs ∧ f.offset = x.2 ∧ P.cellsOf f.type = a.sz ∧ Sh.Of P a (.inl f.type) ∧ Sh.Of P r (.inr (fs, x.2 + a.sz))
  | _, _ => False
/-- The data ds fits it; S: where the row bounds what is reached; U: the bulk. -/
def Fits (S : Prop) (U : Nat) : Sh → List Dat → Prop
  | .i, ds => ∃ x : Int, ds = [.i x] ∧ -9223372036854775808 ≤ x ∧ x ≤ 9223372036854775807
  | .b, ds => ∃ x : Bool, ds = [.b x]
  | .s, ds => ∃ x : ByteArray, ds = [.s x] ∧ x.size ≤ maxLen ∧ (S → x.size ≤ 140737488351232) ∧ x.size ≤ U
  | .q, ds => ∃ x : Nat, ds = [.q x] ∧ x < 18446744073709551616
  | .fl, ds => ∃ x : Nat, ds = [.f x] ∧ x < 18446744073709551616
  | .l bytes sz e, ds => ∃ es : List (List Dat), ds = [.l sz es] ∧ es.length ≤ maxLen ∧ (S → es.length * bytes ≤ 140737488351232) ∧ es.length ≤ U ∧ ∀ d, d ∈ es → Fits S U e d
  | .st f, ds => Fits S U f ds
  | .u, ds => ds = []
  | .c a r, ds => ∃ d1 d2, ds = d1 ++ d2 ∧ Fits S U a d1 ∧ Fits S U r d2
theorem Fits.mono {S S' : Prop} {U U' : Nat} (hS : S' → S) (hU : U ≤ U') : ∀ {sh : Sh} {ds : List Dat}, Fits S U sh ds → Fits S' U' sh ds
  | .i, _, h => h
  | .b, _, h => h
  | .q, _, h => h
  | .fl, _, h => h
  | .s, _, ⟨x, h1, h2, h3, h4⟩ => ⟨x, h1, h2, fun s => h3 (hS s), Nat.le_trans h4 hU⟩
  | .l _ _ _, _, ⟨es, h1, h2, h3, h4, h5⟩ => ⟨es, h1, h2, fun s => h3 (hS s), Nat.le_trans h4 hU, fun d hd => Fits.mono hS hU (h5 d hd)⟩
  | .st f, ds, h => Fits.mono (sh := f) (ds := ds) hS hU h
  | .u, _, h => h
  | .c _ _, _, ⟨d1, d2, h1, h2, h3⟩ => ⟨d1, d2, h1, Fits.mono hS hU h2, Fits.mono hS hU h3⟩
theorem Fits.len {S : Prop} {U : Nat} : ∀ {sh : Sh} {ds : List Dat}, Fits S U sh ds → ds.length = sh.sz
  | .i, _, ⟨x, h, _⟩ => by rw [h]; rfl
  | .b, _, ⟨x, h⟩ => by rw [h]; rfl
  | .q, _, ⟨x, h, _⟩ => by rw [h]; rfl
  | .fl, _, ⟨x, h, _⟩ => by rw [h]; rfl
  | .s, _, ⟨x, h, _⟩ => by rw [h]; rfl
  | .l _ _ _, _, ⟨es, h, _⟩ => by rw [h]; rfl
  | .st f, ds, h => Fits.len (sh := f) (ds := ds) h
  | .u, _, h => by rw [show _ = [] from h]; rfl
  | .c _ _, _, ⟨d1, d2, h1, h2, h3⟩ => by rw [h1, List.length_append, Fits.len h2, Fits.len h3]; rfl
/-- The cells cs read as ds. -/
def CellsAre (G : Nat → Prop) (W : World) (cs : List Value) (ds : List Dat) : Prop := ∀ (q : Nat) (d : Dat), ds[q]? = some d → ∃ u, cs[q]? = some u ∧ Reads G W u d ∧ Caps W u d
theorem cells_one {G : Nat → Prop} {W : World} {v : Value} {d : Dat} (h : Reads G W v d) (hc : Caps W v d) : CellsAre G W [v] [d] := fun q x hq => by
  cases q with
  | zero => cases hq; exact ⟨v, rfl, h, hc⟩
  | succ q => simp at hq
theorem bulkD_pos {H : Type} (d : DataW H) : 1 ≤ Rows.uptoBulk d := by
  cases d with
  | lit l => cases l <;> simp [Rows.uptoBulk]
  | _ => simp [Rows.uptoBulk]
theorem bulkD_all {H : Type} : ∀ l : List (DataW H), l.length ≤ Rows.uptoBulkAll l
  | [] => Nat.zero_le _
  | d :: r => by
    have h1 := bulkD_pos d
    have h2 := bulkD_all r
    simp only [Rows.uptoBulkAll, List.length_cons]
    omega
theorem bulkD_in {H : Type} : ∀ (l : List (DataW H)) (j : Nat) (d : DataW H), l[j]? = some d → Rows.uptoBulk d ≤ Rows.uptoBulkAll l
  | [], _, _, h => by simp at h
  | d :: r, 0, d', h => by simp at h; subst h; simp only [Rows.uptoBulkAll]; omega
  | d :: r, j + 1, d', h => by
    have := bulkD_in r j d' (by simpa using h)
    simp only [Rows.uptoBulkAll]
    omega
theorem weights_all {H : Type} {P : Program} {e : TypeId} : ∀ {ds : List (DataW H)} {j : Nat} {d : DataW H}, ds[j]? = some d → ∀ n ∈ d.weights P e, n ∈ DataW.weightsAll P e ds
  | [], _, _, h => by simp at h
  | d :: r, 0, d', h => fun n hn => by simp at h; subst h; simp only [DataW.weightsAll, List.mem_append]; exact .inl hn
  | d :: r, j + 1, d', h => fun n hn => by simp only [DataW.weightsAll, List.mem_append]; exact .inr (weights_all (by simpa using h) n hn)
theorem list_pick {α : Type} {Q : Nat → α → Prop} : ∀ n, (∀ i, i < n → ∃ x, Q i x) → ∃ xs : List α, xs.length = n ∧ ∀ i x, xs[i]? = some x → Q i x
  | 0, _ => ⟨[], rfl, fun i x h => by simp at h⟩
  | n + 1, h => by
    obtain ⟨xs, hl, hx⟩ := list_pick n (fun i hi => h i (by omega))
    obtain ⟨x, hq⟩ := h n (by omega)
    refine ⟨xs ++ [x], by simp [hl], fun i y hy => ?_⟩
    rcases Nat.lt_trichotomy i n with hi | hi | hi
    · rw [List.getElem?_append_left (by omega)] at hy; exact hx i y hy
    · subst hi; rw [List.getElem?_append_right (by omega), hl, Nat.sub_self] at hy; cases hy; exact hq
    · rw [List.getElem?_eq_none (by simp; omega)] at hy; cases hy
section
variable {H : Type} {enc : TypeId × Value → H} {W : World}
/-- A real that came in is a word of 64 bits. -/
theorem trod_real {P : Program} {t : TypeId} {fuel : Nat} {cs : List Value} {x : DataW H × List MemPlace} (ht : P.underlying t = some (.float .f64)) (h : DataW.trod enc P W 0 (fun _ => true) true fuel t cs = some x) : ∃ b : Nat, cs = [.float .f64 b] ∧ b < 18446744073709551616 := by
  have key : ∃ b : Nat, cs = [.float .f64 b] ∧ (Lit.float .f64 b).wf = true := by
    cases fuel with
    | zero => simp [DataW.trod] at h
    | succ n =>
      unfold DataW.trod at h
      rw [ht] at h
      split at h <;> simp_all
  obtain ⟨b, h1, h2⟩ := key
  exact ⟨b, h1, by simpa [Lit.wf] using h2⟩
/-- The two things that are shown of a Sh, by its build. -/
def OpensT (enc : TypeId × Value → H) (P : Program) (W : World) (sh : Sh) : Prop := ∀ (t : TypeId) (fuel : Nat) (cs : List Value) (x : DataW H × List MemPlace), sh.Of P (.inl t) → DataW.trod enc P W 0 (fun _ => true) true fuel t cs = some x →
  ∃ ds, Fits (∀ m ∈ x.1.weights P t, m ≤ reachBytes) (Rows.uptoBulk x.1) sh ds ∧ CellsAre (fun _ => True) W cs ds
def OpensF (enc : TypeId × Value → H) (P : Program) (W : World) (sh : Sh) : Prop := ∀ (fs : List Field) (o n : Nat) (cs : List Value) (xs : List (DataW H × List MemPlace)), sh.Of P (.inr (fs, o)) → xs.length = fs.length →
  (∀ (i : Nat) (f : Field), fs[i]? = some f → DataW.trod enc P W 0 (fun _ => true) true n f.type ((cs.drop f.offset).take (P.cellsOf f.type)) = xs[i]?) →
  ∃ ds, Fits (∀ m ∈ DataW.weightsEach P (fs.map (·.type)) (xs.map (·.1)), m ≤ reachBytes) (Rows.uptoBulkAll (xs.map (·.1))) sh ds ∧ CellsAre (fun _ => True) W (cs.drop o) ds
theorem opens_all (P : Program) (sh : Sh) : OpensT enc P W sh ∧ OpensF enc P W sh := by
  induction sh with
  | i =>
    refine ⟨fun t fuel cs x hO h => ?_, fun fs o n cs xs hO => by cases hO⟩
    obtain ⟨k, rfl, rfl, hwf⟩ := DataW.trod_int (by exact hO) h
    have hrg : -9223372036854775808 ≤ k ∧ k ≤ 9223372036854775807 := by simpa [Lit.wf, IntKind.min, IntKind.max, IntKind.bits, IntKind.signed] using hwf
    exact ⟨[.i k], ⟨k, rfl, hrg⟩, cells_one (.i k) (.i k)⟩
  | b =>
    refine ⟨fun t fuel cs x hO h => ?_, fun fs o n cs xs hO => by cases hO⟩
    obtain ⟨k, rfl, rfl⟩ := DataW.trod_bool (by exact hO) h
    exact ⟨[.b k], ⟨k, rfl⟩, cells_one (.b k) (.b k)⟩
  | s =>
    refine ⟨fun t fuel cs x hO h => ?_, fun fs o n cs xs hO => by cases hO⟩
    obtain ⟨k, rfl, rfl, hz⟩ := DataW.trod_string (by exact hO) h
    refine ⟨[.s k], ⟨k, rfl, hz, fun hs => ?_, ?_⟩, cells_one (.s k) (.s k)⟩
    · have := hs k.data.toList.length (by simp [DataW.weights])
      rw [reachBytes] at this
      simpa using this
    · simp [Rows.uptoBulk]
  | q =>
    refine ⟨fun t fuel cs x hO h => ?_, fun fs o n cs xs hO => by cases hO⟩
    obtain ⟨k, rfl, rfl, hwf⟩ := DataW.trod_int (by exact hO) h
    have hrg : 0 ≤ k ∧ k ≤ 18446744073709551615 := by simpa [Lit.wf, IntKind.min, IntKind.max, IntKind.bits, IntKind.signed] using hwf
    obtain ⟨n, rfl⟩ := Int.eq_ofNat_of_zero_le hrg.1
    exact ⟨[.q n], ⟨n, rfl, by omega⟩, cells_one (.q n) (.q n)⟩
  | fl =>
    refine ⟨fun t fuel cs x hO h => ?_, fun fs o n cs xs hO => by cases hO⟩
    obtain ⟨k, rfl, hk⟩ := trod_real hO h
    exact ⟨[.f k], ⟨k, rfl, hk⟩, cells_one (.f k) (.f k)⟩
  | u =>
    refine ⟨fun t fuel cs x hO h => (by cases hO), fun fs o n cs xs hO hl h => ?_⟩
    exact ⟨[], rfl, fun q d hq => by simp at hq⟩
  | st f ih =>
    refine ⟨fun t fuel cs x hO h => ?_, fun fs o n cs xs hO => by cases hO⟩
    obtain ⟨fs, hu, hc, hF⟩ := hO
    obtain ⟨xs, n, _, rfl, hl, hxl, hf⟩ := DataW.trod_struct hu h
    obtain ⟨ds, h1, h2⟩ := ih.2 fs.toList 0 n cs xs hF (by rw [hxl]; simp) (fun i g hg => hf i g (by simpa using hg))
    refine ⟨ds, Fits.mono (sh := f) (fun hs m hm => hs m (by simp only [DataW.weights, hu]; exact hm)) (by simp only [Rows.uptoBulk]; omega) h1, by simpa using h2⟩
  | c a r iha ihr =>
    refine ⟨fun t fuel cs x hO h => (by cases hO), fun fs o n cs xs hO hl h => ?_⟩
    obtain ⟨f, fs', rfl, hoff, hcell, hA, hR⟩ := hO
    cases xs with
    | nil => simp at hl
    | cons x xs =>
      have h0 := h 0 f rfl
      obtain ⟨d1, f1, c1⟩ := iha.1 f.type n _ x hA h0
      obtain ⟨d2, f2, c2⟩ := ihr.2 fs' (o + a.sz) n cs xs hR (by simpa using hl) (fun i g hg => h (i + 1) g (by simpa using hg))
      refine ⟨d1 ++ d2, ⟨d1, d2, rfl, f1.mono (fun hs m hm => hs m (by simp only [List.map_cons, DataW.weightsEach, List.mem_append]; exact .inl hm)) (by simp only [List.map_cons, Rows.uptoBulkAll]; omega), f2.mono (fun hs m hm => hs m (by simp only [List.map_cons, DataW.weightsEach, List.mem_append]; exact .inr hm)) (by simp only [List.map_cons, Rows.uptoBulkAll]; omega)⟩, ?_⟩
      · intro q d hq
        have hl1 := f1.len
        by_cases hqa : q < d1.length
        · rw [List.getElem?_append_left hqa] at hq
          obtain ⟨u, hu, hR⟩ := c1 q d hq
          refine ⟨u, ?_, hR⟩
          rw [List.getElem?_take] at hu
          split at hu
          · simp only at hoff
            rw [← hoff]
            exact hu
          · cases hu
        · rw [List.getElem?_append_right (by omega)] at hq
          obtain ⟨u, hu, hR⟩ := c2 _ d hq
          refine ⟨u, ?_, hR⟩
          rw [List.getElem?_drop] at hu ⊢
          rw [show o + q = o + a.sz + (q - d1.length) by omega]
          exact hu
  | l bytes sz e ih =>
    refine ⟨fun t fuel cs x hO h => ?_, fun fs o n cs xs hO => by cases hO⟩
    obtain ⟨te, hu, hby, hsz, hez, hz0, hE⟩ := hO
    rcases Go.Deep.open_slice hu h with ⟨rfl, rfl⟩ | ⟨ad, len, cap, m, n, D, Pl, rfl, _, hl, hm, hmm, hx, hel⟩
    · exact ⟨[.l sz []], ⟨[], rfl, Nat.zero_le _, fun _ => by simp, Nat.zero_le _, fun d hd => by simp at hd⟩, cells_one (.nil none 0 sz) (.l none 0 0 sz [] (Nat.le_refl _) (fun g off j q e d u h => by cases h))⟩
    · simp at hmm
      subst hmm
      have hx1 : x.1 = .slice ((List.range len).map D) ((List.range (m - len)).map fun j => D (len + j)) := by rw [hx]
      have each : ∀ i, i < len → ∃ d : List Dat, Fits (∀ q ∈ x.1.weights P t, q ≤ reachBytes) (Rows.uptoBulk x.1) e d ∧ ∃ cs', W.cells? 0 (ad.add (i * sz)) sz = some cs' ∧ CellsAre (fun _ => True) W cs' d := by
        intro i hi
        obtain ⟨cs', h1, h2⟩ := hel i (by omega)
        rw [hsz] at h1
        obtain ⟨d, f1, c1⟩ := ih.1 te n cs' _ hE h2
        have hget : ((List.range len).map D)[i]? = some (D i) := by rw [List.getElem?_map, List.getElem?_range hi]; rfl
        have hw : ∀ q ∈ (D i).weights P te, q ∈ x.1.weights P t := fun q hq => by
          rw [hx1]
          simp only [DataW.weights, hu, List.mem_cons, List.mem_append]
          exact .inr (.inl (weights_all hget q hq))
        have hbk : Rows.uptoBulk (D i) ≤ Rows.uptoBulk x.1 := by
          rw [hx1]
          have := bulkD_in _ i _ hget
          simp only [Rows.uptoBulk]
          omega
        exact ⟨d, f1.mono (fun hs q hq => hs q (hw q hq)) hbk, cs', h1, c1⟩
      obtain ⟨es, hil, hip⟩ := list_pick len each
      have hcellA : ∀ (j : Nat) (d : List Dat), es[j]? = some d → d.length = sz ∧ ∀ (q : Nat) (y : Dat), d[q]? = some y → ∃ u, W.cell? (ad.add (j * sz + q)) = some u ∧ Reads (fun _ => True) W u y ∧ Caps W u y := fun j d hj => by
        obtain ⟨hf, cs', h1, h2⟩ := hip j d hj
        obtain ⟨_, hlen, hc⟩ := World.cells?_some h1
        refine ⟨by rw [hf.len, hez], fun q y hy => ?_⟩
        obtain ⟨u, hu, hR⟩ := h2 q y hy
        have hq := (List.getElem?_eq_some_iff.1 hu).1
        have := hc q (by omega)
        rw [Go.Deep.add_add] at this
        exact ⟨u, this.trans hu, hR⟩
      refine ⟨[.l sz es], ⟨es, rfl, by omega, fun hs => ?_, ?_, fun d hd => ?_⟩, cells_one ?_ ?_⟩
      · have := hs ((len + (m - len)) * P.bytesOf te) (by rw [hx1]; simp [DataW.weights, hu])
        rw [hby, reachBytes] at this
        rw [hil]
        have h3 : len + (m - len) = m := by omega
        rw [h3] at this
        exact Nat.le_trans (Nat.mul_le_mul_right _ hl) this
      · rw [hx1, hil]
        have := bulkD_all ((List.range len).map D)
        rw [List.length_map, List.length_range] at this
        simp only [Rows.uptoBulk]
        omega
      · obtain ⟨i, hi, rfl⟩ := List.getElem_of_mem hd
        exact (hip i _ (List.getElem?_eq_getElem hi)).1
      · rw [← hil]
        by_cases h0 : len = 0
        · rw [List.eq_nil_of_length_eq_zero (by omega : es.length = 0)]
          exact .nil (some ad) m sz
        · obtain ⟨b, off, spot⟩ := ad
          have hcell : ∀ (j : Nat) (d : List Dat), es[j]? = some d → d.length = sz ∧ ∀ (q : Nat) (y : Dat), d[q]? = some y → ∃ u, W.cell? ((Addr.mk b off spot).add (j * sz + q)) = some u ∧ Reads (fun _ => True) W u y := fun j d hj => ⟨(hcellA j d hj).1, fun q y hy => by
            obtain ⟨u, h1, h2, _⟩ := (hcellA j d hj).2 q y hy
            exact ⟨u, h1, h2⟩⟩
          obtain ⟨d0, hd0⟩ : ∃ d, es[0]? = some d := ⟨es[0]'(by omega), List.getElem?_eq_getElem _⟩
          have hd0l := (hcell 0 d0 hd0).1
          obtain ⟨y0, hy0⟩ : ∃ y, d0[0]? = some y := ⟨d0[0]'(by omega), List.getElem?_eq_getElem _⟩
          obtain ⟨u0, hu0, _⟩ := (hcell 0 d0 hd0).2 0 y0 hy0
          have hspot : spot = none := by simpa [Addr.add] using World.cell?_spot hu0
          subst hspot
          have hb0 : b < W.heap.size := by have := World.block_lt_of_cell? W _ hu0; simpa [Addr.add] using this
          have hsome : ∀ (j : Nat) (d : List Dat) (q : Nat) (y : Dat), es[j]? = some d → d[q]? = some y → ∃ u, W.cell? ⟨b, off + j * sz + q, none⟩ = some u ∧ Reads (fun _ => True) W u y := fun j d q y hj hy => by
            obtain ⟨u, h1, h2⟩ := (hcell j d hj).2 q y hy
            rw [Addr.add_lit] at h1
            exact ⟨u, by rw [Nat.add_assoc]; exact h1, h2⟩
          refine .l b off m sz es (fun j q => (W.cell? ⟨b, off + j * sz + q, none⟩).getD undef) trivial hb0 (fun j d hj => (hcell j d hj).1) (fun j d q y hj hy => ?_) (fun j d q y hj hy => ?_)
          · obtain ⟨u, h1, _⟩ := hsome j d q y hj hy
            rw [h1]; rfl
          · obtain ⟨u, h1, h2⟩ := hsome j d q y hj hy
            rw [h1]; exact h2
      · refine .l (some ad) len m sz es hl (fun g off j q e d u hg hj hq hu => ?_)
        cases hg
        obtain ⟨u', h1, _, h2⟩ := (hcellA j e hj).2 q d hq
        rw [Addr.add_lit, ← Nat.add_assoc, hu] at h1
        cases h1
        exact h2
end
end Go.Proofs.Ytfjcpghepkmbfaa

/- A message in memory, and as an argument. No walk here. -/
namespace Go.Proofs.Ytfjcpghepkmbfaa
open Go.ChangeShapes Go.WideShapes Go.ChangeAt Go.RowKit

def dCt (c : Ct) : List Dat := [.i c.1, .i c.2.1, .i c.2.2.1.c, .i c.2.2.1.st, .i c.2.2.1.k, .s c.2.2.1.key, .f c.2.2.1.b, .i c.2.2.1.id, dPairs c.2.2.2]
def dCts (l : List Ct) : Dat := .l 9 (l.map dCt)
def dCg (c : Cg) : List Dat := [.i c.1, .i c.2.1, dCts c.2.2.1, .i c.2.2.2.1, .s c.2.2.2.2]
def dCgs (l : List Cg) : Dat := .l 5 (l.map dCg)
def dLn (k : Ln) : List Dat := [.i k.1.1, dInts k.1.2, dPairs k.2]
def dLns (l : List Ln) : Dat := .l 3 (l.map dLn)
def dMs (m : Ms) : List Dat := [.i m.k, .i m.ep, .i m.v, .i m.sl, .i m.rq.c, .i m.rq.st, .i m.rq.k, .s m.rq.key, .f m.rq.b, .i m.rq.id, .i m.rs.1, .f m.rs.2, .s m.tx, dInts m.nx, dPairs m.sg, dCgs m.cg, dLns m.ln]
def shInts : Sh := .l 8 1 .i
def shSig : Sh := .st (.c .i (.c .s .u))
def shSigs : Sh := .l 24 2 shSig
def shConf : Sh := .st (.c .i (.c shInts .u))
def shLink : Sh := .st (.c shConf (.c shSigs .u))
def shLinks : Sh := .l 56 3 shLink
def shOpr : Sh := .st (.c .i (.c .s (.c .fl (.c .i .u))))
def shReq : Sh := .st (.c .i (.c .i (.c shOpr .u)))
def shRes : Sh := .st (.c .i (.c .fl .u))
def shCert : Sh := .st (.c .i (.c .i (.c shReq (.c shSigs .u))))
def shCerts : Sh := .l 96 9 shCert
def shChg : Sh := .st (.c .i (.c .i (.c shCerts (.c shSig .u))))
def shChgs : Sh := .l 64 5 shChg
def shMsg : Sh := .st (.c .i (.c .i (.c .i (.c .i (.c shReq (.c shRes (.c .s (.c shInts (.c shSigs (.c shChgs (.c shLinks .u)))))))))))
theorem of_ints : shInts.Of Try.prog (.inl 29) := ⟨_, Try.underlying29, by kernel_rfl, by kernel_rfl, rfl, by decide, Try.underlying3⟩
theorem of_sig : shSig.Of Try.prog (.inl 48) := ⟨_, Try.underlying48, by kernel_rfl, ⟨_, _, rfl, rfl, by kernel_rfl, Try.underlying3, ⟨_, _, rfl, rfl, by kernel_rfl, Try.underlying9, rfl⟩⟩⟩
theorem of_sigs : shSigs.Of Try.prog (.inl 30) := ⟨_, Try.underlying30, by kernel_rfl, by kernel_rfl, rfl, by decide, of_sig⟩
theorem of_conf : shConf.Of Try.prog (.inl 61) := ⟨_, Try.underlying61, by kernel_rfl, ⟨_, _, rfl, rfl, by kernel_rfl, Try.underlying3, ⟨_, _, rfl, rfl, by kernel_rfl, of_ints, rfl⟩⟩⟩
theorem of_link : shLink.Of Try.prog (.inl 63) := ⟨_, Try.underlying63, by kernel_rfl, ⟨_, _, rfl, rfl, by kernel_rfl, of_conf, ⟨_, _, rfl, rfl, by kernel_rfl, of_sigs, rfl⟩⟩⟩
theorem of_links : shLinks.Of Try.prog (.inl 32) := ⟨_, Try.underlying32, by kernel_rfl, by kernel_rfl, rfl, by decide, of_link⟩
theorem of_opr : shOpr.Of Try.prog (.inl 24) := ⟨_, Try.underlying24, by kernel_rfl, ⟨_, _, rfl, rfl, by kernel_rfl, Try.underlying3, ⟨_, _, rfl, rfl, by kernel_rfl, Try.underlying9, ⟨_, _, rfl, rfl, by kernel_rfl, Try.underlying22, ⟨_, _, rfl, rfl, by kernel_rfl, Try.underlying3, rfl⟩⟩⟩⟩⟩
theorem of_req : shReq.Of Try.prog (.inl 26) := ⟨_, Try.underlying26, by kernel_rfl, ⟨_, _, rfl, rfl, by kernel_rfl, Try.underlying3, ⟨_, _, rfl, rfl, by kernel_rfl, Try.underlying3, ⟨_, _, rfl, rfl, by kernel_rfl, of_opr, rfl⟩⟩⟩⟩
theorem of_res : shRes.Of Try.prog (.inl 28) := ⟨_, Try.underlying28, by kernel_rfl, ⟨_, _, rfl, rfl, by kernel_rfl, Try.underlying3, ⟨_, _, rfl, rfl, by kernel_rfl, Try.underlying22, rfl⟩⟩⟩
theorem of_cert : shCert.Of Try.prog (.inl 72) := ⟨_, Try.underlying72, by kernel_rfl, ⟨_, _, rfl, rfl, by kernel_rfl, Try.underlying3, ⟨_, _, rfl, rfl, by kernel_rfl, Try.underlying3, ⟨_, _, rfl, rfl, by kernel_rfl, of_req, ⟨_, _, rfl, rfl, by kernel_rfl, of_sigs, rfl⟩⟩⟩⟩⟩
theorem of_certs : shCerts.Of Try.prog (.inl 68) := ⟨_, Try.underlying68, by kernel_rfl, by kernel_rfl, rfl, by decide, of_cert⟩
theorem of_chg : shChg.Of Try.prog (.inl 70) := ⟨_, Try.underlying70, by kernel_rfl, ⟨_, _, rfl, rfl, by kernel_rfl, Try.underlying3, ⟨_, _, rfl, rfl, by kernel_rfl, Try.underlying3, ⟨_, _, rfl, rfl, by kernel_rfl, of_certs, ⟨_, _, rfl, rfl, by kernel_rfl, of_sig, rfl⟩⟩⟩⟩⟩
theorem of_chgs : shChgs.Of Try.prog (.inl 31) := ⟨_, Try.underlying31, by kernel_rfl, by kernel_rfl, rfl, by decide, of_chg⟩
theorem of_msg : shMsg.Of Try.prog (.inl 34) := ⟨_, Try.underlying34, by kernel_rfl, ⟨_, _, rfl, rfl, by kernel_rfl, Try.underlying3, ⟨_, _, rfl, rfl, by kernel_rfl, Try.underlying3, ⟨_, _, rfl, rfl, by kernel_rfl, Try.underlying3, ⟨_, _, rfl, rfl, by kernel_rfl, Try.underlying3, ⟨_, _, rfl, rfl, by kernel_rfl, of_req, ⟨_, _, rfl, rfl, by kernel_rfl, of_res, ⟨_, _, rfl, rfl, by kernel_rfl, Try.underlying9, ⟨_, _, rfl, rfl, by kernel_rfl, of_ints, ⟨_, _, rfl, rfl, by kernel_rfl, of_sigs, ⟨_, _, rfl, rfl, by kernel_rfl, of_chgs, ⟨_, _, rfl, rfl, by kernel_rfl, of_links, rfl⟩⟩⟩⟩⟩⟩⟩⟩⟩⟩⟩⟩
theorem fits_map {α : Type} {f : α → List Dat} {Q : α → Prop} : ∀ (es : List (List Dat)), (∀ d, d ∈ es → ∃ x, d = f x ∧ Q x) → ∃ xs : List α, es = xs.map f ∧ ∀ x, x ∈ xs → Q x
  | [], _ => ⟨[], rfl, fun x h => by cases h⟩
  | e :: es, h => by
    obtain ⟨x, rfl, hx⟩ := h e (List.mem_cons_self ..)
    obtain ⟨xs, rfl, hxs⟩ := fits_map es (fun d hd => h d (List.mem_cons_of_mem _ hd))
    refine ⟨x :: xs, rfl, fun y hy => ?_⟩
    rcases List.mem_cons.1 hy with rfl | hy
    · exact hx
    · exact hxs y hy
/-- Bounds of what came in. -/
def iR (z : Int) : Prop := -9223372036854775808 ≤ z ∧ z ≤ 9223372036854775807
def rqR (r : Rq) : Prop := (iR r.c ∧ iR r.st) ∧ (iR r.k ∧ iR r.id) ∧ r.key.size ≤ maxLen ∧ r.b < 18446744073709551616
def sgsR (l : List Sg) : Prop := l.length ≤ maxLen ∧ ∀ p, p ∈ l → iR p.1 ∧ p.2.size ≤ maxLen
def ctR (c : Ct) : Prop := (iR c.1 ∧ iR c.2.1) ∧ rqR c.2.2.1 ∧ sgsR c.2.2.2
def cgR (c : Cg) : Prop := (iR c.1 ∧ iR c.2.1) ∧ (c.2.2.1.length ≤ maxLen ∧ ∀ x, x ∈ c.2.2.1 → ctR x) ∧ iR c.2.2.2.1 ∧ c.2.2.2.2.size ≤ maxLen
def intsR (l : List Int) : Prop := l.length ≤ maxLen ∧ ∀ x, x ∈ l → iR x
def lnR (k : Ln) : Prop := iR k.1.1 ∧ intsR k.1.2 ∧ sgsR k.2
structure MsB (m : Ms) : Prop where
  k : iR m.k
  ep : iR m.ep
  v : iR m.v
  sl : iR m.sl
  rq : rqR m.rq
  rc : iR m.rs.1
  rf : m.rs.2 < 18446744073709551616
  tx : m.tx.size ≤ maxLen
  nx : intsR m.nx
  sg : sgsR m.sg
  cg : m.cg.length ≤ maxLen ∧ ∀ x, x ∈ m.cg → cgR x
  ln : m.ln.length ≤ maxLen ∧ ∀ x, x ∈ m.ln → lnR x
theorem MsB.r {m : Ms} (h : MsB m) : MsR m := ⟨h.rq.2.2.2, h.rf, fun c hc x hx => ((h.cg.2 c hc).2.1.2 x hx).2.1.2.2.2⟩
section
variable {S : Prop} {U : Nat}
theorem fit_ints {ds : List Dat} (h : Fits S U shInts ds) : ∃ xs : List Int, ds = [dInts xs] ∧ intsR xs := by
  obtain ⟨es, rfl, h1, _, _, h3⟩ := h
  obtain ⟨xs, rfl, h4⟩ := fits_map (f := fun x : Int => [Dat.i x]) (Q := iR) es (fun d hd => by obtain ⟨x, hx, hr⟩ := h3 d hd; exact ⟨x, hx, hr⟩)
  rw [List.length_map] at h1
  exact ⟨xs, rfl, h1, h4⟩
theorem fit_sig {ds : List Dat} (h : Fits S U shSig ds) : ∃ p : Sg, ds = [.i p.1, .s p.2] ∧ iR p.1 ∧ p.2.size ≤ maxLen := by
  obtain ⟨d1, d2, rfl, ⟨x, rfl, hx⟩, d3, d4, rfl, ⟨y, rfl, hy, _⟩, rfl⟩ := h
  exact ⟨(x, y), rfl, hx, hy⟩
theorem fit_sigs {ds : List Dat} (h : Fits S U shSigs ds) : ∃ ps : List Sg, ds = [dPairs ps] ∧ sgsR ps := by
  obtain ⟨es, rfl, h1, _, _, h3⟩ := h
  obtain ⟨ps, rfl, h4⟩ := fits_map (f := fun p : Sg => [Dat.i p.1, Dat.s p.2]) (Q := fun p => iR p.1 ∧ p.2.size ≤ maxLen) es (fun d hd => fit_sig (h3 d hd))
  rw [List.length_map] at h1
  exact ⟨ps, rfl, h1, h4⟩
theorem fit_req {ds : List Dat} (h : Fits S U shReq ds) : ∃ r : Rq, ds = [.i r.c, .i r.st, .i r.k, .s r.key, .f r.b, .i r.id] ∧ rqR r := by
  obtain ⟨d1, d2, rfl, ⟨c, rfl, hc⟩, d3, d4, rfl, ⟨st, rfl, hst⟩, d5, d6, rfl, ⟨d7, d8, rfl, ⟨k, rfl, hk⟩, d9, d10, rfl, ⟨key, rfl, hkey, _⟩, d11, d12, rfl, ⟨b, rfl, hb⟩, d13, d14, rfl, ⟨id, rfl, hid⟩, rfl⟩, rfl⟩ := h
  exact ⟨⟨c, st, k, key, b, id⟩, rfl, ⟨hc, hst⟩, ⟨hk, hid⟩, hkey, hb⟩
theorem fit_cert {ds : List Dat} (h : Fits S U shCert ds) : ∃ c : Ct, ds = dCt c ∧ ctR c := by
  obtain ⟨d1, d2, rfl, ⟨v, rfl, hv⟩, d3, d4, rfl, ⟨sl, rfl, hsl⟩, d5, d6, rfl, hr, d7, d8, rfl, hs, rfl⟩ := h
  obtain ⟨r, rfl, hr2⟩ := fit_req hr
  obtain ⟨ps, rfl, hp⟩ := fit_sigs hs
  exact ⟨(v, sl, r, ps), rfl, ⟨hv, hsl⟩, hr2, hp⟩
theorem fit_certs {ds : List Dat} (h : Fits S U shCerts ds) : ∃ l : List Ct, ds = [dCts l] ∧ l.length ≤ maxLen ∧ ∀ x, x ∈ l → ctR x := by
  obtain ⟨es, rfl, h1, _, _, h3⟩ := h
  obtain ⟨l, rfl, h4⟩ := fits_map (f := dCt) (Q := ctR) es (fun d hd => fit_cert (h3 d hd))
  rw [List.length_map] at h1
  exact ⟨l, rfl, h1, h4⟩
theorem fit_chg {ds : List Dat} (h : Fits S U shChg ds) : ∃ c : Cg, ds = dCg c ∧ cgR c := by
  obtain ⟨d1, d2, rfl, ⟨v, rfl, hv⟩, d3, d4, rfl, ⟨sl, rfl, hsl⟩, d5, d6, rfl, hr, d7, d8, rfl, hs, rfl⟩ := h
  obtain ⟨l, rfl, hl⟩ := fit_certs hr
  obtain ⟨p, rfl, hp⟩ := fit_sig hs
  exact ⟨(v, sl, l, p), rfl, ⟨hv, hsl⟩, hl, hp⟩
theorem fit_chgs {ds : List Dat} (h : Fits S U shChgs ds) : ∃ l : List Cg, ds = [dCgs l] ∧ l.length ≤ maxLen ∧ ∀ x, x ∈ l → cgR x := by
  obtain ⟨es, rfl, h1, _, _, h3⟩ := h
  obtain ⟨l, rfl, h4⟩ := fits_map (f := dCg) (Q := cgR) es (fun d hd => fit_chg (h3 d hd))
  rw [List.length_map] at h1
  exact ⟨l, rfl, h1, h4⟩
theorem fit_link {ds : List Dat} (h : Fits S U shLink ds) : ∃ k : Ln, ds = dLn k ∧ lnR k := by
  obtain ⟨d1, d2, rfl, ⟨d5, d6, rfl, ⟨x, rfl, hx⟩, d7, d8, rfl, hi, rfl⟩, d3, d4, rfl, h3, rfl⟩ := h
  obtain ⟨xs, rfl, h4⟩ := fit_ints hi
  obtain ⟨ps, rfl, h6⟩ := fit_sigs h3
  exact ⟨((x, xs), ps), rfl, hx, h4, h6⟩
theorem fit_links {ds : List Dat} (h : Fits S U shLinks ds) : ∃ l : List Ln, ds = [dLns l] ∧ l.length ≤ maxLen ∧ ∀ x, x ∈ l → lnR x := by
  obtain ⟨es, rfl, h1, _, _, h3⟩ := h
  obtain ⟨l, rfl, h4⟩ := fits_map (f := dLn) (Q := lnR) es (fun d hd => fit_link (h3 d hd))
  rw [List.length_map] at h1
  exact ⟨l, rfl, h1, h4⟩
theorem fit_msg {ds : List Dat} (h : Fits S U shMsg ds) : ∃ m : Ms, ds = dMs m ∧ MsB m := by
  obtain ⟨d1, d2, rfl, ⟨k, rfl, hk⟩, d3, d4, rfl, ⟨ep, rfl, hep⟩, d5, d6, rfl, ⟨v, rfl, hv⟩, d7, d8, rfl, ⟨sl, rfl, hsl⟩, d9, d10, rfl, hr, d11, d12, rfl, ⟨e1, e2, rfl, ⟨rc, rfl, hrc⟩, e3, e4, rfl, ⟨rf, rfl, hrf⟩, rfl⟩, d13, d14, rfl, ⟨tx, rfl, htx, _⟩, d15, d16, rfl, hi, d17, d18, rfl, hs, d19, d20, rfl, hc, d21, d22, rfl, hl, rfl⟩ := h
  obtain ⟨r, rfl, hr2⟩ := fit_req hr
  obtain ⟨xs, rfl, hx⟩ := fit_ints hi
  obtain ⟨ps, rfl, hp⟩ := fit_sigs hs
  obtain ⟨cg, rfl, hcg⟩ := fit_chgs hc
  obtain ⟨ln, rfl, hln⟩ := fit_links hl
  exact ⟨⟨k, ep, v, sl, r, (rc, rf), tx, xs, ps, cg, ln⟩, rfl, ⟨hk, hep, hv, hsl, hr2, hrc, hrf, htx, hx, hp, hcg, hln⟩⟩
end
/-- A message's cells, with its four lists at v13 to v16. -/
def msC (m : Ms) (v13 v14 v15 v16 : Value) : List Value := [.int .i64 m.k, .int .i64 m.ep, .int .i64 m.v, .int .i64 m.sl, .int .i64 m.rq.c, .int .i64 m.rq.st, .int .i64 m.rq.k, .string m.rq.key, .float .f64 m.rq.b, .int .i64 m.rq.id, .int .i64 m.rs.1, .float .f64 m.rs.2, .string m.tx, v13, v14, v15, v16]
/-- The lists of a message lie in w, in blocks of F. -/
structure MsL (F : Nat → Prop) (w : World) (m : Ms) (v13 v14 v15 v16 : Value) : Prop where
  nx : Reads F w v13 (dInts m.nx)
  sg : Reads F w v14 (dPairs m.sg)
  cg : Reads F w v15 (dCgs m.cg)
  ln : Reads F w v16 (dLns m.ln)
theorem MsL.keep {F : Nat → Prop} {w w' : World} {m : Ms} {v13 v14 v15 v16 : Value} (h : MsL F w m v13 v14 v15 v16) (hs : w.heap.size ≤ w'.heap.size) (hb : ∀ k, k < w.heap.size → F k → w'.heap[k]? = w.heap[k]?) : MsL F w' m v13 v14 v15 v16 :=
  ⟨h.nx.keep hs hb, h.sg.keep hs hb, h.cg.keep hs hb, h.ln.keep hs hb⟩
theorem MsL.under {F : Nat → Prop} {w w' : World} {m : Ms} {v13 v14 v15 v16 : Value} (h : MsL F w m v13 v14 v15 v16) (hb : Below w.heap.size w w') : MsL F w' m v13 v14 v15 v16 := h.keep hb.size (fun k hk _ => hb.block k hk)
theorem ms_cells {F : Nat → Prop} {w : World} {cs : List Value} {m : Ms} (hl : cs.length = 17) (h : CellsAre F w cs (dMs m)) : ∃ v13 v14 v15 v16, cs = msC m v13 v14 v15 v16 ∧ MsL F w m v13 v14 v15 v16 := by
  match cs, hl with
  | [c0, c1, c2, c3, c4, c5, c6, c7, c8, c9, c10, c11, c12, c13, c14, c15, c16], _ =>
    obtain ⟨_, e0, r0, _⟩ := h 0 _ rfl
    obtain ⟨_, e1, r1, _⟩ := h 1 _ rfl
    obtain ⟨_, e2, r2, _⟩ := h 2 _ rfl
    obtain ⟨_, e3, r3, _⟩ := h 3 _ rfl
    obtain ⟨_, e4, r4, _⟩ := h 4 _ rfl
    obtain ⟨_, e5, r5, _⟩ := h 5 _ rfl
    obtain ⟨_, e6, r6, _⟩ := h 6 _ rfl
    obtain ⟨_, e7, r7, _⟩ := h 7 _ rfl
    obtain ⟨_, e8, r8, _⟩ := h 8 _ rfl
    obtain ⟨_, e9, r9, _⟩ := h 9 _ rfl
    obtain ⟨_, e10, r10, _⟩ := h 10 _ rfl
    obtain ⟨_, e11, r11, _⟩ := h 11 _ rfl
    obtain ⟨_, e12, r12, _⟩ := h 12 _ rfl
    obtain ⟨_, e13, r13, _⟩ := h 13 _ rfl
    obtain ⟨_, e14, r14, _⟩ := h 14 _ rfl
    obtain ⟨_, e15, r15, _⟩ := h 15 _ rfl
    obtain ⟨_, e16, r16, _⟩ := h 16 _ rfl
    cases e0; cases e1; cases e2; cases e3; cases e4; cases e5; cases e6; cases e7; cases e8; cases e9; cases e10; cases e11; cases e12; cases e13; cases e14; cases e15; cases e16
    exact ⟨c13, c14, c15, c16, by rw [r0.int, r1.int, r2.int, r3.int, r4.int, r5.int, r6.int, r7.str, r8.flt, r9.int, r10.int, r11.flt, r12.str]; rfl, r13, r14, r15, r16⟩
end Go.Proofs.Ytfjcpghepkmbfaa

/- The program's small parts of a message, as it reads them: each answers, or gives up. -/
namespace Go.Proofs.Ytfjcpghepkmbfaa
open Go.RowKit

theorem RdAt.alloc {w : World} {b : Nat} {s : ByteArray} {sh : Bool} (h : RdAt w b s sh) (o : Obj) : RdAt (w.alloc o) b s sh := (Below.heap_alloc w o b (lt_of_blk h)).trans h
theorem ineed_yes (w : World) : Calls Try.prog 49 #[.bool true] w fun e w' => e = .returned (.tuple #[]) ∧ w' = w := by
  go_enter Try.func49, Try.ntmps49
  go_wp2
  go_end0
  exact ⟨rfl, rfl⟩
theorem ineed_no (w : World) : Calls Try.prog 49 #[.bool false] w fun e w' => e = .panicked [{ v := .iface 56 (.agg #[]), recovered := false }] ∧ w' = w := by
  go_enter Try.func49, Try.ntmps49
  go_wp2
  exact ⟨rfl, rfl, rfl⟩
set_option maxHeartbeats 800000 in
theorem ineedRead_yes (b : Nat) (s : ByteArray) (w : World) (h : RdAt w b s false) :
    Calls Try.prog 87 #[.agg #[.pointer (some ⟨b, 0, none⟩)]] w fun e w' => e = .returned (.tuple #[]) ∧ Kept b none w w' ∧ w'.heap[b]? = w.heap[b]? := by
  have HE : Hid (∀ o, Calls Try.prog 50 #[.pointer (some ⟨b, 0, none⟩)] (w.alloc o) fun e w' => e = .returned (.int .i64 (endOf s false)) ∧ w' = w.alloc o) := hid (fun o => end_any b s false _ (h.alloc o))
  have hq : (endOf s false != 2) = true := by unfold endOf; by_cases h0 : 0 < s.size <;> simp [h0]
  have hlt := h.lt
  generalize endOf s false = E at HE hq
  clear h
  go_enter Try.func87, Try.ntmps87
  go_wp2_with (first
    | (go_at_call 50; refine (HE.out _).mono ?_; rintro e w1 ⟨rfl, hw⟩; replace hw := hw.symm; subst hw)
    | (go_at_call 49; refine (ineed_yes _).mono ?_; rintro e w1 ⟨rfl, hw⟩; replace hw := hw.symm; subst hw))
  go_end0
  exact ⟨rfl, (Kept.refl _ _ _).alloc _, Below.heap_alloc _ _ _ hlt⟩
set_option maxHeartbeats 800000 in
theorem ineedRead_no (b : Nat) (s : ByteArray) (w : World) (h : RdAt w b s true) :
    Calls Try.prog 87 #[.agg #[.pointer (some ⟨b, 0, none⟩)]] w fun e w' => e = .panicked [{ v := .iface 56 (.agg #[]), recovered := false }] ∧ Kept b none w w' := by
  have HE : Hid (∀ o, Calls Try.prog 50 #[.pointer (some ⟨b, 0, none⟩)] (w.alloc o) fun e w' => e = .returned (.int .i64 2) ∧ w' = w.alloc o) := hid (fun o => end_any b s true _ (h.alloc o))
  clear h
  go_enter Try.func87, Try.ntmps87
  go_wp2_with (first
    | (go_at_call 50; refine (HE.out _).mono ?_; rintro e w1 ⟨rfl, hw⟩; replace hw := hw.symm; subst hw)
    | (go_at_call 49; refine (ineed_no _).mono ?_; rintro e w1 ⟨rfl, hw⟩; replace hw := hw.symm; subst hw))
  exact ⟨rfl, rfl, (Kept.refl _ _ _).alloc _⟩
set_option maxRecDepth 100000 in
set_option maxHeartbeats 1600000 in
theorem ipbyte_yes (b : Nat) (s : ByteArray) (w : World) (h : RdAt w b s false) (hs : rB s false 1 = false) :
    Calls Try.prog 70 #[.agg #[.pointer (some ⟨b, 0, none⟩)]] w fun e w' => e = .returned (.int .i64 (rN s false 1)) ∧ RdAt w' b (rS s false 1) false ∧ Kept b none w w' := by
  have hlt := h.lt
  have HC : Hid (Calls Try.prog 86 #[.pointer (some ⟨b, 0, none⟩)] (w.alloc (.cells #[.pointer (some ⟨b, 0, none⟩)] 97)) fun e w' => e = .returned (.int .i64 (rN s false 1)) ∧ RdAt w' b (rS s false 1) false ∧ Kept b none (w.alloc (.cells #[.pointer (some ⟨b, 0, none⟩)] 97)) w') := hid (by
    have := rbyte_any b s false _ (h.alloc (.cells #[.pointer (some ⟨b, 0, none⟩)] 97))
    rw [hs] at this
    exact this)
  clear h hs
  go_enter Try.func70, Try.ntmps70
  go_wp2_with (first
    | (go_at_call 86; refine HC.out.mono ?_; rintro e w1 ⟨rfl, hr, hk⟩; have H1 := hid (And.intro hr hk); have y0 : w1.cell? ⟨w.heap.size, 0, none⟩ = some (.pointer (some ⟨b, 0, none⟩)) := (World.cell?_of_block (a := ⟨w.heap.size, 0, none⟩) (hk.block w.heap.size (by simp) (Nat.ne_of_gt hlt) (by simp))).trans (by simp [go_sem]); clear hr hk)
    | (go_at_call 87; refine (ineedRead_yes b _ _ H1.out.1).mono ?_; rintro e w2 ⟨rfl, hk⟩; have H2 := hid hk; clear hk))
  go_ret
  exact ⟨rfl, (H2.out.2).trans H1.out.1, (((Kept.refl b none w).alloc _).trans H1.out.2 (.inl rfl)).trans H2.out.1 (.inl rfl)⟩
set_option maxRecDepth 100000 in
set_option maxHeartbeats 1600000 in
theorem ipbyte_no (b : Nat) (s : ByteArray) (w : World) (h : RdAt w b s false) (hs : rB s false 1 = true) :
    Calls Try.prog 70 #[.agg #[.pointer (some ⟨b, 0, none⟩)]] w fun e w' => e = .panicked [{ v := .iface 56 (.agg #[]), recovered := false }] ∧ Kept b none w w' := by
  have hlt := h.lt
  have HC : Hid (Calls Try.prog 86 #[.pointer (some ⟨b, 0, none⟩)] (w.alloc (.cells #[.pointer (some ⟨b, 0, none⟩)] 97)) fun e w' => e = .returned (.int .i64 (rN s false 1)) ∧ RdAt w' b (rS s false 1) true ∧ Kept b none (w.alloc (.cells #[.pointer (some ⟨b, 0, none⟩)] 97)) w') := hid (by
    have := rbyte_any b s false _ (h.alloc (.cells #[.pointer (some ⟨b, 0, none⟩)] 97))
    rw [hs] at this
    exact this)
  clear h hs
  go_enter Try.func70, Try.ntmps70
  go_wp2_with (first
    | (go_at_call 86; refine HC.out.mono ?_; rintro e w1 ⟨rfl, hr, hk⟩; have H1 := hid (And.intro hr hk); have y0 : w1.cell? ⟨w.heap.size, 0, none⟩ = some (.pointer (some ⟨b, 0, none⟩)) := (World.cell?_of_block (a := ⟨w.heap.size, 0, none⟩) (hk.block w.heap.size (by simp) (Nat.ne_of_gt hlt) (by simp))).trans (by simp [go_sem]); clear hr hk)
    | (go_at_call 87; refine (ineedRead_no b _ _ H1.out.1).mono ?_; rintro e w2 ⟨rfl, hk⟩; have H2 := hid hk; clear hk))
  exact ⟨rfl, rfl, (((Kept.refl b none w).alloc _).trans H1.out.2 (.inl rfl)).trans H2.out (.inl rfl)⟩
set_option maxRecDepth 100000 in
set_option maxHeartbeats 1600000 in
theorem ipword_yes (b : Nat) (s : ByteArray) (w : World) (h : RdAt w b s false) (hs : rB s false 2 = false) :
    Calls Try.prog 71 #[.agg #[.pointer (some ⟨b, 0, none⟩)]] w fun e w' => e = .returned (.int .i64 (rN s false 2)) ∧ RdAt w' b (rS s false 2) false ∧ Kept b none w w' := by
  have hlt := h.lt
  have HC : Hid (Calls Try.prog 88 #[.pointer (some ⟨b, 0, none⟩)] (w.alloc (.cells #[.pointer (some ⟨b, 0, none⟩)] 97)) fun e w' => e = .returned (.int .i64 (rN s false 2)) ∧ RdAt w' b (rS s false 2) false ∧ Kept b none (w.alloc (.cells #[.pointer (some ⟨b, 0, none⟩)] 97)) w') := hid (by
    have := rword_any b s false _ (h.alloc (.cells #[.pointer (some ⟨b, 0, none⟩)] 97))
    rw [hs] at this
    exact this)
  clear h hs
  go_enter Try.func71, Try.ntmps71
  go_wp2_with (first
    | (go_at_call 88; refine HC.out.mono ?_; rintro e w1 ⟨rfl, hr, hk⟩; have H1 := hid (And.intro hr hk); have y0 : w1.cell? ⟨w.heap.size, 0, none⟩ = some (.pointer (some ⟨b, 0, none⟩)) := (World.cell?_of_block (a := ⟨w.heap.size, 0, none⟩) (hk.block w.heap.size (by simp) (Nat.ne_of_gt hlt) (by simp))).trans (by simp [go_sem]); clear hr hk)
    | (go_at_call 87; refine (ineedRead_yes b _ _ H1.out.1).mono ?_; rintro e w2 ⟨rfl, hk⟩; have H2 := hid hk; clear hk))
  go_ret
  exact ⟨rfl, (H2.out.2).trans H1.out.1, (((Kept.refl b none w).alloc _).trans H1.out.2 (.inl rfl)).trans H2.out.1 (.inl rfl)⟩
set_option maxRecDepth 100000 in
set_option maxHeartbeats 1600000 in
theorem ipword_no (b : Nat) (s : ByteArray) (w : World) (h : RdAt w b s false) (hs : rB s false 2 = true) :
    Calls Try.prog 71 #[.agg #[.pointer (some ⟨b, 0, none⟩)]] w fun e w' => e = .panicked [{ v := .iface 56 (.agg #[]), recovered := false }] ∧ Kept b none w w' := by
  have hlt := h.lt
  have HC : Hid (Calls Try.prog 88 #[.pointer (some ⟨b, 0, none⟩)] (w.alloc (.cells #[.pointer (some ⟨b, 0, none⟩)] 97)) fun e w' => e = .returned (.int .i64 (rN s false 2)) ∧ RdAt w' b (rS s false 2) true ∧ Kept b none (w.alloc (.cells #[.pointer (some ⟨b, 0, none⟩)] 97)) w') := hid (by
    have := rword_any b s false _ (h.alloc (.cells #[.pointer (some ⟨b, 0, none⟩)] 97))
    rw [hs] at this
    exact this)
  clear h hs
  go_enter Try.func71, Try.ntmps71
  go_wp2_with (first
    | (go_at_call 88; refine HC.out.mono ?_; rintro e w1 ⟨rfl, hr, hk⟩; have H1 := hid (And.intro hr hk); have y0 : w1.cell? ⟨w.heap.size, 0, none⟩ = some (.pointer (some ⟨b, 0, none⟩)) := (World.cell?_of_block (a := ⟨w.heap.size, 0, none⟩) (hk.block w.heap.size (by simp) (Nat.ne_of_gt hlt) (by simp))).trans (by simp [go_sem]); clear hr hk)
    | (go_at_call 87; refine (ineedRead_no b _ _ H1.out.1).mono ?_; rintro e w2 ⟨rfl, hk⟩; have H2 := hid hk; clear hk))
  exact ⟨rfl, rfl, (((Kept.refl b none w).alloc _).trans H1.out.2 (.inl rfl)).trans H2.out (.inl rfl)⟩
set_option maxRecDepth 100000 in
set_option maxHeartbeats 1600000 in
theorem iptext_yes (b : Nat) (s : ByteArray) (w : World) (h : RdAt w b s false) (hs : tB s false = false) :
    Calls Try.prog 74 #[.agg #[.pointer (some ⟨b, 0, none⟩)]] w fun e w' => e = .returned (.string (tT s false)) ∧ RdAt w' b (tS s false) false ∧ Kept b none w w' := by
  have hlt := h.lt
  have HC : Hid (Calls Try.prog 91 #[.pointer (some ⟨b, 0, none⟩)] (w.alloc (.cells #[.pointer (some ⟨b, 0, none⟩)] 97)) fun e w' => e = .returned (.string (tT s false)) ∧ RdAt w' b (tS s false) false ∧ Kept b none (w.alloc (.cells #[.pointer (some ⟨b, 0, none⟩)] 97)) w') := hid (by
    have := rtext_any b s false _ (h.alloc (.cells #[.pointer (some ⟨b, 0, none⟩)] 97))
    rw [hs] at this
    exact this)
  clear h hs
  go_enter Try.func74, Try.ntmps74
  go_wp2_with (first
    | (go_at_call 91; refine HC.out.mono ?_; rintro e w1 ⟨rfl, hr, hk⟩; have H1 := hid (And.intro hr hk); have y0 : w1.cell? ⟨w.heap.size, 0, none⟩ = some (.pointer (some ⟨b, 0, none⟩)) := (World.cell?_of_block (a := ⟨w.heap.size, 0, none⟩) (hk.block w.heap.size (by simp) (Nat.ne_of_gt hlt) (by simp))).trans (by simp [go_sem]); clear hr hk)
    | (go_at_call 87; refine (ineedRead_yes b _ _ H1.out.1).mono ?_; rintro e w2 ⟨rfl, hk⟩; have H2 := hid hk; clear hk))
  go_ret
  exact ⟨rfl, (H2.out.2).trans H1.out.1, (((Kept.refl b none w).alloc _).trans H1.out.2 (.inl rfl)).trans H2.out.1 (.inl rfl)⟩
set_option maxRecDepth 100000 in
set_option maxHeartbeats 1600000 in
theorem iptext_no (b : Nat) (s : ByteArray) (w : World) (h : RdAt w b s false) (hs : tB s false = true) :
    Calls Try.prog 74 #[.agg #[.pointer (some ⟨b, 0, none⟩)]] w fun e w' => e = .panicked [{ v := .iface 56 (.agg #[]), recovered := false }] ∧ Kept b none w w' := by
  have hlt := h.lt
  have HC : Hid (Calls Try.prog 91 #[.pointer (some ⟨b, 0, none⟩)] (w.alloc (.cells #[.pointer (some ⟨b, 0, none⟩)] 97)) fun e w' => e = .returned (.string (tT s false)) ∧ RdAt w' b (tS s false) true ∧ Kept b none (w.alloc (.cells #[.pointer (some ⟨b, 0, none⟩)] 97)) w') := hid (by
    have := rtext_any b s false _ (h.alloc (.cells #[.pointer (some ⟨b, 0, none⟩)] 97))
    rw [hs] at this
    exact this)
  clear h hs
  go_enter Try.func74, Try.ntmps74
  go_wp2_with (first
    | (go_at_call 91; refine HC.out.mono ?_; rintro e w1 ⟨rfl, hr, hk⟩; have H1 := hid (And.intro hr hk); have y0 : w1.cell? ⟨w.heap.size, 0, none⟩ = some (.pointer (some ⟨b, 0, none⟩)) := (World.cell?_of_block (a := ⟨w.heap.size, 0, none⟩) (hk.block w.heap.size (by simp) (Nat.ne_of_gt hlt) (by simp))).trans (by simp [go_sem]); clear hr hk)
    | (go_at_call 87; refine (ineedRead_no b _ _ H1.out.1).mono ?_; rintro e w2 ⟨rfl, hk⟩; have H2 := hid hk; clear hk))
  exact ⟨rfl, rfl, (((Kept.refl b none w).alloc _).trans H1.out.2 (.inl rfl)).trans H2.out (.inl rfl)⟩
end Go.Proofs.Ytfjcpghepkmbfaa
