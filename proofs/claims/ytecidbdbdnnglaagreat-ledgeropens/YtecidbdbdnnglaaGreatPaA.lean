/- Papers: pairs of a number and a text in memory; which papers are right. No walk here. -/
import Derived.Test.YtecidbdbdnnglaaGreatBaC
namespace Go.Proofs.YtecidbdbdnnglaaGreat
open Go.RowKit

/-- The pairs ps lie at a: a number and a text each. -/
def PairsIn (w : World) (a : Option Addr) (ps : List (Int × ByteArray)) : Prop :=
  ps = [] ∨ ∃ g off, a = some ⟨g, off, none⟩ ∧ g < w.heap.size ∧ ∀ j p, ps[j]? = some p → w.cell? ⟨g, off + j * 2, none⟩ = some (.int .i64 p.1) ∧ w.cell? ⟨g, off + j * 2 + 1, none⟩ = some (.string p.2)
theorem PairsIn.keep {w w' : World} {a : Option Addr} {ps : List (Int × ByteArray)} {B : Nat} (h : PairsIn w a ps) (hb : Below B w w') (hB : w.heap.size ≤ B) : PairsIn w' a ps := by
  rcases h with h | ⟨g, off, ha, hg, hc⟩
  · exact .inl h
  · exact .inr ⟨g, off, ha, Nat.lt_of_lt_of_le hg hb.size, fun j p hp => ⟨(hb.cell (p := ⟨g, _, none⟩) (Nat.lt_of_lt_of_le hg hB)).trans (hc j p hp).1, (hb.cell (p := ⟨g, _, none⟩) (Nat.lt_of_lt_of_le hg hB)).trans (hc j p hp).2⟩⟩
theorem PairsIn.at {w : World} {a : Option Addr} {ps : List (Int × ByteArray)} (h : PairsIn w a ps) (j : Nat) (p : Int × ByteArray) (hj : ps[j]? = some p) :
    ∃ g off, a = some ⟨g, off, none⟩ ∧ g < w.heap.size ∧ w.cell? ⟨g, off + j * 2, none⟩ = some (.int .i64 p.1) ∧ w.cell? ⟨g, off + j * 2 + 1, none⟩ = some (.string p.2) := by
  rcases h with h | ⟨g, off, ha, hg, hc⟩
  · rw [h] at hj; simp at hj
  · exact ⟨g, off, ha, hg, hc j p hj⟩
def pC (ps : List (Int × ByteArray)) : List Value := ps.flatMap fun p => [.int .i64 p.1, .string p.2]
theorem pC_cons (p : Int × ByteArray) (ps : List (Int × ByteArray)) : pC (p :: ps) = .int .i64 p.1 :: .string p.2 :: pC ps := rfl
theorem pC_len (ps : List (Int × ByteArray)) : (pC ps).length = ps.length * 2 := by
  induction ps with
  | nil => rfl
  | cons p ps ih => rw [pC_cons, List.length_cons, List.length_cons, ih, List.length_cons]; omega
theorem pC_app (a b : List (Int × ByteArray)) : pC (a ++ b) = pC a ++ pC b := by simp [pC]
theorem pC_get (ps : List (Int × ByteArray)) : ∀ (j : Nat) (p : Int × ByteArray), ps[j]? = some p → (pC ps)[j * 2]? = some (.int .i64 p.1) ∧ (pC ps)[j * 2 + 1]? = some (.string p.2) := by
  induction ps with
  | nil => intro j p h; simp at h
  | cons q ps ih =>
    intro j p h
    rw [pC_cons]
    cases j with
    | zero =>
      simp at h
      subst h
      exact ⟨rfl, rfl⟩
    | succ j =>
      have e1 : (j + 1) * 2 = j * 2 + 1 + 1 := by omega
      rw [e1]
      simp at h
      have := ih j p h
      exact ⟨by simpa using this.1, by simpa using this.2⟩
/-- The i-th number, the i-th text. -/
def idOf (ps : List (Int × ByteArray)) (i : Nat) : Int := (ps.getD i (0, ⟨#[]⟩)).1
def rtOf (ps : List (Int × ByteArray)) (i : Nat) : ByteArray := (ps.getD i (0, ⟨#[]⟩)).2
theorem getP_some {ps : List (Int × ByteArray)} {j : Nat} (hj : j < ps.length) : ps[j]? = some (idOf ps j, rtOf ps j) := by
  rw [List.getElem?_eq_getElem hj, idOf, rtOf, List.getD_eq_getElem?_getD, List.getElem?_eq_getElem hj]
  rfl
/-- The i-th seat is one, and stands behind the one ahead of it. -/
def okPAt (ps : List (Int × ByteArray)) (i : Nat) : Bool := decide (0 ≤ idOf ps i ∧ idOf ps i < 16) && (decide ((rtOf ps i).size = 32) && (decide (i = 0) || decide (idOf ps (i - 1) < idOf ps i)))
def okPTo (ps : List (Int × ByteArray)) : Nat → Bool
  | 0 => true
  | j + 1 => okPTo ps j && okPAt ps j
theorem okPTo_succ (ps : List (Int × ByteArray)) (j : Nat) : okPTo ps (j + 1) = (okPTo ps j && okPAt ps j) := rfl
theorem okPTo_false (ps : List (Int × ByteArray)) (j n : Nat) (h : okPTo ps j = false) (hn : j ≤ n) : okPTo ps n = false := by
  induction n with
  | zero =>
    obtain rfl : j = 0 := by omega
    exact h
  | succ n ih =>
    by_cases e : j = n + 1
    · rw [← e]; exact h
    · rw [okPTo_succ, ih (by omega)]; rfl
theorem okPAt_no1 (ps : List (Int × ByteArray)) (i : Nat) (h : ¬ (0 ≤ idOf ps i ∧ idOf ps i < 16)) : okPAt ps i = false := by rw [okPAt, decide_eq_false h]; rfl
theorem okPAt_no2 (ps : List (Int × ByteArray)) (i : Nat) (h : ¬ (rtOf ps i).size = 32) : okPAt ps i = false := by rw [okPAt, decide_eq_false h]; simp
theorem okPAt_no3 (ps : List (Int × ByteArray)) (i : Nat) (h0 : i ≠ 0) (h : ¬ (idOf ps (i - 1) < idOf ps i)) : okPAt ps i = false := by rw [okPAt, decide_eq_false h, decide_eq_false h0]; simp
theorem okPAt_yes0 (ps : List (Int × ByteArray)) (h : 0 ≤ idOf ps 0 ∧ idOf ps 0 < 16) (hs : (rtOf ps 0).size = 32) : okPAt ps 0 = true := by rw [okPAt, decide_eq_true h, decide_eq_true hs]; rfl
theorem okPAt_yes (ps : List (Int × ByteArray)) (i : Nat) (h : 0 ≤ idOf ps i ∧ idOf ps i < 16) (hs : (rtOf ps i).size = 32) (h1 : idOf ps (i - 1) < idOf ps i) : okPAt ps i = true := by rw [okPAt, decide_eq_true h, decide_eq_true hs, decide_eq_true h1]; simp
/-- Is the paper right? -/
def rightP (ep : Int) (ps : List (Int × ByteArray)) : Bool := okPTo ps ps.length && (decide (0 ≤ ep ∧ ep ≤ 65535) && decide (4 ≤ ps.length ∧ ps.length ≤ 10))
theorem okPTo_at (ps : List (Int × ByteArray)) : ∀ n, okPTo ps n = true → ∀ i, i < n → okPAt ps i = true
  | 0, _, i, hi => by omega
  | n + 1, h, i, hi => by
    rw [okPTo_succ, Bool.and_eq_true_iff] at h
    by_cases e : i = n
    · rw [e]; exact h.2
    · exact okPTo_at ps n h.1 i (by omega)
theorem rightP_parts {ep : Int} {ps : List (Int × ByteArray)} (h : rightP ep ps = true) : (0 ≤ ep ∧ ep ≤ 65535) ∧ (4 ≤ ps.length ∧ ps.length ≤ 10) ∧ ∀ i, i < ps.length → (0 ≤ idOf ps i ∧ idOf ps i < 16) ∧ (rtOf ps i).size = 32 ∧ (i = 0 ∨ idOf ps (i - 1) < idOf ps i) := by
  rw [rightP, Bool.and_eq_true_iff, Bool.and_eq_true_iff] at h
  refine ⟨of_decide_eq_true h.2.1, of_decide_eq_true h.2.2, fun i hi => ?_⟩
  have := okPTo_at ps _ h.1 i hi
  rw [okPAt, Bool.and_eq_true_iff, Bool.and_eq_true_iff, Bool.or_eq_true_iff] at this
  exact ⟨of_decide_eq_true this.1, of_decide_eq_true this.2.1, this.2.2.imp of_decide_eq_true of_decide_eq_true⟩
/-- A paper (or a configuration) in block b. -/
def PpAt (w : World) (b : Nat) (ep : Int) (v : Value) (t : TypeId) : Prop := w.heap[b]? = some (.cells #[.int .i64 ep, v] t (0, 0))
theorem PpAt.lt {w : World} {b : Nat} {ep : Int} {v : Value} {t : TypeId} (h : PpAt w b ep v t) : b < w.heap.size := lt_of_blk h
theorem PpAt.keep {w w' : World} {b : Nat} {ep : Int} {v : Value} {t : TypeId} (h : PpAt w b ep v t) (hb : Below w.heap.size w w') : PpAt w' b ep v t := (hb.block b h.lt).trans h
theorem PpAt.c0 {w : World} {b : Nat} {ep : Int} {v : Value} {t : TypeId} (h : PpAt w b ep v t) : w.cell? ⟨b, 0, none⟩ = some (.int .i64 ep) := cell_at (L := [.int .i64 ep, v]) h 0 _ rfl
theorem PpAt.c1 {w : World} {b : Nat} {ep : Int} {v : Value} {t : TypeId} (h : PpAt w b ep v t) : w.cell? ⟨b, 1, none⟩ = some v := cell_at (L := [.int .i64 ep, v]) h 1 _ rfl
theorem PpAt.new (w : World) (ep : Int) (v : Value) (t : TypeId) : PpAt (w.alloc (.cells #[.int .i64 ep, v] t)) w.heap.size ep v t := heap_alloc_last w _
end Go.Proofs.YtecidbdbdnnglaaGreat
