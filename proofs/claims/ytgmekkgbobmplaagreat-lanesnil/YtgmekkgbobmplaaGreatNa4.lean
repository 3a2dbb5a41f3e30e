/- Texts laid together: PaA DeA DeC OpA WiC RlC DsC DsS StA CgA. -/
import Derived.Test.YtgmekkgbobmplaaGreatNa2
import Derived.Test.YtgmekkgbobmplaaGreatRows
import Derived.ProofKit
import Derived.OpenShut
import Derived.ShutString
import Derived.ChangeOld
import Derived.Deep.Slices
import Derived.Test.YtgmekkgbobmplaaGreatNa3
import Derived.Test.YtgmekkgbobmplaaGreatNa1
import Derived.Deep.MidRow
import Derived.BigQuiet
/- Papers: pairs of a number and a text in memory; which papers are right. No walk here. -/
namespace Go.Proofs.YtgmekkgbobmplaaGreat
open Go.RowKit

/-- The pairs ps lie at a: a number and a text each. -/
def PairsIn (w : World) (a : Option Addr) (ps : List (Int × ByteArray)) : Prop :=
  ps = [] ∨ ∃ g off, a = some ⟨g, off, none⟩ ∧ g < w.heap.size ∧ ∀ j p, ps[j]? = some p → w.cell? ⟨g, off + j * 2, none⟩ = some (.int .i64 p.1) ∧ w.cell? ⟨g, off + j * 2 + 1, none⟩ = some (.string p.2)
theorem PairsIn.keep {w w' : World} {a : Option Addr} {ps : List (Int × ByteArray)} {B : Nat} (h : PairsIn w a ps) (hb : Below B w w') (hB : w.heap.size ≤ B) : PairsIn w' a ps := by
  rcases h with h | ⟨g, off, ha, hg, hc⟩
  · exact .inl h
  · exact .inr ⟨g, off, ha, Nat.lt_of_lt_of_le hg hb.size, fun j p hp => ⟨(hb.cell (p := ⟨g, _, none⟩) (Nat.lt_of_lt_of_le hg hB)).trans (hc j p hp).1, (hb.cell (p := ⟨g, _, none⟩) (Nat.lt_of_lt_of_le hg hB)).trans (hc j p hp).2⟩⟩
theorem PairsIn.at {w : World} {a : Option Addr} {ps : List (Int × ByteArray)} (h : PairsIn w a ps) (j : Nat) (p : Int × ByteArray) (hj : ps[j]? = some p) :
    ∃ g off, a = some ⟨g, off, none⟩ ∧ g < w.heap.size ∧ w.cell? ⟨g, off + j * 2, none⟩ = some (.int .i64 p.1) ∧ w.cell? ⟨g, off + j * 2 + 1, none⟩ = some (.string p.2) := by
  rcases h with h | ⟨g, off, ha, hg, hc⟩
  · rw [h] at hj; simp at hj
  · exact ⟨g, off, ha, hg, hc j p hj⟩
def pC (ps : List (Int × ByteArray)) : List Value := ps.flatMap fun p => [.int .i64 p.1, .string p.2]
theorem pC_cons (p : Int × ByteArray) (ps : List (Int × ByteArray)) : pC (p :: ps) = .int .i64 p.1 :: .string p.2 :: pC ps := rfl
theorem pC_len (ps : List (Int × ByteArray)) : (pC ps).length = ps.length * 2 := by
  induction ps with
  | nil => rfl
  | cons p ps ih => rw [pC_cons, List.length_cons, List.length_cons, ih, List.length_cons]; omega
theorem pC_app (a b : List (Int × ByteArray)) : pC (a ++ b) = pC a ++ pC b := by simp [pC]
theorem pC_get (ps : List (Int × ByteArray)) : ∀ (j : Nat) (p : Int × ByteArray), ps[j]? = some p → (pC ps)[j * 2]? = some (.int .i64 p.1) ∧ (pC ps)[j * 2 + 1]? = some (.string p.2) := by
  induction ps with
  | nil => intro j p h; simp at h
  | cons q ps ih =>
    intro j p h
    rw [pC_cons]
    cases j with
    | zero =>
      simp at h
      subst h
      exact ⟨rfl, rfl⟩
    | succ j =>
      have e1 : (j + 1) * 2 = j * 2 + 1 + 1 := by omega
      rw [e1]
      simp at h
      have := ih j p h
      exact ⟨by simpa using this.1, by simpa using this.2⟩
/-- The i-th number, the i-th text. -/
def idOf (ps : List (Int × ByteArray)) (i : Nat) : Int := (ps.getD i (0, ⟨#[]⟩)).1
def rtOf (ps : List (Int × ByteArray)) (i : Nat) : ByteArray := (ps.getD i (0, ⟨#[]⟩)).2
theorem getP_some {ps : List (Int × ByteArray)} {j : Nat} (hj : j < ps.length) : ps[j]? = some (idOf ps j, rtOf ps j) := by
  rw [List.getElem?_eq_getElem hj, idOf, rtOf, List.getD_eq_getElem?_getD, List.getElem?_eq_getElem hj]
  rfl
/-- The i-th seat is one, and stands behind the one ahead of it. -/
def okPAt (ps : List (Int × ByteArray)) (i : Nat) : Bool := decide (0 ≤ idOf ps i ∧ idOf ps i < 16) && (decide ((rtOf ps i).size = 32) && (decide (i = 0) || decide (idOf ps (i - 1) < idOf ps i)))
def okPTo (ps : List (Int × ByteArray)) : Nat → Bool
  | 0 => true
  | j + 1 => okPTo ps j && okPAt ps j
theorem okPTo_succ (ps : List (Int × ByteArray)) (j : Nat) : okPTo ps (j + 1) = (okPTo ps j && okPAt ps j) := rfl
theorem okPTo_false (ps : List (Int × ByteArray)) (j n : Nat) (h : okPTo ps j = false) (hn : j ≤ n) : okPTo ps n = false := by
  induction n with
  | zero =>
    obtain rfl : j = 0 := by omega
    exact h
  | succ n ih =>
    by_cases e : j = n + 1
    · rw [← e]; exact h
    · rw [okPTo_succ, ih (by omega)]; rfl
theorem okPAt_no1 (ps : List (Int × ByteArray)) (i : Nat) (h : ¬ (0 ≤ idOf ps i ∧ idOf ps i < 16)) : okPAt ps i = false := by rw [okPAt, decide_eq_false h]; rfl
theorem okPAt_no2 (ps : List (Int × ByteArray)) (i : Nat) (h : ¬ (rtOf ps i).size = 32) : okPAt ps i = false := by rw [okPAt, decide_eq_false h]; simp
theorem okPAt_no3 (ps : List (Int × ByteArray)) (i : Nat) (h0 : i ≠ 0) (h : ¬ (idOf ps (i - 1) < idOf ps i)) : okPAt ps i = false := by rw [okPAt, decide_eq_false h, decide_eq_false h0]; simp
theorem okPAt_yes0 (ps : List (Int × ByteArray)) (h : 0 ≤ idOf ps 0 ∧ idOf ps 0 < 16) (hs : (rtOf ps 0).size = 32) : okPAt ps 0 = true := by rw [okPAt, decide_eq_true h, decide_eq_true hs]; rfl
theorem okPAt_yes (ps : List (Int × ByteArray)) (i : Nat) (h : 0 ≤ idOf ps i ∧ idOf ps i < 16) (hs : (rtOf ps i).size = 32) (h1 : idOf ps (i - 1) < idOf ps i) : okPAt ps i = true := by rw [okPAt, decide_eq_true h, decide_eq_true hs, decide_eq_true h1]; simp
/-- Is the paper right? -/
def rightP (ep : Int) (ps : List (Int × ByteArray)) : Bool := okPTo ps ps.length && (decide (0 ≤ ep ∧ ep ≤ 65535) && decide (4 ≤ ps.length ∧ ps.length ≤ 10))
theorem okPTo_at (ps : List (Int × ByteArray)) : ∀ n, okPTo ps n = true → ∀ i, i < n → okPAt ps i = true
  | 0, _, i, hi => by omega
  | n + 1, h, i, hi => by
    rw [okPTo_succ, Bool.and_eq_true_iff] at h
    by_cases e : i = n
    · rw [e]; exact h.2
    · exact okPTo_at ps n h.1 i (by omega)
theorem rightP_parts {ep : Int} {ps : List (Int × ByteArray)} (h : rightP ep ps = true) : (0 ≤ ep ∧ ep ≤ 65535) ∧ (4 ≤ ps.length ∧ ps.length ≤ 10) ∧ ∀ i, i < ps.length → (0 ≤ idOf ps i ∧ idOf ps i < 16) ∧ (rtOf ps i).size = 32 ∧ (i = 0 ∨ idOf ps (i - 1) < idOf ps i) := by
  rw [rightP, Bool.and_eq_true_iff, Bool.and_eq_true_iff] at h
  refine ⟨of_decide_eq_true h.2.1, of_decide_eq_true h.2.2, fun i hi => ?_⟩
  have := okPTo_at ps _ h.1 i hi
  rw [okPAt, Bool.and_eq_true_iff, Bool.and_eq_true_iff, Bool.or_eq_true_iff] at this
  exact ⟨of_decide_eq_true this.1, of_decide_eq_true this.2.1, this.2.2.imp of_decide_eq_true of_decide_eq_true⟩
/-- A paper (or a configuration) in block b. -/
def PpAt (w : World) (b : Nat) (ep : Int) (v : Value) (t : TypeId) : Prop := w.heap[b]? = some (.cells #[.int .i64 ep, v] t (0, 0))
theorem PpAt.lt {w : World} {b : Nat} {ep : Int} {v : Value} {t : TypeId} (h : PpAt w b ep v t) : b < w.heap.size := lt_of_blk h
theorem PpAt.keep {w w' : World} {b : Nat} {ep : Int} {v : Value} {t : TypeId} (h : PpAt w b ep v t) (hb : Below w.heap.size w w') : PpAt w' b ep v t := (hb.block b h.lt).trans h
theorem PpAt.c0 {w : World} {b : Nat} {ep : Int} {v : Value} {t : TypeId} (h : PpAt w b ep v t) : w.cell? ⟨b, 0, none⟩ = some (.int .i64 ep) := cell_at (L := [.int .i64 ep, v]) h 0 _ rfl
theorem PpAt.c1 {w : World} {b : Nat} {ep : Int} {v : Value} {t : TypeId} (h : PpAt w b ep v t) : w.cell? ⟨b, 1, none⟩ = some v := cell_at (L := [.int .i64 ep, v]) h 1 _ rfl
theorem PpAt.new (w : World) (ep : Int) (v : Value) (t : TypeId) : PpAt (w.alloc (.cells #[.int .i64 ep, v] t)) w.heap.size ep v t := heap_alloc_last w _
end Go.Proofs.YtgmekkgbobmplaaGreat

/- Data of any depth in memory: numbers, bools, texts, lists of structs of such. No walk here. -/
namespace Go.Proofs.YtgmekkgbobmplaaGreat
open Go.RowKit

/-- What a cell tells: a number, a bool, a text, or a list, each of whose elements lies in sz cells. -/
inductive Dat where
  | i (x : Int)
  | b (x : Bool)
  | s (x : ByteArray)
  | q (x : Nat)
  | f (x : Nat)
  | l (sz : Nat) (es : List (List Dat))
/-- The value v reads as d in w, through blocks of F alone. -/
inductive Reads (F : Nat → Prop) (w : World) : Value → Dat → Prop where
  | i (x : Int) : Reads F w (.int .i64 x) (.i x)
  | b (x : Bool) : Reads F w (.bool x) (.b x)
  | s (x : ByteArray) : Reads F w (.string x) (.s x)
  | q (x : Nat) : Reads F w (.int .u64 (x : Int)) (.q x)
  | f (x : Nat) : Reads F w (.float .f64 x) (.f x)
  | nil (ad : Option Addr) (cap sz : Nat) : Reads F w (.slice ad 0 cap) (.l sz [])
  | l (g off cap sz : Nat) (es : List (List Dat)) (c : Nat → Nat → Value) (hF : F g) (hg : g < w.heap.size)
      (hs : ∀ (j : Nat) (e : List Dat), es[j]? = some e → e.length = sz)
      (hc : ∀ (j : Nat) (e : List Dat) (q : Nat) (d : Dat), es[j]? = some e → e[q]? = some d → w.cell? ⟨g, off + j * sz + q, none⟩ = some (c j q))
      (hr : ∀ (j : Nat) (e : List Dat) (q : Nat) (d : Dat), es[j]? = some e → e[q]? = some d → Reads F w (c j q) d) : Reads F w (.slice (some ⟨g, off, none⟩) es.length cap) (.l sz es)
theorem Reads.keep {F : Nat → Prop} {w w' : World} {v : Value} {d : Dat} (h : Reads F w v d) (hs : w.heap.size ≤ w'.heap.size) (hb : ∀ k, k < w.heap.size → F k → w'.heap[k]? = w.heap[k]?) : Reads F w' v d := by
  induction h with
  | i x => exact .i x
  | b x => exact .b x
  | s x => exact .s x
  | q x => exact .q x
  | f x => exact .f x
  | nil ad cap sz => exact .nil ad cap sz
  | l g off cap sz es c hF hg hsz hc _ ih => exact .l g off cap sz es c hF (Nat.lt_of_lt_of_le hg hs) hsz (fun j e q d he hd => (World.cell?_of_block (hb g hg hF)).trans (hc j e q d he hd)) ih
theorem Reads.under {F : Nat → Prop} {w w' : World} {v : Value} {d : Dat} {B : Nat} (h : Reads F w v d) (hb : Below B w w') (hB : w.heap.size ≤ B) : Reads F w' v d :=
  h.keep hb.size (fun k hk _ => hb.block k (Nat.lt_of_lt_of_le hk hB))
theorem Reads.mono {F F' : Nat → Prop} {w : World} {v : Value} {d : Dat} (h : Reads F w v d) (hF : ∀ k, k < w.heap.size → F k → F' k) : Reads F' w v d := by
  induction h with
  | i x => exact .i x
  | b x => exact .b x
  | s x => exact .s x
  | q x => exact .q x
  | f x => exact .f x
  | nil ad cap sz => exact .nil ad cap sz
  | l g off cap sz es c hFg hg hsz hc _ ih => exact .l g off cap sz es c (hF g hg hFg) hg hsz hc ih
theorem Reads.move {F F' : Nat → Prop} {w w' : World} {v : Value} {d : Dat} (h : Reads F w v d) (hs : w.heap.size ≤ w'.heap.size) (hb : ∀ k, k < w.heap.size → F k → w'.heap[k]? = w.heap[k]? ∧ F' k) : Reads F' w' v d := by
  induction h with
  | i x => exact .i x
  | b x => exact .b x
  | s x => exact .s x
  | q x => exact .q x
  | f x => exact .f x
  | nil ad cap sz => exact .nil ad cap sz
  | l g off cap sz es c hF hg hsz hc _ ih => exact .l g off cap sz es c (hb g hg hF).2 (Nat.lt_of_lt_of_le hg hs) hsz (fun j e q d he hd => (World.cell?_of_block (hb g hg hF).1).trans (hc j e q d he hd)) ih
/-- A list, opened at its j-th element. -/
theorem Reads.at {F : Nat → Prop} {w : World} {v : Value} {sz : Nat} {es : List (List Dat)} (h : Reads F w v (.l sz es)) (j : Nat) (e : List Dat) (hj : es[j]? = some e) :
    ∃ g off cap, v = .slice (some ⟨g, off, none⟩) es.length cap ∧ F g ∧ g < w.heap.size ∧ e.length = sz ∧ ∀ (q : Nat) (d : Dat), e[q]? = some d → ∃ u, w.cell? ⟨g, off + j * sz + q, none⟩ = some u ∧ Reads F w u d := by
  cases h with
  | nil ad cap sz => simp at hj
  | l g off cap sz es c hF hg hs hc hr => exact ⟨g, off, cap, rfl, hF, hg, hs j e hj, fun q d hd => ⟨c j q, hc j e q d hj hd, hr j e q d hj hd⟩⟩
theorem Reads.form {F : Nat → Prop} {w : World} {v : Value} {sz : Nat} {es : List (List Dat)} (h : Reads F w v (.l sz es)) : ∃ ad cap, v = .slice ad es.length cap := by
  cases h with
  | nil ad cap sz => exact ⟨ad, cap, rfl⟩
  | l g off cap sz es c hF hg hs hc hr => exact ⟨_, cap, rfl⟩
theorem Reads.int {F : Nat → Prop} {w : World} {v : Value} {x : Int} (h : Reads F w v (.i x)) : v = .int .i64 x := by cases h; rfl
theorem Reads.bool {F : Nat → Prop} {w : World} {v : Value} {x : Bool} (h : Reads F w v (.b x)) : v = .bool x := by cases h; rfl
theorem Reads.quad {F : Nat → Prop} {w : World} {v : Value} {x : Nat} (h : Reads F w v (.q x)) : v = .int .u64 (x : Int) := by cases h; rfl
theorem Reads.flt {F : Nat → Prop} {w : World} {v : Value} {x : Nat} (h : Reads F w v (.f x)) : v = .float .f64 x := by cases h; rfl
theorem Reads.str {F : Nat → Prop} {w : World} {v : Value} {x : ByteArray} (h : Reads F w v (.s x)) : v = .string x := by cases h; rfl
/-- Numbers, pairs, as data. -/
def dInts (xs : List Int) : Dat := .l 1 (xs.map fun x => [.i x])
def dPairs (ps : List (Int × ByteArray)) : Dat := .l 2 (ps.map fun p => [.i p.1, .s p.2])
def dStrs (ss : List ByteArray) : Dat := .l 1 (ss.map fun x => [.s x])
theorem reads_ints {F : Nat → Prop} {w : World} {v : Value} {xs : List Int} (h : Reads F w v (dInts xs)) : ∃ ad cap, v = .slice ad xs.length cap ∧ IntsIn w ad xs ∧ ∀ x, ad = some x → xs ≠ [] → F x.block := by
  cases xs with
  | nil =>
    obtain ⟨ad, cap, hv⟩ := h.form
    exact ⟨ad, cap, hv, .inl rfl, fun _ _ hne => absurd rfl hne⟩
  | cons x0 xs =>
    obtain ⟨g, off, cap, hv, hF, hg, _, _⟩ := h.at 0 [.i x0] rfl
    refine ⟨_, cap, by rw [hv, List.length_map], .inr ⟨g, off, rfl, hg, fun j z hz => ?_⟩, fun x hx _ => by cases hx; exact hF⟩
    obtain ⟨g', off', cap', hv', _, _, _, hc⟩ := h.at j [.i z] (by rw [List.getElem?_map, hz]; rfl)
    rw [hv] at hv'
    cases hv'
    obtain ⟨u, h1, h2⟩ := hc 0 (.i z) rfl
    rw [h2.int] at h1
    simpa using h1
theorem reads_pairs {F : Nat → Prop} {w : World} {v : Value} {ps : List (Int × ByteArray)} (h : Reads F w v (dPairs ps)) : ∃ ad cap, v = .slice ad ps.length cap ∧ PairsIn w ad ps ∧ ∀ x, ad = some x → ps ≠ [] → F x.block := by
  cases ps with
  | nil =>
    obtain ⟨ad, cap, hv⟩ := h.form
    exact ⟨ad, cap, hv, .inl rfl, fun _ _ hne => absurd rfl hne⟩
  | cons p0 ps =>
    obtain ⟨g, off, cap, hv, hF, hg, _, _⟩ := h.at 0 [.i p0.1, .s p0.2] rfl
    refine ⟨_, cap, by rw [hv, List.length_map], .inr ⟨g, off, rfl, hg, fun j z hz => ?_⟩, fun x hx _ => by cases hx; exact hF⟩
    obtain ⟨g', off', cap', hv', _, _, _, hc⟩ := h.at j [.i z.1, .s z.2] (by rw [List.getElem?_map, hz]; rfl)
    rw [hv] at hv'
    cases hv'
    obtain ⟨u0, h1, h2⟩ := hc 0 (.i z.1) rfl
    obtain ⟨u1, h3, h4⟩ := hc 1 (.s z.2) rfl
    rw [h2.int] at h1
    rw [h4.str] at h3
    exact ⟨by simpa using h1, h3⟩
theorem ints_reads {F : Nat → Prop} {w : World} {ad : Option Addr} {cap : Nat} {xs : List Int} (h : IntsIn w ad xs) (hF : ∀ x, ad = some x → xs ≠ [] → F x.block) : Reads F w (.slice ad xs.length cap) (dInts xs) := by
  rcases h with rfl | ⟨g, off, rfl, hg, hc⟩
  · exact .nil ad cap 1
  · cases xs with
    | nil => exact .nil _ cap 1
    | cons x0 xs =>
      have := Reads.l (F := F) (w := w) g off cap 1 ((x0 :: xs).map fun x => [Dat.i x]) (fun j _ => .int .i64 ((x0 :: xs).getD j 0)) (hF _ rfl (by simp)) hg
        (fun j e he => by rw [List.getElem?_map] at he; cases h : (x0 :: xs)[j]? with | none => rw [h] at he; cases he | some x => rw [h] at he; cases he; rfl)
        (fun j e q d he hd => by
          rw [List.getElem?_map] at he
          cases h : (x0 :: xs)[j]? with
          | none => rw [h] at he; cases he
          | some x =>
            rw [h] at he
            cases he
            cases q with
            | succ q => simp at hd
            | zero =>
              rw [Nat.mul_one, Nat.add_zero, List.getD_eq_getElem?_getD, h]
              exact hc j x h)
        (fun j e q d he hd => by
          rw [List.getElem?_map] at he
          cases h : (x0 :: xs)[j]? with
          | none => rw [h] at he; cases he
          | some x =>
            rw [h] at he
            cases he
            cases q with
            | succ q => simp at hd
            | zero =>
              simp at hd
              subst hd
              rw [List.getD_eq_getElem?_getD, h]
              exact .i x)
      rwa [List.length_map] at this
theorem pairs_reads {F : Nat → Prop} {w : World} {ad : Option Addr} {cap : Nat} {ps : List (Int × ByteArray)} (h : PairsIn w ad ps) (hF : ∀ x, ad = some x → ps ≠ [] → F x.block) : Reads F w (.slice ad ps.length cap) (dPairs ps) := by
  rcases h with rfl | ⟨g, off, rfl, hg, hc⟩
  · exact .nil ad cap 2
  · cases ps with
    | nil => exact .nil _ cap 2
    | cons p0 ps =>
      have hget : ∀ (j : Nat) (e : List Dat), ((p0 :: ps).map fun p => [Dat.i p.1, Dat.s p.2])[j]? = some e → ∃ p, (p0 :: ps)[j]? = some p ∧ e = [Dat.i p.1, Dat.s p.2] := fun j e he => by
        rw [List.getElem?_map] at he
        cases h : (p0 :: ps)[j]? with
        | none => rw [h] at he; cases he
        | some p => rw [h] at he; cases he; exact ⟨p, rfl, rfl⟩
      have := Reads.l (F := F) (w := w) g off cap 2 ((p0 :: ps).map fun p => [Dat.i p.1, Dat.s p.2]) (fun j q => if q = 0 then .int .i64 ((p0 :: ps).getD j p0).1 else .string ((p0 :: ps).getD j p0).2) (hF _ rfl (by simp)) hg
        (fun j e he => by obtain ⟨p, _, rfl⟩ := hget j e he; rfl)
        (fun j e q d he hd => by
          obtain ⟨p, hp, rfl⟩ := hget j e he
          rw [List.getD_eq_getElem?_getD, hp]
          match q, hd with
          | 0, _ => exact (hc j p hp).1
          | 1, _ => exact (hc j p hp).2)
        (fun j e q d he hd => by
          obtain ⟨p, hp, rfl⟩ := hget j e he
          rw [List.getD_eq_getElem?_getD, hp]
          match q, hd with
          | 0, hd => simp at hd; subst hd; exact .i _
          | 1, hd => simp at hd; subst hd; exact .s _)
      rwa [List.length_map] at this
end Go.Proofs.YtgmekkgbobmplaaGreat

/- The room of lists of any depth in memory. No walk here. -/
namespace Go.Proofs.YtgmekkgbobmplaaGreat
open Go.RowKit

/-- Each list has room for what it holds. -/
inductive Caps (w : World) : Value → Dat → Prop where
  | i (x : Int) : Caps w (.int .i64 x) (.i x)
  | b (x : Bool) : Caps w (.bool x) (.b x)
  | s (x : ByteArray) : Caps w (.string x) (.s x)
  | q (x : Nat) : Caps w (.int .u64 (x : Int)) (.q x)
  | f (x : Nat) : Caps w (.float .f64 x) (.f x)
  | l (ad : Option Addr) (n cap sz : Nat) (es : List (List Dat)) (hn : n ≤ cap)
      (h : ∀ (g off j q : Nat) (e : List Dat) (d : Dat) (u : Value), ad = some ⟨g, off, none⟩ → es[j]? = some e → e[q]? = some d → w.cell? ⟨g, off + j * sz + q, none⟩ = some u → Caps w u d) : Caps w (.slice ad n cap) (.l sz es)
theorem Caps.room {w : World} {v : Value} {sz : Nat} {es : List (List Dat)} (h : Caps w v (.l sz es)) : ∀ ad n c, v = .slice ad n c → n ≤ c := fun ad n c hv => by
  cases h with
  | l ad' n' cap' sz es hn h => cases hv; exact hn
theorem Caps.at {w : World} {g off n cap sz : Nat} {es : List (List Dat)} (h : Caps w (.slice (some ⟨g, off, none⟩) n cap) (.l sz es)) {j q : Nat} {e : List Dat} {d : Dat} {u : Value} (hj : es[j]? = some e) (hq : e[q]? = some d) (hu : w.cell? ⟨g, off + j * sz + q, none⟩ = some u) : Caps w u d := by
  cases h with
  | l ad n cap sz es hn h => exact h g off j q e d u rfl hj hq hu
end Go.Proofs.YtgmekkgbobmplaaGreat

/- Arguments of any depth, opened at once: what a type tells (Sh), what data fits it, and that an argument that the row reads as such reads so in memory. No walk here. -/
namespace Go.Proofs.YtgmekkgbobmplaaGreat
open Go.ChangeShapes Go.WideShapes Go.ChangeAt Go.RowKit

/-- What a type tells: a number, a bool, a text, a list, a struct (its fields one behind the other: c, u). -/
inductive Sh where
  | i | b | s | q | fl
  | l (bytes sz : Nat) (e : Sh)
  | st (f : Sh)
  | u
  | c (a r : Sh)
def Sh.sz : Sh → Nat
  | .i => 1 | .b => 1 | .s => 1 | .q => 1 | .fl => 1
  | .l _ _ _ => 1
  | .st f => f.sz
  | .u => 0
  | .c a r => a.sz + r.sz
/-- The type t (or the fields from offset o on) tells that. -/
def Sh.Of (P : Program) : Sh → TypeId ⊕ (List Field × Nat) → Prop
  | .i, .inl t => P.underlying t = some (.int .i64)
  | .b, .inl t => P.underlying t = some .bool
  | .s, .inl t => P.underlying t = some .string
  | .q, .inl t => P.underlying t = some (.int .u64)
  | .fl, .inl t => P.underlying t = some (.float .f64)
  | .l bytes sz e, .inl t => ∃ te, P.underlying t = some (.slice te) ∧ P.bytesOf te = bytes ∧ P.cellsOf te = sz ∧ e.sz = sz ∧ 0 < sz ∧ Sh.Of P e (.inl te)
  | .st f, .inl t => ∃ fs, P.underlying t = some (.struct fs) ∧ P.cellsOf t = f.sz ∧ Sh.Of P f (.inr (fs.toList, 0))
  | .u, .inr x => x.1 = []
  | .c a r, .inr x => ∃ f fs, x.1 = f :: fs ∧ f.offset = x.2 ∧ P.cellsOf f.type = a.sz ∧ Sh.Of P a (.inl f.type) ∧ Sh.Of P r (.inr (fs, x.2 + a.sz))
  | _, _ => False
/-- The data ds fits it; S: where the row bounds what is reached; U: the bulk. -/
def Fits (S : Prop) (U : Nat) : Sh → List Dat → Prop
  | .i, ds => ∃ x : Int, ds = [.i x] ∧ -9223372036854775808 ≤ x ∧ x ≤ 9223372036854775807
  | .b, ds => ∃ x : Bool, ds = [.b x]
  | .s, ds => ∃ x : ByteArray, ds = [.s x] ∧ x.size ≤ maxLen ∧ (S → x.size ≤ 140737488351232) ∧ x.size ≤ U
  | .q, ds => ∃ x : Nat, ds = [.q x] ∧ x < 18446744073709551616
  | .fl, ds => ∃ x : Nat, ds = [.f x] ∧ x < 18446744073709551616
  | .l bytes sz e, ds => ∃ es : List (List Dat), ds = [.l sz es] ∧ es.length ≤ maxLen ∧ (S → es.length * bytes ≤ 140737488351232) ∧ es.length ≤ U ∧ ∀ d, d ∈ es → Fits S U e d
  | .st f, ds => Fits S U f ds
  | .u, ds => ds = []
  | .c a r, ds => ∃ d1 d2, ds = d1 ++ d2 ∧ Fits S U a d1 ∧ Fits S U r d2
theorem Fits.mono {S S' : Prop} {U U' : Nat} (hS : S' → S) (hU : U ≤ U') : ∀ {sh : Sh} {ds : List Dat}, Fits S U sh ds → Fits S' U' sh ds
  | .i, _, h => h
  | .b, _, h => h
  | .q, _, h => h
  | .fl, _, h => h
  | .s, _, ⟨x, h1, h2, h3, h4⟩ => ⟨x, h1, h2, fun s => h3 (hS s), Nat.le_trans h4 hU⟩
  | .l _ _ _, _, ⟨es, h1, h2, h3, h4, h5⟩ => ⟨es, h1, h2, fun s => h3 (hS s), Nat.le_trans h4 hU, fun d hd => Fits.mono hS hU (h5 d hd)⟩
  | .st f, ds, h => Fits.mono (sh := f) (ds := ds) hS hU h
  | .u, _, h => h
  | .c _ _, _, ⟨d1, d2, h1, h2, h3⟩ => ⟨d1, d2, h1, Fits.mono hS hU h2, Fits.mono hS hU h3⟩
theorem Fits.len {S : Prop} {U : Nat} : ∀ {sh : Sh} {ds : List Dat}, Fits S U sh ds → ds.length = sh.sz
  | .i, _, ⟨x, h, _⟩ => by rw [h]; rfl
  | .b, _, ⟨x, h⟩ => by rw [h]; rfl
  | .q, _, ⟨x, h, _⟩ => by rw [h]; rfl
  | .fl, _, ⟨x, h, _⟩ => by rw [h]; rfl
  | .s, _, ⟨x, h, _⟩ => by rw [h]; rfl
  | .l _ _ _, _, ⟨es, h, _⟩ => by rw [h]; rfl
  | .st f, ds, h => Fits.len (sh := f) (ds := ds) h
  | .u, _, h => by rw [show _ = [] from h]; rfl
  | .c _ _, _, ⟨d1, d2, h1, h2, h3⟩ => by rw [h1, List.length_append, Fits.len h2, Fits.len h3]; rfl
/-- The cells cs read as ds. -/
def CellsAre (G : Nat → Prop) (W : World) (cs : List Value) (ds : List Dat) : Prop := ∀ (q : Nat) (d : Dat), ds[q]? = some d → ∃ u, cs[q]? = some u ∧ Reads G W u d ∧ Caps W u d
theorem cells_one {G : Nat → Prop} {W : World} {v : Value} {d : Dat} (h : Reads G W v d) (hc : Caps W v d) : CellsAre G W [v] [d] := fun q x hq => by
  cases q with
  | zero => cases hq; exact ⟨v, rfl, h, hc⟩
  | succ q => simp at hq
theorem bulkD_pos {H : Type} (d : DataW H) : 1 ≤ Rows.uptoBulk d := by
  cases d with
  | lit l => cases l <;> simp [Rows.uptoBulk]
  | _ => simp [Rows.uptoBulk]
theorem bulkD_all {H : Type} : ∀ l : List (DataW H), l.length ≤ Rows.uptoBulkAll l
  | [] => Nat.zero_le _
  | d :: r => by
    have h1 := bulkD_pos d
    have h2 := bulkD_all r
    simp only [Rows.uptoBulkAll, List.length_cons]
    omega
theorem bulkD_in {H : Type} : ∀ (l : List (DataW H)) (j : Nat) (d : DataW H), l[j]? = some d → Rows.uptoBulk d ≤ Rows.uptoBulkAll l
  | [], _, _, h => by simp at h
  | d :: r, 0, d', h => by simp at h; subst h; simp only [Rows.uptoBulkAll]; omega
  | d :: r, j + 1, d', h => by
    have := bulkD_in r j d' (by simpa using h)
    simp only [Rows.uptoBulkAll]
    omega
theorem weights_all {H : Type} {P : Program} {e : TypeId} : ∀ {ds : List (DataW H)} {j : Nat} {d : DataW H}, ds[j]? = some d → ∀ n ∈ d.weights P e, n ∈ DataW.weightsAll P e ds
  | [], _, _, h => by simp at h
  | d :: r, 0, d', h => fun n hn => by simp at h; subst h; simp only [DataW.weightsAll, List.mem_append]; exact .inl hn
  | d :: r, j + 1, d', h => fun n hn => by simp only [DataW.weightsAll, List.mem_append]; exact .inr (weights_all (by simpa using h) n hn)
theorem list_pick {α : Type} {Q : Nat → α → Prop} : ∀ n, (∀ i, i < n → ∃ x, Q i x) → ∃ xs : List α, xs.length = n ∧ ∀ i x, xs[i]? = some x → Q i x
  | 0, _ => ⟨[], rfl, fun i x h => by simp at h⟩
  | n + 1, h => by
    obtain ⟨xs, hl, hx⟩ := list_pick n (fun i hi => h i (by omega))
    obtain ⟨x, hq⟩ := h n (by omega)
    refine ⟨xs ++ [x], by simp [hl], fun i y hy => ?_⟩
    rcases Nat.lt_trichotomy i n with hi | hi | hi
    · rw [List.getElem?_append_left (by omega)] at hy; exact hx i y hy
    · subst hi; rw [List.getElem?_append_right (by omega), hl, Nat.sub_self] at hy; cases hy; exact hq
    · rw [List.getElem?_eq_none (by simp; omega)] at hy; cases hy
section
variable {H : Type} {enc : TypeId × Value → H} {W : World}
/-- A real that came in is a word of 64 bits. -/
theorem trod_real {P : Program} {t : TypeId} {fuel : Nat} {cs : List Value} {x : DataW H × List MemPlace} (ht : P.underlying t = some (.float .f64)) (h : DataW.trod enc P W 0 (fun _ => true) true fuel t cs = some x) : ∃ b : Nat, cs = [.float .f64 b] ∧ b < 18446744073709551616 := by
  have key : ∃ b : Nat, cs = [.float .f64 b] ∧ (Lit.float .f64 b).wf = true := by
    cases fuel with
    | zero => simp [DataW.trod] at h
    | succ n =>
      unfold DataW.trod at h
      rw [ht] at h
      split at h <;> simp_all
  obtain ⟨b, h1, h2⟩ := key
  exact ⟨b, h1, by simpa [Lit.wf] using h2⟩
/-- The two things that are shown of a Sh, by its build. -/
def OpensT (enc : TypeId × Value → H) (P : Program) (W : World) (sh : Sh) : Prop := ∀ (t : TypeId) (fuel : Nat) (cs : List Value) (x : DataW H × List MemPlace), sh.Of P (.inl t) → DataW.trod enc P W 0 (fun _ => true) true fuel t cs = some x →
  ∃ ds, Fits (∀ m ∈ x.1.weights P t, m ≤ reachBytes) (Rows.uptoBulk x.1) sh ds ∧ CellsAre (fun _ => True) W cs ds
def OpensF (enc : TypeId × Value → H) (P : Program) (W : World) (sh : Sh) : Prop := ∀ (fs : List Field) (o n : Nat) (cs : List Value) (xs : List (DataW H × List MemPlace)), sh.Of P (.inr (fs, o)) → xs.length = fs.length →
  (∀ (i : Nat) (f : Field), fs[i]? = some f → DataW.trod enc P W 0 (fun _ => true) true n f.type ((cs.drop f.offset).take (P.cellsOf f.type)) = xs[i]?) →
  ∃ ds, Fits (∀ m ∈ DataW.weightsEach P (fs.map (·.type)) (xs.map (·.1)), m ≤ reachBytes) (Rows.uptoBulkAll (xs.map (·.1))) sh ds ∧ CellsAre (fun _ => True) W (cs.drop o) ds
theorem opens_all (P : Program) (sh : Sh) : OpensT enc P W sh ∧ OpensF enc P W sh := by
  induction sh with
  | i =>
    refine ⟨fun t fuel cs x hO h => ?_, fun fs o n cs xs hO => by cases hO⟩
    obtain ⟨k, rfl, rfl, hwf⟩ := DataW.trod_int (by exact hO) h
    have hrg : -9223372036854775808 ≤ k ∧ k ≤ 9223372036854775807 := by simpa [Lit.wf, IntKind.min, IntKind.max, IntKind.bits, IntKind.signed] using hwf
    exact ⟨[.i k], ⟨k, rfl, hrg⟩, cells_one (.i k) (.i k)⟩
  | b =>
    refine ⟨fun t fuel cs x hO h => ?_, fun fs o n cs xs hO => by cases hO⟩
    obtain ⟨k, rfl, rfl⟩ := DataW.trod_bool (by exact hO) h
    exact ⟨[.b k], ⟨k, rfl⟩, cells_one (.b k) (.b k)⟩
  | s =>
    refine ⟨fun t fuel cs x hO h => ?_, fun fs o n cs xs hO => by cases hO⟩
    obtain ⟨k, rfl, rfl, hz⟩ := DataW.trod_string (by exact hO) h
    refine ⟨[.s k], ⟨k, rfl, hz, fun hs => ?_, ?_⟩, cells_one (.s k) (.s k)⟩
    · have := hs k.data.toList.length (by simp [DataW.weights])
      rw [reachBytes] at this
      simpa using this
    · simp [Rows.uptoBulk]
  | q =>
    refine ⟨fun t fuel cs x hO h => ?_, fun fs o n cs xs hO => by cases hO⟩
    obtain ⟨k, rfl, rfl, hwf⟩ := DataW.trod_int (by exact hO) h
    have hrg : 0 ≤ k ∧ k ≤ 18446744073709551615 := by simpa [Lit.wf, IntKind.min, IntKind.max, IntKind.bits, IntKind.signed] using hwf
    obtain ⟨n, rfl⟩ := Int.eq_ofNat_of_zero_le hrg.1
    exact ⟨[.q n], ⟨n, rfl, by omega⟩, cells_one (.q n) (.q n)⟩
  | fl =>
    refine ⟨fun t fuel cs x hO h => ?_, fun fs o n cs xs hO => by cases hO⟩
    obtain ⟨k, rfl, hk⟩ := trod_real hO h
    exact ⟨[.f k], ⟨k, rfl, hk⟩, cells_one (.f k) (.f k)⟩
  | u =>
    refine ⟨fun t fuel cs x hO h => (by cases hO), fun fs o n cs xs hO hl h => ?_⟩
    exact ⟨[], rfl, fun q d hq => by simp at hq⟩
  | st f ih =>
    refine ⟨fun t fuel cs x hO h => ?_, fun fs o n cs xs hO => by cases hO⟩
    obtain ⟨fs, hu, hc, hF⟩ := hO
    obtain ⟨xs, n, _, rfl, hl, hxl, hf⟩ := DataW.trod_struct hu h
    obtain ⟨ds, h1, h2⟩ := ih.2 fs.toList 0 n cs xs hF (by rw [hxl]; simp) (fun i g hg => hf i g (by simpa using hg))
    refine ⟨ds, Fits.mono (sh := f) (fun hs m hm => hs m (by simp only [DataW.weights, hu]; exact hm)) (by simp only [Rows.uptoBulk]; omega) h1, by simpa using h2⟩
  | c a r iha ihr =>
    refine ⟨fun t fuel cs x hO h => (by cases hO), fun fs o n cs xs hO hl h => ?_⟩
    obtain ⟨f, fs', rfl, hoff, hcell, hA, hR⟩ := hO
    cases xs with
    | nil => simp at hl
    | cons x xs =>
      have h0 := h 0 f rfl
      obtain ⟨d1, f1, c1⟩ := iha.1 f.type n _ x hA h0
      obtain ⟨d2, f2, c2⟩ := ihr.2 fs' (o + a.sz) n cs xs hR (by simpa using hl) (fun i g hg => h (i + 1) g (by simpa using hg))
      refine ⟨d1 ++ d2, ⟨d1, d2, rfl, f1.mono (fun hs m hm => hs m (by simp only [List.map_cons, DataW.weightsEach, List.mem_append]; exact .inl hm)) (by simp only [List.map_cons, Rows.uptoBulkAll]; omega), f2.mono (fun hs m hm => hs m (by simp only [List.map_cons, DataW.weightsEach, List.mem_append]; exact .inr hm)) (by simp only [List.map_cons, Rows.uptoBulkAll]; omega)⟩, ?_⟩
      · intro q d hq
        have hl1 := f1.len
        by_cases hqa : q < d1.length
        · rw [List.getElem?_append_left hqa] at hq
          obtain ⟨u, hu, hR⟩ := c1 q d hq
          refine ⟨u, ?_, hR⟩
          rw [List.getElem?_take] at hu
          split at hu
          · simp only at hoff
            rw [← hoff]
            exact hu
          · cases hu
        · rw [List.getElem?_append_right (by omega)] at hq
          obtain ⟨u, hu, hR⟩ := c2 _ d hq
          refine ⟨u, ?_, hR⟩
          rw [List.getElem?_drop] at hu ⊢
          rw [show o + q = o + a.sz + (q - d1.length) by omega]
          exact hu
  | l bytes sz e ih =>
    refine ⟨fun t fuel cs x hO h => ?_, fun fs o n cs xs hO => by cases hO⟩
    obtain ⟨te, hu, hby, hsz, hez, hz0, hE⟩ := hO
    rcases Go.Deep.open_slice hu h with ⟨rfl, rfl⟩ | ⟨ad, len, cap, m, n, D, Pl, rfl, _, hl, hm, hmm, hx, hel⟩
    · exact ⟨[.l sz []], ⟨[], rfl, Nat.zero_le _, fun _ => by simp, Nat.zero_le _, fun d hd => by simp at hd⟩, cells_one (.nil none 0 sz) (.l none 0 0 sz [] (Nat.le_refl _) (fun g off j q e d u h => by cases h))⟩
    · simp at hmm
      subst hmm
      have hx1 : x.1 = .slice ((List.range len).map D) ((List.range (m - len)).map fun j => D (len + j)) := by rw [hx]
      have each : ∀ i, i < len → ∃ d : List Dat, Fits (∀ q ∈ x.1.weights P t, q ≤ reachBytes) (Rows.uptoBulk x.1) e d ∧ ∃ cs', W.cells? 0 (ad.add (i * sz)) sz = some cs' ∧ CellsAre (fun _ => True) W cs' d := by
        intro i hi
        obtain ⟨cs', h1, h2⟩ := hel i (by omega)
        rw [hsz] at h1
        obtain ⟨d, f1, c1⟩ := ih.1 te n cs' _ hE h2
        have hget : ((List.range len).map D)[i]? = some (D i) := by rw [List.getElem?_map, List.getElem?_range hi]; rfl
        have hw : ∀ q ∈ (D i).weights P te, q ∈ x.1.weights P t := fun q hq => by
          rw [hx1]
          simp only [DataW.weights, hu, List.mem_cons, List.mem_append]
          exact .inr (.inl (weights_all hget q hq))
        have hbk : Rows.uptoBulk (D i) ≤ Rows.uptoBulk x.1 := by
          rw [hx1]
          have := bulkD_in _ i _ hget
          simp only [Rows.uptoBulk]
          omega
        exact ⟨d, f1.mono (fun hs q hq => hs q (hw q hq)) hbk, cs', h1, c1⟩
      obtain ⟨es, hil, hip⟩ := list_pick len each
      have hcellA : ∀ (j : Nat) (d : List Dat), es[j]? = some d → d.length = sz ∧ ∀ (q : Nat) (y : Dat), d[q]? = some y → ∃ u, W.cell? (ad.add (j * sz + q)) = some u ∧ Reads (fun _ => True) W u y ∧ Caps W u y := fun j d hj => by
        obtain ⟨hf, cs', h1, h2⟩ := hip j d hj
        obtain ⟨_, hlen, hc⟩ := World.cells?_some h1
        refine ⟨by rw [hf.len, hez], fun q y hy => ?_⟩
        obtain ⟨u, hu, hR⟩ := h2 q y hy
        have hq := (List.getElem?_eq_some_iff.1 hu).1
        have := hc q (by omega)
        rw [Go.Deep.add_add] at this
        exact ⟨u, this.trans hu, hR⟩
      refine ⟨[.l sz es], ⟨es, rfl, by omega, fun hs => ?_, ?_, fun d hd => ?_⟩, cells_one ?_ ?_⟩
      · have := hs ((len + (m - len)) * P.bytesOf te) (by rw [hx1]; simp [DataW.weights, hu])
        rw [hby, reachBytes] at this
        rw [hil]
        have h3 : len + (m - len) = m := by omega
        rw [h3] at this
        exact Nat.le_trans (Nat.mul_le_mul_right _ hl) this
      · rw [hx1, hil]
        have := bulkD_all ((List.range len).map D)
        rw [List.length_map, List.length_range] at this
        simp only [Rows.uptoBulk]
        omega
      · obtain ⟨i, hi, rfl⟩ := List.getElem_of_mem hd
        exact (hip i _ (List.getElem?_eq_getElem hi)).1
      · rw [← hil]
        by_cases h0 : len = 0
        · rw [List.eq_nil_of_length_eq_zero (by omega : es.length = 0)]
          exact .nil (some ad) m sz
        · obtain ⟨b, off, spot⟩ := ad
          have hcell : ∀ (j : Nat) (d : List Dat), es[j]? = some d → d.length = sz ∧ ∀ (q : Nat) (y : Dat), d[q]? = some y → ∃ u, W.cell? ((Addr.mk b off spot).add (j * sz + q)) = some u ∧ Reads (fun _ => True) W u y := fun j d hj => ⟨(hcellA j d hj).1, fun q y hy => by
            obtain ⟨u, h1, h2, _⟩ := (hcellA j d hj).2 q y hy
            exact ⟨u, h1, h2⟩⟩
          obtain ⟨d0, hd0⟩ : ∃ d, es[0]? = some d := ⟨es[0]'(by omega), List.getElem?_eq_getElem _⟩
          have hd0l := (hcell 0 d0 hd0).1
          obtain ⟨y0, hy0⟩ : ∃ y, d0[0]? = some y := ⟨d0[0]'(by omega), List.getElem?_eq_getElem _⟩
          obtain ⟨u0, hu0, _⟩ := (hcell 0 d0 hd0).2 0 y0 hy0
          have hspot : spot = none := by simpa [Addr.add] using World.cell?_spot hu0
          subst hspot
          have hb0 : b < W.heap.size := by have := World.block_lt_of_cell? W _ hu0; simpa [Addr.add] using this
          have hsome : ∀ (j : Nat) (d : List Dat) (q : Nat) (y : Dat), es[j]? = some d → d[q]? = some y → ∃ u, W.cell? ⟨b, off + j * sz + q, none⟩ = some u ∧ Reads (fun _ => True) W u y := fun j d q y hj hy => by
            obtain ⟨u, h1, h2⟩ := (hcell j d hj).2 q y hy
            rw [Addr.add_lit] at h1
            exact ⟨u, by rw [Nat.add_assoc]; exact h1, h2⟩
          refine .l b off m sz es (fun j q => (W.cell? ⟨b, off + j * sz + q, none⟩).getD undef) trivial hb0 (fun j d hj => (hcell j d hj).1) (fun j d q y hj hy => ?_) (fun j d q y hj hy => ?_)
          · obtain ⟨u, h1, _⟩ := hsome j d q y hj hy
            rw [h1]; rfl
          · obtain ⟨u, h1, h2⟩ := hsome j d q y hj hy
            rw [h1]; exact h2
      · refine .l (some ad) len m sz es hl (fun g off j q e d u hg hj hq hu => ?_)
        cases hg
        obtain ⟨u', h1, _, h2⟩ := (hcellA j e hj).2 q d hq
        rw [Addr.add_lit, ← Nat.add_assoc, hu] at h1
        cases h1
        exact h2
end
end Go.Proofs.YtgmekkgbobmplaaGreat

/- A message in memory, and as an argument. No walk here. -/
namespace Go.Proofs.YtgmekkgbobmplaaGreat
open Go.ChangeShapes Go.WideShapes Go.ChangeAt Go.RowKit

def dCt (c : Ct) : List Dat := [.i c.1, .i c.2.1, .i c.2.2.1.c, .i c.2.2.1.st, .i c.2.2.1.k, .s c.2.2.1.key, .f c.2.2.1.b, .i c.2.2.1.id, dPairs c.2.2.2]
def dCts (l : List Ct) : Dat := .l 9 (l.map dCt)
def dCg (c : Cg) : List Dat := [.i c.1, .i c.2.1, dCts c.2.2.1, .i c.2.2.2.1, .s c.2.2.2.2]
def dCgs (l : List Cg) : Dat := .l 5 (l.map dCg)
def dLn (k : Ln) : List Dat := [.i k.1.1, dInts k.1.2, dPairs k.2]
def dLns (l : List Ln) : Dat := .l 3 (l.map dLn)
def dMs (m : Ms) : List Dat := [.i m.k, .i m.ep, .i m.v, .i m.sl, .i m.rq.c, .i m.rq.st, .i m.rq.k, .s m.rq.key, .f m.rq.b, .i m.rq.id, .i m.rs.1, .f m.rs.2, .s m.tx, dInts m.nx, dPairs m.sg, dCgs m.cg, dLns m.ln]
def shInts : Sh := .l 8 1 .i
def shSig : Sh := .st (.c .i (.c .s .u))
def shSigs : Sh := .l 24 2 shSig
def shConf : Sh := .st (.c .i (.c shInts .u))
def shLink : Sh := .st (.c shConf (.c shSigs .u))
def shLinks : Sh := .l 56 3 shLink
def shOpr : Sh := .st (.c .i (.c .s (.c .fl (.c .i .u))))
def shReq : Sh := .st (.c .i (.c .i (.c shOpr .u)))
def shRes : Sh := .st (.c .i (.c .fl .u))
def shCert : Sh := .st (.c .i (.c .i (.c shReq (.c shSigs .u))))
def shCerts : Sh := .l 96 9 shCert
def shChg : Sh := .st (.c .i (.c .i (.c shCerts (.c shSig .u))))
def shChgs : Sh := .l 64 5 shChg
def shMsg : Sh := .st (.c .i (.c .i (.c .i (.c .i (.c shReq (.c shRes (.c .s (.c shInts (.c shSigs (.c shChgs (.c shLinks .u)))))))))))
theorem of_ints : shInts.Of Tryz.prog (.inl 22) := ⟨_, Tryz.underlying22, by kernel_rfl, by kernel_rfl, rfl, by decide, Tryz.underlying3⟩
theorem of_sig : shSig.Of Tryz.prog (.inl 87) := ⟨_, Tryz.underlying87, by kernel_rfl, ⟨_, _, rfl, rfl, by kernel_rfl, Tryz.underlying3, ⟨_, _, rfl, rfl, by kernel_rfl, Tryz.underlying9, rfl⟩⟩⟩
theorem of_sigs : shSigs.Of Tryz.prog (.inl 44) := ⟨_, Tryz.underlying44, by kernel_rfl, by kernel_rfl, rfl, by decide, of_sig⟩
theorem of_conf : shConf.Of Tryz.prog (.inl 94) := ⟨_, Tryz.underlying94, by kernel_rfl, ⟨_, _, rfl, rfl, by kernel_rfl, Tryz.underlying3, ⟨_, _, rfl, rfl, by kernel_rfl, of_ints, rfl⟩⟩⟩
theorem of_link : shLink.Of Tryz.prog (.inl 96) := ⟨_, Tryz.underlying96, by kernel_rfl, ⟨_, _, rfl, rfl, by kernel_rfl, of_conf, ⟨_, _, rfl, rfl, by kernel_rfl, of_sigs, rfl⟩⟩⟩
theorem of_links : shLinks.Of Tryz.prog (.inl 46) := ⟨_, Tryz.underlying46, by kernel_rfl, by kernel_rfl, rfl, by decide, of_link⟩
theorem of_opr : shOpr.Of Tryz.prog (.inl 39) := ⟨_, Tryz.underlying39, by kernel_rfl, ⟨_, _, rfl, rfl, by kernel_rfl, Tryz.underlying3, ⟨_, _, rfl, rfl, by kernel_rfl, Tryz.underlying9, ⟨_, _, rfl, rfl, by kernel_rfl, Tryz.underlying37, ⟨_, _, rfl, rfl, by kernel_rfl, Tryz.underlying3, rfl⟩⟩⟩⟩⟩
theorem of_req : shReq.Of Tryz.prog (.inl 41) := ⟨_, Tryz.underlying41, by kernel_rfl, ⟨_, _, rfl, rfl, by kernel_rfl, Tryz.underlying3, ⟨_, _, rfl, rfl, by kernel_rfl, Tryz.underlying3, ⟨_, _, rfl, rfl, by kernel_rfl, of_opr, rfl⟩⟩⟩⟩
theorem of_res : shRes.Of Tryz.prog (.inl 43) := ⟨_, Tryz.underlying43, by kernel_rfl, ⟨_, _, rfl, rfl, by kernel_rfl, Tryz.underlying3, ⟨_, _, rfl, rfl, by kernel_rfl, Tryz.underlying37, rfl⟩⟩⟩
theorem of_cert : shCert.Of Tryz.prog (.inl 92) := ⟨_, Tryz.underlying92, by kernel_rfl, ⟨_, _, rfl, rfl, by kernel_rfl, Tryz.underlying3, ⟨_, _, rfl, rfl, by kernel_rfl, Tryz.underlying3, ⟨_, _, rfl, rfl, by kernel_rfl, of_req, ⟨_, _, rfl, rfl, by kernel_rfl, of_sigs, rfl⟩⟩⟩⟩⟩
theorem of_certs : shCerts.Of Tryz.prog (.inl 88) := ⟨_, Tryz.underlying88, by kernel_rfl, by kernel_rfl, rfl, by decide, of_cert⟩
theorem of_chg : shChg.Of Tryz.prog (.inl 90) := ⟨_, Tryz.underlying90, by kernel_rfl, ⟨_, _, rfl, rfl, by kernel_rfl, Tryz.underlying3, ⟨_, _, rfl, rfl, by kernel_rfl, Tryz.underlying3, ⟨_, _, rfl, rfl, by kernel_rfl, of_certs, ⟨_, _, rfl, rfl, by kernel_rfl, of_sig, rfl⟩⟩⟩⟩⟩
theorem of_chgs : shChgs.Of Tryz.prog (.inl 45) := ⟨_, Tryz.underlying45, by kernel_rfl, by kernel_rfl, rfl, by decide, of_chg⟩
theorem of_msg : shMsg.Of Tryz.prog (.inl 48) := ⟨_, Tryz.underlying48, by kernel_rfl, ⟨_, _, rfl, rfl, by kernel_rfl, Tryz.underlying3, ⟨_, _, rfl, rfl, by kernel_rfl, Tryz.underlying3, ⟨_, _, rfl, rfl, by kernel_rfl, Tryz.underlying3, ⟨_, _, rfl, rfl, by kernel_rfl, Tryz.underlying3, ⟨_, _, rfl, rfl, by kernel_rfl, of_req, ⟨_, _, rfl, rfl, by kernel_rfl, of_res, ⟨_, _, rfl, rfl, by kernel_rfl, Tryz.underlying9, ⟨_, _, rfl, rfl, by kernel_rfl, of_ints, ⟨_, _, rfl, rfl, by kernel_rfl, of_sigs, ⟨_, _, rfl, rfl, by kernel_rfl, of_chgs, ⟨_, _, rfl, rfl, by kernel_rfl, of_links, rfl⟩⟩⟩⟩⟩⟩⟩⟩⟩⟩⟩⟩
theorem fits_map {α : Type} {f : α → List Dat} {Q : α → Prop} : ∀ (es : List (List Dat)), (∀ d, d ∈ es → ∃ x, d = f x ∧ Q x) → ∃ xs : List α, es = xs.map f ∧ ∀ x, x ∈ xs → Q x
  | [], _ => ⟨[], rfl, fun x h => by cases h⟩
  | e :: es, h => by
    obtain ⟨x, rfl, hx⟩ := h e (List.mem_cons_self ..)
    obtain ⟨xs, rfl, hxs⟩ := fits_map es (fun d hd => h d (List.mem_cons_of_mem _ hd))
    refine ⟨x :: xs, rfl, fun y hy => ?_⟩
    rcases List.mem_cons.1 hy with rfl | hy
    · exact hx
    · exact hxs y hy
/-- Bounds of what came in. -/
def iR (z : Int) : Prop := -9223372036854775808 ≤ z ∧ z ≤ 9223372036854775807
def rqR (r : Rq) : Prop := (iR r.c ∧ iR r.st) ∧ (iR r.k ∧ iR r.id) ∧ r.key.size ≤ maxLen ∧ r.b < 18446744073709551616
def sgsR (l : List Sg) : Prop := l.length ≤ maxLen ∧ ∀ p, p ∈ l → iR p.1 ∧ p.2.size ≤ maxLen
def ctR (c : Ct) : Prop := (iR c.1 ∧ iR c.2.1) ∧ rqR c.2.2.1 ∧ sgsR c.2.2.2
def cgR (c : Cg) : Prop := (iR c.1 ∧ iR c.2.1) ∧ (c.2.2.1.length ≤ maxLen ∧ ∀ x, x ∈ c.2.2.1 → ctR x) ∧ iR c.2.2.2.1 ∧ c.2.2.2.2.size ≤ maxLen
def intsR (l : List Int) : Prop := l.length ≤ maxLen ∧ ∀ x, x ∈ l → iR x
def lnR (k : Ln) : Prop := iR k.1.1 ∧ intsR k.1.2 ∧ sgsR k.2
structure MsB (m : Ms) : Prop where
  k : iR m.k
  ep : iR m.ep
  v : iR m.v
  sl : iR m.sl
  rq : rqR m.rq
  rc : iR m.rs.1
  rf : m.rs.2 < 18446744073709551616
  tx : m.tx.size ≤ maxLen
  nx : intsR m.nx
  sg : sgsR m.sg
  cg : m.cg.length ≤ maxLen ∧ ∀ x, x ∈ m.cg → cgR x
  ln : m.ln.length ≤ maxLen ∧ ∀ x, x ∈ m.ln → lnR x
theorem MsB.r {m : Ms} (h : MsB m) : MsR m := ⟨h.rq.2.2.2, h.rf, fun c hc x hx => ((h.cg.2 c hc).2.1.2 x hx).2.1.2.2.2⟩
section
variable {S : Prop} {U : Nat}
theorem fit_ints {ds : List Dat} (h : Fits S U shInts ds) : ∃ xs : List Int, ds = [dInts xs] ∧ intsR xs := by
  obtain ⟨es, rfl, h1, _, _, h3⟩ := h
  obtain ⟨xs, rfl, h4⟩ := fits_map (f := fun x : Int => [Dat.i x]) (Q := iR) es (fun d hd => by obtain ⟨x, hx, hr⟩ := h3 d hd; exact ⟨x, hx, hr⟩)
  rw [List.length_map] at h1
  exact ⟨xs, rfl, h1, h4⟩
theorem fit_sig {ds : List Dat} (h : Fits S U shSig ds) : ∃ p : Sg, ds = [.i p.1, .s p.2] ∧ iR p.1 ∧ p.2.size ≤ maxLen := by
  obtain ⟨d1, d2, rfl, ⟨x, rfl, hx⟩, d3, d4, rfl, ⟨y, rfl, hy, _⟩, rfl⟩ := h
  exact ⟨(x, y), rfl, hx, hy⟩
theorem fit_sigs {ds : List Dat} (h : Fits S U shSigs ds) : ∃ ps : List Sg, ds = [dPairs ps] ∧ sgsR ps := by
  obtain ⟨es, rfl, h1, _, _, h3⟩ := h
  obtain ⟨ps, rfl, h4⟩ := fits_map (f := fun p : Sg => [Dat.i p.1, Dat.s p.2]) (Q := fun p => iR p.1 ∧ p.2.size ≤ maxLen) es (fun d hd => fit_sig (h3 d hd))
  rw [List.length_map] at h1
  exact ⟨ps, rfl, h1, h4⟩
theorem fit_req {ds : List Dat} (h : Fits S U shReq ds) : ∃ r : Rq, ds = [.i r.c, .i r.st, .i r.k, .s r.key, .f r.b, .i r.id] ∧ rqR r := by
  obtain ⟨d1, d2, rfl, ⟨c, rfl, hc⟩, d3, d4, rfl, ⟨st, rfl, hst⟩, d5, d6, rfl, ⟨d7, d8, rfl, ⟨k, rfl, hk⟩, d9, d10, rfl, ⟨key, rfl, hkey, _⟩, d11, d12, rfl, ⟨b, rfl, hb⟩, d13, d14, rfl, ⟨id, rfl, hid⟩, rfl⟩, rfl⟩ := h
  exact ⟨⟨c, st, k, key, b, id⟩, rfl, ⟨hc, hst⟩, ⟨hk, hid⟩, hkey, hb⟩
theorem fit_cert {ds : List Dat} (h : Fits S U shCert ds) : ∃ c : Ct, ds = dCt c ∧ ctR c := by
  obtain ⟨d1, d2, rfl, ⟨v, rfl, hv⟩, d3, d4, rfl, ⟨sl, rfl, hsl⟩, d5, d6, rfl, hr, d7, d8, rfl, hs, rfl⟩ := h
  obtain ⟨r, rfl, hr2⟩ := fit_req hr
  obtain ⟨ps, rfl, hp⟩ := fit_sigs hs
  exact ⟨(v, sl, r, ps), rfl, ⟨hv, hsl⟩, hr2, hp⟩
theorem fit_certs {ds : List Dat} (h : Fits S U shCerts ds) : ∃ l : List Ct, ds = [dCts l] ∧ l.length ≤ maxLen ∧ ∀ x, x ∈ l → ctR x := by
  obtain ⟨es, rfl, h1, _, _, h3⟩ := h
  obtain ⟨l, rfl, h4⟩ := fits_map (f := dCt) (Q := ctR) es (fun d hd => fit_cert (h3 d hd))
  rw [List.length_map] at h1
  exact ⟨l, rfl, h1, h4⟩
theorem fit_chg {ds : List Dat} (h : Fits S U shChg ds) : ∃ c : Cg, ds = dCg c ∧ cgR c := by
  obtain ⟨d1, d2, rfl, ⟨v, rfl, hv⟩, d3, d4, rfl, ⟨sl, rfl, hsl⟩, d5, d6, rfl, hr, d7, d8, rfl, hs, rfl⟩ := h
  obtain ⟨l, rfl, hl⟩ := fit_certs hr
  obtain ⟨p, rfl, hp⟩ := fit_sig hs
  exact ⟨(v, sl, l, p), rfl, ⟨hv, hsl⟩, hl, hp⟩
theorem fit_chgs {ds : List Dat} (h : Fits S U shChgs ds) : ∃ l : List Cg, ds = [dCgs l] ∧ l.length ≤ maxLen ∧ ∀ x, x ∈ l → cgR x := by
  obtain ⟨es, rfl, h1, _, _, h3⟩ := h
  obtain ⟨l, rfl, h4⟩ := fits_map (f := dCg) (Q := cgR) es (fun d hd => fit_chg (h3 d hd))
  rw [List.length_map] at h1
  exact ⟨l, rfl, h1, h4⟩
theorem fit_link {ds : List Dat} (h : Fits S U shLink ds) : ∃ k : Ln, ds = dLn k ∧ lnR k := by
  obtain ⟨d1, d2, rfl, ⟨d5, d6, rfl, ⟨x, rfl, hx⟩, d7, d8, rfl, hi, rfl⟩, d3, d4, rfl, h3, rfl⟩ := h
  obtain ⟨xs, rfl, h4⟩ := fit_ints hi
  obtain ⟨ps, rfl, h6⟩ := fit_sigs h3
  exact ⟨((x, xs), ps), rfl, hx, h4, h6⟩
theorem fit_links {ds : List Dat} (h : Fits S U shLinks ds) : ∃ l : List Ln, ds = [dLns l] ∧ l.length ≤ maxLen ∧ ∀ x, x ∈ l → lnR x := by
  obtain ⟨es, rfl, h1, _, _, h3⟩ := h
  obtain ⟨l, rfl, h4⟩ := fits_map (f := dLn) (Q := lnR) es (fun d hd => fit_link (h3 d hd))
  rw [List.length_map] at h1
  exact ⟨l, rfl, h1, h4⟩
theorem fit_msg {ds : List Dat} (h : Fits S U shMsg ds) : ∃ m : Ms, ds = dMs m ∧ MsB m := by
  obtain ⟨d1, d2, rfl, ⟨k, rfl, hk⟩, d3, d4, rfl, ⟨ep, rfl, hep⟩, d5, d6, rfl, ⟨v, rfl, hv⟩, d7, d8, rfl, ⟨sl, rfl, hsl⟩, d9, d10, rfl, hr, d11, d12, rfl, ⟨e1, e2, rfl, ⟨rc, rfl, hrc⟩, e3, e4, rfl, ⟨rf, rfl, hrf⟩, rfl⟩, d13, d14, rfl, ⟨tx, rfl, htx, _⟩, d15, d16, rfl, hi, d17, d18, rfl, hs, d19, d20, rfl, hc, d21, d22, rfl, hl, rfl⟩ := h
  obtain ⟨r, rfl, hr2⟩ := fit_req hr
  obtain ⟨xs, rfl, hx⟩ := fit_ints hi
  obtain ⟨ps, rfl, hp⟩ := fit_sigs hs
  obtain ⟨cg, rfl, hcg⟩ := fit_chgs hc
  obtain ⟨ln, rfl, hln⟩ := fit_links hl
  exact ⟨⟨k, ep, v, sl, r, (rc, rf), tx, xs, ps, cg, ln⟩, rfl, ⟨hk, hep, hv, hsl, hr2, hrc, hrf, htx, hx, hp, hcg, hln⟩⟩
end
/-- A message's cells, with its four lists at v13 to v16. -/
def msC (m : Ms) (v13 v14 v15 v16 : Value) : List Value := [.int .i64 m.k, .int .i64 m.ep, .int .i64 m.v, .int .i64 m.sl, .int .i64 m.rq.c, .int .i64 m.rq.st, .int .i64 m.rq.k, .string m.rq.key, .float .f64 m.rq.b, .int .i64 m.rq.id, .int .i64 m.rs.1, .float .f64 m.rs.2, .string m.tx, v13, v14, v15, v16]
/-- The lists of a message lie in w, in blocks of F. -/
structure MsL (F : Nat → Prop) (w : World) (m : Ms) (v13 v14 v15 v16 : Value) : Prop where
  nx : Reads F w v13 (dInts m.nx)
  sg : Reads F w v14 (dPairs m.sg)
  cg : Reads F w v15 (dCgs m.cg)
  ln : Reads F w v16 (dLns m.ln)
theorem MsL.keep {F : Nat → Prop} {w w' : World} {m : Ms} {v13 v14 v15 v16 : Value} (h : MsL F w m v13 v14 v15 v16) (hs : w.heap.size ≤ w'.heap.size) (hb : ∀ k, k < w.heap.size → F k → w'.heap[k]? = w.heap[k]?) : MsL F w' m v13 v14 v15 v16 :=
  ⟨h.nx.keep hs hb, h.sg.keep hs hb, h.cg.keep hs hb, h.ln.keep hs hb⟩
theorem MsL.under {F : Nat → Prop} {w w' : World} {m : Ms} {v13 v14 v15 v16 : Value} (h : MsL F w m v13 v14 v15 v16) (hb : Below w.heap.size w w') : MsL F w' m v13 v14 v15 v16 := h.keep hb.size (fun k hk _ => hb.block k hk)
theorem ms_cells {F : Nat → Prop} {w : World} {cs : List Value} {m : Ms} (hl : cs.length = 17) (h : CellsAre F w cs (dMs m)) : ∃ v13 v14 v15 v16, cs = msC m v13 v14 v15 v16 ∧ MsL F w m v13 v14 v15 v16 := by
  match cs, hl with
  | [c0, c1, c2, c3, c4, c5, c6, c7, c8, c9, c10, c11, c12, c13, c14, c15, c16], _ =>
    obtain ⟨_, e0, r0, _⟩ := h 0 _ rfl
    obtain ⟨_, e1, r1, _⟩ := h 1 _ rfl
    obtain ⟨_, e2, r2, _⟩ := h 2 _ rfl
    obtain ⟨_, e3, r3, _⟩ := h 3 _ rfl
    obtain ⟨_, e4, r4, _⟩ := h 4 _ rfl
    obtain ⟨_, e5, r5, _⟩ := h 5 _ rfl
    obtain ⟨_, e6, r6, _⟩ := h 6 _ rfl
    obtain ⟨_, e7, r7, _⟩ := h 7 _ rfl
    obtain ⟨_, e8, r8, _⟩ := h 8 _ rfl
    obtain ⟨_, e9, r9, _⟩ := h 9 _ rfl
    obtain ⟨_, e10, r10, _⟩ := h 10 _ rfl
    obtain ⟨_, e11, r11, _⟩ := h 11 _ rfl
    obtain ⟨_, e12, r12, _⟩ := h 12 _ rfl
    obtain ⟨_, e13, r13, _⟩ := h 13 _ rfl
    obtain ⟨_, e14, r14, _⟩ := h 14 _ rfl
    obtain ⟨_, e15, r15, _⟩ := h 15 _ rfl
    obtain ⟨_, e16, r16, _⟩ := h 16 _ rfl
    cases e0; cases e1; cases e2; cases e3; cases e4; cases e5; cases e6; cases e7; cases e8; cases e9; cases e10; cases e11; cases e12; cases e13; cases e14; cases e15; cases e16
    exact ⟨c13, c14, c15, c16, by rw [r0.int, r1.int, r2.int, r3.int, r4.int, r5.int, r6.int, r7.str, r8.flt, r9.int, r10.int, r11.flt, r12.str]; rfl, r13, r14, r15, r16⟩
end Go.Proofs.YtgmekkgbobmplaaGreat

/- The contracts of the reference of package reals (all but the texts). -/
namespace Go.Proofs.YtgmekkgbobmplaaGreat
open Go.RowKit

theorem wild_any (n : Nat) (w : World) : Calls Tryz.prog 130 #[.int .u64 (n : Int)] w fun e w' => e = .returned (.bool (nanW n)) ∧ w' = w := by
  go_enter Tryz.func130, Tryz.ntmps130
  go_wp2
  · rename_i h
    go_ret
    refine ⟨?_, rfl⟩
    show Ending.returned (.bool _) = _
    congr 2
    rw [Bool.eq_iff_iff]
    simp [nanW]
    omega
  · rename_i h
    go_ret
    refine ⟨?_, rfl⟩
    have : nanW n = false := by simp [nanW]; omega
    rw [this]; rfl

theorem kbits_any (b : Nat) (w : World) : Calls Tryz.prog 89 #[.float .f64 b] w fun e w' => e = .returned (.int .u64 (canW b : Nat)) ∧ w' = w := by
  go_enter Tryz.func89, Tryz.ntmps89
  cases hn : nanW b
  · go_wp2_with (first | (go_at_call 130; refine (wild_any _ _).mono ?_; rintro e w1 ⟨rfl, rfl⟩; rw [hn]) | rw [fb_run])
    go_ret
    exact ⟨by simp [canW, hn], rfl⟩
  · go_wp2_with (first | (go_at_call 130; refine (wild_any _ _).mono ?_; rintro e w1 ⟨rfl, rfl⟩; rw [hn]) | rw [fb_run])
    go_ret
    exact ⟨by simp [canW, hn], rfl⟩

def placeW (n : Nat) : Nat := bif nanW n then 18446744073709551615 else bif decide (9223372036854775808 ≤ n) then 9223372036854775807 - n % 9223372036854775808 else 9223372036854775808 + n
theorem canW_ne (n : Nat) : (canW n == n) = !(nanW n && n != 9221120237041090560) := by
  cases h : nanW n
  · simp [canW, h]
  · simp [canW, h]
    rw [Bool.eq_iff_iff]; simp; omega
theorem rank_place (a b : Nat) (ha : a < 18446744073709551616) (hb : b < 18446744073709551616) : (rankW a < rankW b) ↔ (placeW a < placeW b) := by
  have h1 : ∀ n, nanW n = true → rankW n = 18444492273895866368 ∧ placeW n = 18446744073709551615 := fun n h => by simp [rankW, placeW, canW, h]
  have h2 : ∀ n, n < 18446744073709551616 → nanW n = false → rankW n = placeW n ∧ rankW n ≤ 18442240474082181120 := fun n hn h => by
    have hl : ¬ (9218868437227405312 < n % 9223372036854775808) := by simpa [nanW] using h
    by_cases hg : 9223372036854775808 ≤ n
    · simp [rankW, placeW, canW, h, hg]; omega
    · simp [rankW, placeW, canW, h, hg]; omega
  cases hx : nanW a <;> cases hy : nanW b
  · rw [(h2 a ha hx).1, (h2 b hb hy).1]
  · have := h2 a ha hx; have := h1 b hy; omega
  · have := h1 a hx; have := h2 b hb hy; omega
  · have := h1 a hx; have := h1 b hy; omega

theorem rank_can (a : Nat) : rankW (canW a) = rankW a := by simp only [rankW, canW_idem]

end Go.Proofs.YtgmekkgbobmplaaGreat

/- The document's deeds: which operation is right, which request, which is the null one. -/
namespace Go.Proofs.YtgmekkgbobmplaaGreat
open Go.RowKit

theorem ret_bool {X Y : Bool} (h : X = Y) : Ending.returned (.bool X) = Ending.returned (.bool Y) := by rw [h]
theorem none_size (s : ByteArray) : s.toList.isEmpty = decide (s.size = 0) := by
  rw [ByteArray.toList_eq]
  cases h : s.data.toList with
  | nil =>
    have : s.size = 0 := by rw [← data_len, h]; rfl
    simp [this]
  | cons x l =>
    have : s.size ≠ 0 := by rw [← data_len, h]; simp
    simp [this]
/-- An operation, a request in a variable. -/
def OpAt (w : World) (b : Nat) (r : Rq) : Prop := w.heap[b]? = some (.cells [.int .i64 r.k, .string r.key, .float .f64 r.b, .int .i64 r.id].toArray 39 (0, 0))
def RqAt (w : World) (b : Nat) (r : Rq) : Prop := w.heap[b]? = some (.cells [.int .i64 r.c, .int .i64 r.st, .int .i64 r.k, .string r.key, .float .f64 r.b, .int .i64 r.id].toArray 41 (0, 0))
theorem OpAt.cells {w : World} {b : Nat} {r : Rq} (h : OpAt w b r) : w.cell? ⟨b, 0, none⟩ = some (.int .i64 r.k) ∧ w.cell? ⟨b, 1, none⟩ = some (.string r.key) ∧ w.cell? ⟨b, 2, none⟩ = some (.float .f64 r.b) ∧ w.cell? ⟨b, 3, none⟩ = some (.int .i64 r.id) :=
  ⟨cell_at h 0 _ rfl, cell_at h 1 _ rfl, cell_at h 2 _ rfl, cell_at h 3 _ rfl⟩
theorem RqAt.cells {w : World} {b : Nat} {r : Rq} (h : RqAt w b r) : (w.cell? ⟨b, 0, none⟩ = some (.int .i64 r.c) ∧ w.cell? ⟨b, 1, none⟩ = some (.int .i64 r.st)) ∧ w.cell? ⟨b, 2, none⟩ = some (.int .i64 r.k) ∧ w.cell? ⟨b, 3, none⟩ = some (.string r.key) ∧ w.cell? ⟨b, 4, none⟩ = some (.float .f64 r.b) ∧ w.cell? ⟨b, 5, none⟩ = some (.int .i64 r.id) :=
  ⟨⟨cell_at h 0 _ rfl, cell_at h 1 _ rfl⟩, cell_at h 2 _ rfl, cell_at h 3 _ rfl, cell_at h 4 _ rfl, cell_at h 5 _ rfl⟩
theorem OpAt.keep {w w' : World} {b : Nat} {r : Rq} (h : OpAt w b r) (hb : Below w.heap.size w w') : OpAt w' b r := (hb.block b (lt_of_blk h)).trans h
theorem RqAt.keep {w w' : World} {b : Nat} {r : Rq} (h : RqAt w b r) (hb : Below w.heap.size w w') : RqAt w' b r := (hb.block b (lt_of_blk h)).trans h
set_option maxRecDepth 100000 in
theorem qkeyed_any (r : Rq) (w : World) : Calls Tryz.prog 128 #[.agg #[.int .i64 r.k, .string r.key, .float .f64 r.b, .int .i64 r.id]] w fun e w' => e = .returned (.bool (keyedB r)) ∧ Below w.heap.size w w' := by
  have HB : Hid (Below w.heap.size w (w.alloc (.cells #[.int .i64 r.k, .string r.key, .float .f64 r.b, .int .i64 r.id] 39))) := hid ((Below.refl _ _).alloc (Nat.le_refl _) _)
  obtain ⟨B, hB⟩ : ∃ B, keyedB r = B := ⟨_, rfl⟩
  have HBe := hid hB
  rw [hB]
  clear hB
  go_enter Tryz.func128, Tryz.ntmps128
  go_wp2
  all_goals go_ret
  all_goals refine ⟨ret_bool ?_, HB.out⟩
  all_goals (rw [← HBe.out, keyedB, Bool.eq_iff_iff]; simp; try omega)
set_option maxRecDepth 100000 in
theorem qplain_any (r : Rq) (w : World) : Calls Tryz.prog 86 #[.agg #[.int .i64 r.k, .string r.key, .float .f64 r.b, .int .i64 r.id]] w fun e w' => e = .returned (.bool (plainB r)) ∧ Below w.heap.size w w' := by
  have HB : Hid (Below w.heap.size w (w.alloc (.cells #[.int .i64 r.k, .string r.key, .float .f64 r.b, .int .i64 r.id] 39))) := hid ((Below.refl _ _).alloc (Nat.le_refl _) _)
  obtain ⟨B, hB⟩ : ∃ B, plainB r = B := ⟨_, rfl⟩
  have HBe := hid hB
  rw [hB]
  clear hB
  go_enter Tryz.func86, Tryz.ntmps86
  go_wp2_with (go_at_call 89; refine (kbits_any _ _).mono ?_; rintro e w1 ⟨rfl, rfl⟩)
  go_ret
  refine ⟨ret_bool ?_, HB.out⟩
  rw [← HBe.out, plainB, Bool.eq_iff_iff]
  simp
set_option maxRecDepth 100000 in
set_option maxHeartbeats 6400000 in
theorem qop_any (r : Rq) (w : World) : Calls Tryz.prog 85 #[.agg #[.int .i64 r.k, .string r.key, .float .f64 r.b, .int .i64 r.id]] w fun e w' => e = .returned (.bool (opB r)) ∧ Below w.heap.size w w' := by
  obtain ⟨c, st, k, key, b, id⟩ := r
  simp only
  have HK := fun (k : Int) (u : World) => qkeyed_any ⟨c, st, k, key, b, id⟩ u
  have HP := fun (k : Int) (u : World) => qplain_any ⟨c, st, k, key, b, id⟩ u
  simp only at HK HP
  have HKk : ∀ k, keyedB ⟨c, st, k, key, b, id⟩ = keyedB ⟨c, st, 0, key, b, id⟩ := fun _ => rfl
  have HPk : ∀ k, plainB ⟨c, st, k, key, b, id⟩ = plainB ⟨c, st, 0, key, b, id⟩ := fun _ => rfl
  have HOp : Hid (∀ k, opB ⟨c, st, k, key, b, id⟩ = if k = 1 ∨ k = 2 ∨ k = 3 then keyedB ⟨c, st, 0, key, b, id⟩ else if k = 4 ∨ k = 5 then keyedB ⟨c, st, 0, key, b, id⟩ && plainB ⟨c, st, 0, key, b, id⟩ else if k = 6 ∨ k = 7 then ((decide (key.size = 0) && plainB ⟨c, st, 0, key, b, id⟩) && decide (0 ≤ id)) && decide (id < 16) else false) := hid (fun _ => rfl)
  simp only [HKk] at HK
  simp only [HPk] at HP
  have HKh := hid HK
  have HPh := hid HP
  obtain ⟨B, hB⟩ : ∃ B, B = opB ⟨c, st, k, key, b, id⟩ := ⟨_, rfl⟩
  rw [HOp.out] at hB
  rw [show opB ⟨c, st, k, key, b, id⟩ = B by rw [hB, HOp.out]]
  have HBe := hid hB
  have hz2 := none_size key
  clear HK HP HKk HPk hB HOp
  generalize keyedB ⟨c, st, 0, key, b, id⟩ = K at *
  generalize plainB ⟨c, st, 0, key, b, id⟩ = P at *
  by_cases h1 : k = 1
  · subst h1
    rw [if_pos (by decide)] at HBe
    go_enter Tryz.func85, Tryz.ntmps85
    go_wp2_with (first
      | (go_at_call 128; refine (HKh.out _ _).mono ?_; rintro e w1 ⟨rfl, hb1⟩; have H1 := hid (And.intro ((hb1.block _ (by simp)).trans (heap_alloc_last w _)) (((Below.refl w.heap.size w).alloc (Nat.le_refl _) _).trans (hb1.mono (by simp)))); clear hb1; have z0 := cell_at (L := [.int .i64 1, .string key, .float .f64 b, .int .i64 id]) H1.out.1 0 _ rfl; have z1 := cell_at (L := [.int .i64 1, .string key, .float .f64 b, .int .i64 id]) H1.out.1 1 _ rfl; have z2 := cell_at (L := [.int .i64 1, .string key, .float .f64 b, .int .i64 id]) H1.out.1 2 _ rfl; have z3 := cell_at (L := [.int .i64 1, .string key, .float .f64 b, .int .i64 id]) H1.out.1 3 _ rfl)
      | (go_at_call 86; have := H1; refine (HPh.out _ _).mono ?_; rintro e w2 ⟨rfl, hb2⟩; have H2 := hid (H1.out.2.trans (hb2.mono H1.out.2.size)); clear hb2)
      | (go_at_call 86; refine (HPh.out _ _).mono ?_; rintro e w2 ⟨rfl, hb2⟩; have H1 := hid (And.intro ((hb2.block _ (by simp)).trans (heap_alloc_last w _)) (((Below.refl w.heap.size w).alloc (Nat.le_refl _) _).trans (hb2.mono (by simp)))); clear hb2; have z0 := cell_at (L := [.int .i64 1, .string key, .float .f64 b, .int .i64 id]) H1.out.1 0 _ rfl; have z1 := cell_at (L := [.int .i64 1, .string key, .float .f64 b, .int .i64 id]) H1.out.1 1 _ rfl; have z2 := cell_at (L := [.int .i64 1, .string key, .float .f64 b, .int .i64 id]) H1.out.1 2 _ rfl; have z3 := cell_at (L := [.int .i64 1, .string key, .float .f64 b, .int .i64 id]) H1.out.1 3 _ rfl))
    all_goals go_ret
    all_goals refine ⟨ret_bool ?_, by first | exact H2.out | exact H1.out.2 | exact (Below.refl w.heap.size w).alloc (Nat.le_refl _) _⟩
    all_goals (first | exact HBe.out.symm | (rw [HBe.out, Bool.eq_iff_iff]; simp; done) | (rw [HBe.out, Bool.eq_iff_iff]; simp; omega))
  by_cases h2 : k = 2
  · subst h2
    rw [if_pos (by decide)] at HBe
    go_enter Tryz.func85, Tryz.ntmps85
    go_wp2_with (first
      | (go_at_call 128; refine (HKh.out _ _).mono ?_; rintro e w1 ⟨rfl, hb1⟩; have H1 := hid (And.intro ((hb1.block _ (by simp)).trans (heap_alloc_last w _)) (((Below.refl w.heap.size w).alloc (Nat.le_refl _) _).trans (hb1.mono (by simp)))); clear hb1; have z0 := cell_at (L := [.int .i64 2, .string key, .float .f64 b, .int .i64 id]) H1.out.1 0 _ rfl; have z1 := cell_at (L := [.int .i64 2, .string key, .float .f64 b, .int .i64 id]) H1.out.1 1 _ rfl; have z2 := cell_at (L := [.int .i64 2, .string key, .float .f64 b, .int .i64 id]) H1.out.1 2 _ rfl; have z3 := cell_at (L := [.int .i64 2, .string key, .float .f64 b, .int .i64 id]) H1.out.1 3 _ rfl)
      | (go_at_call 86; have := H1; refine (HPh.out _ _).mono ?_; rintro e w2 ⟨rfl, hb2⟩; have H2 := hid (H1.out.2.trans (hb2.mono H1.out.2.size)); clear hb2)
      | (go_at_call 86; refine (HPh.out _ _).mono ?_; rintro e w2 ⟨rfl, hb2⟩; have H1 := hid (And.intro ((hb2.block _ (by simp)).trans (heap_alloc_last w _)) (((Below.refl w.heap.size w).alloc (Nat.le_refl _) _).trans (hb2.mono (by simp)))); clear hb2; have z0 := cell_at (L := [.int .i64 2, .string key, .float .f64 b, .int .i64 id]) H1.out.1 0 _ rfl; have z1 := cell_at (L := [.int .i64 2, .string key, .float .f64 b, .int .i64 id]) H1.out.1 1 _ rfl; have z2 := cell_at (L := [.int .i64 2, .string key, .float .f64 b, .int .i64 id]) H1.out.1 2 _ rfl; have z3 := cell_at (L := [.int .i64 2, .string key, .float .f64 b, .int .i64 id]) H1.out.1 3 _ rfl))
    all_goals go_ret
    all_goals refine ⟨ret_bool ?_, by first | exact H2.out | exact H1.out.2 | exact (Below.refl w.heap.size w).alloc (Nat.le_refl _) _⟩
    all_goals (first | exact HBe.out.symm | (rw [HBe.out, Bool.eq_iff_iff]; simp; done) | (rw [HBe.out, Bool.eq_iff_iff]; simp; omega))
  by_cases h3 : k = 3
  · subst h3
    rw [if_pos (by decide)] at HBe
    go_enter Tryz.func85, Tryz.ntmps85
    go_wp2_with (first
      | (go_at_call 128; refine (HKh.out _ _).mono ?_; rintro e w1 ⟨rfl, hb1⟩; have H1 := hid (And.intro ((hb1.block _ (by simp)).trans (heap_alloc_last w _)) (((Below.refl w.heap.size w).alloc (Nat.le_refl _) _).trans (hb1.mono (by simp)))); clear hb1; have z0 := cell_at (L := [.int .i64 3, .string key, .float .f64 b, .int .i64 id]) H1.out.1 0 _ rfl; have z1 := cell_at (L := [.int .i64 3, .string key, .float .f64 b, .int .i64 id]) H1.out.1 1 _ rfl; have z2 := cell_at (L := [.int .i64 3, .string key, .float .f64 b, .int .i64 id]) H1.out.1 2 _ rfl; have z3 := cell_at (L := [.int .i64 3, .string key, .float .f64 b, .int .i64 id]) H1.out.1 3 _ rfl)
      | (go_at_call 86; have := H1; refine (HPh.out _ _).mono ?_; rintro e w2 ⟨rfl, hb2⟩; have H2 := hid (H1.out.2.trans (hb2.mono H1.out.2.size)); clear hb2)
      | (go_at_call 86; refine (HPh.out _ _).mono ?_; rintro e w2 ⟨rfl, hb2⟩; have H1 := hid (And.intro ((hb2.block _ (by simp)).trans (heap_alloc_last w _)) (((Below.refl w.heap.size w).alloc (Nat.le_refl _) _).trans (hb2.mono (by simp)))); clear hb2; have z0 := cell_at (L := [.int .i64 3, .string key, .float .f64 b, .int .i64 id]) H1.out.1 0 _ rfl; have z1 := cell_at (L := [.int .i64 3, .string key, .float .f64 b, .int .i64 id]) H1.out.1 1 _ rfl; have z2 := cell_at (L := [.int .i64 3, .string key, .float .f64 b, .int .i64 id]) H1.out.1 2 _ rfl; have z3 := cell_at (L := [.int .i64 3, .string key, .float .f64 b, .int .i64 id]) H1.out.1 3 _ rfl))
    all_goals go_ret
    all_goals refine ⟨ret_bool ?_, by first | exact H2.out | exact H1.out.2 | exact (Below.refl w.heap.size w).alloc (Nat.le_refl _) _⟩
    all_goals (first | exact HBe.out.symm | (rw [HBe.out, Bool.eq_iff_iff]; simp; done) | (rw [HBe.out, Bool.eq_iff_iff]; simp; omega))
  by_cases h4 : k = 4
  · subst h4
    rw [if_neg (by decide), if_pos (by decide)] at HBe
    cases K <;>
    · go_enter Tryz.func85, Tryz.ntmps85
      go_wp2_with (first
        | (go_at_call 128; refine (HKh.out _ _).mono ?_; rintro e w1 ⟨rfl, hb1⟩; have H1 := hid (And.intro ((hb1.block _ (by simp)).trans (heap_alloc_last w _)) (((Below.refl w.heap.size w).alloc (Nat.le_refl _) _).trans (hb1.mono (by simp)))); clear hb1; have z0 := cell_at (L := [.int .i64 4, .string key, .float .f64 b, .int .i64 id]) H1.out.1 0 _ rfl; have z1 := cell_at (L := [.int .i64 4, .string key, .float .f64 b, .int .i64 id]) H1.out.1 1 _ rfl; have z2 := cell_at (L := [.int .i64 4, .string key, .float .f64 b, .int .i64 id]) H1.out.1 2 _ rfl; have z3 := cell_at (L := [.int .i64 4, .string key, .float .f64 b, .int .i64 id]) H1.out.1 3 _ rfl)
        | (go_at_call 86; have := H1; refine (HPh.out _ _).mono ?_; rintro e w2 ⟨rfl, hb2⟩; have H2 := hid (H1.out.2.trans (hb2.mono H1.out.2.size)); clear hb2)
        | (go_at_call 86; refine (HPh.out _ _).mono ?_; rintro e w2 ⟨rfl, hb2⟩; have H1 := hid (And.intro ((hb2.block _ (by simp)).trans (heap_alloc_last w _)) (((Below.refl w.heap.size w).alloc (Nat.le_refl _) _).trans (hb2.mono (by simp)))); clear hb2; have z0 := cell_at (L := [.int .i64 4, .string key, .float .f64 b, .int .i64 id]) H1.out.1 0 _ rfl; have z1 := cell_at (L := [.int .i64 4, .string key, .float .f64 b, .int .i64 id]) H1.out.1 1 _ rfl; have z2 := cell_at (L := [.int .i64 4, .string key, .float .f64 b, .int .i64 id]) H1.out.1 2 _ rfl; have z3 := cell_at (L := [.int .i64 4, .string key, .float .f64 b, .int .i64 id]) H1.out.1 3 _ rfl))
      all_goals go_ret
      all_goals refine ⟨ret_bool ?_, by first | exact H2.out | exact H1.out.2 | exact (Below.refl w.heap.size w).alloc (Nat.le_refl _) _⟩
      all_goals (first | exact HBe.out.symm | (rw [HBe.out, Bool.eq_iff_iff]; simp; done) | (rw [HBe.out, Bool.eq_iff_iff]; simp; omega))
  by_cases h5 : k = 5
  · subst h5
    rw [if_neg (by decide), if_pos (by decide)] at HBe
    cases K <;>
    · go_enter Tryz.func85, Tryz.ntmps85
      go_wp2_with (first
        | (go_at_call 128; refine (HKh.out _ _).mono ?_; rintro e w1 ⟨rfl, hb1⟩; have H1 := hid (And.intro ((hb1.block _ (by simp)).trans (heap_alloc_last w _)) (((Below.refl w.heap.size w).alloc (Nat.le_refl _) _).trans (hb1.mono (by simp)))); clear hb1; have z0 := cell_at (L := [.int .i64 5, .string key, .float .f64 b, .int .i64 id]) H1.out.1 0 _ rfl; have z1 := cell_at (L := [.int .i64 5, .string key, .float .f64 b, .int .i64 id]) H1.out.1 1 _ rfl; have z2 := cell_at (L := [.int .i64 5, .string key, .float .f64 b, .int .i64 id]) H1.out.1 2 _ rfl; have z3 := cell_at (L := [.int .i64 5, .string key, .float .f64 b, .int .i64 id]) H1.out.1 3 _ rfl)
        | (go_at_call 86; have := H1; refine (HPh.out _ _).mono ?_; rintro e w2 ⟨rfl, hb2⟩; have H2 := hid (H1.out.2.trans (hb2.mono H1.out.2.size)); clear hb2)
        | (go_at_call 86; refine (HPh.out _ _).mono ?_; rintro e w2 ⟨rfl, hb2⟩; have H1 := hid (And.intro ((hb2.block _ (by simp)).trans (heap_alloc_last w _)) (((Below.refl w.heap.size w).alloc (Nat.le_refl _) _).trans (hb2.mono (by simp)))); clear hb2; have z0 := cell_at (L := [.int .i64 5, .string key, .float .f64 b, .int .i64 id]) H1.out.1 0 _ rfl; have z1 := cell_at (L := [.int .i64 5, .string key, .float .f64 b, .int .i64 id]) H1.out.1 1 _ rfl; have z2 := cell_at (L := [.int .i64 5, .string key, .float .f64 b, .int .i64 id]) H1.out.1 2 _ rfl; have z3 := cell_at (L := [.int .i64 5, .string key, .float .f64 b, .int .i64 id]) H1.out.1 3 _ rfl))
      all_goals go_ret
      all_goals refine ⟨ret_bool ?_, by first | exact H2.out | exact H1.out.2 | exact (Below.refl w.heap.size w).alloc (Nat.le_refl _) _⟩
      all_goals (first | exact HBe.out.symm | (rw [HBe.out, Bool.eq_iff_iff]; simp; done) | (rw [HBe.out, Bool.eq_iff_iff]; simp; omega))
  by_cases h6 : k = 6
  · subst h6
    rw [if_neg (by decide), if_neg (by decide), if_pos (by decide)] at HBe
    cases hd : decide (key.size = 0) <;> rw [hd] at HBe hz2 <;> cases P <;>
    · clear hd
      go_enter Tryz.func85, Tryz.ntmps85
      go_wp2_with (first
        | (go_at_call 128; refine (HKh.out _ _).mono ?_; rintro e w1 ⟨rfl, hb1⟩; have H1 := hid (And.intro ((hb1.block _ (by simp)).trans (heap_alloc_last w _)) (((Below.refl w.heap.size w).alloc (Nat.le_refl _) _).trans (hb1.mono (by simp)))); clear hb1; have z0 := cell_at (L := [.int .i64 6, .string key, .float .f64 b, .int .i64 id]) H1.out.1 0 _ rfl; have z1 := cell_at (L := [.int .i64 6, .string key, .float .f64 b, .int .i64 id]) H1.out.1 1 _ rfl; have z2 := cell_at (L := [.int .i64 6, .string key, .float .f64 b, .int .i64 id]) H1.out.1 2 _ rfl; have z3 := cell_at (L := [.int .i64 6, .string key, .float .f64 b, .int .i64 id]) H1.out.1 3 _ rfl)
        | (go_at_call 86; have := H1; refine (HPh.out _ _).mono ?_; rintro e w2 ⟨rfl, hb2⟩; have H2 := hid (H1.out.2.trans (hb2.mono H1.out.2.size)); clear hb2)
        | (go_at_call 86; refine (HPh.out _ _).mono ?_; rintro e w2 ⟨rfl, hb2⟩; have H1 := hid (And.intro ((hb2.block _ (by simp)).trans (heap_alloc_last w _)) (((Below.refl w.heap.size w).alloc (Nat.le_refl _) _).trans (hb2.mono (by simp)))); clear hb2; have z0 := cell_at (L := [.int .i64 6, .string key, .float .f64 b, .int .i64 id]) H1.out.1 0 _ rfl; have z1 := cell_at (L := [.int .i64 6, .string key, .float .f64 b, .int .i64 id]) H1.out.1 1 _ rfl; have z2 := cell_at (L := [.int .i64 6, .string key, .float .f64 b, .int .i64 id]) H1.out.1 2 _ rfl; have z3 := cell_at (L := [.int .i64 6, .string key, .float .f64 b, .int .i64 id]) H1.out.1 3 _ rfl))
      all_goals go_ret
      all_goals refine ⟨ret_bool ?_, by first | exact H2.out | exact H1.out.2 | exact (Below.refl w.heap.size w).alloc (Nat.le_refl _) _⟩
      all_goals (first | exact HBe.out.symm | (rw [HBe.out, Bool.eq_iff_iff]; simp; done) | (rw [HBe.out, Bool.eq_iff_iff]; simp; omega))
  by_cases h7 : k = 7
  · subst h7
    rw [if_neg (by decide), if_neg (by decide), if_pos (by decide)] at HBe
    cases hd : decide (key.size = 0) <;> rw [hd] at HBe hz2 <;> cases P <;>
    · clear hd
      go_enter Tryz.func85, Tryz.ntmps85
      go_wp2_with (first
        | (go_at_call 128; refine (HKh.out _ _).mono ?_; rintro e w1 ⟨rfl, hb1⟩; have H1 := hid (And.intro ((hb1.block _ (by simp)).trans (heap_alloc_last w _)) (((Below.refl w.heap.size w).alloc (Nat.le_refl _) _).trans (hb1.mono (by simp)))); clear hb1; have z0 := cell_at (L := [.int .i64 7, .string key, .float .f64 b, .int .i64 id]) H1.out.1 0 _ rfl; have z1 := cell_at (L := [.int .i64 7, .string key, .float .f64 b, .int .i64 id]) H1.out.1 1 _ rfl; have z2 := cell_at (L := [.int .i64 7, .string key, .float .f64 b, .int .i64 id]) H1.out.1 2 _ rfl; have z3 := cell_at (L := [.int .i64 7, .string key, .float .f64 b, .int .i64 id]) H1.out.1 3 _ rfl)
        | (go_at_call 86; have := H1; refine (HPh.out _ _).mono ?_; rintro e w2 ⟨rfl, hb2⟩; have H2 := hid (H1.out.2.trans (hb2.mono H1.out.2.size)); clear hb2)
        | (go_at_call 86; refine (HPh.out _ _).mono ?_; rintro e w2 ⟨rfl, hb2⟩; have H1 := hid (And.intro ((hb2.block _ (by simp)).trans (heap_alloc_last w _)) (((Below.refl w.heap.size w).alloc (Nat.le_refl _) _).trans (hb2.mono (by simp)))); clear hb2; have z0 := cell_at (L := [.int .i64 7, .string key, .float .f64 b, .int .i64 id]) H1.out.1 0 _ rfl; have z1 := cell_at (L := [.int .i64 7, .string key, .float .f64 b, .int .i64 id]) H1.out.1 1 _ rfl; have z2 := cell_at (L := [.int .i64 7, .string key, .float .f64 b, .int .i64 id]) H1.out.1 2 _ rfl; have z3 := cell_at (L := [.int .i64 7, .string key, .float .f64 b, .int .i64 id]) H1.out.1 3 _ rfl))
      all_goals go_ret
      all_goals refine ⟨ret_bool ?_, by first | exact H2.out | exact H1.out.2 | exact (Below.refl w.heap.size w).alloc (Nat.le_refl _) _⟩
      all_goals (first | exact HBe.out.symm | (rw [HBe.out, Bool.eq_iff_iff]; simp; done) | (rw [HBe.out, Bool.eq_iff_iff]; simp; omega))
  rw [if_neg (by omega), if_neg (by omega), if_neg (by omega)] at HBe
  go_enter Tryz.func85, Tryz.ntmps85
  go_wp2_with (first
    | (go_at_call 128; refine (HKh.out _ _).mono ?_; rintro e w1 ⟨rfl, hb1⟩; have H1 := hid (And.intro ((hb1.block _ (by simp)).trans (heap_alloc_last w _)) (((Below.refl w.heap.size w).alloc (Nat.le_refl _) _).trans (hb1.mono (by simp)))); clear hb1; have z0 := cell_at (L := [.int .i64 k, .string key, .float .f64 b, .int .i64 id]) H1.out.1 0 _ rfl; have z1 := cell_at (L := [.int .i64 k, .string key, .float .f64 b, .int .i64 id]) H1.out.1 1 _ rfl; have z2 := cell_at (L := [.int .i64 k, .string key, .float .f64 b, .int .i64 id]) H1.out.1 2 _ rfl; have z3 := cell_at (L := [.int .i64 k, .string key, .float .f64 b, .int .i64 id]) H1.out.1 3 _ rfl)
    | (go_at_call 86; have := H1; refine (HPh.out _ _).mono ?_; rintro e w2 ⟨rfl, hb2⟩; have H2 := hid (H1.out.2.trans (hb2.mono H1.out.2.size)); clear hb2)
    | (go_at_call 86; refine (HPh.out _ _).mono ?_; rintro e w2 ⟨rfl, hb2⟩; have H1 := hid (And.intro ((hb2.block _ (by simp)).trans (heap_alloc_last w _)) (((Below.refl w.heap.size w).alloc (Nat.le_refl _) _).trans (hb2.mono (by simp)))); clear hb2; have z0 := cell_at (L := [.int .i64 k, .string key, .float .f64 b, .int .i64 id]) H1.out.1 0 _ rfl; have z1 := cell_at (L := [.int .i64 k, .string key, .float .f64 b, .int .i64 id]) H1.out.1 1 _ rfl; have z2 := cell_at (L := [.int .i64 k, .string key, .float .f64 b, .int .i64 id]) H1.out.1 2 _ rfl; have z3 := cell_at (L := [.int .i64 k, .string key, .float .f64 b, .int .i64 id]) H1.out.1 3 _ rfl))
  all_goals go_ret
  all_goals refine ⟨ret_bool ?_, by first | exact H2.out | exact H1.out.2 | exact (Below.refl w.heap.size w).alloc (Nat.le_refl _) _⟩
  all_goals (first | exact HBe.out.symm | (rw [HBe.out, Bool.eq_iff_iff]; simp; done) | (rw [HBe.out, Bool.eq_iff_iff]; simp; omega))
set_option maxRecDepth 100000 in
set_option maxHeartbeats 6400000 in
theorem qright_any (r : Rq) (w : World) : Calls Tryz.prog 46 #[.agg #[.int .i64 r.c, .int .i64 r.st, .int .i64 r.k, .string r.key, .float .f64 r.b, .int .i64 r.id]] w fun e w' => e = .returned (.bool (rightB r)) ∧ Below w.heap.size w w' := by
  have H0 : Hid (RqAt (w.alloc (.cells #[.int .i64 r.c, .int .i64 r.st, .int .i64 r.k, .string r.key, .float .f64 r.b, .int .i64 r.id] 41)) w.heap.size r ∧ Below w.heap.size w (w.alloc (.cells #[.int .i64 r.c, .int .i64 r.st, .int .i64 r.k, .string r.key, .float .f64 r.b, .int .i64 r.id] 41))) := hid ⟨heap_alloc_last w _, (Below.refl w.heap.size w).alloc (Nat.le_refl _) _⟩
  obtain ⟨B, hB⟩ : ∃ B, rightB r = B := ⟨_, rfl⟩
  have HBe : Hid (B = rightB r) := hid hB.symm
  rw [hB]
  clear hB
  obtain ⟨O, hO⟩ : ∃ O, opB r = O := ⟨_, rfl⟩
  have HO := hid (fun u => hO ▸ qop_any r u)
  have HOe := hid hO
  clear hO
  go_enter Tryz.func46, Tryz.ntmps46
  go_wp2_with (go_at_call 85; refine (HO.out _).mono ?_; rintro e w1 ⟨rfl, hb1⟩; have H1 := hid (H0.out.2.trans (hb1.mono H0.out.2.size)); clear hb1)
  all_goals go_ret
  all_goals refine ⟨ret_bool ?_, by first | exact H1.out | exact H0.out.2⟩
  all_goals (rw [HBe.out, rightB, HOe.out, Bool.eq_iff_iff]; simp; try omega)
set_option maxRecDepth 100000 in
set_option maxHeartbeats 6400000 in
theorem qnull_any (r : Rq) (w : World) : Calls Tryz.prog 48 #[.agg #[.int .i64 r.c, .int .i64 r.st, .int .i64 r.k, .string r.key, .float .f64 r.b, .int .i64 r.id]] w fun e w' => e = .returned (.bool (nullB r)) ∧ Below w.heap.size w w' := by
  obtain ⟨c, st, k, key, b, id⟩ := r
  simp only
  have HP := fun (k : Int) (u : World) => qplain_any ⟨c, st, k, key, b, id⟩ u
  simp only at HP
  have HPk : ∀ k, plainB ⟨c, st, k, key, b, id⟩ = plainB ⟨c, st, 0, key, b, id⟩ := fun _ => rfl
  simp only [HPk] at HP
  have HPh := hid HP
  obtain ⟨B, hB⟩ : ∃ B, nullB ⟨c, st, k, key, b, id⟩ = B := ⟨_, rfl⟩
  have HNe : Hid (B = (((((decide (c = 0) && decide (st = 0)) && decide (k = 0)) && decide (key.size = 0)) && plainB ⟨c, st, 0, key, b, id⟩) && decide (id = 0))) := hid (by rw [← hB]; rfl)
  rw [hB]
  clear hB HP HPk
  generalize plainB ⟨c, st, 0, key, b, id⟩ = P at *
  have hz2 := none_size key
  cases hd : decide (key.size = 0) <;> rw [hd] at HNe hz2 <;> cases P <;>
  · clear hd
    go_enter Tryz.func48, Tryz.ntmps48
    go_wp2_with (go_at_call 86; refine (HPh.out _ _).mono ?_; rintro e w1 ⟨rfl, hb1⟩; have H1 := hid (And.intro ((hb1.block _ (by simp)).trans (heap_alloc_last w _)) (((Below.refl w.heap.size w).alloc (Nat.le_refl _) _).trans (hb1.mono (by simp)))); clear hb1; have z5 := cell_at (L := [_, _, _, _, _, _]) H1.out.1 5 _ rfl)
    all_goals go_ret
    all_goals refine ⟨ret_bool ?_, by first | exact H1.out.2 | exact (Below.refl w.heap.size w).alloc (Nat.le_refl _) _⟩
    all_goals (rw [HNe.out]; first | (rw [Bool.eq_iff_iff]; simp_all; done) | (rw [Bool.eq_iff_iff]; simp_all; omega))
end Go.Proofs.YtgmekkgbobmplaaGreat

/- Stores of reals, of requests and of results, as one step of a walk each. -/
namespace Go.Proofs.YtgmekkgbobmplaaGreat
open Go.RowKit

/-- Only block b may be another one. -/
structure One (b : Nat) (w w' : World) : Prop where
  os : w'.os = w.os
  tape : w'.tape = w.tape
  output : w'.output = w.output
  size : w'.heap.size = w.heap.size
  block : ∀ k, k ≠ b → w'.heap[k]? = w.heap[k]?
theorem one_cells (b : Nat) : ∀ (vs : List Value) (o : Nat) (w : World), One b w (w.setCells b o vs)
  | [], _, _ => ⟨rfl, rfl, rfl, rfl, fun _ _ => rfl⟩
  | v :: vs, o, w => by
    have h := one_cells b vs (o + 1) (w.setCell ⟨b, o, none⟩ v)
    exact ⟨h.os, h.tape, h.output, h.size.trans (by simp [World.setCell]), fun k hk => (h.block k hk).trans (Below.heap_setCell _ _ _ _ hk)⟩
theorem One.below {b B : Nat} {x w w' : World} (h : One b w w') (hb : Below B x w) (hB : B ≤ b) : Below B x w' :=
  ⟨h.os.trans hb.os, h.tape.trans hb.tape, h.output.trans hb.output, by rw [h.size]; exact hb.size, fun k hk => (h.block k (by omega)).trans (hb.block k hk)⟩
theorem rq_all {w : World} {b : Nat} {r0 r : Rq} (h : RqAt w b r0) : RqAt (w.setCells b 0 [.int .i64 r.c, .int .i64 r.st, .int .i64 r.k, .string r.key, .float .f64 r.b, .int .i64 r.id]) b r := by
  have h0 := blk_set h 0 (.int .i64 r.c)
  have h1 := blk_set h0 1 (.int .i64 r.st)
  have h2 := blk_set h1 2 (.int .i64 r.k)
  have h3 := blk_set h2 3 (.string r.key)
  have h4 := blk_set h3 4 (.float .f64 r.b)
  have h5 := blk_set h4 5 (.int .i64 r.id)
  exact h5.trans (by simp)
theorem rq_there {w : World} {b : Nat} {r0 : Rq} (h : RqAt w b r0) : w.there b 0 6 := fun j hj => by
  obtain ⟨⟨z0, z1⟩, z2, z3, z4, z5⟩ := h.cells
  refine ⟨?_, free_at h _⟩
  rw [Nat.zero_add]
  match j, hj with
  | 0, _ => rw [z0]; rfl
  | 1, _ => rw [z1]; rfl
  | 2, _ => rw [z2]; rfl
  | 3, _ => rw [z3]; rfl
  | 4, _ => rw [z4]; rfl
  | 5, _ => rw [z5]; rfl
/-- A result in a variable. -/
def RsAt (w : World) (b : Nat) (c : Int) (f : Nat) : Prop := w.heap[b]? = some (.cells [.int .i64 c, .float .f64 f].toArray 43 (0, 0))
theorem RsAt.cells {w : World} {b : Nat} {c : Int} {f : Nat} (h : RsAt w b c f) : w.cell? ⟨b, 0, none⟩ = some (.int .i64 c) ∧ w.cell? ⟨b, 1, none⟩ = some (.float .f64 f) := ⟨cell_at h 0 _ rfl, cell_at h 1 _ rfl⟩
theorem RsAt.keep {w w' : World} {b : Nat} {c : Int} {f : Nat} (h : RsAt w b c f) (hb : Below w.heap.size w w') : RsAt w' b c f := (hb.block b (lt_of_blk h)).trans h
theorem rs_all {w : World} {b : Nat} {c0 c : Int} {f0 f : Nat} (h : RsAt w b c0 f0) : RsAt (w.setCells b 0 [.int .i64 c, .float .f64 f]) b c f := by
  have h0 := blk_set h 0 (.int .i64 c)
  have h1 := blk_set h0 1 (.float .f64 f)
  exact h1.trans (by simp)
theorem rs_there {w : World} {b : Nat} {c : Int} {f : Nat} (h : RsAt w b c f) : w.there b 0 2 := fun j hj => by
  obtain ⟨z0, z1⟩ := h.cells
  refine ⟨?_, free_at h _⟩
  rw [Nat.zero_add]
  match j, hj with
  | 0, _ => rw [z0]; rfl
  | 1, _ => rw [z1]; rfl
section
variable {P : Program} {o : Oper} {a : Act} {w : World} {Q : Exit → Act → World → Prop} {ops : Array Oper} {rest : List Oper}
theorem wl_store_rq (hgd : o.guard = none) (p x : Operand) (ho : o.op = .store 41 p x) (b : Nat) (hp : a.eval p = .pointer (some ⟨b, 0, none⟩)) (r0 r : Rq) (hx : a.eval x = .agg #[.int .i64 r.c, .int .i64 r.st, .int .i64 r.k, .string r.key, .float .f64 r.b, .int .i64 r.id]) (hR : RqAt w b r0)
    (h : ∀ w', Hid (RqAt w' b r ∧ One b w w') → wpList Tryz.prog ops Q rest (a.put o.dst undef) w') : wpList Tryz.prog ops Q (o :: rest) a w :=
  wpList_store_mid (P := Tryz.prog) hgd 41 p x ho b 0 #[.int .i64 r.c, .int .i64 r.st, .int .i64 r.k, .string r.key, .float .f64 r.b, .int .i64 r.id] hp hx (rq_there hR) (by kernel_rfl) (by simp [Value.oneCell']) (h _ ⟨rq_all hR, one_cells b _ 0 w⟩)
theorem wl_store_rs (hgd : o.guard = none) (p x : Operand) (ho : o.op = .store 43 p x) (b : Nat) (hp : a.eval p = .pointer (some ⟨b, 0, none⟩)) (c0 c : Int) (f0 f : Nat) (hx : a.eval x = .agg #[.int .i64 c, .float .f64 f]) (hR : RsAt w b c0 f0)
    (h : ∀ w', Hid (RsAt w' b c f ∧ One b w w') → wpList Tryz.prog ops Q rest (a.put o.dst undef) w') : wpList Tryz.prog ops Q (o :: rest) a w :=
  wpList_store_mid (P := Tryz.prog) hgd 43 p x ho b 0 #[.int .i64 c, .float .f64 f] hp hx (rs_there hR) (by kernel_rfl) (by simp [Value.oneCell']) (h _ ⟨rs_all hR, one_cells b _ 0 w⟩)
/-- A real put into a field. -/
theorem wl_store_f (hgd : o.guard = none) (p x : Operand) (ho : o.op = .store 37 p x) (b off : Nat) (hp : a.eval p = .pointer (some ⟨b, off, none⟩)) (f : Nat) (hx : a.eval x = .float .f64 f) (v : Value) (hc : w.cell? ⟨b, off, none⟩ = some v) (hf : w.frozen? ⟨b, off, none⟩ = false)
    (h : wpList Tryz.prog ops Q rest (a.put o.dst undef) (w.setCell ⟨b, off, none⟩ (.float .f64 f))) : wpList Tryz.prog ops Q (o :: rest) a w := by
  refine wpList_plain hgd fun K hK => owp_skip (w' := w.setCell ⟨b, off, none⟩ (.float .f64 f)) ?_ (hK _ _ h)
  have hi : (Tryz.prog.info? 37).map (·.size) = some 1 := by kernel_rfl
  have hr := run_store Tryz.prog w ⟨b, off, none⟩ (.float .f64 f) .plain rfl
  rw [hc] at hr
  simp only [hf] at hr
  cases hq : Tryz.prog.info? 37 with
  | none => simp [hq] at hi
  | some i =>
    have hs : i.size = 1 := by simp [hq] at hi; omega
    simp [execOp, ho, Instr.storeAt, Instr.sureAddr, hp, hx, storeVar, sizeOf, typeInfo, hq, hs, Value.cells, storeCells, Addr.add, hr, Result.andThen]
end
end Go.Proofs.YtgmekkgbobmplaaGreat

/- Stores into blocks that are known whole, as one step of a walk each. -/
namespace Go.Proofs.YtgmekkgbobmplaaGreat
open Go.RowKit

/-- A list of cells, these put from o on. -/
def setAt : List Value → Nat → List Value → List Value
  | L, _, [] => L
  | L, o, v :: vs => setAt (L.set o v) (o + 1) vs
theorem blk_cells {b : Nat} {T : TypeId} : ∀ (vs : List Value) (o : Nat) (L : List Value) (w : World), w.heap[b]? = some (.cells L.toArray T (0, 0)) → (w.setCells b o vs).heap[b]? = some (.cells (setAt L o vs).toArray T (0, 0))
  | [], _, _, _, h => h
  | v :: vs, o, L, w, h => blk_cells vs (o + 1) (L.set o v) (w.setCell ⟨b, o, none⟩ v) (by have := blk_set h o v; simpa using this)
theorem blk_there {w : World} {b : Nat} {T : TypeId} {L : List Value} (h : w.heap[b]? = some (.cells L.toArray T (0, 0))) (o n : Nat) (hn : o + n ≤ L.length) : w.there b o n := fun j hj => by
  have hl : o + j < L.length := by omega
  exact ⟨by rw [cell_at h (o + j) _ (List.getElem?_eq_getElem hl)]; rfl, free_at h _⟩
section
variable {o : Oper} {a : Act} {w : World} {K : Act → World → Prop} {Q : Exit → Act → World → Prop} {ops : Array Oper} {rest : List Oper}
theorem owp_store_blk (T : TypeId) (p x : Operand) (ho : o.op = .store T p x) (b off : Nat) (hp : a.eval p = .pointer (some ⟨b, off, none⟩)) (cells : Array Value) (hx : a.eval x = .agg cells) (L : List Value) (TB : TypeId) (hL : w.heap[b]? = some (.cells L.toArray TB (0, 0))) (hn : off + cells.size ≤ L.length)
    (hi : (Tryz.prog.info? T).map (·.size) = some cells.size) (h1 : cells.all (·.oneCell') = true) (h : ∀ w', Hid (w'.heap[b]? = some (.cells (setAt L off cells.toList).toArray TB (0, 0)) ∧ One b w w') → K (a.put o.dst undef) w') : o.wp Tryz.prog a w K Q :=
  wp_store_mid (P := Tryz.prog) T p x ho b off cells hp hx (blk_there hL off _ hn) hi h1 (h _ ⟨blk_cells cells.toList off L w hL, one_cells b _ off w⟩)
theorem wl_store_blk (hgd : o.guard = none) (T : TypeId) (p x : Operand) (ho : o.op = .store T p x) (b off : Nat) (hp : a.eval p = .pointer (some ⟨b, off, none⟩)) (cells : Array Value) (hx : a.eval x = .agg cells) (L : List Value) (TB : TypeId) (hL : w.heap[b]? = some (.cells L.toArray TB (0, 0))) (hn : off + cells.size ≤ L.length)
    (hi : (Tryz.prog.info? T).map (·.size) = some cells.size) (h1 : cells.all (·.oneCell') = true) (h : ∀ w', Hid (w'.heap[b]? = some (.cells (setAt L off cells.toList).toArray TB (0, 0)) ∧ One b w w') → wpList Tryz.prog ops Q rest (a.put o.dst undef) w') : wpList Tryz.prog ops Q (o :: rest) a w :=
  wpList_plain hgd fun _ hK => owp_store_blk T p x ho b off hp cells hx L TB hL hn hi h1 (fun w' hw => hK _ _ (h w' hw))
end
end Go.Proofs.YtgmekkgbobmplaaGreat

/- Certificates and changes in memory; variables of cells. No walk here. -/
namespace Go.Proofs.YtgmekkgbobmplaaGreat
open Go.RowKit

/-- A variable of these cells. -/
def BxAt (w : World) (b : Nat) (L : List Value) (T : TypeId) : Prop := w.heap[b]? = some (.cells L.toArray T (0, 0))
theorem BxAt.keep {w w' : World} {b : Nat} {L : List Value} {T : TypeId} (h : BxAt w b L T) (hb : Below w.heap.size w w') : BxAt w' b L T := (hb.block b (lt_of_blk h)).trans h
theorem BxAt.cell {w : World} {b : Nat} {L : List Value} {T : TypeId} (h : BxAt w b L T) (j : Nat) (v : Value) (hv : L[j]? = some v) : w.cell? ⟨b, j, none⟩ = some v := cell_at h j v hv
def ctC (c : Ct) (v : Value) : List Value := [.int .i64 c.1, .int .i64 c.2.1, .int .i64 c.2.2.1.c, .int .i64 c.2.2.1.st, .int .i64 c.2.2.1.k, .string c.2.2.1.key, .float .f64 c.2.2.1.b, .int .i64 c.2.2.1.id, v]
def cgC (c : Cg) (v : Value) : List Value := [.int .i64 c.1, .int .i64 c.2.1, v, .int .i64 c.2.2.2.1, .string c.2.2.2.2]
theorem ct_at {F : Nat → Prop} {w : World} {v : Value} {l : List Ct} (h : Reads F w v (dCts l)) (j : Nat) (hj : j < l.length) :
    ∃ g off cap a k, v = .slice (some ⟨g, off, none⟩) l.length cap ∧ PairsIn w a (l.getD j ct0).2.2.2 ∧ g < w.heap.size ∧ ∀ (q : Nat) (u : Value), (ctC (l.getD j ct0) (.slice a (l.getD j ct0).2.2.2.length k))[q]? = some u → w.cell? ⟨g, off + j * 9 + q, none⟩ = some u := by
  have hx : (l.map dCt)[j]? = some (dCt (l.getD j ct0)) := by rw [List.getElem?_map]; simp [hj]
  obtain ⟨g, off, cap, hv, _, hg, _, hc⟩ := h.at j _ hx
  obtain ⟨u8, k8, r8⟩ := hc 8 _ rfl
  obtain ⟨a, k, rfl, hp, _⟩ := reads_pairs r8
  rw [List.length_map] at hv
  refine ⟨g, off, cap, a, k, hv, hp, hg, fun q u hq => ?_⟩
  match q, hq with
  | 0, hq => obtain ⟨x, k0, r0⟩ := hc 0 _ rfl; rw [r0.int] at k0; cases hq; exact k0
  | 1, hq => obtain ⟨x, k0, r0⟩ := hc 1 _ rfl; rw [r0.int] at k0; cases hq; exact k0
  | 2, hq => obtain ⟨x, k0, r0⟩ := hc 2 _ rfl; rw [r0.int] at k0; cases hq; exact k0
  | 3, hq => obtain ⟨x, k0, r0⟩ := hc 3 _ rfl; rw [r0.int] at k0; cases hq; exact k0
  | 4, hq => obtain ⟨x, k0, r0⟩ := hc 4 _ rfl; rw [r0.int] at k0; cases hq; exact k0
  | 5, hq => obtain ⟨x, k0, r0⟩ := hc 5 _ rfl; rw [r0.str] at k0; cases hq; exact k0
  | 6, hq => obtain ⟨x, k0, r0⟩ := hc 6 _ rfl; rw [r0.flt] at k0; cases hq; exact k0
  | 7, hq => obtain ⟨x, k0, r0⟩ := hc 7 _ rfl; rw [r0.int] at k0; cases hq; exact k0
  | 8, hq => cases hq; exact k8
  | q + 9, hq => cases hq
theorem cg_at {F : Nat → Prop} {w : World} {v : Value} {l : List Cg} (h : Reads F w v (dCgs l)) (j : Nat) (hj : j < l.length) :
    ∃ g off cap a n k, v = .slice (some ⟨g, off, none⟩) l.length cap ∧ Reads F w (.slice a n k) (dCts (l.getD j cg0).2.2.1) ∧ g < w.heap.size ∧ ∀ (q : Nat) (u : Value), (cgC (l.getD j cg0) (.slice a n k))[q]? = some u → w.cell? ⟨g, off + j * 5 + q, none⟩ = some u := by
  have hx : (l.map dCg)[j]? = some (dCg (l.getD j cg0)) := by rw [List.getElem?_map]; simp [hj]
  obtain ⟨g, off, cap, hv, _, hg, _, hc⟩ := h.at j _ hx
  obtain ⟨u2, k2, r2⟩ := hc 2 _ rfl
  obtain ⟨a, k, hu⟩ := Reads.form r2
  subst hu
  rw [List.length_map] at hv
  refine ⟨g, off, cap, a, _, k, hv, r2, hg, fun q u hq => ?_⟩
  match q, hq with
  | 0, hq => obtain ⟨x, k0, r0⟩ := hc 0 _ rfl; rw [r0.int] at k0; cases hq; exact k0
  | 1, hq => obtain ⟨x, k0, r0⟩ := hc 1 _ rfl; rw [r0.int] at k0; cases hq; exact k0
  | 2, hq => cases hq; exact k2
  | 3, hq => obtain ⟨x, k0, r0⟩ := hc 3 _ rfl; rw [r0.int] at k0; cases hq; exact k0
  | 4, hq => obtain ⟨x, k0, r0⟩ := hc 4 _ rfl; rw [r0.str] at k0; cases hq; exact k0
  | q + 5, hq => cases hq

theorem heap_lt {w : World} {k : Nat} {o : Obj} (h : w.heap[k]? = some o) : k < w.heap.size := by
  rcases Nat.lt_or_ge k w.heap.size with h1 | h1
  · exact h1
  · rw [Array.getElem?_eq_none h1] at h; cases h
theorem inR_of {s : Nat} {z : Int} (h0 : 0 ≤ z) (h1 : z < ((256 ^ s : Nat) : Int)) : inR s z = true := decide_eq_true ⟨h0, h1⟩
theorem flat_snoc {α : Type} {f : α → List UInt8} {l : List α} {d : α} (j : Nat) (hj : j < l.length) : (l.take j).flatMap f ++ f (l.getD j d) = (l.take (j + 1)).flatMap f := by
  rw [List.take_succ_eq_append_getElem hj, List.flatMap_append]
  simp [hj]
end Go.Proofs.YtgmekkgbobmplaaGreat
