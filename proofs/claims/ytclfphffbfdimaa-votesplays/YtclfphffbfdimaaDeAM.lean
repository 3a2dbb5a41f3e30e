/- Data of any depth in memory: numbers, bools, texts, lists of structs of such. No walk here. -/
import Derived.Test.YtclfphffbfdimaaKb1
namespace Go.Proofs.Ytclfphffbfdimaa
open Go.RowKit

/-- What a cell tells: a number, a bool, a text, or a list, each of whose elements lies in sz cells. -/
inductive Dat where
  | i (x : Int)
  | b (x : Bool)
  | s (x : ByteArray)
  | q (x : Nat)
  | f (x : Nat)
  | l (sz : Nat) (es : List (List Dat))
/-- The value v reads as d in w, through blocks of F alone. -/
inductive Reads (F : Nat → Prop) (w : World) : Value → Dat → Prop where
  | i (x : Int) : Reads F w (.int .i64 x) (.i x)
  | b (x : Bool) : Reads F w (.bool x) (.b x)
  | s (x : ByteArray) : Reads F w (.string x) (.s x)
  | q (x : Nat) : Reads F w (.int .u64 (x : Int)) (.q x)
  | f (x : Nat) : Reads F w (.float .f64 x) (.f x)
  | nil (ad : Option Addr) (cap sz : Nat) : Reads F w (.slice ad 0 cap) (.l sz [])
  | l (g off cap sz : Nat) (es : List (List Dat)) (c : Nat → Nat → Value) (hF : F g) (hg : g < w.heap.size)
      (hs : ∀ (j : Nat) (e : List Dat), es[j]? = some e → e.length = sz)
      (hc : ∀ (j : Nat) (e : List Dat) (q : Nat) (d : Dat), es[j]? = some e → e[q]? = some d → w.cell? ⟨g, off + j * sz + q, none⟩ = some (c j q))
      (hr : ∀ (j : Nat) (e : List Dat) (q : Nat) (d : Dat), es[j]? = some e → e[q]? = some d → Reads F w (c j q) d) : Reads F w (.slice (some ⟨g, off, none⟩) es.length cap) (.l sz es)
theorem Reads.keep {F : Nat → Prop} {w w' : World} {v : Value} {d : Dat} (h : Reads F w v d) (hs : w.heap.size ≤ w'.heap.size) (hb : ∀ k, k < w.heap.size → F k → w'.heap[k]? = w.heap[k]?) : Reads F w' v d := by
  induction h with
  | i x => exact .i x
  | b x => exact .b x
  | s x => exact .s x
  | q x => exact .q x
  | f x => exact .f x
  | nil ad cap sz => exact .nil ad cap sz
  | l g off cap sz es c hF hg hsz hc _ ih => exact .l g off cap sz es c hF (Nat.lt_of_lt_of_le hg hs) hsz (fun j e q d he hd => (World.cell?_of_block (hb g hg hF)).trans (hc j e q d he hd)) ih
theorem Reads.under {F : Nat → Prop} {w w' : World} {v : Value} {d : Dat} {B : Nat} (h : Reads F w v d) (hb : Below B w w') (hB : w.heap.size ≤ B) : Reads F w' v d :=
  h.keep hb.size (fun k hk _ => hb.block k (Nat.lt_of_lt_of_le hk hB))
theorem Reads.mono {F F' : Nat → Prop} {w : World} {v : Value} {d : Dat} (h : Reads F w v d) (hF : ∀ k, k < w.heap.size → F k → F' k) : Reads F' w v d := by
  induction h with
  | i x => exact .i x
  | b x => exact .b x
  | s x => exact .s x
  | q x => exact .q x
  | f x => exact .f x
  | nil ad cap sz => exact .nil ad cap sz
  | l g off cap sz es c hFg hg hsz hc _ ih => exact .l g off cap sz es c (hF g hg hFg) hg hsz hc ih
theorem Reads.move {F F' : Nat → Prop} {w w' : World} {v : Value} {d : Dat} (h : Reads F w v d) (hs : w.heap.size ≤ w'.heap.size) (hb : ∀ k, k < w.heap.size → F k → w'.heap[k]? = w.heap[k]? ∧ F' k) : Reads F' w' v d := by
  induction h with
  | i x => exact .i x
  | b x => exact .b x
  | s x => exact .s x
  | q x => exact .q x
  | f x => exact .f x
  | nil ad cap sz => exact .nil ad cap sz
  | l g off cap sz es c hF hg hsz hc _ ih => exact .l g off cap sz es c (hb g hg hF).2 (Nat.lt_of_lt_of_le hg hs) hsz (fun j e q d he hd => (World.cell?_of_block (hb g hg hF).1).trans (hc j e q d he hd)) ih
/-- A list, opened at its j-th element. -/
theorem Reads.at {F : Nat → Prop} {w : World} {v : Value} {sz : Nat} {es : List (List Dat)} (h : Reads F w v (.l sz es)) (j : Nat) (e : List Dat) (hj : es[j]? = some e) :
    ∃ g off cap, v = .slice (some ⟨g, off, none⟩) es.length cap ∧ F g ∧ g < w.heap.size ∧ e.length = sz ∧ ∀ (q : Nat) (d : Dat), e[q]? = some d → ∃ u, w.cell? ⟨g, off + j * sz + q, none⟩ = some u ∧ Reads F w u d := by
  cases h with
  | nil ad cap sz => simp at hj
  | l g off cap sz es c hF hg hs hc hr => exact ⟨g, off, cap, rfl, hF, hg, hs j e hj, fun q d hd => ⟨c j q, hc j e q d hj hd, hr j e q d hj hd⟩⟩
theorem Reads.form {F : Nat → Prop} {w : World} {v : Value} {sz : Nat} {es : List (List Dat)} (h : Reads F w v (.l sz es)) : ∃ ad cap, v = .slice ad es.length cap := by
  cases h with
  | nil ad cap sz => exact ⟨ad, cap, rfl⟩
  | l g off cap sz es c hF hg hs hc hr => exact ⟨_, cap, rfl⟩
theorem Reads.int {F : Nat → Prop} {w : World} {v : Value} {x : Int} (h : Reads F w v (.i x)) : v = .int .i64 x := by cases h; rfl
theorem Reads.bool {F : Nat → Prop} {w : World} {v : Value} {x : Bool} (h : Reads F w v (.b x)) : v = .bool x := by cases h; rfl
theorem Reads.quad {F : Nat → Prop} {w : World} {v : Value} {x : Nat} (h : Reads F w v (.q x)) : v = .int .u64 (x : Int) := by cases h; rfl
theorem Reads.flt {F : Nat → Prop} {w : World} {v : Value} {x : Nat} (h : Reads F w v (.f x)) : v = .float .f64 x := by cases h; rfl
theorem Reads.str {F : Nat → Prop} {w : World} {v : Value} {x : ByteArray} (h : Reads F w v (.s x)) : v = .string x := by cases h; rfl
/-- Numbers, pairs, as data. -/
def dInts (xs : List Int) : Dat := .l 1 (xs.map fun x => [.i x])
def dPairs (ps : List (Int × ByteArray)) : Dat := .l 2 (ps.map fun p => [.i p.1, .s p.2])
def dStrs (ss : List ByteArray) : Dat := .l 1 (ss.map fun x => [.s x])
theorem reads_ints {F : Nat → Prop} {w : World} {v : Value} {xs : List Int} (h : Reads F w v (dInts xs)) : ∃ ad cap, v = .slice ad xs.length cap ∧ IntsIn w ad xs ∧ ∀ x, ad = some x → xs ≠ [] → F x.block := by
  cases xs with
  | nil =>
    obtain ⟨ad, cap, hv⟩ := h.form
    exact ⟨ad, cap, hv, .inl rfl, fun _ _ hne => absurd rfl hne⟩
  | cons x0 xs =>
    obtain ⟨g, off, cap, hv, hF, hg, _, _⟩ := h.at 0 [.i x0] rfl
    refine ⟨_, cap, by rw [hv, List.length_map], .inr ⟨g, off, rfl, hg, fun j z hz => ?_⟩, fun x hx _ => by cases hx; exact hF⟩
    obtain ⟨g', off', cap', hv', _, _, _, hc⟩ := h.at j [.i z] (by rw [List.getElem?_map, hz]; rfl)
    rw [hv] at hv'
    cases hv'
    obtain ⟨u, h1, h2⟩ := hc 0 (.i z) rfl
    rw [h2.int] at h1
    simpa using h1
theorem reads_pairs {F : Nat → Prop} {w : World} {v : Value} {ps : List (Int × ByteArray)} (h : Reads F w v (dPairs ps)) : ∃ ad cap, v = .slice ad ps.length cap ∧ PairsIn w ad ps ∧ ∀ x, ad = some x → ps ≠ [] → F x.block := by
  cases ps with
  | nil =>
    obtain ⟨ad, cap, hv⟩ := h.form
    exact ⟨ad, cap, hv, .inl rfl, fun _ _ hne => absurd rfl hne⟩
  | cons p0 ps =>
    obtain ⟨g, off, cap, hv, hF, hg, _, _⟩ := h.at 0 [.i p0.1, .s p0.2] rfl
    refine ⟨_, cap, by rw [hv, List.length_map], .inr ⟨g, off, rfl, hg, fun j z hz => ?_⟩, fun x hx _ => by cases hx; exact hF⟩
    obtain ⟨g', off', cap', hv', _, _, _, hc⟩ := h.at j [.i z.1, .s z.2] (by rw [List.getElem?_map, hz]; rfl)
    rw [hv] at hv'
    cases hv'
    obtain ⟨u0, h1, h2⟩ := hc 0 (.i z.1) rfl
    obtain ⟨u1, h3, h4⟩ := hc 1 (.s z.2) rfl
    rw [h2.int] at h1
    rw [h4.str] at h3
    exact ⟨by simpa using h1, h3⟩
theorem ints_reads {F : Nat → Prop} {w : World} {ad : Option Addr} {cap : Nat} {xs : List Int} (h : IntsIn w ad xs) (hF : ∀ x, ad = some x → xs ≠ [] → F x.block) : Reads F w (.slice ad xs.length cap) (dInts xs) := by
  rcases h with rfl | ⟨g, off, rfl, hg, hc⟩
  · exact .nil ad cap 1
  · cases xs with
    | nil => exact .nil _ cap 1
    | cons x0 xs =>
      have := Reads.l (F := F) (w := w) g off cap 1 ((x0 :: xs).map fun x => [Dat.i x]) (fun j _ => .int .i64 ((x0 :: xs).getD j 0)) (hF _ rfl (by simp)) hg
        (fun j e he => by rw [List.getElem?_map] at he; cases h : (x0 :: xs)[j]? with | none => rw [h] at he; cases he | some x => rw [h] at he; cases he; rfl)
        (fun j e q d he hd => by
          rw [List.getElem?_map] at he
          cases h : (x0 :: xs)[j]? with
          | none => rw [h] at he; cases he
          | some x =>
            rw [h] at he
            cases he
            cases q with
            | succ q => simp at hd
            | zero =>
              rw [Nat.mul_one, Nat.add_zero, List.getD_eq_getElem?_getD, h]
              exact hc j x h)
        (fun j e q d he hd => by
          rw [List.getElem?_map] at he
          cases h : (x0 :: xs)[j]? with
          | none => rw [h] at he; cases he
          | some x =>
            rw [h] at he
            cases he
            cases q with
            | succ q => simp at hd
            | zero =>
              simp at hd
              subst hd
              rw [List.getD_eq_getElem?_getD, h]
              exact .i x)
      rwa [List.length_map] at this
theorem pairs_reads {F : Nat → Prop} {w : World} {ad : Option Addr} {cap : Nat} {ps : List (Int × ByteArray)} (h : PairsIn w ad ps) (hF : ∀ x, ad = some x → ps ≠ [] → F x.block) : Reads F w (.slice ad ps.length cap) (dPairs ps) := by
  rcases h with rfl | ⟨g, off, rfl, hg, hc⟩
  · exact .nil ad cap 2
  · cases ps with
    | nil => exact .nil _ cap 2
    | cons p0 ps =>
      have hget : ∀ (j : Nat) (e : List Dat), ((p0 :: ps).map fun p => [Dat.i p.1, Dat.s p.2])[j]? = some e → ∃ p, (p0 :: ps)[j]? = some p ∧ e = [Dat.i p.1, Dat.s p.2] := fun j e he => by
        rw [List.getElem?_map] at he
        cases h : (p0 :: ps)[j]? with
        | none => rw [h] at he; cases he
        | some p => rw [h] at he; cases he; exact ⟨p, rfl, rfl⟩
      have := Reads.l (F := F) (w := w) g off cap 2 ((p0 :: ps).map fun p => [Dat.i p.1, Dat.s p.2]) (fun j q => if q = 0 then .int .i64 ((p0 :: ps).getD j p0).1 else .string ((p0 :: ps).getD j p0).2) (hF _ rfl (by simp)) hg
        (fun j e he => by obtain ⟨p, _, rfl⟩ := hget j e he; rfl)
        (fun j e q d he hd => by
          obtain ⟨p, hp, rfl⟩ := hget j e he
          rw [List.getD_eq_getElem?_getD, hp]
          match q, hd with
          | 0, _ => exact (hc j p hp).1
          | 1, _ => exact (hc j p hp).2)
        (fun j e q d he hd => by
          obtain ⟨p, hp, rfl⟩ := hget j e he
          rw [List.getD_eq_getElem?_getD, hp]
          match q, hd with
          | 0, hd => simp at hd; subst hd; exact .i _
          | 1, hd => simp at hd; subst hd; exact .s _)
      rwa [List.length_map] at this
end Go.Proofs.Ytclfphffbfdimaa
