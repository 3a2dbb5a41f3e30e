/- Texts laid together: DeA DeC OpA OpC. -/
import Derived.Test.YtecidbdbdnnglaaGreatPaA
import Derived.Test.YtecidbdbdnnglaaGreatRows
import Derived.ProofKit
import Derived.OpenShut
import Derived.ShutString
import Derived.ChangeOld
import Derived.Deep.Slices
import Derived.Test.YtecidbdbdnnglaaGreatMx2
/- Data of any depth in memory: numbers, bools, texts, lists of structs of such. No walk here. -/
namespace Go.Proofs.YtecidbdbdnnglaaGreat
open Go.RowKit

/-- What a cell tells: a number, a bool, a text, or a list, each of whose elements lies in sz cells. -/
inductive Dat where
  | i (x : Int)
  | b (x : Bool)
  | s (x : ByteArray)
  | q (x : Nat)
  | l (sz : Nat) (es : List (List Dat))
/-- The value v reads as d in w, through blocks of F alone. -/
inductive Reads (F : Nat → Prop) (w : World) : Value → Dat → Prop where
  | i (x : Int) : Reads F w (.int .i64 x) (.i x)
  | b (x : Bool) : Reads F w (.bool x) (.b x)
  | s (x : ByteArray) : Reads F w (.string x) (.s x)
  | q (x : Nat) : Reads F w (.int .u64 (x : Int)) (.q x)
  | nil (ad : Option Addr) (cap sz : Nat) : Reads F w (.slice ad 0 cap) (.l sz [])
  | l (g off cap sz : Nat) (es : List (List Dat)) (c : Nat → Nat → Value) (hF : F g) (hg : g < w.heap.size)
      (hs : ∀ (j : Nat) (e : List Dat), es[j]? = some e → e.length = sz)
      (hc : ∀ (j : Nat) (e : List Dat) (q : Nat) (d : Dat), es[j]? = some e → e[q]? = some d → w.cell? ⟨g, off + j * sz + q, none⟩ = some (c j q))
      (hr : ∀ (j : Nat) (e : List Dat) (q : Nat) (d : Dat), es[j]? = some e → e[q]? = some d → Reads F w (c j q) d) : Reads F w (.slice (some ⟨g, off, none⟩) es.length cap) (.l sz es)
theorem Reads.keep {F : Nat → Prop} {w w' : World} {v : Value} {d : Dat} (h : Reads F w v d) (hs : w.heap.size ≤ w'.heap.size) (hb : ∀ k, k < w.heap.size → F k → w'.heap[k]? = w.heap[k]?) : Reads F w' v d := by
  induction h with
  | i x => exact .i x
  | b x => exact .b x
  | s x => exact .s x
  | q x => exact .q x
  | nil ad cap sz => exact .nil ad cap sz
  | l g off cap sz es c hF hg hsz hc _ ih => exact .l g off cap sz es c hF (Nat.lt_of_lt_of_le hg hs) hsz (fun j e q d he hd => (World.cell?_of_block (hb g hg hF)).trans (hc j e q d he hd)) ih
theorem Reads.under {F : Nat → Prop} {w w' : World} {v : Value} {d : Dat} {B : Nat} (h : Reads F w v d) (hb : Below B w w') (hB : w.heap.size ≤ B) : Reads F w' v d :=
  h.keep hb.size (fun k hk _ => hb.block k (Nat.lt_of_lt_of_le hk hB))
theorem Reads.mono {F F' : Nat → Prop} {w : World} {v : Value} {d : Dat} (h : Reads F w v d) (hF : ∀ k, k < w.heap.size → F k → F' k) : Reads F' w v d := by
  induction h with
  | i x => exact .i x
  | b x => exact .b x
  | s x => exact .s x
  | q x => exact .q x
  | nil ad cap sz => exact .nil ad cap sz
  | l g off cap sz es c hFg hg hsz hc _ ih => exact .l g off cap sz es c (hF g hg hFg) hg hsz hc ih
theorem Reads.move {F F' : Nat → Prop} {w w' : World} {v : Value} {d : Dat} (h : Reads F w v d) (hs : w.heap.size ≤ w'.heap.size) (hb : ∀ k, k < w.heap.size → F k → w'.heap[k]? = w.heap[k]? ∧ F' k) : Reads F' w' v d := by
  induction h with
  | i x => exact .i x
  | b x => exact .b x
  | s x => exact .s x
  | q x => exact .q x
  | nil ad cap sz => exact .nil ad cap sz
  | l g off cap sz es c hF hg hsz hc _ ih => exact .l g off cap sz es c (hb g hg hF).2 (Nat.lt_of_lt_of_le hg hs) hsz (fun j e q d he hd => (World.cell?_of_block (hb g hg hF).1).trans (hc j e q d he hd)) ih
/-- A list, opened at its j-th element. -/
theorem Reads.at {F : Nat → Prop} {w : World} {v : Value} {sz : Nat} {es : List (List Dat)} (h : Reads F w v (.l sz es)) (j : Nat) (e : List Dat) (hj : es[j]? = some e) :
    ∃ g off cap, v = .slice (some ⟨g, off, none⟩) es.length cap ∧ F g ∧ g < w.heap.size ∧ e.length = sz ∧ ∀ (q : Nat) (d : Dat), e[q]? = some d → ∃ u, w.cell? ⟨g, off + j * sz + q, none⟩ = some u ∧ Reads F w u d := by
  cases h with
  | nil ad cap sz => simp at hj
  | l g off cap sz es c hF hg hs hc hr => exact ⟨g, off, cap, rfl, hF, hg, hs j e hj, fun q d hd => ⟨c j q, hc j e q d hj hd, hr j e q d hj hd⟩⟩
theorem Reads.form {F : Nat → Prop} {w : World} {v : Value} {sz : Nat} {es : List (List Dat)} (h : Reads F w v (.l sz es)) : ∃ ad cap, v = .slice ad es.length cap := by
  cases h with
  | nil ad cap sz => exact ⟨ad, cap, rfl⟩
  | l g off cap sz es c hF hg hs hc hr => exact ⟨_, cap, rfl⟩
theorem Reads.int {F : Nat → Prop} {w : World} {v : Value} {x : Int} (h : Reads F w v (.i x)) : v = .int .i64 x := by cases h; rfl
theorem Reads.bool {F : Nat → Prop} {w : World} {v : Value} {x : Bool} (h : Reads F w v (.b x)) : v = .bool x := by cases h; rfl
theorem Reads.quad {F : Nat → Prop} {w : World} {v : Value} {x : Nat} (h : Reads F w v (.q x)) : v = .int .u64 (x : Int) := by cases h; rfl
theorem Reads.str {F : Nat → Prop} {w : World} {v : Value} {x : ByteArray} (h : Reads F w v (.s x)) : v = .string x := by cases h; rfl
/-- Numbers, pairs, as data. -/
def dInts (xs : List Int) : Dat := .l 1 (xs.map fun x => [.i x])
def dPairs (ps : List (Int × ByteArray)) : Dat := .l 2 (ps.map fun p => [.i p.1, .s p.2])
def dStrs (ss : List ByteArray) : Dat := .l 1 (ss.map fun x => [.s x])
theorem reads_ints {F : Nat → Prop} {w : World} {v : Value} {xs : List Int} (h : Reads F w v (dInts xs)) : ∃ ad cap, v = .slice ad xs.length cap ∧ IntsIn w ad xs ∧ ∀ x, ad = some x → xs ≠ [] → F x.block := by
  cases xs with
  | nil =>
    obtain ⟨ad, cap, hv⟩ := h.form
    exact ⟨ad, cap, hv, .inl rfl, fun _ _ hne => absurd rfl hne⟩
  | cons x0 xs =>
    obtain ⟨g, off, cap, hv, hF, hg, _, _⟩ := h.at 0 [.i x0] rfl
    refine ⟨_, cap, by rw [hv, List.length_map], .inr ⟨g, off, rfl, hg, fun j z hz => ?_⟩, fun x hx _ => by cases hx; exact hF⟩
    obtain ⟨g', off', cap', hv', _, _, _, hc⟩ := h.at j [.i z] (by rw [List.getElem?_map, hz]; rfl)
    rw [hv] at hv'
    cases hv'
    obtain ⟨u, h1, h2⟩ := hc 0 (.i z) rfl
    rw [h2.int] at h1
    simpa using h1
theorem reads_pairs {F : Nat → Prop} {w : World} {v : Value} {ps : List (Int × ByteArray)} (h : Reads F w v (dPairs ps)) : ∃ ad cap, v = .slice ad ps.length cap ∧ PairsIn w ad ps ∧ ∀ x, ad = some x → ps ≠ [] → F x.block := by
  cases ps with
  | nil =>
    obtain ⟨ad, cap, hv⟩ := h.form
    exact ⟨ad, cap, hv, .inl rfl, fun _ _ hne => absurd rfl hne⟩
  | cons p0 ps =>
    obtain ⟨g, off, cap, hv, hF, hg, _, _⟩ := h.at 0 [.i p0.1, .s p0.2] rfl
    refine ⟨_, cap, by rw [hv, List.length_map], .inr ⟨g, off, rfl, hg, fun j z hz => ?_⟩, fun x hx _ => by cases hx; exact hF⟩
    obtain ⟨g', off', cap', hv', _, _, _, hc⟩ := h.at j [.i z.1, .s z.2] (by rw [List.getElem?_map, hz]; rfl)
    rw [hv] at hv'
    cases hv'
    obtain ⟨u0, h1, h2⟩ := hc 0 (.i z.1) rfl
    obtain ⟨u1, h3, h4⟩ := hc 1 (.s z.2) rfl
    rw [h2.int] at h1
    rw [h4.str] at h3
    exact ⟨by simpa using h1, h3⟩
theorem ints_reads {F : Nat → Prop} {w : World} {ad : Option Addr} {cap : Nat} {xs : List Int} (h : IntsIn w ad xs) (hF : ∀ x, ad = some x → xs ≠ [] → F x.block) : Reads F w (.slice ad xs.length cap) (dInts xs) := by
  rcases h with rfl | ⟨g, off, rfl, hg, hc⟩
  · exact .nil ad cap 1
  · cases xs with
    | nil => exact .nil _ cap 1
    | cons x0 xs =>
      have := Reads.l (F := F) (w := w) g off cap 1 ((x0 :: xs).map fun x => [Dat.i x]) (fun j _ => .int .i64 ((x0 :: xs).getD j 0)) (hF _ rfl (by simp)) hg
        (fun j e he => by rw [List.getElem?_map] at he; cases h : (x0 :: xs)[j]? with | none => rw [h] at he; cases he | some x => rw [h] at he; cases he; rfl)
        (fun j e q d he hd => by
          rw [List.getElem?_map] at he
          cases h : (x0 :: xs)[j]? with
          | none => rw [h] at he; cases he
          | some x =>
            rw [h] at he
            cases he
            cases q with
            | succ q => simp at hd
            | zero =>
              rw [Nat.mul_one, Nat.add_zero, List.getD_eq_getElem?_getD, h]
              exact hc j x h)
        (fun j e q d he hd => by
          rw [List.getElem?_map] at he
          cases h : (x0 :: xs)[j]? with
          | none => rw [h] at he; cases he
          | some x =>
            rw [h] at he
            cases he
            cases q with
            | succ q => simp at hd
            | zero =>
              simp at hd
              subst hd
              rw [List.getD_eq_getElem?_getD, h]
              exact .i x)
      rwa [List.length_map] at this
theorem pairs_reads {F : Nat → Prop} {w : World} {ad : Option Addr} {cap : Nat} {ps : List (Int × ByteArray)} (h : PairsIn w ad ps) (hF : ∀ x, ad = some x → ps ≠ [] → F x.block) : Reads F w (.slice ad ps.length cap) (dPairs ps) := by
  rcases h with rfl | ⟨g, off, rfl, hg, hc⟩
  · exact .nil ad cap 2
  · cases ps with
    | nil => exact .nil _ cap 2
    | cons p0 ps =>
      have hget : ∀ (j : Nat) (e : List Dat), ((p0 :: ps).map fun p => [Dat.i p.1, Dat.s p.2])[j]? = some e → ∃ p, (p0 :: ps)[j]? = some p ∧ e = [Dat.i p.1, Dat.s p.2] := fun j e he => by
        rw [List.getElem?_map] at he
        cases h : (p0 :: ps)[j]? with
        | none => rw [h] at he; cases he
        | some p => rw [h] at he; cases he; exact ⟨p, rfl, rfl⟩
      have := Reads.l (F := F) (w := w) g off cap 2 ((p0 :: ps).map fun p => [Dat.i p.1, Dat.s p.2]) (fun j q => if q = 0 then .int .i64 ((p0 :: ps).getD j p0).1 else .string ((p0 :: ps).getD j p0).2) (hF _ rfl (by simp)) hg
        (fun j e he => by obtain ⟨p, _, rfl⟩ := hget j e he; rfl)
        (fun j e q d he hd => by
          obtain ⟨p, hp, rfl⟩ := hget j e he
          rw [List.getD_eq_getElem?_getD, hp]
          match q, hd with
          | 0, _ => exact (hc j p hp).1
          | 1, _ => exact (hc j p hp).2)
        (fun j e q d he hd => by
          obtain ⟨p, hp, rfl⟩ := hget j e he
          rw [List.getD_eq_getElem?_getD, hp]
          match q, hd with
          | 0, hd => simp at hd; subst hd; exact .i _
          | 1, hd => simp at hd; subst hd; exact .s _)
      rwa [List.length_map] at this
end Go.Proofs.YtecidbdbdnnglaaGreat

/- The room of lists of any depth in memory. No walk here. -/
namespace Go.Proofs.YtecidbdbdnnglaaGreat
open Go.RowKit

/-- Each list has room for what it holds. -/
inductive Caps (w : World) : Value → Dat → Prop where
  | i (x : Int) : Caps w (.int .i64 x) (.i x)
  | b (x : Bool) : Caps w (.bool x) (.b x)
  | s (x : ByteArray) : Caps w (.string x) (.s x)
  | q (x : Nat) : Caps w (.int .u64 (x : Int)) (.q x)
  | l (ad : Option Addr) (n cap sz : Nat) (es : List (List Dat)) (hn : n ≤ cap)
      (h : ∀ (g off j q : Nat) (e : List Dat) (d : Dat) (u : Value), ad = some ⟨g, off, none⟩ → es[j]? = some e → e[q]? = some d → w.cell? ⟨g, off + j * sz + q, none⟩ = some u → Caps w u d) : Caps w (.slice ad n cap) (.l sz es)
theorem Caps.room {w : World} {v : Value} {sz : Nat} {es : List (List Dat)} (h : Caps w v (.l sz es)) : ∀ ad n c, v = .slice ad n c → n ≤ c := fun ad n c hv => by
  cases h with
  | l ad' n' cap' sz es hn h => cases hv; exact hn
theorem Caps.at {w : World} {g off n cap sz : Nat} {es : List (List Dat)} (h : Caps w (.slice (some ⟨g, off, none⟩) n cap) (.l sz es)) {j q : Nat} {e : List Dat} {d : Dat} {u : Value} (hj : es[j]? = some e) (hq : e[q]? = some d) (hu : w.cell? ⟨g, off + j * sz + q, none⟩ = some u) : Caps w u d := by
  cases h with
  | l ad n cap sz es hn h => exact h g off j q e d u rfl hj hq hu
end Go.Proofs.YtecidbdbdnnglaaGreat

/- Arguments of any depth, opened at once: what a type tells (Sh), what data fits it, and that an argument that the row reads as such reads so in memory. No walk here. -/
namespace Go.Proofs.YtecidbdbdnnglaaGreat
open Go.ChangeShapes Go.WideShapes Go.ChangeAt Go.RowKit

/-- What a type tells: a number, a bool, a text, a list, a struct (its fields one behind the other: c, u). -/
inductive Sh where
  | i | b | s | q
  | l (bytes sz : Nat) (e : Sh)
  | st (f : Sh)
  | u
  | c (a r : Sh)
def Sh.sz : Sh → Nat
  | .i => 1 | .b => 1 | .s => 1 | .q => 1
  | .l _ _ _ => 1
  | .st f => f.sz
  | .u => 0
  | .c a r => a.sz + r.sz
/-- The type t (or the fields from offset o on) tells that. -/
def Sh.Of (P : Program) : Sh → TypeId ⊕ (List Field × Nat) → Prop
  | .i, .inl t => P.underlying t = some (.int .i64)
  | .b, .inl t => P.underlying t = some .bool
  | .s, .inl t => P.underlying t = some .string
  | .q, .inl t => P.underlying t = some (.int .u64)
  | .l bytes sz e, .inl t => ∃ te, P.underlying t = some (.slice te) ∧ P.bytesOf te = bytes ∧ P.cellsOf te = sz ∧ e.sz = sz ∧ 0 < sz ∧ Sh.Of P e (.inl te)
  | .st f, .inl t => ∃ fs, P.underlying t = some (.struct fs) ∧ P.cellsOf t = f.sz ∧ Sh.Of P f (.inr (fs.toList, 0))
  | .u, .inr x => x.1 = []
  | .c a r, .inr x => ∃ f fs, x.1 = f :: fs ∧ f.offset = x.2 ∧ P.cellsOf f.type = a.sz ∧ Sh.Of P a (.inl f.type) ∧ Sh.Of P r (.inr (fs, x.2 + a.sz))
  | _, _ => False
/-- The data ds fits it; S: where the row bounds what is reached; U: the bulk. -/
def Fits (S : Prop) (U : Nat) : Sh → List Dat → Prop
  | .i, ds => ∃ x : Int, ds = [.i x] ∧ -9223372036854775808 ≤ x ∧ x ≤ 9223372036854775807
  | .b, ds => ∃ x : Bool, ds = [.b x]
  | .s, ds => ∃ x : ByteArray, ds = [.s x] ∧ x.size ≤ maxLen ∧ (S → x.size ≤ 140737488351232) ∧ x.size ≤ U
  | .q, ds => ∃ x : Nat, ds = [.q x] ∧ x < 18446744073709551616
  | .l bytes sz e, ds => ∃ es : List (List Dat), ds = [.l sz es] ∧ es.length ≤ maxLen ∧ (S → es.length * bytes ≤ 140737488351232) ∧ es.length ≤ U ∧ ∀ d, d ∈ es → Fits S U e d
  | .st f, ds => Fits S U f ds
  | .u, ds => ds = []
  | .c a r, ds => ∃ d1 d2, ds = d1 ++ d2 ∧ Fits S U a d1 ∧ Fits S U r d2
theorem Fits.mono {S S' : Prop} {U U' : Nat} (hS : S' → S) (hU : U ≤ U') : ∀ {sh : Sh} {ds : List Dat}, Fits S U sh ds → Fits S' U' sh ds
  | .i, _, h => h
  | .b, _, h => h
  | .q, _, h => h
  | .s, _, ⟨x, h1, h2, h3, h4⟩ => ⟨x, h1, h2, fun s => h3 (hS s), Nat.le_trans h4 hU⟩
  | .l _ _ _, _, ⟨es, h1, h2, h3, h4, h5⟩ => ⟨es, h1, h2, fun s => h3 (hS s), Nat.le_trans h4 hU, fun d hd => Fits.mono hS hU (h5 d hd)⟩
  | .st f, ds, h => Fits.mono (sh := f) (ds := ds) hS hU h
  | .u, _, h => h
  | .c _ _, _, ⟨d1, d2, h1, h2, h3⟩ => ⟨d1, d2, h1, Fits.mono hS hU h2, Fits.mono hS hU h3⟩
theorem Fits.len {S : Prop} {U : Nat} : ∀ {sh : Sh} {ds : List Dat}, Fits S U sh ds → ds.length = sh.sz
  | .i, _, ⟨x, h, _⟩ => by rw [h]; rfl
  | .b, _, ⟨x, h⟩ => by rw [h]; rfl
  | .q, _, ⟨x, h, _⟩ => by rw [h]; rfl
  | .s, _, ⟨x, h, _⟩ => by rw [h]; rfl
  | .l _ _ _, _, ⟨es, h, _⟩ => by rw [h]; rfl
  | .st f, ds, h => Fits.len (sh := f) (ds := ds) h
  | .u, _, h => by rw [show _ = [] from h]; rfl
  | .c _ _, _, ⟨d1, d2, h1, h2, h3⟩ => by rw [h1, List.length_append, Fits.len h2, Fits.len h3]; rfl
/-- The cells cs read as ds. -/
def CellsAre (G : Nat → Prop) (W : World) (cs : List Value) (ds : List Dat) : Prop := ∀ (q : Nat) (d : Dat), ds[q]? = some d → ∃ u, cs[q]? = some u ∧ Reads G W u d ∧ Caps W u d
theorem cells_one {G : Nat → Prop} {W : World} {v : Value} {d : Dat} (h : Reads G W v d) (hc : Caps W v d) : CellsAre G W [v] [d] := fun q x hq => by
  cases q with
  | zero => cases hq; exact ⟨v, rfl, h, hc⟩
  | succ q => simp at hq
theorem bulkD_pos {H : Type} (d : DataW H) : 1 ≤ Rows.uptoBulk d := by
  cases d with
  | lit l => cases l <;> simp [Rows.uptoBulk]
  | _ => simp [Rows.uptoBulk]
theorem bulkD_all {H : Type} : ∀ l : List (DataW H), l.length ≤ Rows.uptoBulkAll l
  | [] => Nat.zero_le _
  | d :: r => by
    have h1 := bulkD_pos d
    have h2 := bulkD_all r
    simp only [Rows.uptoBulkAll, List.length_cons]
    omega
theorem bulkD_in {H : Type} : ∀ (l : List (DataW H)) (j : Nat) (d : DataW H), l[j]? = some d → Rows.uptoBulk d ≤ Rows.uptoBulkAll l
  | [], _, _, h => by simp at h
  | d :: r, 0, d', h => by simp at h; subst h; simp only [Rows.uptoBulkAll]; omega
  | d :: r, j + 1, d', h => by
    have := bulkD_in r j d' (by simpa using h)
    simp only [Rows.uptoBulkAll]
    omega
theorem weights_all {H : Type} {P : Program} {e : TypeId} : ∀ {ds : List (DataW H)} {j : Nat} {d : DataW H}, ds[j]? = some d → ∀ n ∈ d.weights P e, n ∈ DataW.weightsAll P e ds
  | [], _, _, h => by simp at h
  | d :: r, 0, d', h => fun n hn => by simp at h; subst h; simp only [DataW.weightsAll, List.mem_append]; exact .inl hn
  | d :: r, j + 1, d', h => fun n hn => by simp only [DataW.weightsAll, List.mem_append]; exact .inr (weights_all (by simpa using h) n hn)
theorem list_pick {α : Type} {Q : Nat → α → Prop} : ∀ n, (∀ i, i < n → ∃ x, Q i x) → ∃ xs : List α, xs.length = n ∧ ∀ i x, xs[i]? = some x → Q i x
  | 0, _ => ⟨[], rfl, fun i x h => by simp at h⟩
  | n + 1, h => by
    obtain ⟨xs, hl, hx⟩ := list_pick n (fun i hi => h i (by omega))
    obtain ⟨x, hq⟩ := h n (by omega)
    refine ⟨xs ++ [x], by simp [hl], fun i y hy => ?_⟩
    rcases Nat.lt_trichotomy i n with hi | hi | hi
    · rw [List.getElem?_append_left (by omega)] at hy; exact hx i y hy
    · subst hi; rw [List.getElem?_append_right (by omega), hl, Nat.sub_self] at hy; cases hy; exact hq
    · rw [List.getElem?_eq_none (by simp; omega)] at hy; cases hy
section
variable {H : Type} {enc : TypeId × Value → H} {W : World}
/-- The two things that are shown of a Sh, by its build. -/
def OpensT (enc : TypeId × Value → H) (P : Program) (W : World) (sh : Sh) : Prop := ∀ (t : TypeId) (fuel : Nat) (cs : List Value) (x : DataW H × List MemPlace), sh.Of P (.inl t) → DataW.trod enc P W 0 (fun _ => true) true fuel t cs = some x →
  ∃ ds, Fits (∀ m ∈ x.1.weights P t, m ≤ reachBytes) (Rows.uptoBulk x.1) sh ds ∧ CellsAre (fun _ => True) W cs ds
def OpensF (enc : TypeId × Value → H) (P : Program) (W : World) (sh : Sh) : Prop := ∀ (fs : List Field) (o n : Nat) (cs : List Value) (xs : List (DataW H × List MemPlace)), sh.Of P (.inr (fs, o)) → xs.length = fs.length →
  (∀ (i : Nat) (f : Field), fs[i]? = some f → DataW.trod enc P W 0 (fun _ => true) true n f.type ((cs.drop f.offset).take (P.cellsOf f.type)) = xs[i]?) →
  ∃ ds, Fits (∀ m ∈ DataW.weightsEach P (fs.map (·.type)) (xs.map (·.1)), m ≤ reachBytes) (Rows.uptoBulkAll (xs.map (·.1))) sh ds ∧ CellsAre (fun _ => True) W (cs.drop o) ds
theorem opens_all (P : Program) (sh : Sh) : OpensT enc P W sh ∧ OpensF enc P W sh := by
  induction sh with
  | i =>
    refine ⟨fun t fuel cs x hO h => ?_, fun fs o n cs xs hO => by cases hO⟩
    obtain ⟨k, rfl, rfl, hwf⟩ := DataW.trod_int (by exact hO) h
    have hrg : -9223372036854775808 ≤ k ∧ k ≤ 9223372036854775807 := by simpa [Lit.wf, IntKind.min, IntKind.max, IntKind.bits, IntKind.signed] using hwf
    exact ⟨[.i k], ⟨k, rfl, hrg⟩, cells_one (.i k) (.i k)⟩
  | b =>
    refine ⟨fun t fuel cs x hO h => ?_, fun fs o n cs xs hO => by cases hO⟩
    obtain ⟨k, rfl, rfl⟩ := DataW.trod_bool (by exact hO) h
    exact ⟨[.b k], ⟨k, rfl⟩, cells_one (.b k) (.b k)⟩
  | s =>
    refine ⟨fun t fuel cs x hO h => ?_, fun fs o n cs xs hO => by cases hO⟩
    obtain ⟨k, rfl, rfl, hz⟩ := DataW.trod_string (by exact hO) h
    refine ⟨[.s k], ⟨k, rfl, hz, fun hs => ?_, ?_⟩, cells_one (.s k) (.s k)⟩
    · have := hs k.data.toList.length (by simp [DataW.weights])
      rw [reachBytes] at this
      simpa using this
    · simp [Rows.uptoBulk]
  | q =>
    refine ⟨fun t fuel cs x hO h => ?_, fun fs o n cs xs hO => by cases hO⟩
    obtain ⟨k, rfl, rfl, hwf⟩ := DataW.trod_int (by exact hO) h
    have hrg : 0 ≤ k ∧ k ≤ 18446744073709551615 := by simpa [Lit.wf, IntKind.min, IntKind.max, IntKind.bits, IntKind.signed] using hwf
    obtain ⟨n, rfl⟩ := Int.eq_ofNat_of_zero_le hrg.1
    exact ⟨[.q n], ⟨n, rfl, by omega⟩, cells_one (.q n) (.q n)⟩
  | u =>
    refine ⟨fun t fuel cs x hO h => (by cases hO), fun fs o n cs xs hO hl h => ?_⟩
    exact ⟨[], rfl, fun q d hq => by simp at hq⟩
  | st f ih =>
    refine ⟨fun t fuel cs x hO h => ?_, fun fs o n cs xs hO => by cases hO⟩
    obtain ⟨fs, hu, hc, hF⟩ := hO
    obtain ⟨xs, n, _, rfl, hl, hxl, hf⟩ := DataW.trod_struct hu h
    obtain ⟨ds, h1, h2⟩ := ih.2 fs.toList 0 n cs xs hF (by rw [hxl]; simp) (fun i g hg => hf i g (by simpa using hg))
    refine ⟨ds, Fits.mono (sh := f) (fun hs m hm => hs m (by simp only [DataW.weights, hu]; exact hm)) (by simp only [Rows.uptoBulk]; omega) h1, by simpa using h2⟩
  | c a r iha ihr =>
    refine ⟨fun t fuel cs x hO h => (by cases hO), fun fs o n cs xs hO hl h => ?_⟩
    obtain ⟨f, fs', rfl, hoff, hcell, hA, hR⟩ := hO
    cases xs with
    | nil => simp at hl
    | cons x xs =>
      have h0 := h 0 f rfl
      obtain ⟨d1, f1, c1⟩ := iha.1 f.type n _ x hA h0
      obtain ⟨d2, f2, c2⟩ := ihr.2 fs' (o + a.sz) n cs xs hR (by simpa using hl) (fun i g hg => h (i + 1) g (by simpa using hg))
      refine ⟨d1 ++ d2, ⟨d1, d2, rfl, f1.mono (fun hs m hm => hs m (by simp only [List.map_cons, DataW.weightsEach, List.mem_append]; exact .inl hm)) (by simp only [List.map_cons, Rows.uptoBulkAll]; omega), f2.mono (fun hs m hm => hs m (by simp only [List.map_cons, DataW.weightsEach, List.mem_append]; exact .inr hm)) (by simp only [List.map_cons, Rows.uptoBulkAll]; omega)⟩, ?_⟩
      · intro q d hq
        have hl1 := f1.len
        by_cases hqa : q < d1.length
        · rw [List.getElem?_append_left hqa] at hq
          obtain ⟨u, hu, hR⟩ := c1 q d hq
          refine ⟨u, ?_, hR⟩
          rw [List.getElem?_take] at hu
          split at hu
          · simp only at hoff
            rw [← hoff]
            exact hu
          · cases hu
        · rw [List.getElem?_append_right (by omega)] at hq
          obtain ⟨u, hu, hR⟩ := c2 _ d hq
          refine ⟨u, ?_, hR⟩
          rw [List.getElem?_drop] at hu ⊢
          rw [show o + q = o + a.sz + (q - d1.length) by omega]
          exact hu
  | l bytes sz e ih =>
    refine ⟨fun t fuel cs x hO h => ?_, fun fs o n cs xs hO => by cases hO⟩
    obtain ⟨te, hu, hby, hsz, hez, hz0, hE⟩ := hO
    rcases Go.Deep.open_slice hu h with ⟨rfl, rfl⟩ | ⟨ad, len, cap, m, n, D, Pl, rfl, _, hl, hm, hmm, hx, hel⟩
    · exact ⟨[.l sz []], ⟨[], rfl, Nat.zero_le _, fun _ => by simp, Nat.zero_le _, fun d hd => by simp at hd⟩, cells_one (.nil none 0 sz) (.l none 0 0 sz [] (Nat.le_refl _) (fun g off j q e d u h => by cases h))⟩
    · simp at hmm
      subst hmm
      have hx1 : x.1 = .slice ((List.range len).map D) ((List.range (m - len)).map fun j => D (len + j)) := by rw [hx]
      have each : ∀ i, i < len → ∃ d : List Dat, Fits (∀ q ∈ x.1.weights P t, q ≤ reachBytes) (Rows.uptoBulk x.1) e d ∧ ∃ cs', W.cells? 0 (ad.add (i * sz)) sz = some cs' ∧ CellsAre (fun _ => True) W cs' d := by
        intro i hi
        obtain ⟨cs', h1, h2⟩ := hel i (by omega)
        rw [hsz] at h1
        obtain ⟨d, f1, c1⟩ := ih.1 te n cs' _ hE h2
        have hget : ((List.range len).map D)[i]? = some (D i) := by rw [List.getElem?_map, List.getElem?_range hi]; rfl
        have hw : ∀ q ∈ (D i).weights P te, q ∈ x.1.weights P t := fun q hq => by
          rw [hx1]
          simp only [DataW.weights, hu, List.mem_cons, List.mem_append]
          exact .inr (.inl (weights_all hget q hq))
        have hbk : Rows.uptoBulk (D i) ≤ Rows.uptoBulk x.1 := by
          rw [hx1]
          have := bulkD_in _ i _ hget
          simp only [Rows.uptoBulk]
          omega
        exact ⟨d, f1.mono (fun hs q hq => hs q (hw q hq)) hbk, cs', h1, c1⟩
      obtain ⟨es, hil, hip⟩ := list_pick len each
      have hcellA : ∀ (j : Nat) (d : List Dat), es[j]? = some d → d.length = sz ∧ ∀ (q : Nat) (y : Dat), d[q]? = some y → ∃ u, W.cell? (ad.add (j * sz + q)) = some u ∧ Reads (fun _ => True) W u y ∧ Caps W u y := fun j d hj => by
        obtain ⟨hf, cs', h1, h2⟩ := hip j d hj
        obtain ⟨_, hlen, hc⟩ := World.cells?_some h1
        refine ⟨by rw [hf.len, hez], fun q y hy => ?_⟩
        obtain ⟨u, hu, hR⟩ := h2 q y hy
        have hq := (List.getElem?_eq_some_iff.1 hu).1
        have := hc q (by omega)
        rw [Go.Deep.add_add] at this
        exact ⟨u, this.trans hu, hR⟩
      refine ⟨[.l sz es], ⟨es, rfl, by omega, fun hs => ?_, ?_, fun d hd => ?_⟩, cells_one ?_ ?_⟩
      · have := hs ((len + (m - len)) * P.bytesOf te) (by rw [hx1]; simp [DataW.weights, hu])
        rw [hby, reachBytes] at this
        rw [hil]
        have h3 : len + (m - len) = m := by omega
        rw [h3] at this
        exact Nat.le_trans (Nat.mul_le_mul_right _ hl) this
      · rw [hx1, hil]
        have := bulkD_all ((List.range len).map D)
        rw [List.length_map, List.length_range] at this
        simp only [Rows.uptoBulk]
        omega
      · obtain ⟨i, hi, rfl⟩ := List.getElem_of_mem hd
        exact (hip i _ (List.getElem?_eq_getElem hi)).1
      · rw [← hil]
        by_cases h0 : len = 0
        · rw [List.eq_nil_of_length_eq_zero (by omega : es.length = 0)]
          exact .nil (some ad) m sz
        · obtain ⟨b, off, spot⟩ := ad
          have hcell : ∀ (j : Nat) (d : List Dat), es[j]? = some d → d.length = sz ∧ ∀ (q : Nat) (y : Dat), d[q]? = some y → ∃ u, W.cell? ((Addr.mk b off spot).add (j * sz + q)) = some u ∧ Reads (fun _ => True) W u y := fun j d hj => ⟨(hcellA j d hj).1, fun q y hy => by
            obtain ⟨u, h1, h2, _⟩ := (hcellA j d hj).2 q y hy
            exact ⟨u, h1, h2⟩⟩
          obtain ⟨d0, hd0⟩ : ∃ d, es[0]? = some d := ⟨es[0]'(by omega), List.getElem?_eq_getElem _⟩
          have hd0l := (hcell 0 d0 hd0).1
          obtain ⟨y0, hy0⟩ : ∃ y, d0[0]? = some y := ⟨d0[0]'(by omega), List.getElem?_eq_getElem _⟩
          obtain ⟨u0, hu0, _⟩ := (hcell 0 d0 hd0).2 0 y0 hy0
          have hspot : spot = none := by simpa [Addr.add] using World.cell?_spot hu0
          subst hspot
          have hb0 : b < W.heap.size := by have := World.block_lt_of_cell? W _ hu0; simpa [Addr.add] using this
          have hsome : ∀ (j : Nat) (d : List Dat) (q : Nat) (y : Dat), es[j]? = some d → d[q]? = some y → ∃ u, W.cell? ⟨b, off + j * sz + q, none⟩ = some u ∧ Reads (fun _ => True) W u y := fun j d q y hj hy => by
            obtain ⟨u, h1, h2⟩ := (hcell j d hj).2 q y hy
            rw [Addr.add_lit] at h1
            exact ⟨u, by rw [Nat.add_assoc]; exact h1, h2⟩
          refine .l b off m sz es (fun j q => (W.cell? ⟨b, off + j * sz + q, none⟩).getD undef) trivial hb0 (fun j d hj => (hcell j d hj).1) (fun j d q y hj hy => ?_) (fun j d q y hj hy => ?_)
          · obtain ⟨u, h1, _⟩ := hsome j d q y hj hy
            rw [h1]; rfl
          · obtain ⟨u, h1, h2⟩ := hsome j d q y hj hy
            rw [h1]; exact h2
      · refine .l (some ad) len m sz es hl (fun g off j q e d u hg hj hq hu => ?_)
        cases hg
        obtain ⟨u', h1, _, h2⟩ := (hcellA j e hj).2 q d hq
        rw [Addr.add_lit, ← Nat.add_assoc, hu] at h1
        cases h1
        exact h2
end
end Go.Proofs.YtecidbdbdnnglaaGreat

/- Arguments of the laws of the ledger, opened: a configuration, scripts. No walk here. -/
namespace Go.Proofs.YtecidbdbdnnglaaGreat
open Go.ChangeShapes Go.WideShapes Go.ChangeAt Go.RowKit

/-- A step: a turn, or what is asked. -/
abbrev Stp := Bool × Rq
def opC (o : Stp) : List Value := [.bool o.1, .int .i64 o.2.c, .int .i64 o.2.st, .int .i64 o.2.k, .string o.2.key, .int .u64 (o.2.b : Int), .int .i64 o.2.id]
/-- Scripts in memory. -/
def StpsIn (w : World) (ad : Option Addr) (os : List Stp) : Prop := os = [] ∨ ∃ g off, ad = some ⟨g, off, none⟩ ∧ g < w.heap.size ∧ ∀ (j : Nat) (o : Stp), os[j]? = some o → ∀ (q : Nat) (v : Value), (opC o)[q]? = some v → w.cell? ⟨g, off + j * 7 + q, none⟩ = some v
theorem StpsIn.keep {w w' : World} {ad : Option Addr} {os : List Stp} {B : Nat} (h : StpsIn w ad os) (hb : Below B w w') (hB : w.heap.size ≤ B) : StpsIn w' ad os := by
  rcases h with h | ⟨g, off, ha, hg, hc⟩
  · exact .inl h
  · exact .inr ⟨g, off, ha, Nat.lt_of_lt_of_le hg hb.size, fun j o ho q v hv => (World.cell?_of_block (a := ⟨g, off + j * 7 + q, none⟩) (hb.block g (by omega))).trans (hc j o ho q v hv)⟩
def stB (o : Stp) : Prop := o.2.key.size ≤ maxLen ∧ o.2.b < 18446744073709551616
def shInts : Sh := .l 8 1 .i
def shConf : Sh := .st (.c .i (.c shInts .u))
def shAsk : Sh := .st (.c .i (.c .i (.c .i (.c .s (.c .q (.c .i .u))))))
def shOp : Sh := .st (.c .b (.c shAsk .u))
def shOps : Sh := .l 64 7 shOp
theorem of_ints : shInts.Of Tryz.prog (.inl 22) := ⟨_, Tryz.underlying22, by kernel_rfl, by kernel_rfl, rfl, by decide, Tryz.underlying3⟩
theorem of_conf : shConf.Of Tryz.prog (.inl 24) := ⟨_, Tryz.underlying24, by kernel_rfl, ⟨_, _, rfl, rfl, by kernel_rfl, Tryz.underlying3, ⟨_, _, rfl, rfl, by kernel_rfl, of_ints, rfl⟩⟩⟩
theorem of_ask : shAsk.Of Tryz.prog (.inl 37) := ⟨_, Tryz.underlying37, by kernel_rfl, ⟨_, _, rfl, rfl, by kernel_rfl, Tryz.underlying3, ⟨_, _, rfl, rfl, by kernel_rfl, Tryz.underlying3, ⟨_, _, rfl, rfl, by kernel_rfl, Tryz.underlying3, ⟨_, _, rfl, rfl, by kernel_rfl, Tryz.underlying9, ⟨_, _, rfl, rfl, by kernel_rfl, Tryz.underlying35, ⟨_, _, rfl, rfl, by kernel_rfl, Tryz.underlying3, rfl⟩⟩⟩⟩⟩⟩⟩
theorem of_op : shOp.Of Tryz.prog (.inl 39) := ⟨_, Tryz.underlying39, by kernel_rfl, ⟨_, _, rfl, rfl, by kernel_rfl, Tryz.underlying4, ⟨_, _, rfl, rfl, by kernel_rfl, of_ask, rfl⟩⟩⟩
theorem of_ops : shOps.Of Tryz.prog (.inl 25) := ⟨_, Tryz.underlying25, by kernel_rfl, by kernel_rfl, rfl, by decide, of_op⟩
theorem fits_map {α : Type} {f : α → List Dat} {Q : α → Prop} : ∀ (es : List (List Dat)), (∀ d, d ∈ es → ∃ x, d = f x ∧ Q x) → ∃ xs : List α, es = xs.map f ∧ ∀ x, x ∈ xs → Q x
  | [], _ => ⟨[], rfl, fun x h => by cases h⟩
  | e :: es, h => by
    obtain ⟨x, rfl, hx⟩ := h e (List.mem_cons_self ..)
    obtain ⟨xs, rfl, hxs⟩ := fits_map es (fun d hd => h d (List.mem_cons_of_mem _ hd))
    refine ⟨x :: xs, rfl, fun y hy => ?_⟩
    rcases List.mem_cons.1 hy with rfl | hy
    · exact hx
    · exact hxs y hy
section
variable {S : Prop} {U : Nat}
theorem fits_ints {ds : List Dat} (h : Fits S U shInts ds) : ∃ xs : List Int, ds = [dInts xs] ∧ xs.length ≤ maxLen ∧ (S → xs.length * 8 ≤ 140737488351232) := by
  obtain ⟨es, rfl, h1, h2, _, h3⟩ := h
  obtain ⟨xs, rfl, _⟩ := fits_map (f := fun x : Int => [Dat.i x]) (Q := fun _ => True) es (fun d hd => by obtain ⟨x, hx, _⟩ := h3 d hd; exact ⟨x, hx, trivial⟩)
  rw [List.length_map] at h1 h2
  exact ⟨xs, rfl, h1, h2⟩
theorem fits_conf {ds : List Dat} (h : Fits S U shConf ds) : ∃ (e : Int) (xs : List Int), ds = [.i e, dInts xs] ∧ xs.length ≤ maxLen ∧ (S → xs.length * 8 ≤ 140737488351232) := by
  obtain ⟨d1, d2, rfl, ⟨x, rfl, _⟩, d3, d4, rfl, h3, rfl⟩ := h
  obtain ⟨xs, rfl, h4, h5⟩ := fits_ints h3
  exact ⟨x, xs, rfl, h4, h5⟩
def dOp (o : Stp) : List Dat := [.b o.1, .i o.2.c, .i o.2.st, .i o.2.k, .s o.2.key, .q o.2.b, .i o.2.id]
theorem fits_op {ds : List Dat} (h : Fits S U shOp ds) : ∃ o : Stp, ds = dOp o ∧ stB o := by
  obtain ⟨d1, d2, rfl, ⟨x, rfl⟩, d3, d4, rfl, h3, rfl⟩ := h
  obtain ⟨e1, f1, rfl, ⟨x1, rfl, _⟩, e2, f2, rfl, ⟨x2, rfl, _⟩, e3, f3, rfl, ⟨x3, rfl, _⟩, e4, f4, rfl, ⟨x4, rfl, h4, _⟩, e5, f5, rfl, ⟨x5, rfl, h5⟩, e6, f6, rfl, ⟨x6, rfl, _⟩, rfl⟩ := h3
  exact ⟨(x, ⟨x1, x2, x3, x4, x5, x6⟩), rfl, h4, h5⟩
theorem fits_ops {ds : List Dat} (h : Fits S U shOps ds) : ∃ os : List Stp, ds = [.l 7 (os.map dOp)] ∧ os.length ≤ maxLen ∧ ∀ o, o ∈ os → stB o := by
  obtain ⟨es, rfl, h1, h2, _, h3⟩ := h
  obtain ⟨os, rfl, h4⟩ := fits_map (f := dOp) (Q := stB) es (fun d hd => fits_op (h3 d hd))
  rw [List.length_map] at h1
  exact ⟨os, rfl, h1, h4⟩
end
theorem reads_cell {G : Nat → Prop} {W : World} {o : Stp} {q : Nat} {v : Value} {u : Value} {d : Dat} (hv : (opC o)[q]? = some v) (hd : (dOp o)[q]? = some d) (h : Reads G W u d) : u = v := by
  match q, hv, hd with
  | 0, hv, hd => cases hv; cases hd; exact h.bool
  | 1, hv, hd => cases hv; cases hd; exact h.int
  | 2, hv, hd => cases hv; cases hd; exact h.int
  | 3, hv, hd => cases hv; cases hd; exact h.int
  | 4, hv, hd => cases hv; cases hd; exact h.str
  | 5, hv, hd => cases hv; cases hd; exact h.quad
  | 6, hv, hd => cases hv; cases hd; exact h.int
  | q + 7, hv, hd => cases hv
theorem reads_ops {G : Nat → Prop} {W : World} {v : Value} {os : List Stp} (h : Reads G W v (.l 7 (os.map dOp))) : ∃ ad cap, v = .slice ad os.length cap ∧ StpsIn W ad os := by
  generalize hd : Dat.l 7 (os.map dOp) = d at h
  cases h with
  | nil ad cap sz =>
    cases os with
    | nil => exact ⟨ad, cap, rfl, .inl rfl⟩
    | cons o os => cases hd
  | l g off cap sz es c hF hg hs hc hr =>
    cases hd
    refine ⟨_, cap, by rw [List.length_map], .inr ⟨g, off, rfl, hg, fun j o ho q u hu => ?_⟩⟩
    have hj : (os.map dOp)[j]? = some (dOp o) := by rw [List.getElem?_map, ho]; rfl
    have hq : q < (dOp o).length := by
      have := (List.getElem?_eq_some_iff.1 hu).1
      exact this
    have hq2 : (dOp o)[q]? = some ((dOp o)[q]'hq) := List.getElem?_eq_getElem hq
    rw [hc j _ q _ hj hq2, reads_cell hu hq2 (hr j _ q _ hj hq2)]
  | _ => cases hd
section
variable {H : Type} {enc : TypeId × Value → H} {W : World} {fuel : Nat} {x : DataW H × List MemPlace}
theorem open_conf {c0 c1 : Value} (h : DataW.trod enc Tryz.prog W 0 (fun _ => true) true fuel 24 [c0, c1] = some x) :
    ∃ (e : Int) (ad : Option Addr) (cap : Nat) (xs : List Int), c0 = .int .i64 e ∧ c1 = .slice ad xs.length cap ∧ xs.length ≤ maxLen ∧ IntsIn W ad xs ∧ ((∀ m ∈ x.1.weights Tryz.prog 24, m ≤ reachBytes) → xs.length * 8 ≤ 140737488351232) := by
  obtain ⟨ds, hf, hc⟩ := (opens_all Tryz.prog shConf).1 _ _ _ _ of_conf h
  obtain ⟨e, xs, rfl, h1, h2⟩ := fits_conf hf
  obtain ⟨u0, e0, r0, _⟩ := hc 0 _ rfl
  obtain ⟨u1, e1, r1, _⟩ := hc 1 _ rfl
  cases e0
  cases e1
  obtain ⟨ad, cap, hv, hi, _⟩ := reads_ints r1
  exact ⟨e, ad, cap, xs, r0.int, hv, h1, hi, h2⟩
theorem open_stps {ad : Option Addr} {len cap : Nat} (h : DataW.trod enc Tryz.prog W 0 (fun _ => true) true fuel 25 [.slice ad len cap] = some x) :
    ∃ os : List Stp, os.length = len ∧ os.length ≤ maxLen ∧ StpsIn W ad os ∧ ∀ o, o ∈ os → stB o := by
  obtain ⟨ds, hf, hc⟩ := (opens_all Tryz.prog shOps).1 _ _ _ _ of_ops h
  obtain ⟨os, rfl, h1, h2⟩ := fits_ops hf
  obtain ⟨u0, e0, r0, _⟩ := hc 0 _ rfl
  cases e0
  obtain ⟨ad', cap', hv, hi⟩ := reads_ops r0
  cases hv
  exact ⟨os, rfl, h1, hi, h2⟩
theorem open_ask {c0 c1 c2 c3 c4 c5 : Value} (h : DataW.trod enc Tryz.prog W 0 (fun _ => true) true fuel 37 [c0, c1, c2, c3, c4, c5] = some x) :
    ∃ q : Rq, c0 = .int .i64 q.c ∧ c1 = .int .i64 q.st ∧ c2 = .int .i64 q.k ∧ c3 = .string q.key ∧ c4 = .int .u64 (q.b : Int) ∧ c5 = .int .i64 q.id ∧ q.key.size ≤ maxLen ∧ q.b < 18446744073709551616 := by
  obtain ⟨ds, hf, hc⟩ := (opens_all Tryz.prog shAsk).1 _ _ _ _ of_ask h
  obtain ⟨e1, f1, rfl, ⟨x1, rfl, _⟩, e2, f2, rfl, ⟨x2, rfl, _⟩, e3, f3, rfl, ⟨x3, rfl, _⟩, e4, f4, rfl, ⟨x4, rfl, h4, _⟩, e5, f5, rfl, ⟨x5, rfl, h5⟩, e6, f6, rfl, ⟨x6, rfl, _⟩, rfl⟩ := hf
  obtain ⟨u0, p0, r0, _⟩ := hc 0 (.i x1) rfl
  obtain ⟨u1, p1, r1, _⟩ := hc 1 (.i x2) rfl
  obtain ⟨u2, p2, r2, _⟩ := hc 2 (.i x3) rfl
  obtain ⟨u3, p3, r3, _⟩ := hc 3 (.s x4) rfl
  obtain ⟨u4, p4, r4, _⟩ := hc 4 (.q x5) rfl
  obtain ⟨u5, p5, r5, _⟩ := hc 5 (.i x6) rfl
  cases p0
  cases p1
  cases p2
  cases p3
  cases p4
  cases p5
  exact ⟨⟨x1, x2, x3, x4, x5, x6⟩, r0.int, r1.int, r2.int, r3.str, r4.quad, r5.int, h4, h5⟩
end
end Go.Proofs.YtecidbdbdnnglaaGreat
