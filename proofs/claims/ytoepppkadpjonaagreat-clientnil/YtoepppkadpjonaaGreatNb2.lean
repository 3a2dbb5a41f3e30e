/- Texts laid together: LiA DeA DeB LiB LiC LiD LiE SiA LiF TsT LiG GnI SiB LiH TrA TqA TqB TqC TrB TqD CoS CoW CoT CoM CoU CoN CoV CoP TqE. -/
import Derived.Test.YtoepppkadpjonaaGreatNb1
import Derived.Deep.RegionLaw
import Derived.Maps.AppendAt
import Derived.Shelf.Slices.SearchI
import Derived.Shelf.Slices.Delete
import Derived.Shelf.Spec.SlicesInsert
import Derived.Lib.RowBridge
import Derived.Laws.CopyOwn
import Derived.Deep.QuietTactic
namespace Go.Proofs.YtoepppkadpjonaaGreat
section
open Go.RowKit
def validE (ep : Int) (l : List Int) (e2 : Int) (l2 : List Int) (ss : List (Int × ByteArray)) : Int :=
 if rightC ep l = false then 1 else if rightC e2 l2 = false then 1 else if e2 ≠ ep + 1 then 12 else if provesB ep l (textC e2 l2) ss = false then 15 else 0
def LnAt (w : World) (b : Nat) (e : Int) (vm vs : Value) : Prop := w.heap[b]? = some (.cells [.int .i64 e, vm, vs].toArray 74 (0, 0))
theorem LnAt.lt {w : World} {b : Nat} {e : Int} {vm vs : Value} (h : LnAt w b e vm vs) : b < w.heap.size := lt_of_blk h
theorem LnAt.keep {w w' : World} {b : Nat} {e : Int} {vm vs : Value} (h : LnAt w b e vm vs) (hb : Below w.heap.size w w') : LnAt w' b e vm vs := (hb.block b h.lt).trans h
theorem LnAt.cells {w : World} {b : Nat} {e : Int} {vm vs : Value} (h : LnAt w b e vm vs) : w.cell? ⟨b, 0, none⟩ = some (.int .i64 e) ∧ w.cell? ⟨b, 1, none⟩ = some vm ∧ w.cell? ⟨b, 2, none⟩ = some vs :=
 ⟨cell_at h 0 _ rfl, cell_at h 1 _ rfl, cell_at h 2 _ rfl⟩
structure VaSt (w0 : World) (ep : Int) (vo : Value) (e2 : Int) (vm vs : Value) (w : World) : Prop where
 old : w.heap[w0.heap.size]? = some (.cells #[.int .i64 ep, vo] 24 (0, 0))
 ln : LnAt w (w0.heap.size + 1) e2 vm vs
 bel : Below w0.heap.size w0 w
theorem VaSt.keep {w0 : World} {ep : Int} {vo : Value} {e2 : Int} {vm vs : Value} {w w' : World} (h : VaSt w0 ep vo e2 vm vs w) (hb : Below w.heap.size w w') : VaSt w0 ep vo e2 vm vs w' :=
 ⟨(hb.block _ (lt_of_blk h.old)).trans h.old, h.ln.keep hb, h.bel.trans (hb.mono h.bel.size)⟩
end
section
open Go.RowKit
inductive Dat where
 | i (x : Int)
 | b (x : Bool)
 | s (x : ByteArray)
 | q (x : Nat)
 | f (x : Nat)
 | l (sz : Nat) (es : List (List Dat))
inductive Reads (F : Nat → Prop) (w : World) : Value → Dat → Prop where
 | i (x : Int) : Reads F w (.int .i64 x) (.i x)
 | b (x : Bool) : Reads F w (.bool x) (.b x)
 | s (x : ByteArray) : Reads F w (.string x) (.s x)
 | q (x : Nat) : Reads F w (.int .u64 (x : Int)) (.q x)
 | f (x : Nat) : Reads F w (.float .f64 x) (.f x)
 | nil (ad : Option Addr) (cap sz : Nat) : Reads F w (.slice ad 0 cap) (.l sz [])
 | l (g off cap sz : Nat) (es : List (List Dat)) (c : Nat → Nat → Value) (hF : F g) (hg : g < w.heap.size)
     (hs : ∀ (j : Nat) (e : List Dat), es[j]? = some e → e.length = sz)
     (hc : ∀ (j : Nat) (e : List Dat) (q : Nat) (d : Dat), es[j]? = some e → e[q]? = some d → w.cell? ⟨g, off + j * sz + q, none⟩ = some (c j q))
     (hr : ∀ (j : Nat) (e : List Dat) (q : Nat) (d : Dat), es[j]? = some e → e[q]? = some d → Reads F w (c j q) d) : Reads F w (.slice (some ⟨g, off, none⟩) es.length cap) (.l sz es)
theorem Reads.keep {F : Nat → Prop} {w w' : World} {v : Value} {d : Dat} (h : Reads F w v d) (hs : w.heap.size ≤ w'.heap.size) (hb : ∀ k, k < w.heap.size → F k → w'.heap[k]? = w.heap[k]?) : Reads F w' v d := by
 induction h with
 | i x => exact .i x
 | b x => exact .b x
 | s x => exact .s x
 | q x => exact .q x
 | f x => exact .f x
 | nil ad cap sz => exact .nil ad cap sz
 | l g off cap sz es c hF hg hsz hc _ ih => exact .l g off cap sz es c hF (Nat.lt_of_lt_of_le hg hs) hsz (fun j e q d he hd => (World.cell?_of_block (hb g hg hF)).trans (hc j e q d he hd)) ih
theorem Reads.under {F : Nat → Prop} {w w' : World} {v : Value} {d : Dat} {B : Nat} (h : Reads F w v d) (hb : Below B w w') (hB : w.heap.size ≤ B) : Reads F w' v d :=
 h.keep hb.size (fun k hk _ => hb.block k (Nat.lt_of_lt_of_le hk hB))
theorem Reads.mono {F F' : Nat → Prop} {w : World} {v : Value} {d : Dat} (h : Reads F w v d) (hF : ∀ k, k < w.heap.size → F k → F' k) : Reads F' w v d := by
 induction h with
 | i x => exact .i x
 | b x => exact .b x
 | s x => exact .s x
 | q x => exact .q x
 | f x => exact .f x
 | nil ad cap sz => exact .nil ad cap sz
 | l g off cap sz es c hFg hg hsz hc _ ih => exact .l g off cap sz es c (hF g hg hFg) hg hsz hc ih
theorem Reads.move {F F' : Nat → Prop} {w w' : World} {v : Value} {d : Dat} (h : Reads F w v d) (hs : w.heap.size ≤ w'.heap.size) (hb : ∀ k, k < w.heap.size → F k → w'.heap[k]? = w.heap[k]? ∧ F' k) : Reads F' w' v d := by
 induction h with
 | i x => exact .i x
 | b x => exact .b x
 | s x => exact .s x
 | q x => exact .q x
 | f x => exact .f x
 | nil ad cap sz => exact .nil ad cap sz
 | l g off cap sz es c hF hg hsz hc _ ih => exact .l g off cap sz es c (hb g hg hF).2 (Nat.lt_of_lt_of_le hg hs) hsz (fun j e q d he hd => (World.cell?_of_block (hb g hg hF).1).trans (hc j e q d he hd)) ih
theorem Reads.at {F : Nat → Prop} {w : World} {v : Value} {sz : Nat} {es : List (List Dat)} (h : Reads F w v (.l sz es)) (j : Nat) (e : List Dat) (hj : es[j]? = some e) :
   ∃ g off cap, v = .slice (some ⟨g, off, none⟩) es.length cap ∧ F g ∧ g < w.heap.size ∧ e.length = sz ∧ ∀ (q : Nat) (d : Dat), e[q]? = some d → ∃ u, w.cell? ⟨g, off + j * sz + q, none⟩ = some u ∧ Reads F w u d := by
 cases h with
 | nil ad cap sz => simp at hj
 | l g off cap sz es c hF hg hs hc hr => exact ⟨g, off, cap, rfl, hF, hg, hs j e hj, fun q d hd => ⟨c j q, hc j e q d hj hd, hr j e q d hj hd⟩⟩
theorem Reads.form {F : Nat → Prop} {w : World} {v : Value} {sz : Nat} {es : List (List Dat)} (h : Reads F w v (.l sz es)) : ∃ ad cap, v = .slice ad es.length cap := by
 cases h with
 | nil ad cap sz => exact ⟨ad, cap, rfl⟩
 | l g off cap sz es c hF hg hs hc hr => exact ⟨_, cap, rfl⟩
theorem Reads.int {F : Nat → Prop} {w : World} {v : Value} {x : Int} (h : Reads F w v (.i x)) : v = .int .i64 x := by cases h; rfl
theorem Reads.quad {F : Nat → Prop} {w : World} {v : Value} {x : Nat} (h : Reads F w v (.q x)) : v = .int .u64 (x : Int) := by cases h; rfl
theorem Reads.flt {F : Nat → Prop} {w : World} {v : Value} {x : Nat} (h : Reads F w v (.f x)) : v = .float .f64 x := by cases h; rfl
theorem Reads.str {F : Nat → Prop} {w : World} {v : Value} {x : ByteArray} (h : Reads F w v (.s x)) : v = .string x := by cases h; rfl
def dInts (xs : List Int) : Dat := .l 1 (xs.map fun x => [.i x])
def dPairs (ps : List (Int × ByteArray)) : Dat := .l 2 (ps.map fun p => [.i p.1, .s p.2])
theorem reads_ints {F : Nat → Prop} {w : World} {v : Value} {xs : List Int} (h : Reads F w v (dInts xs)) : ∃ ad cap, v = .slice ad xs.length cap ∧ IntsIn w ad xs ∧ ∀ x, ad = some x → xs ≠ [] → F x.block := by
 cases xs with
 | nil =>
   obtain ⟨ad, cap, hv⟩ := h.form
   exact ⟨ad, cap, hv, .inl rfl, fun _ _ hne => absurd rfl hne⟩
 | cons x0 xs =>
   obtain ⟨g, off, cap, hv, hF, hg, _, _⟩ := h.at 0 [.i x0] rfl
   refine ⟨_, cap, by rw [hv, List.length_map], .inr ⟨g, off, rfl, hg, fun j z hz => ?_⟩, fun x hx _ => by cases hx; exact hF⟩
   obtain ⟨g', off', cap', hv', _, _, _, hc⟩ := h.at j [.i z] (by rw [List.getElem?_map, hz]; rfl)
   rw [hv] at hv'
   cases hv'
   obtain ⟨u, h1, h2⟩ := hc 0 (.i z) rfl
   rw [h2.int] at h1
   simpa using h1
theorem reads_pairs {F : Nat → Prop} {w : World} {v : Value} {ps : List (Int × ByteArray)} (h : Reads F w v (dPairs ps)) : ∃ ad cap, v = .slice ad ps.length cap ∧ PairsIn w ad ps ∧ ∀ x, ad = some x → ps ≠ [] → F x.block := by
 cases ps with
 | nil =>
   obtain ⟨ad, cap, hv⟩ := h.form
   exact ⟨ad, cap, hv, .inl rfl, fun _ _ hne => absurd rfl hne⟩
 | cons p0 ps =>
   obtain ⟨g, off, cap, hv, hF, hg, _, _⟩ := h.at 0 [.i p0.1, .s p0.2] rfl
   refine ⟨_, cap, by rw [hv, List.length_map], .inr ⟨g, off, rfl, hg, fun j z hz => ?_⟩, fun x hx _ => by cases hx; exact hF⟩
   obtain ⟨g', off', cap', hv', _, _, _, hc⟩ := h.at j [.i z.1, .s z.2] (by rw [List.getElem?_map, hz]; rfl)
   rw [hv] at hv'
   cases hv'
   obtain ⟨u0, h1, h2⟩ := hc 0 (.i z.1) rfl
   obtain ⟨u1, h3, h4⟩ := hc 1 (.s z.2) rfl
   rw [h2.int] at h1
   rw [h4.str] at h3
   exact ⟨by simpa using h1, h3⟩
theorem ints_reads {F : Nat → Prop} {w : World} {ad : Option Addr} {cap : Nat} {xs : List Int} (h : IntsIn w ad xs) (hF : ∀ x, ad = some x → xs ≠ [] → F x.block) : Reads F w (.slice ad xs.length cap) (dInts xs) := by
 rcases h with rfl | ⟨g, off, rfl, hg, hc⟩
 · exact .nil ad cap 1
 · cases xs with
   | nil => exact .nil _ cap 1
   | cons x0 xs =>
     have := Reads.l (F := F) (w := w) g off cap 1 ((x0 :: xs).map fun x => [Dat.i x]) (fun j _ => .int .i64 ((x0 :: xs).getD j 0)) (hF _ rfl (by simp)) hg
       (fun j e he => by rw [List.getElem?_map] at he; cases h : (x0 :: xs)[j]? with | none => rw [h] at he; cases he | some x => rw [h] at he; cases he; rfl)
       (fun j e q d he hd => by
         rw [List.getElem?_map] at he
         cases h : (x0 :: xs)[j]? with
         | none => rw [h] at he; cases he
         | some x =>
           rw [h] at he
           cases he
           cases q with
           | succ q => simp at hd
           | zero =>
             rw [Nat.mul_one, Nat.add_zero, List.getD_eq_getElem?_getD, h]
             exact hc j x h)
       (fun j e q d he hd => by
         rw [List.getElem?_map] at he
         cases h : (x0 :: xs)[j]? with
         | none => rw [h] at he; cases he
         | some x =>
           rw [h] at he
           cases he
           cases q with
           | succ q => simp at hd
           | zero =>
             simp at hd
             subst hd
             rw [List.getD_eq_getElem?_getD, h]
             exact .i x)
     rwa [List.length_map] at this
theorem pairs_reads {F : Nat → Prop} {w : World} {ad : Option Addr} {cap : Nat} {ps : List (Int × ByteArray)} (h : PairsIn w ad ps) (hF : ∀ x, ad = some x → ps ≠ [] → F x.block) : Reads F w (.slice ad ps.length cap) (dPairs ps) := by
 rcases h with rfl | ⟨g, off, rfl, hg, hc⟩
 · exact .nil ad cap 2
 · cases ps with
   | nil => exact .nil _ cap 2
   | cons p0 ps =>
     have hget : ∀ (j : Nat) (e : List Dat), ((p0 :: ps).map fun p => [Dat.i p.1, Dat.s p.2])[j]? = some e → ∃ p, (p0 :: ps)[j]? = some p ∧ e = [Dat.i p.1, Dat.s p.2] := fun j e he => by
       rw [List.getElem?_map] at he
       cases h : (p0 :: ps)[j]? with
       | none => rw [h] at he; cases he
       | some p => rw [h] at he; cases he; exact ⟨p, rfl, rfl⟩
     have := Reads.l (F := F) (w := w) g off cap 2 ((p0 :: ps).map fun p => [Dat.i p.1, Dat.s p.2]) (fun j q => if q = 0 then .int .i64 ((p0 :: ps).getD j p0).1 else .string ((p0 :: ps).getD j p0).2) (hF _ rfl (by simp)) hg
       (fun j e he => by obtain ⟨p, _, rfl⟩ := hget j e he; rfl)
       (fun j e q d he hd => by
         obtain ⟨p, hp, rfl⟩ := hget j e he
         rw [List.getD_eq_getElem?_getD, hp]
         match q, hd with
         | 0, _ => exact (hc j p hp).1
         | 1, _ => exact (hc j p hp).2)
       (fun j e q d he hd => by
         obtain ⟨p, hp, rfl⟩ := hget j e he
         rw [List.getD_eq_getElem?_getD, hp]
         match q, hd with
         | 0, hd => simp at hd; subst hd; exact .i _
         | 1, hd => simp at hd; subst hd; exact .s _)
     rwa [List.length_map] at this
end
section
open Go.RowKit
structure OwnD (T : TypeId) (sz B : Nat) (F : Nat → Prop) (w : World) (v : Value) (es : List (List Dat)) : Prop where
 own : ∃ cs : List Value, w.ownsRow B T sz v es.length cs ∧ ∀ (j : Nat) (e : List Dat), es[j]? = some e → e.length = sz ∧ ∀ (q : Nat) (d : Dat), e[q]? = some d → ∃ u, cs[j * sz + q]? = some u ∧ Reads F w u d
 sep : ∀ g, v.ownBlock = some g → ¬ F g
theorem OwnD.nil (T : TypeId) (sz B : Nat) (F : Nat → Prop) (w : World) : OwnD T sz B F w (.slice none 0 0) [] :=
 ⟨⟨[], ⟨by simp, .inl ⟨rfl, rfl⟩⟩, fun j e h => by simp at h⟩, fun g h => by simp [Value.ownBlock] at h⟩
theorem OwnD.form {T : TypeId} {sz B : Nat} {F : Nat → Prop} {w : World} {v : Value} {es : List (List Dat)} (h : OwnD T sz B F w v es) : ∃ ad cap, v = .slice ad es.length cap := by
 obtain ⟨cs, ho, _⟩ := h.own
 rcases ho.2 with ⟨hv, h0⟩ | ⟨g, cap, cur, hv, _⟩
 · exact ⟨none, 0, by rw [hv, h0]⟩
 · exact ⟨_, cap, hv⟩
theorem OwnD.lt {T : TypeId} {sz B : Nat} {F : Nat → Prop} {w : World} {v : Value} {es : List (List Dat)} (h : OwnD T sz B F w v es) : ∀ g, v.ownBlock = some g → B ≤ g ∧ g < w.heap.size := fun g hg => by
 obtain ⟨cs, ho, _⟩ := h.own
 exact ho.lt g hg
theorem OwnD.keep {T : TypeId} {sz B : Nat} {F : Nat → Prop} {w w' : World} {v : Value} {es : List (List Dat)} (h : OwnD T sz B F w v es) (hs : w.heap.size ≤ w'.heap.size) (hF : ∀ k, k < w.heap.size → F k → w'.heap[k]? = w.heap[k]?) (hr : ∀ g, v.ownBlock = some g → w'.heap[g]? = w.heap[g]?) : OwnD T sz B F w' v es := by
 obtain ⟨cs, ho, hc⟩ := h.own
 refine ⟨⟨cs, ⟨ho.1, ?_⟩, fun j e he => ⟨(hc j e he).1, fun q d hd => ?_⟩⟩, h.sep⟩
 · rcases ho.2 with hx | ⟨g, cap, cur, hv, hg, hh, hr2⟩
   · exact .inl hx
   · exact .inr ⟨g, cap, cur, hv, hg, (hr g (by rw [hv]; rfl)).trans hh, hr2⟩
 · obtain ⟨u, h1, h2⟩ := (hc j e he).2 q d hd
   exact ⟨u, h1, h2.keep hs hF⟩
theorem OwnD.under {T : TypeId} {sz B C : Nat} {F : Nat → Prop} {w w' : World} {v : Value} {es : List (List Dat)} (h : OwnD T sz B F w v es) (hb : Below C w w') (hC : w.heap.size ≤ C) : OwnD T sz B F w' v es :=
 h.keep hb.size (fun k hk _ => hb.block k (Nat.lt_of_lt_of_le hk hC)) (fun g hg => hb.block g (Nat.lt_of_lt_of_le (h.lt g hg).2 hC))
theorem ownsRow_one {w : World} {B sz n : Nat} {T : TypeId} {v : Value} {cs cs' : List Value} (h : w.ownsRow B T sz v n cs) (h' : w.ownsRow B T sz v n cs') : cs = cs' := by
 rcases h.2 with ⟨_, h0⟩ | ⟨g, cap, cur, hv, _, hh, _, _, _, ht⟩
 · have h1 := h.1
   have h2 := h'.1
   rw [h0, Nat.zero_mul] at h1 h2
   rw [List.eq_nil_of_length_eq_zero h1, List.eq_nil_of_length_eq_zero h2]
 · rcases h'.2 with ⟨hv', _⟩ | ⟨g', cap', cur', hv', _, hh', _, _, _, ht'⟩
   · rw [hv] at hv'; cases hv'
   · rw [hv] at hv'
     cases hv'
     rw [hh] at hh'
     cases hh'
     rw [← ht, ← ht']
theorem OwnD.grow {T : TypeId} {sz B : Nat} {F F' : Nat → Prop} {w w2 : World} {v v2 : Value} {es : List (List Dat)} {e : List Dat} {cs news : List Value} (h : OwnD T sz B F w v es) (ho : w.ownsRow B T sz v es.length cs)
   (he : e.length = sz) (hnew : ∀ (q : Nat) (d : Dat), e[q]? = some d → ∃ u, news[q]? = some u ∧ Reads F' w2 u d)
   (h2 : w2.ownsRow B T sz v2 (es.length + 1) (cs ++ news)) (hg : w.grownBy w2 v.ownBlock) (hF : ∀ k, k < w.heap.size → F k → F' k) (hsep : ∀ g, v2.ownBlock = some g → ¬ F' g) : OwnD T sz B F' w2 v2 (es ++ [e]) := by
 obtain ⟨cs', ho', hc⟩ := h.own
 obtain rfl := ownsRow_one ho ho'
 refine ⟨⟨cs ++ news, by rw [List.length_append]; exact h2, fun j x hx => ?_⟩, hsep⟩
 have hl : cs.length = es.length * sz := ho'.1
 by_cases hj : j < es.length
 · rw [List.getElem?_append_left hj] at hx
   obtain ⟨h1, h3⟩ := hc j x hx
   refine ⟨h1, fun q d hd => ?_⟩
   obtain ⟨u, h4, h5⟩ := h3 q d hd
   exact ⟨u, by rw [List.getElem?_append_left (List.getElem?_eq_some_iff.1 h4).1]; exact h4, h5.move hg.size (fun k hk hFk => ⟨hg.block k hk (fun e => h.sep k e.symm hFk), hF k hk hFk⟩)⟩
 · have hj2 : j = es.length := by
     have := (List.getElem?_eq_some_iff.1 hx).1
     simp at this
     omega
   subst hj2
   simp at hx
   subst hx
   refine ⟨he, fun q d hd => ?_⟩
   obtain ⟨u, h4, h5⟩ := hnew q d hd
   refine ⟨u, ?_, h5⟩
   rw [List.getElem?_append_right (by omega), hl, Nat.add_sub_cancel_left]
   exact h4
theorem OwnD.reads {T : TypeId} {sz B : Nat} {F : Nat → Prop} {w : World} {v : Value} {es : List (List Dat)} (h : OwnD T sz B F w v es) : Reads (fun k => F k ∨ v.ownBlock = some k) w v (.l sz es) := by
 obtain ⟨cs, ho, hc⟩ := h.own
 cases es with
 | nil =>
   obtain ⟨ad, cap, hv⟩ := h.form
   rw [hv]
   exact .nil ad cap sz
 | cons e0 es =>
   rcases ho.2 with ⟨_, h0⟩ | ⟨g, cap, cur, hv, hB, hh, hnc, hcp, hcs, ht⟩
   · simp at h0
   · subst hv
     refine .l g 0 cap sz (e0 :: es) (fun j q => cs.getD (j * sz + q) undef) (.inr rfl) (lt_of_blk hh) (fun j e he => (hc j e he).1) (fun j e q d he hd => ?_) (fun j e q d he hd => ?_)
     · obtain ⟨u, h1, _⟩ := (hc j e he).2 q d hd
       have := ho.cells (g := g) rfl _ _ h1
       rw [Addr.add_lit] at this
       rw [List.getD_eq_getElem?_getD, h1, Nat.add_assoc]
       exact this
     · obtain ⟨u, h1, h2⟩ := (hc j e he).2 q d hd
       rw [List.getD_eq_getElem?_getD, h1]
       exact h2.mono (fun k _ hk => .inl hk)
end
section
open Go.RowKit
section
variable {P : Program} {ops : Array Oper} {o : Oper} {a : Act} {w : World} {Q : Exit → Act → World → Prop} {K : Act → World → Prop}
theorem wpOp_k {i : Nat} (hi : ops[i]? = some o) (hw : Region.wanted o (yielded ops a.tmps) = true) (h : ∀ K' : Act → World → Prop, (∀ a w, K a w → K' a w) → o.wp P a w K' Q) : wpOp P ops Q i K a w := by
 unfold Go.wpOp
 simp only [hi, hw, if_true]
 exact .inl (h _ (fun _ _ h => h))
end
section
variable {o : Oper} {a : Act} {w : World} {Q : Exit → Act → World → Prop} {K : Act → World → Prop}
end
theorem ints_far {w w' : World} {ad : Option Addr} {l : List Int} (h : IntsIn w ad l) (hs : w.heap.size ≤ w'.heap.size) (hb : ∀ x, ad = some x → w'.heap[x.block]? = w.heap[x.block]?) : IntsIn w' ad l := by
 rcases h with h | ⟨g, off, rfl, hg, hc⟩
 · exact .inl h
 · exact .inr ⟨g, off, rfl, Nat.lt_of_lt_of_le hg hs, fun j z hz => (World.cell?_of_block (a := ⟨g, off + j, none⟩) (hb ⟨g, off, none⟩ rfl)).trans (hc j z hz)⟩
theorem pairs_far {w w' : World} {ad : Option Addr} {ps : List (Int × ByteArray)} (h : PairsIn w ad ps) (hs : w.heap.size ≤ w'.heap.size) (hb : ∀ x, ad = some x → w'.heap[x.block]? = w.heap[x.block]?) : PairsIn w' ad ps := by
 rcases h with h | ⟨g, off, rfl, hg, hc⟩
 · exact .inl h
 · exact .inr ⟨g, off, rfl, Nat.lt_of_lt_of_le hg hs, fun j p hp => ⟨(World.cell?_of_block (a := ⟨g, off + j * 2, none⟩) (hb ⟨g, off, none⟩ rfl)).trans (hc j p hp).1, (World.cell?_of_block (a := ⟨g, off + j * 2 + 1, none⟩) (hb ⟨g, off, none⟩ rfl)).trans (hc j p hp).2⟩⟩
structure CpSt (w0 w : World) (e : Int) (vm vs : Value) : Prop where
 ln : LnAt w w0.heap.size e vm vs
 res : w.heap[w0.heap.size + 1]? = some (.cells #[.int .i64 0, .slice none 0 0, .slice none 0 0] 74 (0, 0))
 bel : Below w0.heap.size w0 w
theorem CpSt.keep {w0 w w' : World} {e : Int} {vm vs : Value} (h : CpSt w0 w e vm vs) (hb : Below w.heap.size w w') : CpSt w0 w' e vm vs :=
 ⟨h.ln.keep hb, (hb.block _ (lt_of_blk h.res)).trans h.res, h.bel.trans (hb.mono h.bel.size)⟩
theorem cell_three {w : World} {b : Nat} {x0 x1 x2 : Value} {T : TypeId} {fr : Nat × Nat} (h : w.heap[b]? = some (.cells #[x0, x1, x2] T fr)) : w.cell? ⟨b, 0, none⟩ = some x0 ∧ w.cell? ⟨b, 1, none⟩ = some x1 ∧ w.cell? ⟨b, 2, none⟩ = some x2 :=
 ⟨cell_at (L := [x0, x1, x2]) h 0 _ rfl, cell_at (L := [x0, x1, x2]) h 1 _ rfl, cell_at (L := [x0, x1, x2]) h 2 _ rfl⟩
theorem res_put3 {w : World} {b : Nat} {p q r x0 x1 x2 : Value} {T : TypeId} (h : w.heap[b]? = some (.cells #[p, q, r] T (0, 0))) : (((w.setCell ⟨b, 0, none⟩ x0).setCell ⟨b, 1, none⟩ x1).setCell ⟨b, 2, none⟩ x2).heap[b]? = some (.cells #[x0, x1, x2] T (0, 0)) := by
 have h1 : (w.setCell ⟨b, 0, none⟩ x0).heap[b]? = some (.cells #[x0, q, r] T (0, 0)) := (blk_set h 0 x0).trans (by simp)
 have h2 : ((w.setCell ⟨b, 0, none⟩ x0).setCell ⟨b, 1, none⟩ x1).heap[b]? = some (.cells #[x0, x1, r] T (0, 0)) := (blk_set h1 1 x1).trans (by simp)
 exact (blk_set h2 2 x2).trans (by simp)
theorem load_link (w : World) (b : Nat) (x0 x1 x2 : Value) (c0 : w.cell? ⟨b, 0, none⟩ = some x0) (c1 : w.cell? ⟨b, 1, none⟩ = some x1) (c2 : w.cell? ⟨b, 2, none⟩ = some x2) : (loadVar 74 ⟨b, 0, none⟩).run Tryz.prog w = .ok (.agg #[x0, x1, x2]) w := by
 go_simp
theorem ret_one {f : Func} {a : Act} {w : World} {Q : Ending → World → Prop} {s : Nat} {t : TypeId} {ad : Addr} {v : Value} (hr : f.results = #[.cell s t]) (hs : a.tmps.getD s undef = .pointer (some ad)) (hl : (loadVar t ad).run Tryz.prog w = .ok v w) (hd : a.defers = [])
   (h : Q (.returned v) w) : bodyPost Tryz.prog f Q .ret a w := by
 refine bodyPost_ret (v := v) ?_ hd h
 have h1 : a.tmps.getD s undef = .pointer (some ad) := hs
 simp [results, hr, -Array.getD_eq_getD_getElem?, h1, asAddr, hl]
end
section
open Go.RowKit
abbrev Lk := Int × (List Int × List (Int × ByteArray))
def dLk (k : Lk) : List Dat := [.i k.1, dInts k.2.1, dPairs k.2.2]
def dLks (ls : List Lk) : List (List Dat) := ls.map dLk
theorem dLks_len (ls : List Lk) : (dLks ls).length = ls.length := List.length_map ..
theorem dLks_at {ls : List Lk} {j : Nat} {k : Lk} (h : ls[j]? = some k) : (dLks ls)[j]? = some (dLk k) := by rw [dLks, List.getElem?_map, h]; rfl
def atZ (ep : Int) (ls : List Lk) (e : Int) : Int := if e = 0 then ep else if 1 ≤ e ∧ e ≤ ls.length then (ls.getD (e - 1).toNat (0, [], [])).1 else 0
def atM (fm : List Int) (ls : List Lk) (e : Int) : List Int := if e = 0 then fm else if 1 ≤ e ∧ e ≤ ls.length then (ls.getD (e - 1).toNat (0, [], [])).2.1 else []
def atB (ls : List Lk) (e : Int) : Bool := decide (0 ≤ e ∧ e ≤ ls.length)
theorem load_conf (w : World) (b : Nat) (x y : Value) (c0 : w.cell? ⟨b, 0, none⟩ = some x) (c1 : w.cell? ⟨b, 1, none⟩ = some y) : (loadVar 24 ⟨b, 0, none⟩).run Tryz.prog w = .ok (.agg #[x, y]) w := by
 go_simp
end
section
open Go.RowKit
theorem Tryz.info74 : (Tryz.prog.info? 74).map (fun i => (i.zero, i.size, i.bytes)) = some (some (.agg #[.int .i64 0, .slice none 0 0, .slice none 0 0]), 3, 56) := by kernel_rfl
section
variable {o : Oper} {a : Act} {w : World} {Q : Exit → Act → World → Prop} {K : Act → World → Prop}
end
def lastZ (ep : Int) (ls : List Lk) : Int := atZ ep ls (ls.length : Int)
def lastM (fm : List Int) (ls : List Lk) : List Int := atM fm ls (ls.length : Int)
theorem lastM_len (fm : List Int) (ls : List Lk) (h0 : fm.length ≤ maxLen) (h : ∀ k, k ∈ ls → k.2.1.length ≤ maxLen) : (lastM fm ls).length ≤ maxLen := by
 unfold lastM atM
 split
 · exact h0
 · split
   · next h1 =>
     have hj : ((ls.length : Int) - 1).toNat < ls.length := by omega
     rw [List.getD_eq_getElem?_getD, List.getElem?_eq_getElem hj]
     exact h _ (List.getElem_mem hj)
   · exact Nat.zero_le _
end
section
open Go.RowKit
end
section
open Go.RowKit
theorem take_grow {α : Type} {l1 l2 : List α} {j : Nat} {s : α} (h : l1.take j = l2.take j) (h1 : l1[j]? = some s) (h2 : l2[j]? = some s) : l1.take (j + 1) = l2.take (j + 1) := by
 obtain ⟨hj1, e1⟩ := List.getElem?_eq_some_iff.1 h1
 obtain ⟨hj2, e2⟩ := List.getElem?_eq_some_iff.1 h2
 rw [List.take_succ_eq_append_getElem hj1, List.take_succ_eq_append_getElem hj2, h, e1, e2]
theorem ne_of_at {α : Type} {l1 l2 : List α} {j : Nat} {s t : α} (h1 : l1[j]? = some s) (h2 : l2[j]? = some t) (h : s ≠ t) : l1 ≠ l2 := fun e => by
 rw [e, h2] at h1
 cases h1
 exact h rfl
end
section
open Go.RowKit
theorem lks_at {G : Nat → Prop} {w : World} {v : Value} {cs : List Lk} (h : Reads G w v (.l 3 (dLks cs))) (j : Nat) (k : Lk) (hj : cs[j]? = some k) :
   ∃ g off cap a1 c1 a2 c2, v = .slice (some ⟨g, off, none⟩) cs.length cap ∧ g < w.heap.size ∧ w.cell? ⟨g, off + j * 3, none⟩ = some (.int .i64 k.1) ∧ w.cell? ⟨g, off + j * 3 + 1, none⟩ = some (.slice a1 k.2.1.length c1) ∧ w.cell? ⟨g, off + j * 3 + 2, none⟩ = some (.slice a2 k.2.2.length c2) ∧ IntsIn w a1 k.2.1 ∧ PairsIn w a2 k.2.2 := by
 obtain ⟨g, off, cap, hv, _, hg, _, hc⟩ := h.at j (dLk k) (dLks_at hj)
 obtain ⟨u0, h0, r0⟩ := hc 0 (.i k.1) rfl
 obtain ⟨u1, h1, r1⟩ := hc 1 (dInts k.2.1) rfl
 obtain ⟨u2, h2, r2⟩ := hc 2 (dPairs k.2.2) rfl
 obtain ⟨a1, c1, e1, i1, _⟩ := reads_ints r1
 obtain ⟨a2, c2, e2, i2, _⟩ := reads_pairs r2
 rw [dLks_len] at hv
 exact ⟨g, off, cap, a1, c1, a2, c2, hv, hg, by rw [r0.int] at h0; exact h0, by rw [h1, e1], by rw [h2, e2], i1, i2⟩
theorem lks_form {G : Nat → Prop} {w : World} {v : Value} {cs : List Lk} (h : Reads G w v (.l 3 (dLks cs))) : ∃ ad cap, v = .slice ad cs.length cap := by
 obtain ⟨ad, cap, hv⟩ := h.form
 rw [dLks_len] at hv
 exact ⟨ad, cap, hv⟩
def addE (ep : Int) (fm : List Int) (ls : List Lk) (k : Lk) : Int := validE (lastZ ep ls) (lastM fm ls) k.1 k.2.1 k.2.2
def chainE (ep : Int) (fm : List Int) : List Lk → List Lk → Int
 | _, [] => 0
 | pre, k :: cs => if addE ep fm pre k = 0 then chainE ep fm (pre ++ [k]) cs else addE ep fm pre k
def otherTo (ls cs : List Lk) (n : Nat) : Bool := (List.range n).any fun i => decide (i < cs.length ∧ i < ls.length) && !decide ((cs.getD i (0, [], [])).2.1 = (ls.getD i (0, [], [])).2.1)
def takeE (ep : Int) (fm : List Int) (ls cs : List Lk) : Int :=
 if 64 < cs.length then 3 else if chainE ep fm [] cs ≠ 0 then chainE ep fm [] cs else if otherTo ls cs cs.length = true then 22 else if cs.length ≤ ls.length then 17 else 0
theorem chainE_step (ep : Int) (fm : List Int) (cs : List Lk) (j : Nat) (k : Lk) (h : cs[j]? = some k) (h0 : addE ep fm (cs.take j) k = 0) : chainE ep fm (cs.take (j + 1)) (cs.drop (j + 1)) = chainE ep fm (cs.take j) (cs.drop j) := by
 obtain ⟨hj, rfl⟩ := List.getElem?_eq_some_iff.1 h
 rw [List.drop_eq_getElem_cons hj, chainE, if_pos h0, List.take_succ_eq_append_getElem hj]
theorem chainE_stop (ep : Int) (fm : List Int) (cs : List Lk) (j : Nat) (k : Lk) (h : cs[j]? = some k) (h0 : addE ep fm (cs.take j) k ≠ 0) : chainE ep fm (cs.take j) (cs.drop j) = addE ep fm (cs.take j) k := by
 obtain ⟨hj, rfl⟩ := List.getElem?_eq_some_iff.1 h
 rw [List.drop_eq_getElem_cons hj, chainE, if_neg h0]
end
section
open Go.RowKit
theorem text_no {r t : ByteArray} (h : r.data.toList ≠ t.data.toList) : (r.toList == t.toList) = false := by
 rw [data_list, data_list]
 simpa using h
end
section
open Go.RowKit
theorem kept_of_below {b : Nat} {r : Option Nat} {w w' : World} (h : Below w.heap.size w w') : Kept b r w w' := ⟨h.os, h.tape, h.output, h.size, fun k hk _ _ => h.block k hk⟩
theorem otherTo_step {ls cs : List Lk} {p : Nat} {k1 k2 : Lk} (h1 : cs[p]? = some k1) (h2 : ls[p]? = some k2) : otherTo ls cs (p + 1) = (otherTo ls cs p || !decide (k1.2.1 = k2.2.1)) := by
 obtain ⟨hp1, e1⟩ := List.getElem?_eq_some_iff.1 h1
 obtain ⟨hp2, e2⟩ := List.getElem?_eq_some_iff.1 h2
 rw [otherTo, List.range_succ, List.any_append]
 simp [otherTo, List.getD_eq_getElem?_getD, hp1, hp2, e1, e2]
theorem otherTo_all {ls cs : List Lk} {p : Nat} (h : cs.length ≤ p ∨ ls.length ≤ p) (h0 : otherTo ls cs p = false) : otherTo ls cs cs.length = false := by
 rw [otherTo, List.any_eq_false] at h0 ⊢
 intro i hi hq
 rw [Bool.and_eq_true_iff] at hq
 have h3 := of_decide_eq_true hq.1
 exact h0 i (List.mem_range.2 (by omega)) (by rw [Bool.and_eq_true_iff]; exact hq)
theorem otherTo_up {ls cs : List Lk} {p : Nat} (hp : p ≤ cs.length) (h : otherTo ls cs p = true) : otherTo ls cs cs.length = true := by
 rw [otherTo, List.any_eq_true] at h ⊢
 obtain ⟨i, hi, hq⟩ := h
 exact ⟨i, List.mem_range.2 (by have := List.mem_range.1 hi; omega), hq⟩
end
section
open Go.RowKit
end
section
open Go.RowKit
end
section
open Go.RowKit
end
section
open Go.RowKit
structure Outs (O : Nat → Prop) (w w' : World) : Prop where
 os : w'.os = w.os
 tape : w'.tape = w.tape
 output : w'.output = w.output
 size : w.heap.size ≤ w'.heap.size
 block : ∀ k, k < w.heap.size → ¬ O k → w'.heap[k]? = w.heap[k]?
theorem Outs.trans {O O' : Nat → Prop} {x y z : World} (h : Outs O x y) (k : Outs O' y z) (hO : ∀ j, j < x.heap.size → O' j → O j) : Outs O x z :=
 ⟨k.os.trans h.os, k.tape.trans h.tape, k.output.trans h.output, Nat.le_trans h.size k.size, fun j hj hn => (k.block j (Nat.lt_of_lt_of_le hj h.size) (fun hq => hn (hO j hj hq))).trans (h.block j hj hn)⟩
theorem outs_of {O : Nat → Prop} {w w' : World} (h : Below w.heap.size w w') : Outs O w w' := ⟨h.os, h.tape, h.output, h.size, fun k hk _ => h.block k hk⟩
theorem Outs.below {O : Nat → Prop} {w w' : World} {B : Nat} (h : Outs O w w') (hB : B ≤ w.heap.size) (hO : ∀ k, O k → B ≤ k) : Below B w w' :=
 ⟨h.os, h.tape, h.output, h.size, fun k hk => h.block k (Nat.lt_of_lt_of_le hk hB) (fun hq => Nat.lt_irrefl _ (Nat.lt_of_lt_of_le hk (hO k hq)))⟩
end
section
end
section
set_option maxRecDepth 100000
open Go.RowKit
theorem NewI.far_keep {B : Nat} {w w' : World} {ad : Option Addr} {l : List Int} (h : NewI B w ad l) (hs : w.heap.size ≤ w'.heap.size) (hb : ∀ x, ad = some x → w'.heap[x.block]? = w.heap[x.block]?) : NewI B w' ad l :=
 ⟨ints_far h.ints hs hb, fun x hx => ⟨(h.far x hx).1, (h.far x hx).2.keep (hb x hx)⟩⟩
theorem NewT.far_keep {B : Nat} {w w' : World} {ad : Option Addr} {l : List (Int × ByteArray)} (h : NewT B w ad l) (hs : w.heap.size ≤ w'.heap.size) (hb : ∀ x, ad = some x → w'.heap[x.block]? = w.heap[x.block]?) : NewT B w' ad l :=
 ⟨pairs_far h.pairs hs hb, fun x hx => ⟨(h.far x hx).1, (h.far x hx).2.keep (hb x hx)⟩⟩
theorem NewI.low {B C : Nat} {w : World} {ad : Option Addr} {l : List Int} (h : NewI B w ad l) (hC : C ≤ B) : NewI C w ad l := ⟨h.ints, fun x hx => ⟨Nat.le_trans hC (h.far x hx).1, (h.far x hx).2⟩⟩
theorem NewT.low {B C : Nat} {w : World} {ad : Option Addr} {l : List (Int × ByteArray)} (h : NewT B w ad l) (hC : C ≤ B) : NewT C w ad l := ⟨h.pairs, fun x hx => ⟨Nat.le_trans hC (h.far x hx).1, (h.far x hx).2⟩⟩
theorem res_put2 {w : World} {b : Nat} {p q x0 x1 : Value} {T : TypeId} (h : w.heap[b]? = some (.cells #[p, q] T (0, 0))) : ((w.setCell ⟨b, 0, none⟩ x0).setCell ⟨b, 1, none⟩ x1).heap[b]? = some (.cells #[x0, x1] T (0, 0)) := by
 have h1 : (w.setCell ⟨b, 0, none⟩ x0).heap[b]? = some (.cells #[x0, q] T (0, 0)) := (blk_set h 0 x0).trans (by simp)
 exact (blk_set h1 1 x1).trans (by simp)
def CfAt (w : World) (b : Nat) (e : Int) (vm : Value) : Prop := w.heap[b]? = some (.cells #[.int .i64 e, vm] 24 (0, 0))
theorem CfAt.cells {w : World} {b : Nat} {e : Int} {vm : Value} (h : CfAt w b e vm) : w.cell? ⟨b, 0, none⟩ = some (.int .i64 e) ∧ w.cell? ⟨b, 1, none⟩ = some vm := cell_two h
theorem CfAt.keep {w w' : World} {b : Nat} {e : Int} {vm : Value} (h : CfAt w b e vm) (hb : Below w.heap.size w w') : CfAt w' b e vm := (hb.block b (lt_of_blk h)).trans h
structure CcSt (w0 w : World) (e : Int) (vm : Value) : Prop where
 cf : CfAt w w0.heap.size e vm
 res : w.heap[w0.heap.size + 1]? = some (.cells #[.int .i64 0, .slice none 0 0] 24 (0, 0))
 bel : Below w0.heap.size w0 w
theorem CcSt.keep {w0 w w' : World} {e : Int} {vm : Value} (h : CcSt w0 w e vm) (hb : Below w.heap.size w w') : CcSt w0 w' e vm :=
 ⟨h.cf.keep hb, (hb.block _ (lt_of_blk h.res)).trans h.res, h.bel.trans (hb.mono h.bel.size)⟩
set_option maxHeartbeats 3200000 in
theorem lcopyConf_any (e : Int) (a : Option Addr) (n cap : Nat) (l : List Int) (hn : l.length = n) (hm : n * 8 ≤ 140737488355328) (w : World) (hI : IntsIn w a l) :
   Calls Tryz.prog 78 #[.agg #[.int .i64 e, .slice a n cap]] w fun r w' => ∃ a1 c1, r = .returned (.agg #[.int .i64 e, .slice a1 n c1]) ∧ NewI w.heap.size w' a1 l ∧ Below w.heap.size w w' := by
 have H0 : Hid (CcSt w ((w.alloc (.cells #[.int .i64 e, .slice a n cap] 24)).alloc (.cells #[.int .i64 0, .slice none 0 0] 24)) e (.slice a n cap)) := hid
   ⟨(Below.heap_alloc _ _ _ (by simp)).trans (heap_alloc_last w _), snd_alloc w _ _, ((Below.refl _ _).alloc (Nat.le_refl _) _).alloc (by simp) _⟩
 have HD : Hid (∀ u : World, Below w.heap.size w u → IntsIn u a l) := hid (fun u hu => hI.keep hu (Nat.le_refl _))
 have HL := hid (And.intro hn hm)
 clear hI hn hm
 go_enter Tryz.func78, Tryz.ntmps78
 go_wp2
 obtain ⟨w1, ew⟩ : ∃ w1, w1 = (w.alloc (.cells #[.int .i64 e, .slice a n cap] 24)).alloc (.cells #[.int .i64 0, .slice none 0 0] 24) := ⟨_, rfl⟩
 rw [← ew] at H0 ⊢
 clear ew
 have H1 : Hid (CcSt w w1.drew e (.slice a n cap)) := hid (H0.out.keep (Below.refl _ _).drew)
 have HS := hid H1.out.cf
 refine wp_region_held (S := fun ww => CfAt ww w.heap.size e (.slice a n cap)) (by kernel_rfl) ?_
 try (change wpAnyH _ _ _ _ _ _ _ _ (World.drew _))
 refine wpAnyH_take (i := 0) (v := ?v1) rfl (by kernel_rfl) (by kernel_rfl) (by kernel_rfl) (fun _ _ _ h => h) (Or.inl ⟨by rfl, ?hy1⟩) HS.out ?rest1
 case hy1 => (intro ww _; go_simp; try with_reducible rfl)
 go_simp
 refine wpAnyH_take (i := 1) (v := ?v2) rfl (by kernel_rfl) (by kernel_rfl) (by kernel_rfl) (fun _ _ _ h => h) (Or.inl ⟨by rfl, ?hy2⟩) HS.out ?rest2
 case hy2 => (intro ww hS; obtain ⟨y0, y1⟩ := hS.cells; go_simp; try with_reducible rfl)
 go_simp
 refine wpAnyH_take (i := 2) (v := ?v3) rfl (by kernel_rfl) (by kernel_rfl) (by kernel_rfl) (fun _ _ _ h => h) (Or.inl ⟨by rfl, ?hy3⟩) HS.out ?rest3
 case hy3 => (intro ww _; go_simp; try with_reducible rfl)
 go_simp
 refine wpAnyH_take (i := 3) (v := ?v4) rfl (by kernel_rfl) (by kernel_rfl) (by kernel_rfl) (fun _ _ _ h => h) (Or.inl ⟨by rfl, ?hy4⟩) HS.out ?rest4
 case hy4 => (intro ww hS; obtain ⟨y0, y1⟩ := hS.cells; go_simp; try with_reducible rfl)
 go_simp
 refine wpAnyH_all (rs := [4]) (by kernel_rfl) (by simp) ?_
 intro i hi
 obtain rfl := List.mem_singleton.1 hi
 clear hi
 refine wpOp_k rfl (by rfl) (fun K hK => ?_)
 go_simp
 refine (cloneInts_any a n cap l HL.out.1 HL.out.2 _ (HD.out _ H1.out.bel)).mono ?_
 rintro r w2 ⟨a1, c1, rfl, hN2, hb2⟩
 have H2 := hid (And.intro (H1.out.keep hb2) (And.intro hN2 hb2))
 clear hN2 hb2
 refine hK _ _ ⟨H2.out.1.cf, ?_⟩
 clear hK K
 go_simp
 refine wpAnyH_take (i := 5) (v := ?v5) rfl (by kernel_rfl) (by kernel_rfl) (by kernel_rfl) (fun _ _ _ h => h) (Or.inl ⟨by rfl, ?hy5⟩) H2.out.1.cf ?rest5
 case hy5 => (intro ww _; go_simp; try with_reducible rfl)
 go_simp
 refine wpAnyH_all (rs := [6]) (by kernel_rfl) (by simp) ?_
 intro i hi
 obtain rfl := List.mem_singleton.1 hi
 clear hi
 refine wpOp_k rfl (by rfl) (fun K hK => ?_)
 have r0 := (cell_two H2.out.1.res).1
 have r1 := (cell_two H2.out.1.res).2
 have f0 := free_at H2.out.1.res 0
 have f1 := free_at H2.out.1.res 1
 go_simp
 refine hK _ _ ⟨?_, ?_⟩
 · refine (Below.heap_setCell _ _ _ _ ?_).trans ((Below.heap_setCell _ _ _ _ ?_).trans H2.out.1.cf) <;> simp
 clear hK K r0 r1 f0 f1
 go_simp
 refine wpAnyH_done (by kernel_rfl) ?_ _
 go_simp
 go_wp2
 refine ret_one (s := 2) (ad := ⟨w.heap.size + 1, 0, none⟩) rfl rfl (load_conf _ _ (.int .i64 e) (.slice a1 n c1) (cell_two (res_put2 H2.out.1.res)).1 (cell_two (res_put2 H2.out.1.res)).2) rfl ?_
 have hsz : w.heap.size + 1 < w1.drew.heap.size := lt_of_blk H1.out.res
 refine ⟨a1, c1, rfl, (H2.out.2.1.low (by omega)).far_keep (by simp [World.setCell]) (fun x hx => ?_), (H2.out.1.bel.setCell (p := ⟨w.heap.size + 1, 0, none⟩) (Nat.le_succ _) _).setCell (p := ⟨w.heap.size + 1, 1, none⟩) (Nat.le_succ _) _⟩
 have h1 := (H2.out.2.1.far x hx).1
 refine (Below.heap_setCell _ _ _ _ ?_).trans (Below.heap_setCell _ _ _ _ ?_) <;> (show x.block ≠ w.heap.size + 1; omega)
set_option maxHeartbeats 3200000 in
theorem lcopyLink_any (e : Int) (a : Option Addr) (n cap : Nat) (l : List Int) (hn : l.length = n) (hm : n * 8 ≤ 140737488355328) (b : Option Addr) (m cp : Nat) (ss : List (Int × ByteArray)) (hsn : ss.length = m) (hsm : m * 24 ≤ 140737488355328) (w : World) (hI : IntsIn w a l) (hP : PairsIn w b ss) :
   Calls Tryz.prog 145 #[.agg #[.int .i64 e, .slice a n cap, .slice b m cp]] w fun r w' => ∃ a1 c1 a2 c2, r = .returned (.agg #[.int .i64 e, .slice a1 n c1, .slice a2 m c2]) ∧ NewI w.heap.size w' a1 l ∧ NewT w.heap.size w' a2 ss ∧ Below w.heap.size w w' := by
 have H0 : Hid (CpSt w ((w.alloc (.cells #[.int .i64 e, .slice a n cap, .slice b m cp] 74)).alloc (.cells #[.int .i64 0, .slice none 0 0, .slice none 0 0] 74)) e (.slice a n cap) (.slice b m cp)) := hid
   ⟨(Below.heap_alloc _ _ _ (by simp)).trans (heap_alloc_last w _), snd_alloc w _ _, ((Below.refl _ _).alloc (Nat.le_refl _) _).alloc (by simp) _⟩
 have HD : Hid (∀ u : World, Below w.heap.size w u → IntsIn u a l ∧ PairsIn u b ss) := hid (fun u hu => ⟨hI.keep hu (Nat.le_refl _), hP.keep hu (Nat.le_refl _)⟩)
 have HL := hid (And.intro (And.intro hn hm) (And.intro hsn hsm))
 clear hI hP hn hm hsn hsm
 go_enter Tryz.func145, Tryz.ntmps145
 go_wp2
 obtain ⟨w1, ew⟩ : ∃ w1, w1 = (w.alloc (.cells #[.int .i64 e, .slice a n cap, .slice b m cp] 74)).alloc (.cells #[.int .i64 0, .slice none 0 0, .slice none 0 0] 74) := ⟨_, rfl⟩
 rw [← ew] at H0 ⊢
 clear ew
 have H1 : Hid (CpSt w w1.drew e (.slice a n cap) (.slice b m cp)) := hid (H0.out.keep (Below.refl _ _).drew)
 have HS := hid H1.out.ln
 refine wp_region_held (S := fun ww => LnAt ww w.heap.size e (.slice a n cap) (.slice b m cp)) (by kernel_rfl) ?_
 try (change wpAnyH _ _ _ _ _ _ _ _ (World.drew _))
 refine wpAnyH_take (i := 0) (v := ?v1) rfl (by kernel_rfl) (by kernel_rfl) (by kernel_rfl) (fun _ _ _ h => h) (Or.inl ⟨by rfl, ?hy1⟩) HS.out ?rest1
 case hy1 => (intro ww _; go_simp; try with_reducible rfl)
 go_simp
 refine wpAnyH_take (i := 1) (v := ?v2) rfl (by kernel_rfl) (by kernel_rfl) (by kernel_rfl) (fun _ _ _ h => h) (Or.inl ⟨by rfl, ?hy2⟩) HS.out ?rest2
 case hy2 => (intro ww hS; obtain ⟨y0, y1, y2⟩ := hS.cells; go_simp; try with_reducible rfl)
 go_simp
 refine wpAnyH_take (i := 3) (v := ?v3) rfl (by kernel_rfl) (by kernel_rfl) (by kernel_rfl) (fun _ _ _ h => h) (Or.inl ⟨by rfl, ?hy3⟩) HS.out ?rest3
 case hy3 => (intro ww _; go_simp; try with_reducible rfl)
 go_simp
 refine wpAnyH_take (i := 4) (v := ?v4) rfl (by kernel_rfl) (by kernel_rfl) (by kernel_rfl) (fun _ _ _ h => h) (Or.inl ⟨by rfl, ?hy4⟩) HS.out ?rest4
 case hy4 => (intro ww hS; obtain ⟨y0, y1, y2⟩ := hS.cells; go_simp; try with_reducible rfl)
 go_simp
 refine wpAnyH_all (rs := [2]) (by kernel_rfl) (by simp) ?_
 intro i hi
 obtain rfl := List.mem_singleton.1 hi
 clear hi
 refine wpOp_k rfl (by rfl) (fun K hK => ?_)
 go_simp
 refine (lcopyConf_any e a n cap l HL.out.1.1 HL.out.1.2 _ (HD.out _ H1.out.bel).1).mono ?_
 rintro r w2 ⟨a1, c1, rfl, hN2, hb2⟩
 have H2 := hid (And.intro (H1.out.keep hb2) (And.intro hN2 hb2))
 clear hN2 hb2
 refine hK _ _ ⟨H2.out.1.ln, ?_⟩
 clear hK K
 go_simp
 refine wpAnyH_all (rs := [5]) (by kernel_rfl) (by simp) ?_
 intro i hi
 obtain rfl := List.mem_singleton.1 hi
 clear hi
 refine wpOp_k rfl (by rfl) (fun K hK => ?_)
 go_simp
 refine (cloneSigs_any b m cp ss HL.out.2.1 HL.out.2.2 _ (HD.out _ H2.out.1.bel).2).mono ?_
 rintro r w3 ⟨a2, c2, rfl, hN3, hb3⟩
 have H3 := hid (And.intro (H2.out.1.keep hb3) (And.intro hN3 (And.intro (H2.out.2.1.keep hb3) hb3)))
 clear hN3 hb3
 refine hK _ _ ⟨H3.out.1.ln, ?_⟩
 clear hK K
 go_simp
 refine wpAnyH_take (i := 6) (v := ?v5) rfl (by kernel_rfl) (by kernel_rfl) (by kernel_rfl) (fun _ _ _ h => h) (Or.inl ⟨by rfl, ?hy5⟩) H3.out.1.ln ?rest5
 case hy5 => (intro ww _; go_simp; try with_reducible rfl)
 go_simp
 refine wpAnyH_all (rs := [7]) (by kernel_rfl) (by simp) ?_
 intro i hi
 obtain rfl := List.mem_singleton.1 hi
 clear hi
 refine wpOp_k rfl (by rfl) (fun K hK => ?_)
 have r0 := (cell_three H3.out.1.res).1
 have r1 := (cell_three H3.out.1.res).2.1
 have r2 := (cell_three H3.out.1.res).2.2
 have f0 := free_at H3.out.1.res 0
 have f1 := free_at H3.out.1.res 1
 have f2 := free_at H3.out.1.res 2
 go_simp
 refine hK _ _ ⟨?_, ?_⟩
 · refine (Below.heap_setCell _ _ _ _ ?_).trans ((Below.heap_setCell _ _ _ _ ?_).trans ((Below.heap_setCell _ _ _ _ ?_).trans H3.out.1.ln)) <;> simp
 clear hK K r0 r1 r2 f0 f1 f2
 go_simp
 refine wpAnyH_done (by kernel_rfl) ?_ _
 go_simp
 go_wp2
 refine ret_one (s := 2) (ad := ⟨w.heap.size + 1, 0, none⟩) rfl rfl (load_link _ _ (.int .i64 e) (.slice a1 n c1) (.slice a2 m c2) (cell_three (res_put3 H3.out.1.res)).1 (cell_three (res_put3 H3.out.1.res)).2.1 (cell_three (res_put3 H3.out.1.res)).2.2) rfl ?_
 have hsz : w.heap.size + 1 < w1.drew.heap.size := lt_of_blk H1.out.res
 have hsz2 := H2.out.2.2.size
 refine ⟨a1, c1, a2, c2, rfl, (H3.out.2.2.1.low (by omega)).far_keep (by simp [World.setCell]) (fun x hx => ?_), (H3.out.2.1.low (by omega)).far_keep (by simp [World.setCell]) (fun x hx => ?_), ((H3.out.1.bel.setCell (p := ⟨w.heap.size + 1, 0, none⟩) (Nat.le_succ _) _).setCell (p := ⟨w.heap.size + 1, 1, none⟩) (Nat.le_succ _) _).setCell (p := ⟨w.heap.size + 1, 2, none⟩) (Nat.le_succ _) _⟩
 · have h1 := (H2.out.2.1.far x hx).1
   refine (Below.heap_setCell _ _ _ _ ?_).trans ((Below.heap_setCell _ _ _ _ ?_).trans (Below.heap_setCell _ _ _ _ ?_)) <;> (show x.block ≠ w.heap.size + 1; omega)
 · have h1 := (H3.out.2.1.far x hx).1
   refine (Below.heap_setCell _ _ _ _ ?_).trans ((Below.heap_setCell _ _ _ _ ?_).trans (Below.heap_setCell _ _ _ _ ?_)) <;> (show x.block ≠ w.heap.size + 1; omega)
end
section
set_option maxRecDepth 100000
open Go.RowKit
theorem run_makeL (n : Nat) (hn : n ≤ 1000) : ∃ M : List Value, M.length = n * 3 ∧ ∀ u : World, (Instr.makeSlice 46 (.int .i64 (n : Int)) (.int .i64 (n : Int))).run Tryz.prog u = .ok (.slice (some ⟨u.heap.size, 0, none⟩) n n) (u.alloc (.cells M.toArray 74)) := by
 obtain ⟨i0, hi0, hz0, hz1, hz2⟩ := info_parts Tryz.info74
 refine ⟨(madeCells (Value.agg #[.int .i64 0, .slice none 0 0, .slice none 0 0]).cells (n * 3)).toList, by simp [size_madeCells], fun u => ?_⟩
 have h := run_make (P := Tryz.prog) u 46 74 i0 (.agg #[.int .i64 0, .slice none 0 0, .slice none 0 0]) Tryz.underlying46 hi0 hz0 .i64 .i64 n n (by omega) (by omega) (by rw [hz2]; omega) (by omega)
 rw [hz1, Int.toNat_natCast] at h
 rw [h]
theorem row_put3 {w : World} {b : Nat} {cur : List Value} {T : TypeId} (h : w.heap[b]? = some (.cells cur.toArray T (0, 0))) (o : Nat) (x0 x1 x2 : Value) : (((w.setCell ⟨b, o, none⟩ x0).setCell ⟨b, o + 1, none⟩ x1).setCell ⟨b, o + 2, none⟩ x2).heap[b]? = some (.cells (((cur.set o x0).set (o + 1) x1).set (o + 2) x2).toArray T (0, 0)) := by
 have h1 : (w.setCell ⟨b, o, none⟩ x0).heap[b]? = some (.cells (cur.set o x0).toArray T (0, 0)) := (blk_set h o x0).trans (by simp)
 have h2 : ((w.setCell ⟨b, o, none⟩ x0).setCell ⟨b, o + 1, none⟩ x1).heap[b]? = some (.cells ((cur.set o x0).set (o + 1) x1).toArray T (0, 0)) := (blk_set h1 (o + 1) x1).trans (by simp)
 exact (blk_set h2 (o + 2) x2).trans (by simp)
theorem set3_get (cur : List Value) (o : Nat) (x0 x1 x2 : Value) (ho : o + 2 < cur.length) : (((cur.set o x0).set (o + 1) x1).set (o + 2) x2)[o]? = some x0 ∧ (((cur.set o x0).set (o + 1) x1).set (o + 2) x2)[o + 1]? = some x1 ∧ (((cur.set o x0).set (o + 1) x1).set (o + 2) x2)[o + 2]? = some x2 := by
 refine ⟨?_, ?_, ?_⟩
 · rw [List.getElem?_set_ne (by omega), List.getElem?_set_ne (by omega), List.getElem?_set_self (by omega)]
 · rw [List.getElem?_set_ne (by omega), List.getElem?_set_self (by simp; omega)]
 · rw [List.getElem?_set_self (by simp; omega)]
theorem set3_far (cur : List Value) (o q : Nat) (x0 x1 x2 : Value) (hq : q < o) : (((cur.set o x0).set (o + 1) x1).set (o + 2) x2)[q]? = cur[q]? := by
 rw [List.getElem?_set_ne (by omega), List.getElem?_set_ne (by omega), List.getElem?_set_ne (by omega)]
theorem put3_ne (w : World) (b o k : Nat) (x0 x1 x2 : Value) (h : k ≠ b) : (((w.setCell ⟨b, o, none⟩ x0).setCell ⟨b, o + 1, none⟩ x1).setCell ⟨b, o + 2, none⟩ x2).heap[k]? = w.heap[k]? :=
 (Below.heap_setCell _ _ _ _ h).trans ((Below.heap_setCell _ _ _ _ h).trans (Below.heap_setCell _ _ _ _ h))
structure CkSt (w0 w : World) (F : Nat → Prop) (n : Nat) (cur : List Value) (cs : List Lk) (j : Nat) : Prop where
 row : w.heap[w0.heap.size]? = some (.cells cur.toArray 74 (0, 0))
 len : cur.length = n * 3
 done : ∀ (i : Nat) (k : Lk), cs[i]? = some k → i < j → ∃ u1 u2, cur[i * 3]? = some (.int .i64 k.1) ∧ cur[i * 3 + 1]? = some u1 ∧ cur[i * 3 + 2]? = some u2 ∧ Reads F w u1 (dInts k.2.1) ∧ Reads F w u2 (dPairs k.2.2)
 far : ∀ k, F k → w0.heap.size < k ∧ Free w k
 bel : Below w0.heap.size w0 w
theorem CkSt.keep {w0 w w' : World} {F : Nat → Prop} {n : Nat} {cur : List Value} {cs : List Lk} {j : Nat} (h : CkSt w0 w F n cur cs j) (hb : Below w.heap.size w w') : CkSt w0 w' F n cur cs j :=
 ⟨(hb.block _ (lt_of_blk h.row)).trans h.row, h.len, fun i k hi hj => by
   obtain ⟨u1, u2, h1, h2, h3, h4, h5⟩ := h.done i k hi hj
   exact ⟨u1, u2, h1, h2, h3, h4.under hb (Nat.le_refl _), h5.under hb (Nat.le_refl _)⟩, fun k hk => ⟨(h.far k hk).1, (h.far k hk).2.keep (hb.block k (h.far k hk).2.lt)⟩, h.bel.trans (hb.mono h.bel.size)⟩
def twoF (a1 a2 : Option Addr) : Nat → Prop := fun k => (∃ x, a1 = some x ∧ x.block = k) ∨ ∃ x, a2 = some x ∧ x.block = k
theorem CkSt.put {w0 w : World} {F : Nat → Prop} {n : Nat} {cur : List Value} {cs : List Lk} {j : Nat} (h : CkSt w0 w F n cur cs j) {k : Lk} (hk : cs[j]? = some k) (hj : j < n) {B : Nat} (hB : w0.heap.size < B) {a1 a2 : Option Addr} {c1 c2 : Nat} (h1 : NewI B w a1 k.2.1) (h2 : NewT B w a2 k.2.2) :
   ∃ F' cur', CkSt w0 (((w.setCell ⟨w0.heap.size, j * 3, none⟩ (.int .i64 k.1)).setCell ⟨w0.heap.size, j * 3 + 1, none⟩ (.slice a1 k.2.1.length c1)).setCell ⟨w0.heap.size, j * 3 + 2, none⟩ (.slice a2 k.2.2.length c2)) F' n cur' cs (j + 1) := by
 have hw : ∀ q, q ≠ w0.heap.size → (((w.setCell ⟨w0.heap.size, j * 3, none⟩ (.int .i64 k.1)).setCell ⟨w0.heap.size, j * 3 + 1, none⟩ (.slice a1 k.2.1.length c1)).setCell ⟨w0.heap.size, j * 3 + 2, none⟩ (.slice a2 k.2.2.length c2)).heap[q]? = w.heap[q]? := fun q hq => put3_ne w _ _ q _ _ _ hq
 have hsz : (((w.setCell ⟨w0.heap.size, j * 3, none⟩ (.int .i64 k.1)).setCell ⟨w0.heap.size, j * 3 + 1, none⟩ (.slice a1 k.2.1.length c1)).setCell ⟨w0.heap.size, j * 3 + 2, none⟩ (.slice a2 k.2.2.length c2)).heap.size = w.heap.size := by simp [World.setCell]
 have hrow := row_put3 h.row (j * 3) (.int .i64 k.1) (.slice a1 k.2.1.length c1) (.slice a2 k.2.2.length c2)
 have hbel := ((h.bel.setCell (p := ⟨w0.heap.size, j * 3, none⟩) (Nat.le_refl _) (.int .i64 k.1)).setCell (p := ⟨w0.heap.size, j * 3 + 1, none⟩) (Nat.le_refl _) (.slice a1 k.2.1.length c1)).setCell (p := ⟨w0.heap.size, j * 3 + 2, none⟩) (Nat.le_refl _) (.slice a2 k.2.2.length c2)
 generalize (((w.setCell ⟨w0.heap.size, j * 3, none⟩ (.int .i64 k.1)).setCell ⟨w0.heap.size, j * 3 + 1, none⟩ (.slice a1 k.2.1.length c1)).setCell ⟨w0.heap.size, j * 3 + 2, none⟩ (.slice a2 k.2.2.length c2)) = w' at hw hsz hrow hbel ⊢
 have hfar : ∀ q, (F q ∨ twoF a1 a2 q) → w0.heap.size < q ∧ Free w q := by
   rintro q (hq | ⟨x, hx, rfl⟩ | ⟨x, hx, rfl⟩)
   · exact h.far q hq
   · exact ⟨Nat.lt_of_lt_of_le hB (h1.far x hx).1, (h1.far x hx).2⟩
   · exact ⟨Nat.lt_of_lt_of_le hB (h2.far x hx).1, (h2.far x hx).2⟩
 have hkeep : ∀ {u : Value} {d : Dat}, Reads (fun q => F q ∨ twoF a1 a2 q) w u d → Reads (fun q => F q ∨ twoF a1 a2 q) w' u d := fun hu => hu.keep (Nat.le_of_eq hsz.symm) (fun q _ hq => hw q (by have := (hfar q hq).1; omega))
 have hlen := h.len
 refine ⟨fun q => F q ∨ twoF a1 a2 q, _, hrow, by simpa using hlen, fun i x hx hi => ?_, fun q hq => ⟨(hfar q hq).1, (hfar q hq).2.keep (hw q (by have := (hfar q hq).1; omega))⟩, hbel⟩
 rcases Nat.lt_or_ge i j with hij | hij
 · obtain ⟨u1, u2, e0, e1, e2, r1, r2⟩ := h.done i x hx hij
   refine ⟨u1, u2, ?_, ?_, ?_, hkeep (r1.mono (fun _ _ hq => .inl hq)), hkeep (r2.mono (fun _ _ hq => .inl hq))⟩
   · rw [set3_far _ _ _ _ _ _ (by omega)]; exact e0
   · rw [set3_far _ _ _ _ _ _ (by omega)]; exact e1
   · rw [set3_far _ _ _ _ _ _ (by omega)]; exact e2
 · obtain rfl : i = j := by omega
   rw [hk] at hx
   cases hx
   obtain ⟨e0, e1, e2⟩ := set3_get cur (i * 3) (.int .i64 k.1) (.slice a1 k.2.1.length c1) (.slice a2 k.2.2.length c2) (by omega)
   exact ⟨_, _, e0, e1, e2, hkeep (ints_reads h1.ints (fun x hx _ => .inr (.inl ⟨x, hx, rfl⟩))), hkeep (pairs_reads h2.pairs (fun x hx _ => .inr (.inr ⟨x, hx, rfl⟩)))⟩
theorem CkSt.all {w0 w : World} {F : Nat → Prop} {cur : List Value} {cs : List Lk} (h : CkSt w0 w F cs.length cur cs cs.length) (hl : cs.length ≤ 900) : OwnD 74 3 w0.heap.size F w (.slice (some ⟨w0.heap.size, 0, none⟩) cs.length cs.length) (dLks cs) := by
 refine ⟨⟨cur, ⟨by rw [dLks_len]; exact h.len, .inr ⟨w0.heap.size, cs.length, _, by rw [dLks_len], Nat.le_refl _, h.row, by rw [dLks_len]; exact Nat.le_refl _, by unfold maxLen; omega, by simpa using h.len, ?_⟩⟩, fun j e he => ?_⟩, fun g hg hF => ?_⟩
 · rw [dLks_len, ← h.len]
   simp
 · rw [dLks, List.getElem?_map] at he
   cases hk : cs[j]? with
   | none => rw [hk] at he; cases he
   | some k =>
     rw [hk] at he
     cases he
     obtain ⟨u1, u2, e0, e1, e2, r1, r2⟩ := h.done j k hk (List.getElem?_eq_some_iff.1 hk).1
     refine ⟨rfl, fun q d hd => ?_⟩
     match q, hd with
     | 0, hd => cases hd; exact ⟨_, e0, .i _⟩
     | 1, hd => cases hd; exact ⟨_, e1, r1⟩
     | 2, hd => cases hd; exact ⟨_, e2, r2⟩
 · cases hg
   exact absurd (h.far _ hF).1 (Nat.lt_irrefl _)
set_option maxHeartbeats 3200000 in
theorem lcopyLinks_any (G : Nat → Prop) (cv : Value) (cs : List Lk) (hl : cs.length ≤ 900) (hcs : ∀ k, k ∈ cs → k.2.1.length ≤ 10 ∧ k.2.2.length ≤ 16) (w : World) (hC : Reads G w cv (.l 3 (dLks cs))) :
   Calls Tryz.prog 97 #[cv] w fun r w' => ∃ v F, r = .returned v ∧ OwnD 74 3 w.heap.size F w' v (dLks cs) ∧ (∀ k, F k → w.heap.size ≤ k ∧ Free w' k) ∧ Below w.heap.size w w' := by
 obtain ⟨ca, cc, hv⟩ := lks_form hC
 subst hv
 obtain ⟨M, hM, hmk⟩ := run_makeL cs.length (by omega)
 have hl2 : (cs.length : Int) ≤ 900 := by omega
 have HMk := hid hmk
 have HC := hid (And.intro hC hcs)
 have H0 : Hid (CkSt w (w.alloc (.cells M.toArray 74)) (fun _ => False) cs.length M cs 0) := hid ⟨heap_alloc_last w _, hM, fun i k _ h => absurd h (Nat.not_lt_zero _), fun k hk => hk.elim, (Below.refl _ _).alloc (Nat.le_refl _) _⟩
 have HL := hid hl
 clear hmk hC hcs hM hl
 go_enter Tryz.func97, Tryz.ntmps97
 go_wp2_with (rw [HMk.out])
 go_loopw [11] (fun i wr => ∃ (j : Nat) (F : Nat → Prop) (cur : List Value), j ≤ cs.length ∧ i = .int .i64 (j : Int) ∧ CkSt w wr F cs.length cur cs j)
   (fun i _ => ((cs.length : Int) - intOf i).toNat)
 case atStart => exact ⟨0, _, M, by omega, rfl, H0.out⟩
 case round =>
   obtain ⟨j, F, cur, hj, rfl, hS⟩ := hrel
   have HS := hid hS
   clear hS
   by_cases hjn : j = cs.length
   · have hj1 : ¬ ((j : Int) < (cs.length : Int)) := by omega
     subst hjn
     clear hj
     go_wp2
     go_ret
     exact ⟨_, rfl, F, HS.out.all HL.out, fun q hq => ⟨Nat.le_of_lt (HS.out.far q hq).1, (HS.out.far q hq).2⟩, HS.out.bel⟩
   · have hj1 : (j : Int) < (cs.length : Int) := by omega
     have hj0 : (0 : Int) ≤ (j : Int) := Int.natCast_nonneg _
     obtain ⟨k, hk⟩ : ∃ k, cs[j]? = some k := ⟨_, List.getElem?_eq_getElem (by omega)⟩
     obtain ⟨g, off, _, a1, c1, a2, c2, hv, hg, k0, k1, k2, hi1, hp1⟩ := lks_at HC.out.1 j k hk
     cases hv
     have x0 := (HS.out.bel.cell (p := ⟨g, _, none⟩) hg).trans k0
     have x1 := (HS.out.bel.cell (p := ⟨g, _, none⟩) hg).trans k1
     have x2 := (HS.out.bel.cell (p := ⟨g, _, none⟩) hg).trans k2
     have hA : Below wr.heap.size wr (wr.alloc (.cells #[.int .i64 k.1, .slice a1 k.2.1.length c1, .slice a2 k.2.2.length c2] 74)) := (Below.refl _ _).alloc (Nat.le_refl _) _
     have H1 : Hid (CkSt w (wr.alloc (.cells #[.int .i64 k.1, .slice a1 k.2.1.length c1, .slice a2 k.2.2.length c2] 74)) F cs.length cur cs j) := hid (HS.out.keep hA)
     have HI : Hid (IntsIn (wr.alloc (.cells #[.int .i64 k.1, .slice a1 k.2.1.length c1, .slice a2 k.2.2.length c2] 74)) a1 k.2.1 ∧ PairsIn (wr.alloc (.cells #[.int .i64 k.1, .slice a1 k.2.1.length c1, .slice a2 k.2.2.length c2] 74)) a2 k.2.2) := hid ⟨hi1.keep H1.out.bel (Nat.le_refl _), hp1.keep H1.out.bel (Nat.le_refl _)⟩
     have HJ := hid (And.intro hj (And.intro hjn hk))
     have HZ := hid (HC.out.2 k (List.mem_of_getElem? hk))
     have hjlt : j * 3 + 2 < cur.length := by rw [HS.out.len]; omega
     obtain ⟨y0, e0⟩ : ∃ y, cur[j * 3]? = some y := ⟨_, List.getElem?_eq_getElem (by omega)⟩
     obtain ⟨y1, e1⟩ : ∃ y, cur[j * 3 + 1]? = some y := ⟨_, List.getElem?_eq_getElem (by omega)⟩
     obtain ⟨y2, e2⟩ : ∃ y, cur[j * 3 + 2]? = some y := ⟨_, List.getElem?_eq_getElem (by omega)⟩
     have HE := hid (And.intro e0 (And.intro e1 e2))
     clear hi1 hp1 k0 k1 k2 hj hjn hk hg hA hjlt e0 e1 e2
     go_wp2_with (go_at_call 145; refine (lcopyLink_any _ _ _ _ _ rfl (by have := HZ.out; omega) _ _ _ _ rfl (by have := HZ.out; omega) _ (by exact HI.out.1) (by exact HI.out.2)).mono ?_; rintro r w2 ⟨b1, d1, b2, d2, rfl, hN1, hN2, hb2⟩
                  have H2 := hid (And.intro (H1.out.keep hb2) (And.intro hN1 hN2))
                  clear hN1 hN2 hb2
                  have r0 := cell_at H2.out.1.row _ _ HE.out.1
                  have r1 := cell_at H2.out.1.row _ _ HE.out.2.1
                  have r2 := cell_at H2.out.1.row _ _ HE.out.2.2
                  have f0 := free_at H2.out.1.row (j * 3)
                  have f1 := free_at H2.out.1.row (j * 3 + 1)
                  have f2 := free_at H2.out.1.row (j * 3 + 2))
     go_roundw
     case rel =>
       obtain ⟨F', cur', h3⟩ := H2.out.1.put (c1 := d1) (c2 := d2) HJ.out.2.2 (by have := HJ.out; omega) (by have := lt_of_blk HS.out.row; simp; omega) H2.out.2.1 H2.out.2.2
       exact ⟨j + 1, F', cur', by have := HJ.out; omega, rfl, h3⟩
     case measure => have := HJ.out; simp [intOf]; omega
end
section
open Go.RowKit
def kn (fm : List Int) (ls : List Lk) : List Lk := (0, fm, []) :: ls
theorem kn_len (fm : List Int) (ls : List Lk) : (kn fm ls).length = ls.length + 1 := rfl
structure TkAt (B : Nat) (F : Nat → Prop) (w : World) (g : Nat) (vl : Value) (fm : List Int) (ls : List Lk) : Prop where
 blk : w.heap[g]? = some (.cells #[vl] 135 (0, 0))
 own : OwnD 74 3 B F w vl (dLks (kn fm ls))
 le : B ≤ w.heap.size
 gF : ¬ F g
 gv : vl.ownBlock ≠ some g
 flt : ∀ k, F k → k < w.heap.size
def TrAt (O : Nat → Prop) (w : World) (v : Value) (fm : List Int) (ls : List Lk) : Prop :=
 ∃ g B F vl, v = .pointer (some ⟨g, 0, none⟩) ∧ TkAt B F w g vl fm ls ∧ ∀ k, O k ↔ (k = g ∨ F k ∨ vl.ownBlock = some k)
theorem TrAt.lt {O : Nat → Prop} {w : World} {v : Value} {fm : List Int} {ls : List Lk} (h : TrAt O w v fm ls) (k : Nat) (hk : O k) : k < w.heap.size := by
 obtain ⟨g, B, F, vl, _, hM, hO⟩ := h
 rcases (hO k).1 hk with rfl | hq | hq
 · exact lt_of_blk hM.blk
 · exact hM.flt k hq
 · exact (hM.own.lt k hq).2
theorem TkAt.stay {B : Nat} {F : Nat → Prop} {w w' : World} {g : Nat} {vl : Value} {fm : List Int} {ls : List Lk} (h : TkAt B F w g vl fm ls) (hs : w.heap.size ≤ w'.heap.size) (hk : ∀ k, (k = g ∨ F k ∨ vl.ownBlock = some k) → w'.heap[k]? = w.heap[k]?) : TkAt B F w' g vl fm ls :=
 ⟨(hk g (.inl rfl)).trans h.blk, h.own.keep hs (fun k _ hF => hk k (.inr (.inl hF))) (fun r hr => hk r (.inr (.inr hr))), Nat.le_trans h.le hs, h.gF, h.gv, fun k hF => Nat.lt_of_lt_of_le (h.flt k hF) hs⟩
theorem TkAt.keep {B : Nat} {F : Nat → Prop} {w w' : World} {g : Nat} {vl : Value} {fm : List Int} {ls : List Lk} (h : TkAt B F w g vl fm ls) (hb : Below w.heap.size w w') : TkAt B F w' g vl fm ls :=
 h.stay hb.size (fun k hk => hb.block k (by
   rcases hk with rfl | hq | hq
   · exact lt_of_blk h.blk
   · exact h.flt k hq
   · exact (h.own.lt k hq).2))
theorem TrAt.keep {O : Nat → Prop} {w w' : World} {v : Value} {fm : List Int} {ls : List Lk} (h : TrAt O w v fm ls) (hs : w.heap.size ≤ w'.heap.size) (hb : ∀ k, k < w.heap.size → O k → w'.heap[k]? = w.heap[k]?) : TrAt O w' v fm ls := by
 have hlt := h.lt
 obtain ⟨g, B, F, vl, hv, hM, hO⟩ := h
 exact ⟨g, B, F, vl, hv, hM.stay hs (fun k hk => hb k (hlt k ((hO k).2 hk)) ((hO k).2 hk)), hO⟩
theorem TrAt.isptr {O : Nat → Prop} {w : World} {v : Value} {fm : List Int} {ls : List Lk} (h : TrAt O w v fm ls) : ∃ g, v = .pointer (some ⟨g, 0, none⟩) := by
 obtain ⟨g, _, _, _, hv, _⟩ := h
 exact ⟨g, hv⟩
theorem TkAt.form {B : Nat} {F : Nat → Prop} {w : World} {g : Nat} {vl : Value} {fm : List Int} {ls : List Lk} (h : TkAt B F w g vl fm ls) : ∃ r cap, vl = .slice (some ⟨r, 0, none⟩) (ls.length + 1) cap ∧ ls.length + 1 ≤ cap ∧ cap ≤ maxLen ∧ r < w.heap.size ∧ r ≠ g := by
 obtain ⟨cs, ho, _⟩ := h.own.own
 rcases ho.2 with ⟨_, h0⟩ | ⟨r, cap, cur, hv, _, hh, hc, hm, _⟩
 · rw [dLks_len, kn_len] at h0; omega
 · rw [dLks_len, kn_len] at hv hc
   refine ⟨r, cap, hv, hc, hm, lt_of_blk hh, fun e => h.gv ?_⟩
   rw [hv, e]
   rfl
theorem TkAt.reads {B : Nat} {F : Nat → Prop} {w : World} {g : Nat} {vl : Value} {fm : List Int} {ls : List Lk} (h : TkAt B F w g vl fm ls) : Reads (fun k => F k ∨ vl.ownBlock = some k) w vl (.l 3 (dLks (kn fm ls))) := h.own.reads
theorem cell_one {w : World} {b : Nat} {x : Value} {T : TypeId} {fr : Nat × Nat} (h : w.heap[b]? = some (.cells #[x] T fr)) : w.cell? ⟨b, 0, none⟩ = some x := cell_at (L := [x]) h 0 _ rfl
end
section
set_option maxRecDepth 100000
open Go.RowKit
set_option maxHeartbeats 1600000 in
theorem lknows_any (B : Nat) (F : Nat → Prop) (g : Nat) (vl : Value) (fm : List Int) (ls : List Lk) (w : World) (h : TkAt B F w g vl fm ls) :
   Calls Tryz.prog 94 #[.pointer (some ⟨g, 0, none⟩)] w fun r w' => r = .returned (.bool false) ∧ Below w.heap.size w w' := by
 obtain ⟨r, cap, rfl, hc, hm, hr, hrg⟩ := h.form
 have t0 := cell_one h.blk
 clear h hc hm hr hrg
 have hn : ¬ (((ls.length + 1 : Nat) : Int) = 0) := by omega
 generalize ls.length + 1 = n at *
 have hnb : ((n : Int) == 0) = false := by simpa using hn
 go_enter Tryz.func94, Tryz.ntmps94
 go_wp2
 go_ret
 exact ⟨rfl, Below.refl _ _⟩
set_option maxHeartbeats 1600000 in
theorem lepochK_any (B : Nat) (F : Nat → Prop) (g : Nat) (vl : Value) (fm : List Int) (ls : List Lk) (hl : ls.length ≤ 900) (w : World) (h : TkAt B F w g vl fm ls) :
   Calls Tryz.prog 61 #[.pointer (some ⟨g, 0, none⟩)] w fun r w' => r = .returned (.int .i64 (ls.length : Int)) ∧ Below w.heap.size w w' := by
 obtain ⟨r, cap, rfl, hc, hm, hr, hrg⟩ := h.form
 have HK := hid (lknows_any B F g _ fm ls w h)
 have HT := hid h
 have hn : ((ls.length + 1 : Nat) : Int) - 1 = (ls.length : Int) := by omega
 have hn2 : (ls.length : Int) ≤ 900 := by omega
 clear h hc hm hr hrg hl
 go_enter Tryz.func61, Tryz.ntmps61
 go_wp2_with (go_at_call 94; refine HK.out.mono ?_; rintro e w1 ⟨rfl, hb1⟩; have H1 := hid (And.intro (HT.out.keep hb1) hb1); clear hb1; have t0 := cell_one H1.out.1.blk)
 go_ret
 first | exact ⟨rfl, H1.out.2⟩ | (refine ⟨?_, H1.out.2⟩; simp)
theorem lepoch_any (O : Nat → Prop) (v : Value) (fm : List Int) (ls : List Lk) (hl : ls.length ≤ 900) (w : World) (h : TrAt O w v fm ls) :
   Calls Tryz.prog 61 #[v] w fun r w' => r = .returned (.int .i64 (ls.length : Int)) ∧ Below w.heap.size w w' := by
 obtain ⟨g, B, F, vl, rfl, hM, _⟩ := h
 exact lepochK_any B F g vl fm ls hl w hM
end
section
set_option maxRecDepth 100000
open Go.RowKit
set_option maxHeartbeats 1600000 in
theorem index_any (a : Option Addr) (n cap : Nat) (l : List Int) (hn : l.length = n) (hm : n ≤ maxLen) (id : Int) (w : World) (hI : IntsIn w a l) :
   Calls Tryz.prog 179 #[.slice a n cap, .int .i64 id] w fun e w' => ∃ k : Int, e = .returned (.int .i64 k) ∧ decide (0 ≤ k) = hasM l id ∧ w' = w := by
 have hm2 : (n : Int) ≤ 9223372036854775807 := by unfold maxLen at hm; omega
 have HI := hid hI
 have HN := hid hn
 clear hI hm hn
 go_enter Tryz.func179, Tryz.ntmps179
 go_wp2
 go_loopw [8] (fun i wr => ∃ j : Nat, j ≤ n ∧ i = .int .i64 (j : Int) ∧ id ∉ l.take j ∧ wr = w)
   (fun i _ => ((n : Int) - intOf i).toNat)
 case atStart => exact ⟨0, by omega, rfl, by simp, rfl⟩
 case round =>
   obtain ⟨j, hj, rfl, hno, rfl⟩ := hrel
   by_cases hjn : j = n
   · have hj1 : ¬ ((j : Int) < (n : Int)) := by omega
     have HF : Hid (hasM l id = false) := hid (decide_eq_false (by rwa [List.take_of_length_le (by rw [HN.out]; omega)] at hno))
     clear hno hj hjn
     go_wp2
     go_ret
     exact ⟨-1, rfl, by rw [HF.out]; rfl, rfl⟩
   · have hj1 : (j : Int) < (n : Int) := by omega
     have hj0 : (0 : Int) ≤ (j : Int) := Int.natCast_nonneg _
     have hjl : j < l.length := by rw [HN.out]; omega
     obtain ⟨g, off, rfl, hg, cz⟩ := HI.out.at j _ (getD_some hjl)
     by_cases hx : l.getD j 0 = id
     · have HF : Hid (hasM l id = true) := hid (decide_eq_true (mem_of_get hx hjl))
       rw [hx] at cz
       clear hno hj hjn hx hjl hg
       go_wp2
       go_ret
       exact ⟨(j : Int), rfl, by rw [HF.out, decide_eq_true hj0], rfl⟩
     · have HF : Hid (id ∉ l.take (j + 1)) := hid (not_mem_snoc hno hx hjl)
       obtain ⟨x, ex⟩ : ∃ x, x = l.getD j 0 := ⟨_, rfl⟩
       rw [← ex] at cz hx
       have hx' : ¬ (id = x) := fun h => hx h.symm
       have HJ := hid (And.intro hj hjn)
       clear hno hj hjn hjl hg ex
       go_wp2
       go_roundw
       case rel => exact ⟨j + 1, by have := HJ.out; omega, by go_num, HF.out, by first | exact rfl | exact trivial⟩
       case measure => simp [intOf]; omega
theorem contains_any (a : Option Addr) (n cap : Nat) (l : List Int) (hn : l.length = n) (hm : n ≤ maxLen) (id : Int) (w : World) (hI : IntsIn w a l) :
   Calls Tryz.prog 139 #[.slice a n cap, .int .i64 id] w fun e w' => e = .returned (.bool (hasM l id)) ∧ w' = w := by
 have HC := hid (index_any a n cap l hn hm id w hI)
 clear hI hn hm
 go_enter Tryz.func139, Tryz.ntmps139
 go_wp2_with (go_at_call 179; refine (HC.out).mono ?_; rintro e wx ⟨k, rfl, hk, rfl⟩; have HK := hid hk; clear hk)
 go_ret
 exact ⟨by rw [← HK.out]; rfl, rfl⟩
end
section
set_option maxRecDepth 100000
open Go.RowKit
theorem run_makeI (n m : Nat) (hnm : n ≤ m) (hm : m ≤ 1000) (u : World) : (Instr.makeSlice 22 (.int .i64 (n : Int)) (.int .i64 (m : Int))).run Tryz.prog u = .ok (.slice (some ⟨u.heap.size, 0, none⟩) n m) (u.alloc (.cells (iC (List.replicate m 0)).toArray 3)) := by
 obtain ⟨i0, hi0, hz0, hz1, hz2⟩ := info_parts Tryz.info3
 have h := run_make (P := Tryz.prog) u 22 3 i0 (.int .i64 0) Tryz.underlying22 hi0 hz0 .i64 .i64 n m (by omega) (by omega) (by rw [hz2]; omega) (by omega)
 rw [hz1, Int.toNat_natCast, Int.toNat_natCast, Nat.mul_one] at h
 rw [h]
 congr 4
 apply Array.ext'
 have h2 : (Value.int .i64 0).cells = #[.int .i64 0] := rfl
 rw [h2, toList_madeCells_one]
 show _ = iC _
 rw [iC, List.map_replicate]
theorem own_of_blk {B : Nat} {w0 w : World} {g cap n : Nat} {zs : List Int} {rest : List Value} (h : w.heap[g]? = some (.cells (iC zs ++ rest).toArray 3 (0, 0))) (hB : B ≤ g) (hc : zs.length + rest.length = cap) (hm : cap ≤ maxLen) (hn : n = zs.length) (hb : Below B w0 w) : OwnedI B w0 w (.slice (some ⟨g, 0, none⟩) n cap) zs := by
 subst hn
 refine ⟨⟨by rw [iC_len, Nat.mul_one], .inr ⟨g, cap, _, rfl, hB, h, by omega, hm, by simp [iC]; omega, ?_⟩⟩, hb, by have := lt_of_blk h; omega⟩
 rw [Nat.mul_one]
 simp [iC]
end
section
open Go.RowKit
end
section
set_option maxRecDepth 100000
open Go.RowKit
def isIdB (id : Int) : Bool := decide (0 ≤ id ∧ id < 16)
theorem cisID_any (id : Int) (w : World) : Calls Tryz.prog 150 #[.int .i64 id] w fun e w' => e = .returned (.bool (isIdB id)) ∧ w' = w := by
 by_cases h0 : 0 ≤ id
 · by_cases h1 : id < 16
   · have HF : Hid (isIdB id = true) := hid (decide_eq_true ⟨h0, h1⟩)
     rw [HF.out]
     go_enter Tryz.func150, Tryz.ntmps150
     go_wp2
     go_ret
     exact ⟨rfl, rfl⟩
   · have HF : Hid (isIdB id = false) := hid (decide_eq_false (fun h => h1 h.2))
     rw [HF.out]
     go_enter Tryz.func150, Tryz.ntmps150
     go_wp2
     go_ret
     exact ⟨rfl, rfl⟩
 · have HF : Hid (isIdB id = false) := hid (decide_eq_false (fun h => h0 h.1))
   rw [HF.out]
   go_enter Tryz.func150, Tryz.ntmps150
   go_wp2
   go_ret
   exact ⟨rfl, rfl⟩
set_option maxHeartbeats 3200000 in
theorem careRight_any (a : Option Addr) (n cap : Nat) (l : List Int) (hn : l.length = n) (hm : n ≤ maxLen) (w : World) (hI : IntsIn w a l) :
   Calls Tryz.prog 114 #[.slice a n cap] w fun e w' => e = .returned (.bool (memB l)) ∧ Below w.heap.size w w' := by
 have hm2 : (n : Int) ≤ 9223372036854775807 := by unfold maxLen at hm; omega
 have HI := hid hI
 have HN := hid hn
 clear hI hm hn
 by_cases h4 : n < 4
 · have k4 : (n : Int) < 4 := by omega
   have HF : Hid (memB l = false) := hid (by rw [memB, HN.out, decide_eq_false (fun h => by omega)]; simp)
   rw [HF.out]
   go_enter Tryz.func114, Tryz.ntmps114
   go_wp2
   go_ret
   exact ⟨rfl, Below.refl _ _⟩
 by_cases h10 : 10 < n
 · have k4 : ¬ ((n : Int) < 4) := by omega
   have k10 : (10 : Int) < (n : Int) := by omega
   have HF : Hid (memB l = false) := hid (by rw [memB, HN.out, decide_eq_false (fun h => by omega)]; simp)
   rw [HF.out]
   go_enter Tryz.func114, Tryz.ntmps114
   go_wp2
   go_ret
   exact ⟨rfl, Below.refl _ _⟩
 have k4 : ¬ ((n : Int) < 4) := by omega
 have k10 : ¬ ((10 : Int) < (n : Int)) := by omega
 have HQ := hid (And.intro h4 h10)
 clear h4 h10
 go_enter Tryz.func114, Tryz.ntmps114
 go_wp2
 go_loopw [15] (fun i wr => ∃ j : Nat, j ≤ n ∧ i = .int .i64 (j : Int) ∧ okTo l j = true ∧ wr = w)
   (fun i _ => ((n : Int) - intOf i).toNat)
 case atStart => exact ⟨0, by omega, rfl, rfl, rfl⟩
 case round =>
   obtain ⟨j, hj, rfl, hok, rfl⟩ := hrel
   by_cases hjn : j = n
   · have hj1 : ¬ ((j : Int) < (n : Int)) := by omega
     rw [hjn] at hok
     have HF : Hid (memB l = true) := hid (by have hq := HQ.out; rw [memB, HN.out, hok, decide_eq_true (And.intro (by omega) (by omega))]; rfl)
     clear hok hj hjn
     go_wp2
     go_ret
     exact ⟨by rw [HF.out]; rfl, Below.refl _ _⟩
   · have hj1 : (j : Int) < (n : Int) := by omega
     have hj0 : (0 : Int) ≤ (j : Int) := Int.natCast_nonneg _
     have hget : l[j]? = some (l.getD j 0) := by rw [List.getD_eq_getElem?_getD, List.getElem?_eq_getElem (by rw [HN.out]; omega)]; rfl
     obtain ⟨g, off, rfl, hg, hcell⟩ := HI.out.at j _ hget
     obtain ⟨x, ex⟩ : ∃ x, x = l.getD j 0 := ⟨_, rfl⟩
     rw [← ex] at hcell
     clear hget
     cases hx : isIdB x with
     | false =>
       have hx2 := of_decide_eq_false hx
       have HC : Hid (∀ u : World, Calls Tryz.prog 150 #[.int .i64 x] u fun e w' => e = .returned (.bool false) ∧ w' = u) := hid (fun u => by rw [← hx]; exact cisID_any x u)
       have HF : Hid (okTo l n = false) := hid (okTo_false l (j + 1) n (by rw [okTo_succ, okAt_no1 l j (by rw [← ex]; exact hx2)]; simp) (by omega))
       clear hok hj hjn ex hx hx2 hg
       go_wp2_with (go_at_call 150; refine (HC.out _).mono ?_; rintro e wx ⟨rfl, rfl⟩)
       go_ret
       exact ⟨by rw [memB, HN.out, HF.out]; rfl, Below.refl _ _⟩
     | true =>
       have hx2 := of_decide_eq_true hx
       have HC : Hid (∀ u : World, Calls Tryz.prog 150 #[.int .i64 x] u fun e w' => e = .returned (.bool true) ∧ w' = u) := hid (fun u => by rw [← hx]; exact cisID_any x u)
       by_cases hz : j = 0
       · have d4 : ¬ ((0 : Int) < (j : Int)) := by omega
         have HF : Hid (okTo l (j + 1) = true) := hid (by rw [okTo_succ, hok, show okAt l j = true by (have hx : l.getD 0 0 = x := by rw [ex, hz]); rw [hz]; exact okAt_yes0 l (by rw [hx]; exact hx2)]; rfl)
         have HJ := hid (And.intro hj hjn)
         clear hok hj hjn ex hz hx hx2 hg
         go_wp2_with (go_at_call 150; refine (HC.out _).mono ?_; rintro e wx ⟨rfl, rfl⟩)
         go_roundw
         case rel => exact ⟨j + 1, by have := HJ.out; omega, by go_num, HF.out, by first | exact rfl | exact trivial⟩
         case measure => simp [intOf]; omega
       · obtain ⟨i, rfl⟩ : ∃ i, j = i + 1 := ⟨j - 1, by omega⟩
         have hgetp : l[i]? = some (l.getD i 0) := by rw [List.getD_eq_getElem?_getD, List.getElem?_eq_getElem (by rw [HN.out]; omega)]; rfl
         obtain ⟨g', off', eg, hg', hcellp⟩ := HI.out.at i _ hgetp
         obtain ⟨rfl, rfl⟩ : g = g' ∧ off = off' := by simp at eg; exact eg
         obtain ⟨y, ey⟩ : ∃ y, y = l.getD i 0 := ⟨_, rfl⟩
         rw [← ey] at hcellp
         have hi0 : (0 : Int) < ((i + 1 : Nat) : Int) := by omega
         have hi1 : (i : Int) < (n : Int) := by omega
         have hi2 : (0 : Int) ≤ (i : Int) := by omega
         clear hgetp eg hz hg hg' hx
         by_cases hxy : x ≤ y
         · have HF : Hid (okTo l n = false) := hid (okTo_false l (i + 1 + 1) n (by rw [okTo_succ, okAt_no2 l (i + 1) (by omega) (by rw [← ex, show i + 1 - 1 = i from rfl, ← ey]; omega)]; simp) (by omega))
           clear hok hj hjn ex ey hx2
           go_wp2_with (go_at_call 150; refine (HC.out _).mono ?_; rintro e wx ⟨rfl, rfl⟩)
           go_ret
           exact ⟨by rw [memB, HN.out, HF.out]; rfl, Below.refl _ _⟩
         · have HF : Hid (okTo l (i + 1 + 1) = true) := hid (by rw [okTo_succ, hok, okAt_yes l (i + 1) (by rw [← ex]; exact hx2) (by rw [← ex, show i + 1 - 1 = i from rfl, ← ey]; omega)]; rfl)
           have HJ := hid (And.intro hj hjn)
           clear hok hj hjn ex ey hx2
           go_wp2_with (go_at_call 150; refine (HC.out _).mono ?_; rintro e wx ⟨rfl, rfl⟩)
           go_roundw
           case rel => exact ⟨i + 1 + 1, by have := HJ.out; omega, by go_num, HF.out, by first | exact rfl | exact trivial⟩
           case measure => simp [intOf]; omega
end
section
open Go.RowKit
end
section
open Go.RowKit
theorem cfaults_same (n : Int) (hn : n ≤ 9223372036854775807) (w : World) : Calls Tryz.prog 60 #[.int .i64 n] w fun e w' => e = .returned (.int .i64 (fltZ n)) ∧ w' = w := by
 by_cases h : n < 1
 · rw [fltZ_lo h]
   go_enter Tryz.func60, Tryz.ntmps60
   go_wp2
   go_ret
   exact ⟨rfl, rfl⟩
 · have HF : Hid (fltZ n = (n - 1) / 3) := hid (fltZ_hi h)
   rw [HF.out]
   go_enter Tryz.func60, Tryz.ntmps60
   go_wp2
   go_ret
   exact ⟨rfl, rfl⟩
theorem cweak_any (n : Int) (hn : n ≤ 9223372036854775807) (w : World) : Calls Tryz.prog 29 #[.int .i64 n] w fun e w' => e = .returned (.int .i64 (wekZ n)) ∧ Below w.heap.size w w' := by
 have HC : Hid (∀ u : World, Calls Tryz.prog 60 #[.int .i64 n] u fun e w' => e = .returned (.int .i64 (fltZ n)) ∧ w' = u) := hid (cfaults_same n hn)
 by_cases h : n < 1
 · rw [wekZ_lo h]
   go_enter Tryz.func29, Tryz.ntmps29
   go_wp2
   go_ret
   exact ⟨rfl, Below.refl _ _⟩
 · rw [wekZ_hi h]
   have hf := fltZ_le h
   generalize fltZ n = f at HC hf ⊢
   have h1 : 0 ≤ f := hf.1
   have h2 : f ≤ 4000000000000000000 := by omega
   clear hf
   go_enter Tryz.func29, Tryz.ntmps29
   go_wp2_with (go_at_call 60; refine (HC.out _).mono ?_; rintro e wx ⟨rfl, rfl⟩)
   go_ret
   exact ⟨rfl, Below.refl _ _⟩
theorem cquorum_any (n : Int) (hn : n ≤ 9223372036854775807) (w : World) : Calls Tryz.prog 198 #[.int .i64 n] w fun e w' => e = .returned (.int .i64 (quoZ n)) ∧ Below w.heap.size w w' := by
 have HC : Hid (∀ u : World, Calls Tryz.prog 60 #[.int .i64 n] u fun e w' => e = .returned (.int .i64 (fltZ n)) ∧ w' = u) := hid (cfaults_same n hn)
 by_cases h : n < 1
 · rw [quoZ_lo h]
   go_enter Tryz.func198, Tryz.ntmps198
   go_wp2
   go_ret
   exact ⟨rfl, Below.refl _ _⟩
 · rw [quoZ_hi h]
   have hf := fltZ_le h
   generalize fltZ n = f at HC hf ⊢
   have h1 : 0 ≤ f := hf.1
   have h2 : f ≤ 4000000000000000000 := by omega
   have h3 : f ≤ n := by omega
   have HQ : Hid ((n + f) / 2 + 1 = f + (n - f) / 2 + 1) := hid (by omega)
   rw [HQ.out]
   clear hf
   go_enter Tryz.func198, Tryz.ntmps198
   go_wp2_with (go_at_call 60; refine (HC.out _).mono ?_; rintro e wx ⟨rfl, rfl⟩)
   go_ret
   exact ⟨rfl, Below.refl _ _⟩
end
section
set_option maxRecDepth 100000
open Go.RowKit
set_option maxHeartbeats 1600000 in
theorem cright_any (ep : Int) (a : Option Addr) (n cap : Nat) (l : List Int) (hn : l.length = n) (hm : n ≤ maxLen) (w : World) (hI : IntsIn w a l) :
   Calls Tryz.prog 77 #[.agg #[.int .i64 ep, .slice a n cap]] w fun e w' => e = .returned (.bool (rightC ep l)) ∧ Below w.heap.size w w' := by
 by_cases h0 : 0 ≤ ep
 · by_cases h60 : ep ≤ 60
   · have HM : Hid (∀ u : World, IntsIn u a l → Calls Tryz.prog 114 #[.slice a n cap] u fun e w' => e = .returned (.bool (memB l)) ∧ Below u.heap.size u w') := hid (fun u hu => careRight_any a n cap l hn hm u hu)
     have HR : Hid (rightC ep l = memB l) := hid (by rw [rightC, decide_eq_true (And.intro h0 h60)]; rfl)
     have HI := hid hI
     rw [HR.out]
     generalize memB l = b at HM
     clear hI hn hm
     go_enter Tryz.func77, Tryz.ntmps77
     go_wp2_with (go_at_call 114; refine (HM.out _ (by exact HI.out.alloc _)).mono ?_; rintro e w1 ⟨rfl, hb1⟩; have H1 := hid (((Below.refl w.heap.size w).alloc (Nat.le_refl _) _).trans (hb1.mono (by simp))); clear hb1)
     go_ret
     exact ⟨rfl, H1.out⟩
   · have HR : Hid (rightC ep l = false) := hid (by rw [rightC, decide_eq_false (fun h => h60 h.2)]; rfl)
     rw [HR.out]
     clear hI hn hm
     go_enter Tryz.func77, Tryz.ntmps77
     go_wp2
     go_ret
     exact ⟨rfl, (Below.refl _ _).alloc (Nat.le_refl _) _⟩
 · have HR : Hid (rightC ep l = false) := hid (by rw [rightC, decide_eq_false (fun h => h0 h.1)]; rfl)
   rw [HR.out]
   clear hI hn hm
   go_enter Tryz.func77, Tryz.ntmps77
   go_wp2
   go_ret
   exact ⟨rfl, (Below.refl _ _).alloc (Nat.le_refl _) _⟩
end
section
open Go.RowKit
theorem chas_any (ep : Int) (a : Option Addr) (n cap : Nat) (l : List Int) (hn : l.length = n) (hm : n ≤ maxLen) (id : Int) (w : World) (hI : IntsIn w a l) :
   Calls Tryz.prog 88 #[.agg #[.int .i64 ep, .slice a n cap], .int .i64 id] w fun e w' => e = .returned (.bool (hasM l id)) ∧ Below w.heap.size w w' := by
 have HC := hid (fun u (hu : IntsIn u a l) => contains_any a n cap l hn hm id u hu)
 have HI := hid hI
 clear hI hn hm
 go_enter Tryz.func88, Tryz.ntmps88
 go_wp2_with (go_at_call 139; refine (HC.out _ (by first | exact HI.out.alloc _ | exact HI.out)).mono ?_; rintro e w1 ⟨rfl, rfl⟩)
 go_ret
 exact ⟨rfl, by first | exact Below.refl _ _ | exact ((Below.refl w.heap.size w).alloc (Nat.le_refl _) _)⟩
end
section
set_option maxRecDepth 100000
open Go.RowKit
theorem kn_at (fm : List Int) (ls : List Lk) (j : Nat) (hj : j ≤ ls.length) : ∃ k, (kn fm ls)[j]? = some k ∧ k.1 = atZ 0 ls (j : Int) ∧ k.2.1 = atM fm ls (j : Int) := by
 cases j with
 | zero => exact ⟨(0, fm, []), rfl, by simp [atZ], by simp [atM]⟩
 | succ j =>
   have hj2 : j < ls.length := by omega
   have h0 : ¬ (((j + 1 : Nat) : Int) = 0) := by omega
   have h1 : 1 ≤ ((j + 1 : Nat) : Int) ∧ ((j + 1 : Nat) : Int) ≤ ls.length := by omega
   refine ⟨ls[j], ?_, ?_, ?_⟩
   · show ls[j]? = _
     exact List.getElem?_eq_getElem hj2
   · rw [atZ, if_neg h0, if_pos h1, show (((j + 1 : Nat) : Int) - 1).toNat = j by omega, List.getD_eq_getElem?_getD, List.getElem?_eq_getElem hj2]; rfl
   · rw [atM, if_neg h0, if_pos h1, show (((j + 1 : Nat) : Int) - 1).toNat = j by omega, List.getD_eq_getElem?_getD, List.getElem?_eq_getElem hj2]; rfl
theorem atM_len (fm : List Int) (ls : List Lk) (hfm : fm.length ≤ 10) (hls : ∀ k, k ∈ ls → k.2.1.length ≤ 10) (e : Int) : (atM fm ls e).length ≤ 10 := by
 unfold atM
 split
 · exact hfm
 · split
   · next h =>
     have hj : (e - 1).toNat < ls.length := by omega
     rw [List.getD_eq_getElem?_getD, List.getElem?_eq_getElem hj]
     exact hls _ (List.getElem_mem hj)
   · exact Nat.zero_le _
theorem store_two {w : World} {b : Nat} {p q x0 x1 : Value} {T : TypeId} (h : w.heap[b]? = some (.cells #[p, q] T (0, 0))) : ((w.setCell ⟨b, 0, none⟩ x0).setCell ⟨b, 1, none⟩ x1).cell? ⟨b, 0, none⟩ = some x0 ∧ ((w.setCell ⟨b, 0, none⟩ x0).setCell ⟨b, 1, none⟩ x1).cell? ⟨b, 1, none⟩ = some x1 := cell_two (res_put2 h)
set_option maxHeartbeats 1600000 in
theorem latK_any (B : Nat) (F : Nat → Prop) (g : Nat) (vl : Value) (fm : List Int) (hfm : fm.length ≤ 10) (ls : List Lk) (hl : ls.length ≤ 900) (hls : ∀ k, k ∈ ls → k.2.1.length ≤ 10) (e : Int) (w : World) (h : TkAt B F w g vl fm ls) :
   Calls Tryz.prog 87 #[.pointer (some ⟨g, 0, none⟩), .int .i64 e] w fun r w' => ∃ ad cap, r = .returned (.tuple #[.agg #[.int .i64 (atZ 0 ls e), .slice ad (atM fm ls e).length cap], .bool (atB ls e)]) ∧ NewI w.heap.size w' ad (atM fm ls e) ∧ Below w.heap.size w w' := by
 obtain ⟨r, cap, rfl, hc, hm, hr, hrg⟩ := h.form
 have hA := (Below.refl w.heap.size w).alloc (Nat.le_refl _) (.cells #[.int .i64 0, .slice none 0 0] 24)
 have H0 : Hid (TkAt B F (w.alloc (.cells #[.int .i64 0, .slice none 0 0] 24)) g (.slice (some ⟨r, 0, none⟩) (ls.length + 1) cap) fm ls ∧ (w.alloc (.cells #[.int .i64 0, .slice none 0 0] 24)).heap[w.heap.size]? = some (.cells #[.int .i64 0, .slice none 0 0] 24 (0, 0)) ∧ Below w.heap.size w (w.alloc (.cells #[.int .i64 0, .slice none 0 0] 24))) := hid ⟨h.keep hA, heap_alloc_last w _, hA⟩
 have HK := hid (fun u => lknows_any B F g (.slice (some ⟨r, 0, none⟩) (ls.length + 1) cap) fm ls u)
 have HEp := hid (fun u => lepochK_any B F g (.slice (some ⟨r, 0, none⟩) (ls.length + 1) cap) fm ls hl u)
 have hn2 : (ls.length : Int) ≤ 900 := by omega
 have HZ := hid (atM_len fm ls hfm hls e)
 clear h hc hm hr hrg hl hls hA
 by_cases he : 0 ≤ e ∧ e ≤ (ls.length : Int)
 · obtain ⟨he0, he1⟩ := he
   obtain ⟨j, rfl⟩ : ∃ j : Nat, e = (j : Int) := ⟨e.toNat, by omega⟩
   obtain ⟨k, hk, ek1, ek2⟩ := kn_at fm ls j (by omega)
   rw [show atB ls (j : Int) = true by rw [atB, decide_eq_true ⟨he0, he1⟩]]
   rw [← ek1, ← ek2]
   rw [← ek2] at HZ
   have hlt : ¬ ((j : Int) < 0) := by omega
   have hgt : ¬ ((ls.length : Int) < (j : Int)) := by omega
   have hj1 : (j : Int) < ((ls.length + 1 : Nat) : Int) := by omega
   have HAt : Hid (∀ u, TkAt B F u g (.slice (some ⟨r, 0, none⟩) (ls.length + 1) cap) fm ls → ∃ a1 c1, u.cell? ⟨r, j * 3, none⟩ = some (.int .i64 k.1) ∧ u.cell? ⟨r, j * 3 + 1, none⟩ = some (.slice a1 k.2.1.length c1) ∧ IntsIn u a1 k.2.1) := hid (fun u hu => by
     obtain ⟨g', off', cap', a1, c1, a2, c2, hv, hg, k0, k1, k2, hi1, hp1⟩ := lks_at hu.reads j k hk
     cases hv
     rw [Nat.zero_add] at k0 k1
     exact ⟨a1, c1, k0, k1, hi1⟩)
   clear ek1 ek2 hk he1
   go_enter Tryz.func87, Tryz.ntmps87
   go_wp2_with (first
     | (go_at_call 94; refine (HK.out _ (by exact H0.out.1)).mono ?_; rintro e w1 ⟨rfl, hb1⟩; have H1 := hid (And.intro (H0.out.1.keep hb1) (And.intro ((hb1.block _ (lt_of_blk H0.out.2.1)).trans H0.out.2.1) (H0.out.2.2.trans (hb1.mono H0.out.2.2.size)))); clear hb1)
     | (go_at_call 61; refine (HEp.out _ (by exact H1.out.1)).mono ?_; rintro e w2 ⟨rfl, hb2⟩; have H2 := hid (And.intro (H1.out.1.keep hb2) (And.intro ((hb2.block _ (lt_of_blk H1.out.2.1)).trans H1.out.2.1) (H1.out.2.2.trans (hb2.mono H1.out.2.2.size)))); clear hb2; have t0 := cell_one H2.out.1.blk; obtain ⟨a1, c1, x0, x1, hi1⟩ := HAt.out _ H2.out.1; have HI := hid hi1; clear hi1)
     | (go_at_call 78; refine (lcopyConf_any _ _ _ _ k.2.1 rfl (by have := HZ.out; omega) _ (by exact HI.out)).mono ?_; rintro e w3 ⟨a3, c3, rfl, hN3, hb3⟩; have H3 := hid (And.intro ((hb3.block _ (lt_of_blk H2.out.2.1)).trans H2.out.2.1) (And.intro (H2.out.2.2.trans (hb3.mono H2.out.2.2.size)) hN3)); clear hN3 hb3; have r0 := (cell_two H3.out.1).1; have r1 := (cell_two H3.out.1).2; have f0 := free_at H3.out.1 0; have f1 := free_at H3.out.1 1))
   refine ret_pair (s := 4) (s2 := 5) (ad := ⟨w.heap.size, 0, none⟩) rfl rfl (load_conf _ _ (.int .i64 k.1) (.slice a3 k.2.1.length c3) (store_two H3.out.1).1 (store_two H3.out.1).2) rfl rfl ?_
   have hlt2 := lt_of_blk H2.out.2.1
   have hN : NewI w.heap.size ((w3.setCell ⟨w.heap.size, 0, none⟩ (.int .i64 k.1)).setCell ⟨w.heap.size, 1, none⟩ (.slice a3 k.2.1.length c3)) a3 k.2.1 := (H3.out.2.2.low (by omega)).far_keep (by simp [World.setCell]) (fun x hx => by
     have h1 := (H3.out.2.2.far x hx).1
     refine (Below.heap_setCell _ _ _ _ ?_).trans (Below.heap_setCell _ _ _ _ ?_) <;> (show x.block ≠ w.heap.size; omega))
   have hB := (H3.out.2.1.setCell (p := ⟨w.heap.size, 0, none⟩) (Nat.le_refl _) (.int .i64 k.1)).setCell (p := ⟨w.heap.size, 1, none⟩) (Nat.le_refl _) (.slice a3 k.2.1.length c3)
   first | exact ⟨a3, c3, rfl, hN, hB⟩ | exact ⟨a3, ⟨c3, rfl⟩, hN, hB⟩
 · rw [show atZ 0 ls e = 0 by rw [atZ, if_neg (by omega), if_neg (by omega)], show atM fm ls e = [] by rw [atM, if_neg (by omega), if_neg (by omega)], show atB ls e = false by rw [atB, decide_eq_false he]]
   clear HZ
   have hN : ∀ u : World, NewI w.heap.size u none [] := fun u => ⟨.inl rfl, fun x hx => by cases hx⟩
   by_cases h0 : e < 0
   · clear he
     go_enter Tryz.func87, Tryz.ntmps87
     go_wp2_with (first
       | (go_at_call 94; refine (HK.out _ (by exact H0.out.1)).mono ?_; rintro e w1 ⟨rfl, hb1⟩; have H1 := hid (And.intro (H0.out.1.keep hb1) (And.intro ((hb1.block _ (lt_of_blk H0.out.2.1)).trans H0.out.2.1) (H0.out.2.2.trans (hb1.mono H0.out.2.2.size)))); clear hb1; have r0 := (cell_two H1.out.2.1).1; have r1 := (cell_two H1.out.2.1).2; have f0 := free_at H1.out.2.1 0; have f1 := free_at H1.out.2.1 1))
     refine ret_pair (s := 4) (s2 := 5) (ad := ⟨w.heap.size, 0, none⟩) rfl rfl (load_conf _ _ (.int .i64 0) (.slice none 0 0) (store_two H1.out.2.1).1 (store_two H1.out.2.1).2) rfl rfl ?_
     have hB := (H1.out.2.2.setCell (p := ⟨w.heap.size, 0, none⟩) (Nat.le_refl _) (.int .i64 0)).setCell (p := ⟨w.heap.size, 1, none⟩) (Nat.le_refl _) (.slice none 0 0)
     first | exact ⟨none, 0, rfl, hN _, hB⟩ | exact ⟨none, ⟨0, rfl⟩, hN _, hB⟩
   · have hgt : (ls.length : Int) < e := by omega
     clear he
     go_enter Tryz.func87, Tryz.ntmps87
     go_wp2_with (first
       | (go_at_call 94; refine (HK.out _ (by exact H0.out.1)).mono ?_; rintro e w1 ⟨rfl, hb1⟩; have H1 := hid (And.intro (H0.out.1.keep hb1) (And.intro ((hb1.block _ (lt_of_blk H0.out.2.1)).trans H0.out.2.1) (H0.out.2.2.trans (hb1.mono H0.out.2.2.size)))); clear hb1)
       | (go_at_call 61; refine (HEp.out _ (by exact H1.out.1)).mono ?_; rintro e w2 ⟨rfl, hb2⟩; have H2 := hid (And.intro (H1.out.1.keep hb2) (And.intro ((hb2.block _ (lt_of_blk H1.out.2.1)).trans H1.out.2.1) (H1.out.2.2.trans (hb2.mono H1.out.2.2.size)))); clear hb2; have r0 := (cell_two H2.out.2.1).1; have r1 := (cell_two H2.out.2.1).2; have f0 := free_at H2.out.2.1 0; have f1 := free_at H2.out.2.1 1))
     refine ret_pair (s := 4) (s2 := 5) (ad := ⟨w.heap.size, 0, none⟩) rfl rfl (load_conf _ _ (.int .i64 0) (.slice none 0 0) (store_two H2.out.2.1).1 (store_two H2.out.2.1).2) rfl rfl ?_
     have hB := (H2.out.2.2.setCell (p := ⟨w.heap.size, 0, none⟩) (Nat.le_refl _) (.int .i64 0)).setCell (p := ⟨w.heap.size, 1, none⟩) (Nat.le_refl _) (.slice none 0 0)
     first | exact ⟨none, 0, rfl, hN _, hB⟩ | exact ⟨none, ⟨0, rfl⟩, hN _, hB⟩
theorem lat_any (O : Nat → Prop) (v : Value) (fm : List Int) (hfm : fm.length ≤ 10) (ls : List Lk) (hl : ls.length ≤ 900) (hls : ∀ k, k ∈ ls → k.2.1.length ≤ 10) (e : Int) (w : World) (h : TrAt O w v fm ls) :
   Calls Tryz.prog 87 #[v, .int .i64 e] w fun r w' => ∃ ad cap, r = .returned (.tuple #[.agg #[.int .i64 (atZ 0 ls e), .slice ad (atM fm ls e).length cap], .bool (atB ls e)]) ∧ NewI w.heap.size w' ad (atM fm ls e) ∧ Below w.heap.size w w' := by
 obtain ⟨g, B, F, vl, rfl, hM, _⟩ := h
 exact latK_any B F g vl fm hfm ls hl hls e w hM
end
end Go.Proofs.YtoepppkadpjonaaGreat
