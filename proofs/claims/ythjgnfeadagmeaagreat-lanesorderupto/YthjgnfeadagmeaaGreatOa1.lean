/- Texts laid together: BaA PkA PkM PkR PkT BaB RdA FlA RlB DsA PkW PkP PkN DsB BaC CoA CoB. -/
import Derived.Test.YthjgnfeadagmeaaGreatProg
import Derived.WalkKit
import Derived.WalkSpells
import Derived.WalkLawsBesides
import Derived.Deep.RegionHeld3
import Derived.Deep.AppendLies
import Derived.Deep.DrawnRows
import Derived.Laws.BitsAllLaws
import Derived.Laws.IdiomStrings
import Derived.Laws.MakeOwn
import Derived.Laws.OwnMore
import Derived.Laws.CopyOwn
import Derived.Maps.AppendAt
import Derived.Deep.RegionLaw
import Derived.Lib.AppendStr
import Derived.Deep.WholeRow
import Derived.BigQuiet
import Derived.Laws.Externs
/- What all families of texts share. -/
namespace Go.Proofs.YthjgnfeadagmeaaGreat
open Go.RowKit

theorem hid {p : Prop} (h : p) : Hid p := h
/-- Bytes as cells. -/
def bC (l : List UInt8) : List Value := l.map fun c => .int .u8 (c.toNat : Int)
theorem bC_len (l : List UInt8) : (bC l).length = l.length := by simp [bC]
theorem bC_app (a b : List UInt8) : bC (a ++ b) = bC a ++ bC b := by simp [bC]
/-- The bytes of a number, the greatest first. -/
def be : Nat → Nat → List UInt8
  | 0, _ => []
  | s + 1, n => UInt8.ofNat (n / 256 ^ s) :: be s n
theorem be_len (s n : Nat) : (be s n).length = s := by induction s with | zero => rfl | succ s ih => simp [be, ih]
theorem lt_of_blk {w : World} {b : Nat} {o : Obj} (h : w.heap[b]? = some o) : b < w.heap.size := (Array.getElem?_eq_some_iff.1 h).1
theorem data_len (s : ByteArray) : s.data.toList.length = s.size := rfl
theorem Tryz.info5 : (Tryz.prog.info? 5).map (fun i => (i.zero, i.size, i.bytes)) = some (some (.int .u8 0), 1, 1) := by kernel_rfl
end Go.Proofs.YthjgnfeadagmeaaGreat

/- Words for the contracts of package pack: what a writer and a reader look like in memory, and what a call keeps. No walk here. -/
namespace Go.Proofs.YthjgnfeadagmeaaGreat
open Go.RowKit

/-- All blocks but b and row r are as they were; the streams too. -/
structure Kept (b : Nat) (r : Option Nat) (w w' : World) : Prop where
  os : w'.os = w.os
  tape : w'.tape = w.tape
  output : w'.output = w.output
  size : w.heap.size ≤ w'.heap.size
  block : ∀ k, k < w.heap.size → k ≠ b → some k ≠ r → w'.heap[k]? = w.heap[k]?

theorem Kept.refl (b : Nat) (r : Option Nat) (w : World) : Kept b r w w := ⟨rfl, rfl, rfl, Nat.le_refl _, fun _ _ _ _ => rfl⟩
/-- Where the row has moved to a new block. -/
theorem Kept.trans {b : Nat} {r r' : Option Nat} {x y z : World} (h : Kept b r x y) (k : Kept b r' y z) (hr : r' = r ∨ ∃ g, r' = some g ∧ x.heap.size ≤ g) : Kept b r x z :=
  ⟨k.os.trans h.os, k.tape.trans h.tape, k.output.trans h.output, Nat.le_trans h.size k.size, fun i hi hb hne => by
    rw [k.block i (Nat.lt_of_lt_of_le hi h.size) hb (by rcases hr with rfl | ⟨g, rfl, hg⟩ <;> first | exact hne | (intro e; cases e; omega)), h.block i hi hb hne]⟩
theorem Kept.alloc {b : Nat} {r : Option Nat} {x y : World} (h : Kept b r x y) (o : Obj) : Kept b r x (y.alloc o) :=
  ⟨h.os, h.tape, h.output, by have := h.size; simp; omega, fun i hi hb hne => by rw [Below.heap_alloc _ _ _ (Nat.lt_of_lt_of_le hi h.size), h.block i hi hb hne]⟩
theorem Kept.drew {b : Nat} {r : Option Nat} {x y : World} (h : Kept b r x y) : Kept b r x y.drew := ⟨h.os, h.tape, h.output, h.size, h.block⟩
theorem Kept.setCell {b : Nat} {r : Option Nat} {x y : World} (h : Kept b r x y) (o : Nat) (u : Value) : Kept b r x (y.setCell ⟨b, o, none⟩ u) :=
  ⟨h.os, h.tape, h.output, by have := h.size; simpa [World.setCell] using this, fun i hi hb hne => by rw [Below.heap_setCell _ _ _ _ hb, h.block i hi hb hne]⟩
theorem Kept.grown {b : Nat} {r r' : Option Nat} {x y z : World} (h : Kept b r x y) (hg : y.grownBy z r') (hr : r' = r ∨ ∃ g, r' = some g ∧ x.heap.size ≤ g) : Kept b r x z :=
  h.trans ⟨hg.os, hg.tape, hg.output, hg.size, fun k hk _ hne => hg.block k hk hne⟩ hr
theorem Kept.below {b : Nat} {r : Option Nat} {x y : World} {B : Nat} (h : Kept b r x y) (hB : B ≤ x.heap.size) (hb : B ≤ b) (hr : ∀ g, r = some g → B ≤ g) : Below B x y :=
  ⟨h.os, h.tape, h.output, h.size, fun k hk => h.block k (by omega) (by omega) (fun e => by have := hr k e.symm; omega)⟩

/-- A writer at block b: its limit, its bytes l (in the slice v), its error. -/
structure WrAt (w : World) (b : Nat) (v : Value) (lim : Int) (l : List UInt8) (er : Int) : Prop where
  blk : w.heap[b]? = some (.cells #[.int .i64 lim, v, .int .i64 er] 162 (0, 0))
  own : w.ownsRow (b + 1) 5 1 v l.length (bC l)

theorem cell_of_blk {w : World} {b : Nat} {cs : Array Value} {t : TypeId} {fr : Nat × Nat} (h : w.heap[b]? = some (.cells cs t fr)) (j : Nat) (hj : j < cs.size) : w.cell? ⟨b, j, none⟩ = some cs[j] := by
  simp [World.cell?, h, hj]
theorem free_of_blk {w : World} {b : Nat} {cs : Array Value} {t : TypeId} (h : w.heap[b]? = some (.cells cs t (0, 0))) (j : Nat) : w.frozen? ⟨b, j, none⟩ = false := by
  simp [World.frozen?, h]

theorem WrAt.lt {w : World} {b : Nat} {v : Value} {lim : Int} {l : List UInt8} {er : Int} (h : WrAt w b v lim l er) : b < w.heap.size := lt_of_blk h.blk
theorem WrAt.c0 {w : World} {b : Nat} {v : Value} {lim : Int} {l : List UInt8} {er : Int} (h : WrAt w b v lim l er) : w.cell? ⟨b, 0, none⟩ = some (.int .i64 lim) := cell_of_blk h.blk 0 (by simp)
theorem WrAt.c1 {w : World} {b : Nat} {v : Value} {lim : Int} {l : List UInt8} {er : Int} (h : WrAt w b v lim l er) : w.cell? ⟨b, 1, none⟩ = some v := cell_of_blk h.blk 1 (by simp)
theorem WrAt.c2 {w : World} {b : Nat} {v : Value} {lim : Int} {l : List UInt8} {er : Int} (h : WrAt w b v lim l er) : w.cell? ⟨b, 2, none⟩ = some (.int .i64 er) := cell_of_blk h.blk 2 (by simp)
theorem WrAt.fr {w : World} {b : Nat} {v : Value} {lim : Int} {l : List UInt8} {er : Int} (h : WrAt w b v lim l er) (j : Nat) : w.frozen? ⟨b, j, none⟩ = false := free_of_blk h.blk j

end Go.Proofs.YthjgnfeadagmeaaGreat

/- Plain facts on numbers and bytes. -/
namespace Go.Proofs.YthjgnfeadagmeaaGreat
open Go.RowKit

/-- The number that bytes make, the greatest first. -/
def val (l : List UInt8) : Nat := l.foldl (fun n c => n * 256 + c.toNat) 0
theorem val_snoc (l : List UInt8) (c : UInt8) : val (l ++ [c]) = val l * 256 + c.toNat := by simp [val, List.foldl_append]
theorem val_lt (l : List UInt8) : val l < 256 ^ l.length := by
  rw [← List.reverse_reverse l]
  generalize l.reverse = r
  induction r with
  | nil => simp [val]
  | cons c r ih =>
    rw [List.reverse_cons, val_snoc, List.length_append, List.length_singleton, Nat.pow_succ]
    have := c.toNat_lt
    omega
theorem take_snoc (s : ByteArray) (k : Nat) (h : k < s.size) : s.data.toList.take (k + 1) = s.data.toList.take k ++ [s[k]] := by
  rw [List.take_succ_eq_append_getElem (by simpa using h)]; rfl
theorem or_add (a c : Nat) (hc : c < 256) : a * 256 ||| c = a * 256 + c := by
  have := Nat.two_pow_add_eq_or_of_lt (i := 8) hc a
  rw [Nat.mul_comm] at this
  simpa using this.symm
theorem or_val (a : Nat) (c : UInt8) (ha : a < 72057594037927936) :
    bits BinOp.or IntKind.u64 (IntKind.u64.wrap ((a : Int) * 256)) (IntKind.u64.wrap (c.toNat : Int)) = ((a * 256 + c.toNat : Nat) : Int) := by
  have hc := c.toNat_lt
  have e1 : IntKind.u64.wrap ((a : Int) * 256) = ((a * 256 : Nat) : Int) := by simp only [IntKind.wrap_u64]; omega
  have e2 : IntKind.u64.wrap (c.toNat : Int) = ((c.toNat : Nat) : Int) := by simp only [IntKind.wrap_u64]; omega
  rw [e1, e2, u64_or_nat _ _ (by omega) (by omega), or_add _ _ (by omega)]

theorem extract_list (s : ByteArray) (a b : Nat) : (s.extract a b).data.toList = (s.data.toList.take b).drop a := by
  simp [ByteArray.data_extract, List.drop_take]

theorem be_snoc (s n : Nat) : be (s + 1) n = be s (n / 256) ++ [UInt8.ofNat n] := by
  induction s with
  | zero => simp [be]
  | succ s ih =>
    rw [be, ih, be, List.cons_append, Nat.div_div_eq_div_mul, Nat.pow_succ, Nat.mul_comm (256 ^ s) 256]
/-- Bytes of a number read again make the number. -/
theorem val_be (s n : Nat) : val (be s n) = n % 256 ^ s := by
  induction s generalizing n with
  | zero => simp [be, val, Nat.mod_one]
  | succ s ih =>
    have e : (UInt8.ofNat n).toNat = n % 256 := by simp
    rw [be_snoc, val_snoc, ih, e, Nat.pow_succ, Nat.mul_comm (256 ^ s) 256, Nat.mod_mul]
    omega
/-- A number's bytes are those that made it. -/
theorem be_val (l : List UInt8) : be l.length (val l) = l := by
  rw [← List.reverse_reverse l]
  generalize l.reverse = r
  induction r with
  | nil => rfl
  | cons c r ih =>
    have hc := c.toNat_lt
    rw [List.reverse_cons, val_snoc, List.length_append, List.length_singleton, be_snoc]
    have e1 : (val r.reverse * 256 + c.toNat) / 256 = val r.reverse := by omega
    have e2 : UInt8.ofNat (val r.reverse * 256 + c.toNat) = c := by
      apply UInt8.toNat_inj.1
      have e : ∀ n, (UInt8.ofNat n).toNat = n % 256 := fun n => by simp
      rw [e]
      omega
    rw [e1, e2, ih]

end Go.Proofs.YthjgnfeadagmeaaGreat

/- The contracts of package pack's readers. -/
namespace Go.Proofs.YthjgnfeadagmeaaGreat
open Go.RowKit

theorem ret_int {k : IntKind} {a b : Int} (h : a = b) : Ending.returned (.int k a) = .returned (.int k b) := by rw [h]

def endOf (s : ByteArray) (sh : Bool) : Int := if sh then 2 else if 0 < s.size then 5 else 0

/-- has: it says yes where there are enough bytes and it never fell short; else it falls short. -/
def hasB (s : ByteArray) (sh : Bool) (n : Int) : Bool := !sh && decide (n ≤ s.size)

/-- What is read next as a number of n bytes; what is left; whether it fell short. -/
def rN (s : ByteArray) (sh : Bool) (n : Nat) : Nat := if hasB s sh n then val (s.data.toList.take n) else 0
def rS (s : ByteArray) (sh : Bool) (n : Nat) : ByteArray := if hasB s sh n then s.extract n s.size else s
def rB (s : ByteArray) (sh : Bool) (n : Nat) : Bool := !hasB s sh n

theorem rN_lt (s : ByteArray) (sh : Bool) (n : Nat) : rN s sh n < 256 ^ n := by
  unfold rN
  split
  · have := val_lt (s.data.toList.take n)
    exact Nat.lt_of_lt_of_le this (Nat.pow_le_pow_right (by decide) (by simp; omega))
  · exact Nat.pow_pos (by decide)
theorem rN_i (s : ByteArray) (sh : Bool) (n : Nat) (hn : 256 ^ n ≤ 4294967296) : (rN s sh n : Int) ≤ 4294967295 := by
  have := rN_lt s sh n
  omega

end Go.Proofs.YthjgnfeadagmeaaGreat

/- The contract of package pack's reader of texts. -/
namespace Go.Proofs.YthjgnfeadagmeaaGreat
open Go.RowKit

/-- A string's bytes as a slice, and back: the string. -/
theorem back_conv (w : World) (x : ByteArray) (cap : Nat) (fr : Nat × Nat) :
    (convert 160 9 (.slice (some ⟨w.heap.size, 0, none⟩) x.size cap)).run Tryz.prog (w.alloc (.cells (bytesRow x cap) 5 fr)).drew = .ok (.string x) (w.alloc (.cells (bytesRow x cap) 5 fr)).drew := by
  have h := run_convert_bytes_back (P := Tryz.prog) (w.alloc (.cells (bytesRow x cap) 5 fr)).drew 160 9 5 ⟨w.heap.size, 0, none⟩ cap x.data.toList Tryz.underlying160 Tryz.underlying5 Tryz.underlying9 (fun j hj => by
    show (w.alloc (.cells (bytesRow x cap) 5 fr)).cell? ((⟨w.heap.size, 0, none⟩ : Addr).add j) = _
    rw [Addr.add_lit, Nat.zero_add, World.cell?_alloc_mark, bytesRow_at x _ j (by simpa using hj)]
    simp)
  simpa using h

/-- Can a text be read next? -/
def tOK (s : ByteArray) (sh : Bool) : Bool := hasB s sh 2 && decide (2 + val (s.data.toList.take 2) ≤ s.size)
def tT (s : ByteArray) (sh : Bool) : ByteArray := if tOK s sh then s.extract 2 (2 + val (s.data.toList.take 2)) else ⟨#[]⟩
def tS (s : ByteArray) (sh : Bool) : ByteArray := if tOK s sh then s.extract (2 + val (s.data.toList.take 2)) s.size else s
def tB (s : ByteArray) (sh : Bool) : Bool := !tOK s sh

end Go.Proofs.YthjgnfeadagmeaaGreat

/- What all families of texts share: operations, blocks, bytes of one's own, regions that draw walked once. -/
namespace Go.Proofs.YthjgnfeadagmeaaGreat
open Go.RowKit

section
variable {P : Program} {o : Oper} {a : Act} {w : World} {K : Act → World → Prop} {Q : Exit → Act → World → Prop}
theorem owp_value {v : Value} {w' : World} (hrun : (execOp a.eval o).run P w = .ok (.value v) w') (h : K (a.put o.dst v) w') : o.wp P a w K Q := by
  unfold Oper.wp; rw [hrun]; exact h
theorem owp_skip {w' : World} (hrun : (execOp a.eval o).run P w = .ok .skip w') (h : K (a.put o.dst undef) w') : o.wp P a w K Q := by
  unfold Oper.wp; rw [hrun]; exact h
end
section
variable {P : Program} {o : Oper} {a : Act} {w : World} {K : Act → World → Prop} {Q : Exit → Act → World → Prop} {ops : Array Oper} {E : Prop}
theorem step_of (hgd : o.guard = none) (h : o.wp P a w K Q) : if Region.wanted o (yielded ops a.tmps) = true then Oper.wp P o a w K Q else E := by
  have hw : Region.wanted o (yielded ops a.tmps) = true := by simp [Region.wanted, hgd]
  rw [if_pos hw]
  exact h
end
theorem heap_cells {w : World} {g : Nat} {L : List Value} {t : TypeId} {fr : Nat × Nat} (h : w.heap[g]? = some (.cells L.toArray t fr)) (j : Nat) (v : Value) (hv : L[j]? = some v) : w.cell? ⟨g, 0 + j, none⟩ = some v := by
  simp [World.cell?, h, hv]
theorem Below.setRow {B g : Nat} {w0 w : World} (hb : Below B w0 w) (h : B ≤ g) (cs : Array Value) : Below B w0 (w.setRow g cs) := below_setRow hb h cs
theorem Below.same {B : Nat} {w x y : World} (h : Below B w x) (h1 : y.os = x.os) (h2 : y.tape = x.tape) (h3 : y.output = x.output) (h4 : y.heap = x.heap) : Below B w y :=
  ⟨h1.trans h.os, h2.trans h.tape, h3.trans h.output, by rw [h4]; exact h.size, fun k hk => by rw [h4]; exact h.block k hk⟩
theorem cell_at {w : World} {g : Nat} {L : List Value} {t : TypeId} {fr : Nat × Nat} (h : w.heap[g]? = some (.cells L.toArray t fr)) (j : Nat) (v : Value) (hv : L[j]? = some v) : w.cell? ⟨g, j, none⟩ = some v := by
  simp [World.cell?, h, hv]
theorem free_at {w : World} {g : Nat} {L : Array Value} {t : TypeId} (h : w.heap[g]? = some (.cells L t (0, 0))) (j : Nat) : w.frozen? ⟨g, j, none⟩ = false := by
  simp [World.frozen?, h]
theorem blk_set {w : World} {g : Nat} {c : Array Value} {t : TypeId} (h : w.heap[g]? = some (.cells c t (0, 0))) (j : Nat) (v : Value) : (w.setCell ⟨g, j, none⟩ v).heap[g]? = some (.cells (c.setIfInBounds j v) t (0, 0)) := by
  simp [World.setCell, Array.getElem?_modify, h]
theorem snd_alloc (w : World) (A B : Obj) : ((w.alloc A).alloc B).heap[w.heap.size + 1]? = some B := by
  have := heap_alloc_last (w.alloc A) B
  simpa using this
theorem setRow_heap_ne (w : World) (g k : Nat) (c : Array Value) (h : k ≠ g) : (w.setRow g c).heap[k]? = w.heap[k]? := by
  simp [World.setRow, Array.getElem?_modify, Ne.symm h]
theorem bC_one (l : List UInt8) : ∀ v ∈ bC l, v.oneCell' = true := by
  intro v hv
  obtain ⟨_, _, rfl⟩ := List.mem_map.1 hv
  rfl
theorem bC_get (l : List UInt8) (i : Nat) (h : i < l.length) : (bC l)[i]? = some (.int .u8 ((l.getD i 0).toNat : Int)) := by
  simp [bC, List.getD, h]
theorem getD_app_right {α : Type} (a b : List α) (i : Nat) (d : α) (h : a.length ≤ i) : (a ++ b).getD i d = b.getD (i - a.length) d := by
  simp [List.getD, List.getElem?_append_right h]
theorem getD_app_left {α : Type} (a b : List α) (i : Nat) (d : α) (h : i < a.length) : (a ++ b).getD i d = a.getD i d := by
  simp [List.getD, List.getElem?_append_left h]
theorem ext_take (l : List UInt8) (n : Nat) : (⟨l.toArray⟩ : ByteArray).extract 0 n = ⟨(l.take n).toArray⟩ := by
  apply ByteArray.ext
  rw [ByteArray.data_extract]
  simp
theorem ext_data (s : ByteArray) (i j : Nat) : (s.extract i j).data.toList = (s.data.toList.take j).drop i := by
  rw [ByteArray.data_extract, Array.toList_extract]
  simp [List.drop_take]
theorem mk_data (l : List UInt8) : (⟨l.toArray⟩ : ByteArray).data.toList = l := rfl
theorem mk_size (l : List UInt8) : (⟨l.toArray⟩ : ByteArray).size = l.length := by rw [← data_len]
theorem wrap_small (x : Int) (h0 : 0 ≤ x) (h1 : x < 1000) : IntKind.i64.wrap x = x := by
  simp [IntKind.wrap, IntKind.bits, IntKind.signed]
  omega
theorem of_same {P : Program} {f : FuncId} {args : Array Value} {v : Value} (h : ∀ w : World, Calls P f args w fun e w' => e = .returned v ∧ w' = w) (u : World) :
    Calls P f args u fun e w' => e = .returned v ∧ Below u.heap.size u w' :=
  (h u).mono fun _ _ ⟨he, hw⟩ => ⟨he, hw ▸ Below.refl _ _⟩
theorem Tryz.size5 : (Tryz.prog.info? 5).map (·.size) = some 1 := by kernel_rfl
/-- The slice v holds the bytes l; nothing below B has turned since w0. -/
structure Owned (B : Nat) (w0 w : World) (v : Value) (l : List UInt8) : Prop where
  own : w.ownsRow B 5 1 v l.length (bC l)
  bel : Below B w0 w
  le : B ≤ w.heap.size
theorem Owned.nil {B : Nat} {w0 w : World} (h : Below B w0 w) (hB : B ≤ w.heap.size) : Owned B w0 w (.slice none 0 0) [] := ⟨⟨rfl, .inl ⟨rfl, rfl⟩⟩, h, hB⟩
theorem Owned.alloc {B : Nat} {w0 w : World} {v : Value} {l : List UInt8} (h : Owned B w0 w v l) (o : Obj) : Owned B w0 (w.alloc o) v l :=
  ⟨h.own.alloc o, h.bel.alloc h.le o, by have := h.le; simp; omega⟩
theorem ownsRow_heap {w w1 : World} {B : Nat} {e : TypeId} {z : Nat} {v : Value} {n : Nat} {xs : List Value} (h4 : w1.heap = w.heap) (h : w.ownsRow B e z v n xs) : w1.ownsRow B e z v n xs := by
  unfold World.ownsRow at h ⊢
  rw [h4]; exact h
theorem ownsRow_keep {B : Nat} {w w' : World} {e : TypeId} {z : Nat} {v : Value} {n : Nat} {xs : List Value} (h : w.ownsRow B e z v n xs) (hb : Below w.heap.size w w') : w'.ownsRow B e z v n xs := by
  refine ⟨h.1, ?_⟩
  rcases h.2 with hn | ⟨g, cap, cur, hv, hB, hh, hr⟩
  · exact .inl hn
  · exact .inr ⟨g, cap, cur, hv, hB, (hb.block g (lt_of_blk hh)).trans hh, hr⟩
theorem Owned.same {B : Nat} {w0 w w1 : World} {v : Value} {l : List UInt8} (h : Owned B w0 w v l) (h1 : w1.os = w.os) (h2 : w1.tape = w.tape) (h3 : w1.output = w.output) (h4 : w1.heap = w.heap) : Owned B w0 w1 v l :=
  ⟨ownsRow_heap h4 h.own, Below.same h.bel h1 h2 h3 h4, by rw [h4]; exact h.le⟩
theorem Owned.grow {B : Nat} {w0 w w2 : World} {v v2 : Value} {l xs : List UInt8} {m : Nat} (h : Owned B w0 w v l) (hm : xs.length = m) (h2 : w2.ownsRow B 5 1 v2 (l.length + m) (bC l ++ bC xs)) (hg : w.grownBy w2 v.ownBlock) : Owned B w0 w2 v2 (l ++ xs) :=
  ⟨by rw [List.length_append, bC_app, hm]; exact h2, h.bel.grown hg h.le (fun k hk => (h.own.lt k hk).1), Nat.le_trans h.le hg.size⟩
theorem Owned.form {B : Nat} {w0 w : World} {v : Value} {l : List UInt8} (h : Owned B w0 w v l) : ∃ a cap, v = .slice a l.length cap := by
  rcases h.own.2 with ⟨hv, h0⟩ | ⟨g, cap, cur, hv, _⟩
  · exact ⟨none, 0, by rw [hv, h0]⟩
  · exact ⟨_, _, hv⟩
theorem Owned.text {B : Nat} {w0 w : World} {v : Value} {l : List UInt8} (h : Owned B w0 w v l) : (convert 160 9 v).run Tryz.prog w = .ok (.string ⟨l.toArray⟩) w := by
  rcases h.own.2 with ⟨rfl, h0⟩ | ⟨g, cap, cur, rfl, hg, hh, hnc, hcp, hcs, htake⟩
  · obtain rfl := List.eq_nil_of_length_eq_zero h0
    rw [run_convert_bytes_string w 160 9 5 none 0 0 Tryz.underlying160 Tryz.underlying5 Tryz.underlying9]; rfl
  · exact run_convert_bytes_back (P := Tryz.prog) w 160 9 5 ⟨g, 0, none⟩ cap l Tryz.underlying160 Tryz.underlying5 Tryz.underlying9 (fun j hj => h.own.cells (g := g) rfl j _ (by simp [bC, hj]))
theorem Owned.drew {B : Nat} {w0 w : World} {v : Value} {l : List UInt8} (h : Owned B w0 w v l) : Owned B w0 w.drew v l := h.same rfl rfl rfl rfl
theorem Owned.keep {B : Nat} {w0 w w' : World} {v : Value} {l : List UInt8} (h : Owned B w0 w v l) (hb : Below w.heap.size w w') : Owned B w0 w' v l := by
  refine ⟨⟨h.own.1, ?_⟩, h.bel.trans (hb.mono h.le), Nat.le_trans h.le hb.size⟩
  rcases h.own.2 with hn | ⟨g, cap, cur, hv, hB, hh, hr⟩
  · exact .inl hn
  · exact .inr ⟨g, cap, cur, hv, hB, (hb.block g (lt_of_blk hh)).trans hh, hr⟩
/-- Two rows of one's own, apart. -/
structure Own2 (B : Nat) (w0 w : World) (v1 v2 : Value) (l1 l2 : List UInt8) : Prop where
  one : Owned B w0 w v1 l1
  two : Owned B w0 w v2 l2
  ne : v1.ownBlock = none ∨ v1.ownBlock ≠ v2.ownBlock
theorem Own2.symm {B : Nat} {w0 w : World} {v1 v2 : Value} {l1 l2 : List UInt8} (h : Own2 B w0 w v1 v2 l1 l2) : Own2 B w0 w v2 v1 l2 l1 :=
  ⟨h.two, h.one, by
    cases h2 : v2.ownBlock with
    | none => exact .inl rfl
    | some k =>
      right
      intro e
      rcases h.ne with h1 | h1
      · rw [h1] at e; cases e
      · exact h1 (by rw [← e, h2])⟩
theorem Own2.grow {B : Nat} {w0 w w3 : World} {v1 v2 v3 : Value} {l1 l2 xs : List UInt8} {m : Nat} (o : Obj) (h : Own2 B w0 w v1 v2 l1 l2) (hm : xs.length = m)
    (hown : w3.ownsRow B 5 1 v3 (l1.length + m) (bC l1 ++ bC xs)) (hg : (w.alloc o).grownBy w3 v1.ownBlock) (hb : v3.ownBlock = v1.ownBlock ∨ v3.ownBlock = some (w.alloc o).heap.size) : Own2 B w0 w3 v3 v2 (l1 ++ xs) l2 := by
  have g1 := (h.one.alloc o).grow hm hown hg
  refine ⟨g1, ⟨(h.two.alloc o).own.kept hg ?_, g1.bel, g1.le⟩, ?_⟩
  · cases h2 : v2.ownBlock with
    | none => exact .inl rfl
    | some k =>
      right
      intro e
      rcases h.ne with h1 | h1
      · rw [h1] at e; cases e
      · exact h1 (by rw [← e, h2])
  · rcases hb with hb | hb
    · rw [hb]
      exact h.ne
    · right
      rw [hb]
      intro e
      have := ((h.two.alloc o).own.lt _ e.symm).2
      omega
theorem row_text (w : World) (g cap : Nat) (l : List UInt8) (hc : ∀ j v, (bC l)[j]? = some v → w.cell? ⟨g, j, none⟩ = some v) (n : Nat) (hn : l.length = n) :
    (convert 160 9 (.slice (some ⟨g, 0, none⟩) n cap)).run Tryz.prog w = .ok (.string ⟨l.toArray⟩) w := by
  subst hn
  exact run_convert_bytes_back (P := Tryz.prog) w 160 9 5 ⟨g, 0, none⟩ cap l Tryz.underlying160 Tryz.underlying5 Tryz.underlying9 (fun j hj => by
    rw [Addr.add_lit, Nat.zero_add]
    exact hc j _ (by simp [bC, hj]))
/-- The worlds that are as W was in all that W has. -/
def Cls (W : World) : Type := { u : World // Below W.heap.size W u }
theorem Cls.ne (W : World) : Nonempty (Cls W) := ⟨⟨W, Below.refl _ _⟩⟩
theorem Cls.of {W : World} {f : FuncId} {args : Array Value} {v : Value} (x : Cls W)
    (h : ∀ u : World, Below W.heap.size W u → Calls Tryz.prog f args u fun e w' => e = .returned v ∧ Below u.heap.size u w') :
    Calls Tryz.prog f args x.1 fun e w'' => e = .returned v ∧ ∃ y : Cls W, w'' = y.1 :=
  (h x.1 x.2).mono fun _ w' ⟨he, hb⟩ => ⟨he, ⟨w', x.2.trans (hb.mono x.2.size)⟩, rfl⟩
theorem wp_region_cls {id : Nat} {Q : Exit → Act → World → Prop} {a : Act} (W : World) {l : List Oper} (hm : Tryz.prog.follows .mixedOrders = true) (hB : Region.lexB .any l.toArray = true)
    (h : wpQuiet Tryz.prog l.toArray (fun w' => ∃ x : Cls W, w' = x.1) (fun a' => ∀ w', (∃ x : Cls W, w' = x.1) → Q .normal a' w') l a) : (Code.region id l.toArray true).wp Tryz.prog Q a W :=
  wp_region_quiet (C := fun w' => ∃ x : Cls W, w' = x.1) hm hB ⟨⟨{ W with drawn := W.drawn + 1 }, ⟨rfl, rfl, rfl, Nat.le_refl _, fun _ _ => rfl⟩⟩, rfl⟩ (by simpa using h)
section
variable {o : Oper} {a : Act} {w : World} {K : Act → World → Prop} {Q : Exit → Act → World → Prop} {ops : Array Oper} {rest : List Oper} {QQ : Exit → Act → World → Prop}
/-- A text behind one's own bytes. -/
theorem owp_app_str (sl x : Operand) (ho : o.op = .call { callee := .builtin .append, args := #[sl, x], argTypes := #[160, 9] }) (B : Nat) (w0 : World) (v : Value) (l : List UInt8)
    (hs : a.eval sl = v) (hO : Owned B w0 w v l) (s : ByteArray) (hx : a.eval x = .string s) (hlen : l.length + s.size ≤ 140737488355328)
    (h : ∀ v' w', Hid (Owned B w0 w' v' (l ++ s.data.toList)) → K (a.put o.dst v') w') : o.wp Tryz.prog a w K Q := by
  obtain ⟨i0, hi0, hz0, hz1, hz2⟩ := info_parts Tryz.info5
  obtain ⟨v', w', hr, h2, h3, h4⟩ := Lib.run_append_own_string (P := Tryz.prog) w B 160 9 o.type 5 i0 Tryz.underlying160 Tryz.underlying9 hi0 hz0 hz1 hz2 v l.length (bC l) hO.own s (by unfold maxLen; omega) hlen hO.le
  refine owp_value (v := v') (w' := w') ?_ (h v' w' (hO.grow (data_len s) h2 h3))
  simp [execOp, ho, resolve, invoke, builtin, hs, hx, hr, Result.andThen]
theorem wl_app_str (hgd : o.guard = none) (sl x : Operand) (ho : o.op = .call { callee := .builtin .append, args := #[sl, x], argTypes := #[160, 9] }) (B : Nat) (w0 : World) (v : Value) (l : List UInt8)
    (hs : a.eval sl = v) (hO : Owned B w0 w v l) (s : ByteArray) (hx : a.eval x = .string s) (hlen : l.length + s.size ≤ 140737488355328)
    (h : ∀ v' w', Hid (Owned B w0 w' v' (l ++ s.data.toList)) → wpList Tryz.prog ops QQ rest (a.put o.dst v') w') : wpList Tryz.prog ops QQ (o :: rest) a w :=
  wpList_plain hgd fun _ hK => owp_app_str sl x ho B w0 v l hs hO s hx hlen fun v' w' h' => hK _ _ (h v' w' h')
end
end Go.Proofs.YthjgnfeadagmeaaGreat

/- What was written is read: numbers, texts, the end. No walk here. -/
namespace Go.Proofs.YthjgnfeadagmeaaGreat
open Go.RowKit

/-- A number that is there is read. -/
theorem rd_good (s : ByteArray) (n k : Nat) (rest : List UInt8) (h : s.data.toList = be n k ++ rest) (hk : k < 256 ^ n) : rN s false n = k ∧ (rS s false n).data.toList = rest ∧ rB s false n = false := by
  have hl : n ≤ s.size := by rw [← data_len, h, List.length_append, be_len]; omega
  have hb : hasB s false n = true := by rw [hasB, decide_eq_true (by omega)]; rfl
  refine ⟨?_, ?_, by rw [rB, hb]; rfl⟩
  · rw [rN, hb, if_pos rfl, h, List.take_left' (be_len n k), val_be, Nat.mod_eq_of_lt hk]
  · rw [rS, hb, if_pos rfl, ext_data, List.take_of_length_le (by rw [data_len]; exact Nat.le_refl _), h, List.drop_left' (be_len n k)]
/-- What was read was there. -/
theorem rd_back (s : ByteArray) (sh : Bool) (n : Nat) (h : rB s sh n = false) : sh = false ∧ s.data.toList = be n (rN s sh n) ++ (rS s sh n).data.toList := by
  have hb : hasB s sh n = true := by
    rw [rB] at h
    cases e : hasB s sh n with
    | true => rfl
    | false => rw [e] at h; cases h
  have hb2 := hb
  rw [hasB, Bool.and_eq_true_iff] at hb2
  have hl : n ≤ s.size := by have := of_decide_eq_true hb2.2; omega
  refine ⟨by cases sh with | false => rfl | true => exact absurd hb2.1 (by decide), ?_⟩
  have ht : (s.data.toList.take n).length = n := by rw [List.length_take, data_len]; omega
  have hv := be_val (s.data.toList.take n)
  rw [ht] at hv
  rw [rN, hb, if_pos rfl, rS, hb, if_pos rfl, hv, ext_data, List.take_of_length_le (i := s.size) (by rw [data_len]; exact Nat.le_refl _), List.take_append_drop]
theorem end_ok {s : ByteArray} {sh : Bool} (h : endOf s sh = 0) : sh = false ∧ s.data.toList = [] := by
  unfold endOf at h
  split at h
  · cases h
  · next h1 =>
    split at h
    · cases h
    · next h2 => exact ⟨by simpa using h1, List.eq_nil_of_length_eq_zero (by rw [data_len]; omega)⟩
theorem end_of {s : ByteArray} (h : s.data.toList = []) : endOf s false = 0 := by
  have : s.size = 0 := by rw [← data_len, h]; rfl
  unfold endOf
  rw [if_neg (by decide), if_neg (by omega)]
/-- A text that is there is read. -/
theorem tx_good (s x : ByteArray) (rest : List UInt8) (h : s.data.toList = be 2 x.size ++ (x.data.toList ++ rest)) (hx : x.size ≤ 65535) : tT s false = x ∧ (tS s false).data.toList = rest ∧ tB s false = false := by
  have hl : s.size = 2 + (x.size + rest.length) := by rw [← data_len, h, List.length_append, be_len, List.length_append, data_len]
  have hv : val (s.data.toList.take 2) = x.size := by rw [h, List.take_left' (be_len 2 _), val_be, Nat.mod_eq_of_lt (by omega)]
  have hok : tOK s false = true := by
    rw [tOK, hv, hasB, decide_eq_true (by omega), decide_eq_true (by omega)]
    rfl
  have hd : s.data.toList.drop 2 = x.data.toList ++ rest := by rw [h, List.drop_left' (be_len 2 _)]
  refine ⟨?_, ?_, by rw [tB, hok]; rfl⟩
  · rw [tT, if_pos hok, hv]
    apply ByteArray.ext
    apply Array.ext'
    rw [ext_data, List.drop_take, hd, show 2 + x.size - 2 = x.size by omega, List.take_left' (data_len x)]
  · rw [tS, if_pos hok, hv, ext_data, List.take_of_length_le (by rw [data_len]; exact Nat.le_refl _), ← List.drop_drop, hd, List.drop_left' (data_len x)]
end Go.Proofs.YthjgnfeadagmeaaGreat

/- Facts on the words of binary64: which are NaNs, how a word stands to itself, what is a sum of two. No walk here. -/
namespace Go.Proofs.YthjgnfeadagmeaaGreat

theorem rhid {p : Prop} (h : p) : Go.RowKit.Hid p := h

/-- Is the word a NaN's? -/
def nanW (n : Nat) : Bool := decide (9218868437227405312 < n % 9223372036854775808)
/-- The word's bits by the document: of every NaN the one NaN's. -/
def canW (n : Nat) : Nat := bif nanW n then 9221120237041090560 else n

theorem dbl_sign : Ieee.double.signWeight = 9223372036854775808 := by decide
theorem dbl_binade : Ieee.double.binade = 4503599627370496 := by decide
theorem dbl_inf : Ieee.double.infRung = 9218868437227405312 := by decide
theorem dbl_least : Ieee.double.leastPlace = -1074 := by decide

/-- The sign of a word. -/
def sgW (n : Nat) : Bool := n / 9223372036854775808 % 2 == 1

theorem read_sub {n : Nat} (h : n % 9223372036854775808 < 4503599627370496) : Ieee.double.read n = .number (sgW n) (n % 9223372036854775808) (-1074) := by
  simp only [Ieee.Format.read, dbl_sign, dbl_binade, dbl_least, if_pos h, sgW]
theorem read_norm {n : Nat} (h : 4503599627370496 ≤ n % 9223372036854775808) (k : n % 9223372036854775808 < 9218868437227405312) :
    Ieee.double.read n = .number (sgW n) (4503599627370496 + n % 9223372036854775808 % 4503599627370496) (-1074 + ((n % 9223372036854775808 / 4503599627370496 - 1 : Nat) : Int)) := by
  simp only [Ieee.Format.read, dbl_sign, dbl_binade, dbl_least, dbl_inf, if_neg (Nat.not_lt.2 h), if_pos k, sgW]
theorem read_inf {n : Nat} (h : n % 9223372036854775808 = 9218868437227405312) : Ieee.double.read n = .infinity (sgW n) := by
  simp only [Ieee.Format.read, dbl_sign, dbl_binade, dbl_least, dbl_inf, h, sgW]
  rfl
theorem read_nan {n : Nat} (h : 9218868437227405312 < n % 9223372036854775808) : Ieee.double.read n = .nan (sgW n) (n % 9223372036854775808 - 9218868437227405312) := by
  simp only [Ieee.Format.read, dbl_sign, dbl_binade, dbl_least, dbl_inf, sgW, if_neg (show ¬ n % 9223372036854775808 < 4503599627370496 by omega), if_neg (show ¬ n % 9223372036854775808 < 9218868437227405312 by omega), if_neg (show ¬ n % 9223372036854775808 = 9218868437227405312 by omega)]

/-- What a word that is no NaN's stands for. -/
theorem read_fin {n : Nat} (h : nanW n = false) : (∃ m e, Ieee.double.read n = .number (sgW n) m e ∧ n % 9223372036854775808 < 9218868437227405312) ∨ (Ieee.double.read n = .infinity (sgW n) ∧ n % 9223372036854775808 = 9218868437227405312) := by
  simp only [nanW, decide_eq_false_iff_not] at h
  by_cases h1 : n % 9223372036854775808 < 4503599627370496
  · exact .inl ⟨_, _, read_sub h1, by omega⟩
  · by_cases h2 : n % 9223372036854775808 < 9218868437227405312
    · exact .inl ⟨_, _, read_norm (by omega) h2, h2⟩
    · exact .inr ⟨read_inf (by omega), by omega⟩

theorem cmp_self (x : Int) : compare x x = .eq := by simp
theorem order_self (n : Nat) : (Ieee.double.order n n == some .eq) = !nanW n := by
  cases hn : nanW n
  · rcases read_fin hn with ⟨m, e, h, -⟩ | ⟨h, -⟩
    · simp [Ieee.Format.order, h, Ieee.Datum.order]
    · simp [Ieee.Format.order, h, Ieee.Datum.order]
  · simp only [nanW, decide_eq_true_eq] at hn
    rw [Ieee.Format.order, read_nan hn]; rfl
theorem order_ne_self (n : Nat) : (Ieee.double.order n n != some .eq) = nanW n := by
  have := order_self n
  rw [bne, this, Bool.not_not]

theorem sum_comm (a b : Ieee.Datum) : a.sum b = b.sum a := by
  cases a <;> cases b <;> simp only [Ieee.Datum.sum]
  · rename_i s m i t n j
    simp only [Int.min_comm i j, Int.add_comm (Ieee.signed s m _), Bool.and_comm s t]
  · rename_i s t
    by_cases h : s = t
    · subst h; simp
    · simp [h, Ne.symm h]

theorem add_comm (a b : Nat) : Ieee.double.add a b = Ieee.double.add b a := by
  simp only [Ieee.Format.add]; rw [sum_comm]

/-- The words that have no sum. -/
def noSum (a b : Nat) : Bool := nanW a || nanW b || (a % 9223372036854775808 == 9218868437227405312 && b % 9223372036854775808 == 9218868437227405312 && sgW a != sgW b)

theorem add_none (a b : Nat) : (Ieee.double.add a b).isNone = noSum a b := by
  cases ha : nanW a
  case true =>
    have h := ha
    simp only [nanW, decide_eq_true_eq] at h
    simp [Ieee.Format.add, read_nan h, Ieee.Datum.sum, noSum, ha]
  cases hb : nanW b
  case true =>
    have h := hb
    simp only [nanW, decide_eq_true_eq] at h
    simp only [Ieee.Format.add, read_nan h, noSum, ha, hb]
    cases Ieee.double.read a <;> simp [Ieee.Datum.sum]
  simp only [noSum, ha, hb, Bool.false_or]
  rcases read_fin ha with ⟨m, e, h, k⟩ | ⟨h, k⟩ <;> rcases read_fin hb with ⟨m', e', h', k'⟩ | ⟨h', k'⟩ <;> simp only [Ieee.Format.add, h, h', Ieee.Datum.sum]
  · have : (a % 9223372036854775808 == 9218868437227405312) = false := by simp; omega
    simp [this]
  · have : (a % 9223372036854775808 == 9218868437227405312) = false := by simp; omega
    simp [this]
  · have : (b % 9223372036854775808 == 9218868437227405312) = false := by simp; omega
    simp [this]
  · by_cases hs : sgW a = sgW b
    · simp [hs]
    · simp [hs, k, k']

theorem word_rung (neg : Bool) (r : Nat) (h : r ≤ 9218868437227405312) : nanW (Ieee.double.word neg r) = false ∧ Ieee.double.word neg r < 18446744073709551616 := by
  cases neg <;> simp only [Ieee.Format.word, dbl_sign, nanW, decide_eq_false_iff_not, if_true, Bool.false_eq_true, if_false] <;> omega

theorem nearest_ok (neg : Bool) (m : Nat) (e : Int) : nanW (Ieee.double.nearest neg m e) = false ∧ Ieee.double.nearest neg m e < 18446744073709551616 := by
  unfold Ieee.Format.nearest
  dsimp only
  split
  · exact word_rung _ _ (by omega)
  · refine word_rung _ _ ?_
    rw [dbl_inf]; exact Nat.min_le_right ..

theorem add_some {a b r : Nat} (h : Ieee.double.add a b = some r) : nanW r = false ∧ r < 18446744073709551616 := by
  have key : ∀ d, (Ieee.double.read a).sum (Ieee.double.read b) = some d → nanW (Ieee.double.write d) = false ∧ Ieee.double.write d < 18446744073709551616 := by
    intro d hd
    cases d with
    | number neg m e => exact nearest_ok neg m e
    | infinity neg => exact word_rung _ _ (by rw [dbl_inf]; omega)
    | nan neg f =>
      revert hd
      cases Ieee.double.read a <;> cases Ieee.double.read b <;> simp only [Ieee.Datum.sum] <;> intro hd <;> first | (cases hd; done) | skip
      split at hd <;> cases hd
  simp only [Ieee.Format.add] at h
  cases hd : (Ieee.double.read a).sum (Ieee.double.read b) with
  | none => rw [hd] at h; cases h
  | some d => rw [hd] at h; cases h; exact key d hd

/-- A whole number of least steps, written: the rung is told by its greatest digit. -/
theorem nearest_sub (neg : Bool) (m : Nat) (h : m < 4503599627370496) : Ieee.double.nearest neg m (-1074) = Ieee.double.word neg m := by
  unfold Ieee.Format.nearest
  split
  · subst_vars; rfl
  · rename_i h0
    have hl : m.log2 < 52 := (Nat.log2_lt h0).2 h
    have hlast : max ((-1074 : Int) + m.log2 - Ieee.double.fractionBits) (-1074) = -1074 := by
      show max ((-1074 : Int) + m.log2 - (52 : Nat)) (-1074) = -1074; omega
    simp only [dbl_least, dbl_inf]
    simp only [hlast]
    have : Ieee.Toward.even.cut neg (m <<< ((-1074 : Int) - (-1074)).toNat) ((-1074 : Int) - (-1074)).toNat = m := by
      simp [Ieee.Toward.cut, Nat.mod_one]
    rw [this]
    have : min (((-1074 : Int) - (-1074)).toNat * Ieee.double.binade + m) 9218868437227405312 = m := by simp; omega
    rw [this]

theorem nearest_norm (neg : Bool) (m k : Nat) (h1 : 4503599627370496 ≤ m) (h2 : m < 9007199254740992) (hk : k < 2046) :
    Ieee.double.nearest neg (m <<< k) (-1074) = Ieee.double.word neg (k * 4503599627370496 + m) := by
  have hne : m <<< k ≠ 0 := by
    rw [Nat.shiftLeft_eq]
    exact Nat.ne_of_gt (Nat.mul_pos (by omega) (Nat.two_pow_pos _))
  have hl : (m <<< k).log2 = 52 + k := by
    have hp : 0 < 2 ^ k := Nat.two_pow_pos _
    have e1 : 2 ^ (52 + k) = 4503599627370496 * 2 ^ k := by rw [Nat.pow_add]
    have e2 : 2 ^ (52 + k + 1) = 9007199254740992 * 2 ^ k := by rw [Nat.pow_succ, e1, Nat.mul_right_comm]
    rw [Nat.log2_eq_iff hne, Nat.shiftLeft_eq, e1, e2]
    exact ⟨Nat.mul_le_mul_right _ h1, Nat.mul_lt_mul_of_pos_right h2 hp⟩
  unfold Ieee.Format.nearest
  rw [if_neg hne]
  have hlast : max ((-1074 : Int) + (m <<< k).log2 - Ieee.double.fractionBits) (-1074) = -1074 + k := by
    rw [hl]; show max ((-1074 : Int) + (52 + k : Nat) - (52 : Nat)) (-1074) = -1074 + k; omega
  simp only [dbl_least, dbl_inf, dbl_binade]
  simp only [hlast]
  have e1 : ((-1074 : Int) - (-1074 + k)).toNat = 0 := by omega
  have e2 : ((-1074 : Int) + k - (-1074)).toNat = k := by omega
  rw [e1, e2]
  have hc : Ieee.Toward.even.cut neg (m <<< k <<< 0) k = m := by
    have hg : min k ((m <<< k).log2 + 2) = k := Nat.min_eq_left (by omega)
    have hp : 0 < 2 ^ k := Nat.two_pow_pos _
    have hd : m <<< k / 1 <<< k = m := by rw [Nat.one_shiftLeft, Nat.shiftLeft_eq, Nat.mul_div_cancel _ hp]
    have hr : m <<< k % 1 <<< k = 0 := by rw [Nat.one_shiftLeft, Nat.shiftLeft_eq, Nat.mul_mod_left]
    have h1k : (1 <<< k == 0) = false := by rw [Nat.one_shiftLeft]; exact beq_false_of_ne (by omega)
    simp only [Nat.shiftLeft_zero, Ieee.Toward.cut, hg, hd, hr, Nat.mul_zero, Nat.not_lt_zero, decide_false, Bool.false_or, h1k, Bool.false_and, Bool.toNat_false, Nat.add_zero]
  rw [hc]
  have : min (k * 4503599627370496 + m) 9218868437227405312 = k * 4503599627370496 + m := by omega
  rw [this]

theorem word_sg (n : Nat) (h : n < 18446744073709551616) : Ieee.double.word (sgW n) (n % 9223372036854775808) = n := by
  unfold sgW Ieee.Format.word
  rw [dbl_sign]
  by_cases g : n < 9223372036854775808
  · have : n / 9223372036854775808 = 0 := by omega
    simp [this]; omega
  · have : n / 9223372036854775808 = 1 := by omega
    simp [this]; omega

theorem signed_zero (b : Bool) (k : Nat) : Ieee.signed b 0 k = 0 := by cases b <;> simp [Ieee.signed]
theorem signed_false (m k : Nat) : Ieee.signed false m k = ((m <<< k : Nat) : Int) := rfl
theorem signed_true (m k : Nat) : Ieee.signed true m k = -((m <<< k : Nat) : Int) := rfl
theorem signed_abs (b : Bool) (m k : Nat) : (Ieee.signed b m k).natAbs = m <<< k := by
  cases b
  · rw [signed_false]; generalize m <<< k = x; omega
  · rw [signed_true]; generalize m <<< k = x; omega
theorem signed_sign (b : Bool) (m k : Nat) (h : m ≠ 0) : (Ieee.signed b m k = 0) = False ∧ (decide (Ieee.signed b m k < 0)) = b := by
  have hp : 0 < m <<< k := by rw [Nat.shiftLeft_eq]; exact Nat.mul_pos (by omega) (Nat.two_pow_pos _)
  revert hp
  cases b
  · rw [signed_false]; generalize m <<< k = x; intro hp; simp; omega
  · rw [signed_true]; generalize m <<< k = x; intro hp; simp; omega

/-- -0 added changes no real. -/
theorem add_negzero {n : Nat} (h : n < 18446744073709551616) (hn : nanW n = false) : Ieee.double.add n 9223372036854775808 = some n := by
  have r0 : Ieee.double.read 9223372036854775808 = .number true 0 (-1074) := by rw [read_sub (by decide)]; rfl
  have hn' := hn
  simp only [nanW, decide_eq_false_iff_not] at hn'
  simp only [Ieee.Format.add, r0]
  by_cases h1 : n % 9223372036854775808 < 4503599627370496
  · rw [read_sub h1]
    simp only [Ieee.Datum.sum, Int.min_self, Int.sub_self, Int.toNat_zero, signed_zero, Int.add_zero, signed_abs, Nat.shiftLeft_zero, Option.map_some, Ieee.Format.write]
    rw [nearest_sub _ _ h1]
    by_cases h0 : n % 9223372036854775808 = 0
    · rw [h0]
      simp only [signed_zero, if_true, Bool.and_true]
      have := word_sg n h
      rw [h0] at this; rw [this]
    · obtain ⟨s1, s2⟩ := signed_sign (sgW n) _ 0 h0
      simp only [s1, if_false, s2]
      rw [word_sg n h]
  · by_cases h2 : n % 9223372036854775808 < 9218868437227405312
    · rw [read_norm (by omega) h2]
      have hk : (n % 9223372036854775808 / 4503599627370496 - 1) < 2046 := by omega
      generalize hkd : n % 9223372036854775808 / 4503599627370496 - 1 = k at hk
      have hm0 : 4503599627370496 + n % 9223372036854775808 % 4503599627370496 ≠ 0 := by omega
      have hmin : min ((-1074 : Int) + (k : Nat)) (-1074) = -1074 := by omega
      have ek : ((-1074 : Int) + (k : Nat) - (-1074)).toNat = k := by omega
      simp only [Ieee.Datum.sum, hmin, ek, Int.sub_self, Int.toNat_zero, signed_zero, Int.add_zero, signed_abs, Option.map_some, Ieee.Format.write]
      obtain ⟨s1, s2⟩ := signed_sign (sgW n) _ k hm0
      simp only [s1, if_false, s2]
      rw [nearest_norm _ _ _ (by omega) (by omega) hk]
      have : k * 4503599627370496 + (4503599627370496 + n % 9223372036854775808 % 4503599627370496) = n % 9223372036854775808 := by omega
      rw [this, word_sg n h]
    · have h3 : n % 9223372036854775808 = 9218868437227405312 := by omega
      rw [read_inf h3]
      simp only [Ieee.Datum.sum, Option.map_some, Ieee.Format.write, dbl_inf]
      have := word_sg n h
      rw [h3] at this; rw [this]

end Go.Proofs.YthjgnfeadagmeaaGreat

/- The contracts of package reals (all but the texts): bits, the order, sums. -/
namespace Go.Proofs.YthjgnfeadagmeaaGreat
open Go.RowKit

theorem fb_run (b : Nat) (w : World) : (callFunc 129 #[.float .f64 b]).run Tryz.prog w = .ok (.value (.int .u64 b)) w := by
  rw [run_callFunc_extern Tryz.func129 (by kernel_rfl) (by kernel_rfl) (by kernel_rfl) (e := Extern.MathFloatBits.float64bits) (by kernel_rfl)]; rfl
theorem ff_run (n : Int) (w : World) : (callFunc 92 #[.int .u64 n]).run Tryz.prog w = .ok (.value (.float .f64 n.toNat)) w := by
  rw [run_callFunc_extern Tryz.func92 (by kernel_rfl) (by kernel_rfl) (by kernel_rfl) (e := Extern.MathFloatBits.float64frombits) (by kernel_rfl)]; rfl

theorem isnan_any (b : Nat) (w : World) : Calls Tryz.prog 91 #[.float .f64 b] w fun e w' => e = .returned (.bool (nanW b)) ∧ w' = w := by
  go_enter Tryz.func91, Tryz.ntmps91
  go_wp2
  go_ret
  exact ⟨by rw [← order_ne_self]; rfl, rfl⟩

theorem bits_any (b : Nat) (w : World) : Calls Tryz.prog 135 #[.float .f64 b] w fun e w' => e = .returned (.int .u64 (canW b : Nat)) ∧ w' = w := by
  go_enter Tryz.func135, Tryz.ntmps135
  cases hn : nanW b
  · go_wp2_with (first | (go_at_call 91; refine (isnan_any _ _).mono ?_; rintro e w1 ⟨rfl, rfl⟩; rw [hn]) | rw [fb_run])
    go_ret
    exact ⟨by simp [canW, hn], rfl⟩
  · go_wp2_with (go_at_call 91; refine (isnan_any _ _).mono ?_; rintro e w1 ⟨rfl, rfl⟩; rw [hn])
    go_ret
    exact ⟨by simp [canW, hn], rfl⟩

/-- The real that has the bits n, and whether there is one. -/
def fromW (n : Nat) : Nat := bif canW n == n then n else 0
theorem beq_cast (a b : Nat) : ((a : Int) == (b : Int)) = (a == b) := by
  rw [Bool.eq_iff_iff]; simp; omega

theorem canW_lt {b : Nat} (hb : b < 18446744073709551616) : canW b < 18446744073709551616 := by
  unfold canW; cases nanW b <;> simp <;> omega

theorem and_sign (a : Nat) (ha : a < 18446744073709551616) : bits .and .u64 (a : Int) 9223372036854775808 = ((a / 9223372036854775808 * 9223372036854775808 : Nat) : Int) := by
  have := u64_and_nat a 9223372036854775808 ha (by decide)
  rw [show ((9223372036854775808 : Nat) : Int) = 9223372036854775808 from rfl] at this
  have e1 := Nat.and_div_two_pow (a := a) (b := 9223372036854775808) (n := 63)
  have e2 := Nat.and_mod_two_pow (a := a) (b := 9223372036854775808) (n := 63)
  rw [this]
  rw [show 9223372036854775808 / 2 ^ 63 = 1 from rfl, Nat.and_one_is_mod] at e1
  rw [show 9223372036854775808 % 2 ^ 63 = 0 from rfl, Nat.and_zero] at e2
  omega
theorem or_sign (a : Nat) (ha : a < 9223372036854775808) : bits .or .u64 (a : Int) 9223372036854775808 = ((a + 9223372036854775808 : Nat) : Int) := by
  have := u64_or_nat a 9223372036854775808 (by omega) (by decide)
  rw [show ((9223372036854775808 : Nat) : Int) = 9223372036854775808 from rfl] at this
  rw [this, Nat.or_comm]
  have := Nat.two_pow_add_eq_or_of_lt (i := 63) (b := a) ha 1
  rw [show 2 ^ 63 * 1 = 9223372036854775808 from rfl] at this
  rw [← this, Nat.add_comm]
theorem not_u64 (a : Nat) (ha : a < 18446744073709551616) : bits .xor .u64 IntKind.u64.max (a : Int) = ((18446744073709551615 - a : Nat) : Int) := by
  show IntKind.u64.wrap ((BitVec.ofInt 64 IntKind.u64.max ^^^ BitVec.ofInt 64 (a : Int)).toNat : Int) = _
  have h1 : BitVec.ofInt 64 IntKind.u64.max = BitVec.allOnes 64 := by decide
  rw [h1, BitVec.allOnes_xor, BitVec.toNat_not, ofInt_u64 a (by omega)]
  simp [IntKind.wrap, IntKind.bits, IntKind.signed]
  omega

/-- Where a real stands: a number that rises. -/
def rankW (b : Nat) : Nat := bif decide (9223372036854775808 ≤ canW b) then 18446744073709551615 - canW b else canW b + 9223372036854775808
def mostW (a b : Nat) : Nat := bif decide (rankW a < rankW b) then canW b else canW a
/-- Draws alone. -/
def Drawn (w w' : World) : Prop := ∃ k, w' = w.drewN k
theorem Drawn.refl (w : World) : Drawn w w := ⟨0, rfl⟩
theorem Drawn.trans {x y z : World} (h : Drawn x y) (k : Drawn y z) : Drawn x z := by
  obtain ⟨a, rfl⟩ := h
  obtain ⟨b, rfl⟩ := k
  exact ⟨a + b, by simp⟩
theorem Drawn.below {w w' : World} (h : Drawn w w') : Below w.heap.size w w' := by
  obtain ⟨k, rfl⟩ := h
  exact ⟨rfl, rfl, rfl, Nat.le_refl _, fun _ _ => rfl⟩

/-- The sum's bits. -/
def addW (a b : Nat) : Nat := (Ieee.double.add a b).getD 9221120237041090560

/-- A sum in the model: the rounded one, or some NaN. -/
theorem run_add (t : TypeId) (a b : Nat) (w : World) : ∃ r w', (binOp .add t (.float .f64 a) (.float .f64 b)).run Tryz.prog w = .ok (.float .f64 r) w' ∧ canW r = addW a b ∧ r < 18446744073709551616 ∧ Drawn w w' := by
  cases h : Ieee.double.add a b with
  | some r =>
    refine ⟨r, w, run_float_arith w .add t .f64 a b r h, ?_, (add_some h).2, .refl _⟩
    simp [addW, h, canW, (add_some h).1]
  | none =>
    refine ⟨w.tape w.drawn (Question.nanBits FloatKind.f64 a b) % 2 * 9223372036854775808 + 9218868437227405312 + 1 + w.tape w.drawn (Question.nanBits FloatKind.f64 a b) / 2 % 4503599627370495, w.drew, by simp [binOp, Op.floatArith, FloatKind.format, h, Question.forced, Question.cut], ?_, ?_, ⟨1, rfl⟩⟩
    · simp only [addW, h, Option.getD_none, canW, nanW]
      have := Nat.mod_two_eq_zero_or_one (w.tape w.drawn (Question.nanBits FloatKind.f64 a b))
      rw [decide_eq_true (by rcases this with e | e <;> rw [e] <;> omega)]
      rfl
    · omega
theorem addW_lt (a b : Nat) : addW a b < 18446744073709551616 := by
  unfold addW
  cases h : Ieee.double.add a b with
  | none => decide
  | some r => exact (add_some h).2
theorem canW_idem (n : Nat) : canW (canW n) = canW n := by
  cases h : nanW n
  · simp [canW, h]
  · simp only [canW, h]; rfl
theorem canW_addW (a b : Nat) : canW (addW a b) = addW a b := by
  unfold addW
  cases h : Ieee.double.add a b with
  | none => rfl
  | some r => simp [canW, (add_some h).1]

def infW (s : Int) : Nat := bif decide (s ≥ 0) then 9218868437227405312 else 18442240474082181120
end Go.Proofs.YthjgnfeadagmeaaGreat

/- Requests, results, and their texts: which are right, what they are read as, that they come back and part. No walk here. -/
namespace Go.Proofs.YthjgnfeadagmeaaGreat
open Go.RowKit

/-- A request: client, stamp, kind, key, the word of its real, ID. -/
structure Rq where
  c : Int
  st : Int
  k : Int
  key : ByteArray
  b : Nat
  id : Int
def keyedB (r : Rq) : Bool := (decide (1 ≤ r.key.size) && decide (r.key.size ≤ 16)) && decide (r.id = 0)
def plainB (r : Rq) : Bool := decide (canW r.b = 0)
def joinB (r : Rq) : Bool := ((decide (r.key.size = 0) && plainB r) && decide (0 ≤ r.id)) && decide (r.id < 16)
def opB (r : Rq) : Bool := if r.k = 1 ∨ r.k = 2 ∨ r.k = 3 then keyedB r else if r.k = 4 ∨ r.k = 5 then keyedB r && plainB r else if r.k = 6 ∨ r.k = 7 then joinB r else false
def rightB (r : Rq) : Bool := (((decide (1 ≤ r.c) && decide (r.c ≤ 8)) && decide (1 ≤ r.st)) && decide (r.st ≤ 1048576)) && opB r
def nullB (r : Rq) : Bool := ((((decide (r.c = 0) && decide (r.st = 0)) && decide (r.k = 0)) && decide (r.key.size = 0)) && plainB r) && decide (r.id = 0)
/-- The bytes of a right request. -/
def rqL (r : Rq) : List UInt8 := be 1 1 ++ (be 1 r.c.toNat ++ (be 4 r.st.toNat ++ (be 1 r.k.toNat ++ (be 2 r.key.size ++ (r.key.data.toList ++ (be 8 (canW r.b) ++ be 1 r.id.toNat))))))
def rqT (r : Rq) : ByteArray := if nullB r then ⟨#[0]⟩ else if rightB r then ⟨(rqL r).toArray⟩ else ⟨#[]⟩
def rqE (r : Rq) : Int := if nullB r then 0 else if rightB r then 0 else 1
/-- What is known of a right request's fields. -/
theorem right_fields {r : Rq} (h : rightB r = true) : (1 ≤ r.c ∧ r.c ≤ 8) ∧ (1 ≤ r.st ∧ r.st ≤ 1048576) ∧ (1 ≤ r.k ∧ r.k ≤ 7) ∧ r.key.size ≤ 16 ∧ (0 ≤ r.id ∧ r.id < 16) := by
  simp only [rightB, Bool.and_eq_true, decide_eq_true_eq] at h
  obtain ⟨⟨⟨⟨h1, h2⟩, h3⟩, h4⟩, h5⟩ := h
  unfold opB at h5
  split at h5
  · simp only [keyedB, Bool.and_eq_true, decide_eq_true_eq] at h5
    omega
  · split at h5
    · simp only [keyedB, Bool.and_eq_true, decide_eq_true_eq] at h5
      omega
    · split at h5
      · simp only [joinB, Bool.and_eq_true, decide_eq_true_eq] at h5
        omega
      · cases h5
theorem null_fields {r : Rq} (h : nullB r = true) : r.c = 0 ∧ r.st = 0 ∧ r.k = 0 ∧ r.key.size = 0 ∧ canW r.b = 0 ∧ r.id = 0 := by
  simp only [nullB, plainB, Bool.and_eq_true, decide_eq_true_eq] at h
  omega
theorem right_null {r : Rq} (h : rightB r = true) : nullB r = false := by
  have h1 := right_fields h
  cases hn : nullB r with
  | false => rfl
  | true => have := null_fields hn; omega
theorem rqL_len (r : Rq) : (rqL r).length = 18 + r.key.size := by
  simp only [rqL, List.length_append, be_len, data_len]
  omega
theorem rqE_iff (r : Rq) : rqE r = 0 ↔ (nullB r = true ∨ rightB r = true) := by
  unfold rqE
  split
  · next h => exact ⟨fun _ => .inl h, fun _ => rfl⟩
  · next h =>
    split
    · next h2 => exact ⟨fun _ => .inr h2, fun _ => rfl⟩
    · next h2 => exact ⟨fun e => absurd e (by decide), fun e => by rcases e with e | e; exact absurd e h; exact absurd e h2⟩
theorem rqE_bool (r : Rq) : (rqE r == 0) = (rightB r || nullB r) := by
  by_cases h : rqE r = 0
  · have h2 := (rqE_iff r).1 h
    rw [h]
    rcases h2 with h2 | h2 <;> rw [h2] <;> simp
  · have h3 : ¬ (nullB r = true ∨ rightB r = true) := fun e => h ((rqE_iff r).2 e)
    have h4 : nullB r = false := by cases e : nullB r with | false => rfl | true => exact absurd (.inl e) h3
    have h5 : rightB r = false := by cases e : rightB r with | false => rfl | true => exact absurd (.inr e) h3
    rw [h4, h5]
    simpa using h
/-- A text that was read was there. -/
theorem tx_back (s : ByteArray) (sh : Bool) (h : tB s sh = false) : sh = false ∧ s.data.toList = be 2 (tT s sh).size ++ ((tT s sh).data.toList ++ (tS s sh).data.toList) ∧ (tT s sh).size ≤ 65535 := by
  have hok : tOK s sh = true := by
    rw [tB] at h
    cases e : tOK s sh with
    | true => rfl
    | false => rw [e] at h; cases h
  have hok2 := hok
  rw [tOK, Bool.and_eq_true_iff] at hok2
  have hb := hok2.1
  rw [hasB, Bool.and_eq_true_iff] at hb
  have h2 : (2 : Nat) ≤ s.size := by have := of_decide_eq_true hb.2; omega
  have hv := of_decide_eq_true hok2.2
  have hsh : sh = false := by cases sh with | false => rfl | true => exact absurd hb.1 (by decide)
  have ht : (s.data.toList.take 2).length = 2 := by rw [List.length_take, data_len]; omega
  have hlt := val_lt (s.data.toList.take 2)
  rw [ht] at hlt
  have hbv := be_val (s.data.toList.take 2)
  rw [ht] at hbv
  have hT : (tT s sh).data.toList = (s.data.toList.drop 2).take (val (s.data.toList.take 2)) := by
    rw [tT, if_pos hok, ext_data, List.drop_take]
    congr 1
    omega
  have hS : (tS s sh).data.toList = (s.data.toList.drop 2).drop (val (s.data.toList.take 2)) := by
    rw [tS, if_pos hok, ext_data, List.take_of_length_le (i := s.size) (by rw [data_len]; exact Nat.le_refl _), List.drop_drop]
  have hz : (tT s sh).size = val (s.data.toList.take 2) := by
    rw [← data_len, hT, List.length_take, List.length_drop, data_len]
    omega
  refine ⟨hsh, ?_, by rw [hz]; omega⟩
  rw [hz, hT, hS, List.take_append_drop, hbv, List.take_append_drop]
/-- What any bytes are read as: field by field. -/
structure Rd where
  s : ByteArray
  sh : Bool
def Rd.num (x : Rd) (n : Nat) : Rd := ⟨rS x.s x.sh n, rB x.s x.sh n⟩
def Rd.txt (x : Rd) : Rd := ⟨tS x.s x.sh, tB x.s x.sh⟩
def rd1 (t : ByteArray) : Rd := (Rd.mk t false).num 1
def rd2 (t : ByteArray) : Rd := (rd1 t).num 1
def rd3 (t : ByteArray) : Rd := (rd2 t).num 4
def rd4 (t : ByteArray) : Rd := (rd3 t).num 1
def rd5 (t : ByteArray) : Rd := (rd4 t).txt
def rd6 (t : ByteArray) : Rd := (rd5 t).num 8
def rd7 (t : ByteArray) : Rd := (rd6 t).num 1
def rdHead (t : ByteArray) : Nat := rN t false 1
def rdBits (t : ByteArray) : Nat := rN (rd5 t).s (rd5 t).sh 8
def rdq (t : ByteArray) : Rq := ⟨rN (rd1 t).s (rd1 t).sh 1, rN (rd2 t).s (rd2 t).sh 4, rN (rd3 t).s (rd3 t).sh 1, tT (rd4 t).s (rd4 t).sh, fromW (rdBits t), rN (rd6 t).s (rd6 t).sh 1⟩
def okq (t : ByteArray) : Bool := ((decide (rdHead t = 1) && (canW (rdBits t) == rdBits t)) && decide (endOf (rd7 t).s (rd7 t).sh = 0)) && rightB (rdq t)
def zeroQ : Rq := ⟨0, 0, 0, ⟨#[]⟩, 0, 0⟩
def isNul (t : ByteArray) : Bool := decide (t.data.toList = [0])
def rdR (t : ByteArray) : Rq := if isNul t then zeroQ else if okq t then rdq t else zeroQ
def rdE (t : ByteArray) : Int := if isNul t then 0 else if okq t then 0 else 5
/-- Are two requests one, field by field? -/
def wholeB (x y : Rq) : Bool := ((((decide (x.c = y.c) && decide (x.st = y.st)) && decide (x.k = y.k)) && decide (x.key = y.key)) && decide (x.id = y.id)) && decide (canW x.b = canW y.b)
theorem wholeB_iff (x y : Rq) : wholeB x y = true ↔ (x.c = y.c ∧ x.st = y.st ∧ x.k = y.k ∧ x.key = y.key ∧ x.id = y.id ∧ canW x.b = canW y.b) := by
  simp only [wholeB, Bool.and_eq_true, decide_eq_true_eq]
  exact ⟨fun ⟨⟨⟨⟨⟨a, b⟩, c⟩, d⟩, e⟩, f⟩ => ⟨a, b, c, d, e, f⟩, fun ⟨a, b, c, d, e, f⟩ => ⟨⟨⟨⟨⟨a, b⟩, c⟩, d⟩, e⟩, f⟩⟩
theorem wholeB_self (x : Rq) : wholeB x x = true := (wholeB_iff x x).2 ⟨rfl, rfl, rfl, rfl, rfl, rfl⟩
/-- Requests that are one are told alike. -/
theorem whole_alike {x y : Rq} (h : wholeB x y = true) : nullB x = nullB y ∧ rightB x = rightB y ∧ rqT x = rqT y ∧ rqE x = rqE y := by
  obtain ⟨c, st, k, key, b, id⟩ := x
  obtain ⟨c', st', k', key', b', id'⟩ := y
  obtain ⟨h1, h2, h3, h4, h5, h6⟩ := (wholeB_iff _ _).1 h
  simp only at h1 h2 h3 h4 h5 h6
  subst h1 h2 h3 h4 h5
  have hn : nullB ⟨c, st, k, key, b, id⟩ = nullB ⟨c, st, k, key, b', id⟩ := by simp only [nullB, plainB, h6]
  have hr : rightB ⟨c, st, k, key, b, id⟩ = rightB ⟨c, st, k, key, b', id⟩ := by simp only [rightB, opB, keyedB, joinB, plainB, h6]
  have hl : rqL ⟨c, st, k, key, b, id⟩ = rqL ⟨c, st, k, key, b', id⟩ := by simp only [rqL, h6]
  exact ⟨hn, hr, by rw [rqT, rqT, hn, hr, hl], by rw [rqE, rqE, hn, hr]⟩
theorem fromW_can (b : Nat) : fromW (canW b) = canW b := by
  unfold fromW
  rw [canW_idem]
  simp
theorem fromW_ok {n : Nat} (h : (canW n == n) = true) : fromW n = n ∧ canW n = n := by
  have : canW n = n := by simpa using h
  unfold fromW
  rw [h]
  exact ⟨rfl, this⟩
/-- What a right request tells is read as it. -/
theorem read_back {r : Rq} (h : rightB r = true) (hb : r.b < 18446744073709551616) : okq (rqT r) = true ∧ rdq (rqT r) = { r with b := canW r.b } ∧ isNul (rqT r) = false := by
  obtain ⟨⟨c1, c2⟩, ⟨s1, s2⟩, ⟨k1, k2⟩, hk, i1, i2⟩ := right_fields h
  have hT : (rqT r).data.toList = rqL r := by rw [rqT, right_null h, h]; rfl
  generalize rqT r = t at hT
  have e1 := rd_good t 1 1 _ hT (by decide)
  have q1 : rd1 t = ⟨rS t false 1, false⟩ := by rw [rd1, Rd.num, e1.2.2]
  have h1 := e1.2.1
  generalize rS t false 1 = s1 at q1 h1
  have e2 := rd_good s1 1 r.c.toNat _ h1 (by omega)
  have q2 : rd2 t = ⟨rS s1 false 1, false⟩ := by rw [rd2, q1, Rd.num, e2.2.2]
  have h2 := e2.2.1
  have v2 := e2.1
  clear e2 h1
  generalize rS s1 false 1 = s2 at q2 h2
  have e3 := rd_good s2 4 r.st.toNat _ h2 (by omega)
  have q3 : rd3 t = ⟨rS s2 false 4, false⟩ := by rw [rd3, q2, Rd.num, e3.2.2]
  have h3 := e3.2.1
  have v3 := e3.1
  clear e3 h2
  generalize rS s2 false 4 = s3 at q3 h3
  have e4 := rd_good s3 1 r.k.toNat _ h3 (by omega)
  have q4 : rd4 t = ⟨rS s3 false 1, false⟩ := by rw [rd4, q3, Rd.num, e4.2.2]
  have h4 := e4.2.1
  have v4 := e4.1
  clear e4 h3
  generalize rS s3 false 1 = s4 at q4 h4
  have e5 := tx_good s4 r.key _ h4 (by omega)
  have q5 : rd5 t = ⟨tS s4 false, false⟩ := by rw [rd5, q4, Rd.txt, e5.2.2]
  have h5 := e5.2.1
  have v5 := e5.1
  clear e5 h4
  generalize tS s4 false = s5 at q5 h5
  have hcl := canW_lt hb
  have e6 := rd_good s5 8 (canW r.b) _ h5 hcl
  have q6 : rd6 t = ⟨rS s5 false 8, false⟩ := by rw [rd6, q5, Rd.num, e6.2.2]
  have h6 := e6.2.1
  have v6 := e6.1
  clear e6 h5
  generalize rS s5 false 8 = s6 at q6 h6
  have e7 := rd_good s6 1 r.id.toNat [] (by rw [List.append_nil]; exact h6) (by omega)
  have q7 : endOf (rd7 t).s (rd7 t).sh = 0 := by rw [rd7, q6, Rd.num, e7.2.2]; exact end_of e7.2.1
  have hbits : rdBits t = canW r.b := by rw [rdBits, q5]; exact v6
  have hq : rdq t = { r with b := canW r.b } := by
    rw [rdq, hbits, q1, q2, q3, q4, q6, fromW_can]
    simp only [v2, v3, v4, v5, e7.1]
    rw [Int.toNat_of_nonneg (by omega), Int.toNat_of_nonneg (by omega), Int.toNat_of_nonneg (by omega), Int.toNat_of_nonneg (by omega)]
  refine ⟨?_, hq, ?_⟩
  · have hw : wholeB { r with b := canW r.b } r = true := (wholeB_iff _ _).2 ⟨rfl, rfl, rfl, rfl, rfl, canW_idem r.b⟩
    rw [okq, hq, (whole_alike hw).2.1, h, hbits, canW_idem, show rdHead t = 1 from e1.1, q7]
    simp
  · rw [isNul, hT]
    exact decide_eq_false (by intro e; have := congrArg List.length e; rw [rqL_len] at this; simp at this; omega)
/-- What is read as a right request is its text. -/
theorem told_back {t : ByteArray} (h : okq t = true) : rightB (rdq t) = true ∧ rqT (rdq t) = t ∧ (rdq t).b < 18446744073709551616 := by
  simp only [okq, Bool.and_eq_true, decide_eq_true_eq] at h
  obtain ⟨⟨⟨h1, h2⟩, h3⟩, h4⟩ := h
  obtain ⟨f1, f2⟩ := fromW_ok h2
  obtain ⟨g7, z7⟩ := end_ok h3
  obtain ⟨g6, z6⟩ := rd_back (rd6 t).s (rd6 t).sh 1 g7
  obtain ⟨g5, z5⟩ := rd_back (rd5 t).s (rd5 t).sh 8 g6
  obtain ⟨g4, z4, hk⟩ := tx_back (rd4 t).s (rd4 t).sh g5
  obtain ⟨g3, z3⟩ := rd_back (rd3 t).s (rd3 t).sh 1 g4
  obtain ⟨g2, z2⟩ := rd_back (rd2 t).s (rd2 t).sh 4 g3
  obtain ⟨g1, z1⟩ := rd_back (rd1 t).s (rd1 t).sh 1 g2
  obtain ⟨_, z0⟩ := rd_back t false 1 g1
  refine ⟨h4, ?_, ?_⟩
  · rw [rqT, right_null h4, h4]
    apply ByteArray.ext
    apply Array.ext'
    show rqL (rdq t) = t.data.toList
    have hc : canW (rdq t).b = rdBits t := by
      show canW (fromW (rdBits t)) = _
      rw [f1, f2]
    rw [rqL, hc]
    have n1 : (rdq t).c.toNat = rN (rd1 t).s (rd1 t).sh 1 := Int.toNat_natCast _
    have n2 : (rdq t).st.toNat = rN (rd2 t).s (rd2 t).sh 4 := Int.toNat_natCast _
    have n3 : (rdq t).k.toNat = rN (rd3 t).s (rd3 t).sh 1 := Int.toNat_natCast _
    have n4 : (rdq t).id.toNat = rN (rd6 t).s (rd6 t).sh 1 := Int.toNat_natCast _
    rw [n1, n2, n3, n4, show (rdq t).key = tT (rd4 t).s (rd4 t).sh from rfl]
    rw [z0, show rN t false 1 = 1 from h1]
    congr 1
    refine Eq.trans ?_ z1.symm
    congr 1
    refine Eq.trans ?_ z2.symm
    congr 1
    refine Eq.trans ?_ z3.symm
    congr 1
    refine Eq.trans ?_ z4.symm
    congr 1
    congr 1
    refine Eq.trans ?_ z5.symm
    congr 1
    refine Eq.trans ?_ z6.symm
    rw [show (rS (rd6 t).s (rd6 t).sh 1).data.toList = [] from z7, List.append_nil]
  · show fromW (rdBits t) < _
    rw [f1]
    have := rN_lt (rd5 t).s (rd5 t).sh 8
    exact this
theorem nul_text {r : Rq} (h : nullB r = true) : (rqT r).data.toList = [0] ∧ rqE r = 0 := by
  rw [rqT, rqE, if_pos h, if_pos h]
  exact ⟨rfl, rfl⟩
theorem zero_null : nullB zeroQ = true := by decide
/-- Unlike requests have unlike texts. -/
theorem text_parts {x y : Rq} (hx : rqE x = 0) (hy : rqE y = 0) (bx : x.b < 18446744073709551616) (by_ : y.b < 18446744073709551616) : rqT x = rqT y ↔ wholeB x y = true := by
  refine ⟨fun e => ?_, fun h => (whole_alike h).2.2.1⟩
  rcases (rqE_iff x).1 hx with h1 | h1 <;> rcases (rqE_iff y).1 hy with h2 | h2
  · obtain ⟨a1, a2, a3, a4, a5, a6⟩ := null_fields h1
    obtain ⟨b1, b2, b3, b4, b5, b6⟩ := null_fields h2
    have hk : x.key = y.key := by
      apply ByteArray.ext
      apply Array.ext'
      rw [List.eq_nil_of_length_eq_zero (show x.key.data.toList.length = 0 from a4), List.eq_nil_of_length_eq_zero (show y.key.data.toList.length = 0 from b4)]
    exact (wholeB_iff x y).2 ⟨by omega, by omega, by omega, hk, by omega, by omega⟩
  · have := (read_back h2 by_).2.2
    rw [← e, isNul, (nul_text h1).1] at this
    simp at this
  · have := (read_back h1 bx).2.2
    rw [e, isNul, (nul_text h2).1] at this
    simp at this
  · have e1 := (read_back h1 bx).2.1
    have e2 := (read_back h2 by_).2.1
    rw [e, e2] at e1
    have q1 := congrArg Rq.c e1
    have q2 := congrArg Rq.st e1
    have q3 := congrArg Rq.k e1
    have q4 := congrArg Rq.key e1
    have q5 := congrArg Rq.b e1
    have q6 := congrArg Rq.id e1
    exact (wholeB_iff x y).2 ⟨q1.symm, q2.symm, q3.symm, q4.symm, q6.symm, q5.symm⟩
end Go.Proofs.YthjgnfeadagmeaaGreat

/- The contracts of package pack's writers. -/
namespace Go.Proofs.YthjgnfeadagmeaaGreat
open Go.RowKit

/-- Nothing but draws. -/
structure Still (w w' : World) : Prop where
  os : w'.os = w.os
  tape : w'.tape = w.tape
  output : w'.output = w.output
  heap : w'.heap = w.heap
theorem Still.refl (w : World) : Still w w := ⟨rfl, rfl, rfl, rfl⟩
theorem Still.drew (w : World) : Still w w.drew := ⟨rfl, rfl, rfl, rfl⟩
theorem Still.kept {w w' : World} (h : Still w w') (b : Nat) (r : Option Nat) : Kept b r w w' := ⟨h.os, h.tape, h.output, by rw [h.heap]; exact Nat.le_refl _, fun k _ _ _ => by rw [h.heap]⟩
theorem ownsRow_of_heap {w w' : World} (e : w'.heap = w.heap) {base : Nat} {t : TypeId} {size : Nat} {v : Value} {n : Nat} {xs : List Value} (h : w.ownsRow base t size v n xs) : w'.ownsRow base t size v n xs := by
  unfold World.ownsRow at h ⊢
  rw [e]
  exact h
theorem Still.wr {w w' : World} (e : Still w w') {b : Nat} {v : Value} {lim : Int} {l : List UInt8} {er : Int} (h : WrAt w b v lim l er) : WrAt w' b v lim l er :=
  ⟨by rw [e.heap]; exact h.blk, ownsRow_of_heap e.heap h.own⟩

set_option maxHeartbeats 400000 in
theorem new_any (n : Int) (w : World) :
    Calls Tryz.prog 66 #[.int .i64 n] w fun e w' => e = .returned (.pointer (some ⟨w.heap.size, 0, none⟩)) ∧ w' = w.alloc (.cells #[.int .i64 (max n 0), .slice none 0 0, .int .i64 0] 162) := by
  by_cases hn : n < 0
  · have e : max n 0 = 0 := by omega
    rw [e]
    clear e
    go_enter Tryz.func66, Tryz.ntmps66
    go_wp2
    go_ret
    exact ⟨rfl, rfl⟩
  · have e : max n 0 = n := by omega
    rw [e]
    clear e
    go_enter Tryz.func66, Tryz.ntmps66
    go_wp2
    go_ret
    exact ⟨rfl, rfl⟩
theorem new_wr (n : Int) (w : World) : WrAt (w.alloc (.cells #[.int .i64 (max n 0), .slice none 0 0, .int .i64 0] 162)) w.heap.size (.slice none 0 0) (max n 0) [] 0 :=
  ⟨heap_alloc_new w _, World.ownsRow_nil _ _ _ _⟩

theorem done_nil (w : World) : Calls Tryz.prog 68 #[.pointer none] w fun e w' => e = .returned (.tuple #[.string ⟨#[]⟩, .int .i64 1]) ∧ w' = w := by
  go_enter Tryz.func68, Tryz.ntmps68
  go_wp2
  go_ret2
  exact ⟨rfl, rfl⟩

theorem done_ok (b : Nat) (v : Value) (lim : Int) (l : List UInt8) (w : World) (h : WrAt w b v lim l 0) :
    Calls Tryz.prog 68 #[.pointer (some ⟨b, 0, none⟩)] w fun e w' => e = .returned (.tuple #[.string ⟨l.toArray⟩, .int .i64 0]) ∧ w' = w := by
  have c1 := h.c1
  have c2 := h.c2
  rcases h.own.2 with ⟨rfl, h0⟩ | ⟨g, cap, cur, rfl, hg, hh, hnc, hcp, hcs, htake⟩
  · obtain rfl := List.eq_nil_of_length_eq_zero h0
    have hcv : ∀ w, (convert 160 9 (.slice none 0 0)).run Tryz.prog w = .ok (.string ⟨#[]⟩) w := fun w => by
      rw [run_convert_bytes_string w 160 9 5 none 0 0 Tryz.underlying160 Tryz.underlying5 Tryz.underlying9]; rfl
    go_enter Tryz.func68, Tryz.ntmps68
    go_wp2
    go_ret2
    exact ⟨rfl, rfl⟩
  · have hcv := run_convert_bytes_back (P := Tryz.prog) w 160 9 5 ⟨g, 0, none⟩ cap l Tryz.underlying160 Tryz.underlying5 Tryz.underlying9 (fun j hj => h.own.cells (g := g) rfl j _ (by simp [bC, hj]))
    go_enter Tryz.func68, Tryz.ntmps68
    go_wp2
    go_ret2
    exact ⟨rfl, rfl⟩

theorem done_err (b : Nat) (v : Value) (lim : Int) (l : List UInt8) (er : Int) (w : World) (h : WrAt w b v lim l er) (he : (er != 0) = true) :
    Calls Tryz.prog 68 #[.pointer (some ⟨b, 0, none⟩)] w fun e w' => e = .returned (.tuple #[.string ⟨#[]⟩, .int .i64 er]) ∧ w' = w.drew := by
  have c1 := h.c1
  have c2 := h.c2
  go_enter Tryz.func68, Tryz.ntmps68
  go_wp2
  go_region
  all_goals (try go_wp2)
  all_goals go_ret2
  exact ⟨rfl, rfl⟩

theorem done_any (b : Nat) (v : Value) (lim : Int) (l : List UInt8) (er : Int) (w : World) (h : WrAt w b v lim l er) :
    Calls Tryz.prog 68 #[.pointer (some ⟨b, 0, none⟩)] w fun e w' => e = .returned (.tuple #[.string (if er = 0 then ⟨l.toArray⟩ else ⟨#[]⟩), .int .i64 er]) ∧ Still w w' := by
  by_cases he : er = 0
  · subst he
    exact (done_ok b v lim l w h).mono fun e w' ⟨h1, h2⟩ => ⟨by simpa using h1, by rw [h2]; exact Still.refl _⟩
  · exact (done_err b v lim l er w h (by simpa using he)).mono fun e w' ⟨h1, h2⟩ => ⟨by simpa [he] using h1, by rw [h2]; exact Still.drew _⟩

theorem WrAt.err {w : World} {b : Nat} {v : Value} {lim : Int} {l : List UInt8} {er : Int} (h : WrAt w b v lim l er) (u : Int) : WrAt (w.setCell ⟨b, 2, none⟩ (.int .i64 u)) b v lim l u :=
  ⟨by have := h.blk; simp [World.setCell, Array.getElem?_modify, this], ownsRow_setCell_below h.own (by show b < b + 1; omega) _⟩

/-- The error behind a thing of that size: the first one stays. -/
def adm (lim : Int) (n : Nat) (er : Int) (inR : Bool) (size : Int) : Int := if er = 0 then (if inR then (if lim - n < size then 3 else 0) else 4) else er

theorem adm_bad (lim : Int) (n : Nat) (size : Int) : adm lim n 0 false size = 4 := by simp [adm]
theorem adm_er (lim : Int) (n : Nat) (er : Int) (inR : Bool) (size : Int) (he : er ≠ 0) : adm lim n er inR size = er := by simp [adm, he]
theorem adm_long (lim : Int) (n : Nat) (size : Int) (h : lim - n < size) : adm lim n 0 true size = 3 := by simp [adm, h]
theorem adm_ok (lim : Int) (n : Nat) (size : Int) (h : ¬ lim - n < size) : adm lim n 0 true size = 0 := by simp [adm, h]

set_option maxHeartbeats 400000 in
theorem admits_er (b : Nat) (v : Value) (lim : Int) (l : List UInt8) (er : Int) (inR : Bool) (size : Int) (w : World) (h : WrAt w b v lim l er) (he : (er != 0) = true) :
    Calls Tryz.prog 146 #[.pointer (some ⟨b, 0, none⟩), .bool inR, .int .i64 size] w fun e w' => e = .returned (.bool false) ∧ w' = w := by
  have c2 := h.c2
  clear h
  go_enter Tryz.func146, Tryz.ntmps146
  go_wp2
  go_ret
  exact ⟨rfl, rfl⟩

set_option maxHeartbeats 400000 in
theorem admits_bad (b : Nat) (v : Value) (lim : Int) (l : List UInt8) (size : Int) (w : World) (h : WrAt w b v lim l 0) :
    Calls Tryz.prog 146 #[.pointer (some ⟨b, 0, none⟩), .bool false, .int .i64 size] w fun e w' => e = .returned (.bool false) ∧ w' = w.setCell ⟨b, 2, none⟩ (.int .i64 4) := by
  have c2 := h.c2
  have f2 := h.fr 2
  clear h
  go_enter Tryz.func146, Tryz.ntmps146
  go_wp2
  go_ret
  exact ⟨rfl, rfl⟩

set_option maxHeartbeats 400000 in
theorem admits_long (b : Nat) (a : Option Addr) (n cap : Nat) (lim : Int) (size : Int) (w : World) (c0 : w.cell? ⟨b, 0, none⟩ = some (.int .i64 lim)) (c1 : w.cell? ⟨b, 1, none⟩ = some (.slice a n cap)) (c2 : w.cell? ⟨b, 2, none⟩ = some (.int .i64 0)) (f2 : w.frozen? ⟨b, 2, none⟩ = false)
    (h0 : 0 ≤ lim) (h1 : lim ≤ 9223372036854775807) (hl : n ≤ 140737488355328) (hs : lim - n < size) :
    Calls Tryz.prog 146 #[.pointer (some ⟨b, 0, none⟩), .bool true, .int .i64 size] w fun e w' => e = .returned (.bool false) ∧ w' = (w.setCell ⟨b, 2, none⟩ (.int .i64 3)).drew := by
  go_enter Tryz.func146, Tryz.ntmps146
  go_wp2
  go_region
  all_goals (try go_wp2)
  all_goals go_ret
  exact ⟨rfl, rfl⟩

set_option maxHeartbeats 400000 in
theorem admits_ok (b : Nat) (a : Option Addr) (n cap : Nat) (lim : Int) (size : Int) (w : World) (c0 : w.cell? ⟨b, 0, none⟩ = some (.int .i64 lim)) (c1 : w.cell? ⟨b, 1, none⟩ = some (.slice a n cap)) (c2 : w.cell? ⟨b, 2, none⟩ = some (.int .i64 0))
    (h0 : 0 ≤ lim) (h1 : lim ≤ 9223372036854775807) (hl : n ≤ 140737488355328) (hs : size ≤ lim - n) :
    Calls Tryz.prog 146 #[.pointer (some ⟨b, 0, none⟩), .bool true, .int .i64 size] w fun e w' => e = .returned (.bool true) ∧ w' = w.drew := by
  go_enter Tryz.func146, Tryz.ntmps146
  go_wp2
  go_region
  all_goals (try go_wp2)
  all_goals go_ret
  exact ⟨rfl, rfl⟩

theorem admits_any (b : Nat) (v : Value) (lim : Int) (l : List UInt8) (er : Int) (inR : Bool) (size : Int) (w : World) (h : WrAt w b v lim l er)
    (h0 : 0 ≤ lim) (h1 : lim ≤ 9223372036854775807) (hl : l.length ≤ 140737488355328) :
    Calls Tryz.prog 146 #[.pointer (some ⟨b, 0, none⟩), .bool inR, .int .i64 size] w fun e w' => e = .returned (.bool (decide (adm lim l.length er inR size = 0))) ∧ WrAt w' b v lim l (adm lim l.length er inR size) ∧ Kept b none w w' := by
  by_cases he : er = 0
  · subst he
    cases inR with
    | false =>
      rw [adm_bad]
      exact (admits_bad b v lim l size w h).mono fun e w' ⟨h1, h2⟩ => ⟨by simpa using h1, by rw [h2]; exact h.err 4, by rw [h2]; exact (Kept.refl _ _ _).setCell _ _⟩
    | true =>
      obtain ⟨a, cap, rfl⟩ : ∃ a cap, v = .slice a l.length cap := by
        rcases h.own.2 with ⟨hv, h0⟩ | ⟨g, cap, cur, hv, _⟩
        · exact ⟨none, 0, by rw [hv, h0]⟩
        · exact ⟨_, _, hv⟩
      by_cases hs : lim - l.length < size
      · rw [adm_long _ _ _ hs]
        exact (admits_long b a l.length cap lim size w h.c0 h.c1 h.c2 (h.fr 2) h0 h1 hl hs).mono fun e w' ⟨h1, h2⟩ => ⟨by simpa using h1, by rw [h2]; exact (Still.drew _).wr (h.err 3), by rw [h2]; exact ((Kept.refl _ _ _).setCell _ _).drew⟩
      · rw [adm_ok _ _ _ hs]
        exact (admits_ok b a l.length cap lim size w h.c0 h.c1 h.c2 h0 h1 hl (by omega)).mono fun e w' ⟨h1, h2⟩ => ⟨by simpa using h1, by rw [h2]; exact (Still.drew _).wr h, by rw [h2]; exact (Kept.refl _ _ _).drew⟩
  · rw [adm_er _ _ _ _ _ he]
    exact (admits_er b v lim l er inR size w h (by simpa using he)).mono fun e w' ⟨h1, h2⟩ => ⟨by simpa [he] using h1, by rw [h2]; exact h, by rw [h2]; exact Kept.refl _ _ _⟩

theorem admits_nil (inR : Bool) (size : Int) (w : World) : Calls Tryz.prog 146 #[.pointer none, .bool inR, .int .i64 size] w fun e w' => e = .returned (.bool false) ∧ w' = w := by
  go_enter Tryz.func146, Tryz.ntmps146
  go_wp2
  go_ret
  exact ⟨rfl, rfl⟩

end Go.Proofs.YthjgnfeadagmeaaGreat

/- The contract of package pack's writer of bytes ('put'). -/
namespace Go.Proofs.YthjgnfeadagmeaaGreat
open Go.RowKit
attribute [local go_sem ↓] Go.wp_at_zero Go.wp_at_succ

/-- A slice of the writer's own lies where it lay, or in a block that is new. -/
def Moved (w : World) (v v' : Value) : Prop := v'.ownBlock = v.ownBlock ∨ ∃ g, v'.ownBlock = some g ∧ w.heap.size ≤ g
theorem Moved.refl (w : World) (v : Value) : Moved w v v := .inl rfl
theorem Moved.trans {w w' : World} {a b c : Value} (h : Moved w a b) (k : Moved w' b c) (hs : w.heap.size ≤ w'.heap.size) : Moved w a c := by
  rcases k with k | ⟨g, k, hg⟩
  · rcases h with h | ⟨g, h, hg⟩
    · exact .inl (k.trans h)
    · exact .inr ⟨g, k.trans h, hg⟩
  · exact .inr ⟨g, k, by omega⟩

theorem WrAt.bytes {w : World} {b : Nat} {v : Value} {lim : Int} {er : Int} (h : w.heap[b]? = some (.cells #[.int .i64 lim, v, .int .i64 er] 162 (0, 0))) {v' : Value} {l' : List UInt8} (ho : w.ownsRow (b + 1) 5 1 v' l'.length (bC l')) :
    WrAt (w.setCell ⟨b, 1, none⟩ v') b v' lim l' er :=
  ⟨by simp [World.setCell, Array.getElem?_modify, h], ownsRow_setCell_below ho (by show b < b + 1; omega) _⟩

/-- What an append to the writer's bytes, and the store behind it, leave. -/
theorem put_step {wr w1 : World} {b : Nat} {v : Value} {lim : Int} {L C : List UInt8} {er : Int} {o : Obj} {gg cap N : Nat} {news : List Value} (hR : WrAt wr b v lim L er)
    (hn : news = bC C) (hN : N = L.length + C.length)
    (hown1 : w1.ownsRow (b + 1) 5 1 (.slice (some ⟨gg, 0, none⟩) N cap) N (bC L ++ news)) (hgrow : (wr.alloc o).drew.grownBy w1 v.ownBlock) (hat : v.ownBlock = some gg ∨ gg = wr.heap.size + 1) :
    WrAt (w1.setCell ⟨b, 1, none⟩ (.slice (some ⟨gg, 0, none⟩) N cap)) b (.slice (some ⟨gg, 0, none⟩) N cap) lim (L ++ C) er ∧ Kept b v.ownBlock wr (w1.setCell ⟨b, 1, none⟩ (.slice (some ⟨gg, 0, none⟩) N cap)) ∧ Moved wr v (.slice (some ⟨gg, 0, none⟩) N cap) := by
  have hlt := hR.lt
  have hbv : some b ≠ v.ownBlock := fun e => by have := (hR.own.lt b e.symm).1; omega
  subst hn
  have hb1 : w1.heap[b]? = some (.cells #[.int .i64 lim, v, .int .i64 er] 162 (0, 0)) := by
    rw [hgrow.block b (by simp; omega) hbv]
    exact (Below.heap_alloc wr _ b hlt).trans hR.blk
  refine ⟨WrAt.bytes hb1 ?_, ?_, ?_⟩
  · rw [bC_app, List.length_append, ← hN]; exact hown1
  · exact ((((Kept.refl b v.ownBlock wr).alloc _).drew).grown hgrow (.inl rfl)).setCell _ _
  · rcases hat with h | h
    · exact .inl h.symm
    · exact .inr ⟨gg, rfl, by omega⟩

/-- The byte of place j, with all that lies ahead of it. -/
def upto (n j : Nat) : Nat := n / 256 ^ j
theorem upto_byte (n j : Nat) : IntKind.u8.wrap (upto n j : Int) = ((UInt8.ofNat (n / 256 ^ j)).toNat : Int) := by
  have e : (UInt8.ofNat (n / 256 ^ j)).toNat = n / 256 ^ j % 256 := by simp
  rw [e, IntKind.wrap_u8', upto]
  omega
theorem shr_run (n j : Nat) (hj : j ≤ 7) (w : World) : Sem.run Tryz.prog (Op.shift BinOp.shr IntKind.u64 (n : Int) IntKind.i64 (IntKind.i64.wrap (8 * (j : Int)))) w = .ok (.int .u64 (upto n j : Int)) w := by
  have e : IntKind.i64.wrap (8 * (j : Int)) = ((8 * j : Nat) : Int) := by rw [IntKind.wrap_i64]; omega
  rw [e, shift_shr_any _ _ _ _ (Int.natCast_nonneg _)]
  have e2 : min ((8 * j : Nat) : Int).toNat IntKind.u64.bits = 8 * j := by simp [IntKind.bits]; omega
  have e3 : ((2 : Int) ^ (8 * j)) = ((256 ^ j : Nat) : Int) := by rw [show (256 : Nat) = 2 ^ 8 from rfl, ← Nat.pow_mul]; simp
  rw [e2, upto, e3]
  simp

set_option maxRecDepth 100000 in
set_option maxHeartbeats 1600000 in
theorem put_any (b : Nat) (v0 : Value) (lim : Int) (l : List UInt8) (er : Int) (n size : Nat) (w : World) (h : WrAt w b v0 lim l er) (hs : size ≤ 8) (hn : n < 18446744073709551616) (hl : l.length + 8 ≤ 140737488355328) :
    Calls Tryz.prog 147 #[.pointer (some ⟨b, 0, none⟩), .int .u64 n, .int .i64 size] w fun e w' => e = .returned (.tuple #[]) ∧ ∃ v', WrAt w' b v' lim (l ++ be size n) er ∧ Kept b v0.ownBlock w w' ∧ Moved w v0 v' := by
  obtain ⟨i0, hi0, hz0, hz1, hz2⟩ := info_parts Tryz.info5
  have HN : Hid (n < 18446744073709551616) := hn
  have HW : Hid (WrAt w b v0 lim l er) := h
  clear hn h
  go_enter Tryz.func147, Tryz.ntmps147
  go_wp2
  go_loopw [6] (fun i wr => ∃ (k : Nat) (P : List UInt8) (v : Value), k ≤ size ∧ i = .int .i64 ((k : Int) - 1) ∧ P ++ be k n = be size n ∧ WrAt wr b v lim (l ++ P) er ∧ Kept b v0.ownBlock w wr ∧ Moved w v0 v)
    (fun i _ => (intOf i + 1).toNat)
  case atStart => exact ⟨size, [], v0, Nat.le_refl _, rfl, rfl, by simpa using HW.out, Kept.refl _ _ _, Moved.refl _ _⟩
  case round =>
    obtain ⟨k, P, v, hk, rfl, hP, hwr, hkept, hmov⟩ := hrel
    have hlt := hwr.lt
    have HP : Hid (P ++ be k n = be size n) := hP
    have HR : Hid (WrAt wr b v lim (l ++ P) er) := hwr
    have HK : Hid (Kept b v0.ownBlock w wr ∧ Moved w v0 v) := ⟨hkept, hmov⟩
    have hPl : P.length + k = size := by have := congrArg List.length hP; simpa [be_len] using this
    have c1 := hwr.c1
    have f1 := hwr.fr 1
    clear hP hwr hkept hmov
    cases k with
    | zero =>
      go_wp2
      go_end0
      refine ⟨rfl, v, ?_, HK.out⟩
      have e : P = be size n := by simpa [be] using HP.out
      rw [← e]; exact HR.out
    | succ j =>
      have ej : (((j + 1 : Nat) : Int) - 1) = (j : Int) := by omega
      rw [ej]
      clear ej
      have hj0 : (0 : Int) ≤ (j : Int) := Int.natCast_nonneg _
      have hj7 : (j : Int) ≤ 7 := by omega
      have hsh := shr_run n j (by omega)
      have ho := HR.out.own
      have hbv : some b ≠ v.ownBlock := fun e => by have := (ho.lt b e.symm).1; omega
      have hlen : (l ++ P).length + 1 ≤ 140737488355328 := by simp; omega
      go_wp2_with fail
      go_region_law
        ((refine step_append_lies _ (by rfl) _ _ _ (by rfl) (b + 1) 5 i0 _ 1 1 Tryz.underlying160 hi0 hz0 hz1 hz2 rfl (by omega) v (l ++ P).length (bC (l ++ P)) (by rfl) ((ho.alloc _).drew)
            ⟨wr.heap.size, 0, none⟩ 1 1 [.int .u8 (IntKind.u8.wrap (upto n j : Int))] (by rfl) (by rfl) (World.news_of_block (cs := #[.int .u8 (IntKind.u8.wrap (upto n j : Int))]) (t := 5) (fr := (0, 0)) (heap_alloc_new wr _)) (by simp [Value.oneCell'])
            (by omega) (by unfold maxLen; omega) (by omega) (by simp; omega) (wr.heap.size + 1) (by simp) ?_; intro gg cap w1 hown1 hgrow hat hlt1; have fz : w1.frozen? ⟨b, 1, none⟩ = false := (hgrow.frozen_far _ (by simp; omega) hbv).trans ((World.frozen?_of_block (Below.heap_alloc wr _ b hlt)).trans f1); have cz : w1.cell? ⟨b, 1, none⟩ = some v := (hgrow.cell_far _ (by simp; omega) hbv).trans ((World.cell?_of_block (Below.heap_alloc wr _ b hlt)).trans c1)))
      all_goals go_wp2
      all_goals
        go_roundw
        case rel =>
          have st := put_step (C := [UInt8.ofNat (n / 256 ^ j)]) HR.out (by simp [bC, upto_byte]) (by simp) hown1 hgrow hat
          rw [List.length_append] at st
          have hk2 := HK.out
          exact ⟨j, P ++ [UInt8.ofNat (n / 256 ^ j)], _, by omega, by go_num, by rw [List.append_assoc]; exact HP.out, by rw [← List.append_assoc]; exact st.1, hk2.1.trans st.2.1 hk2.2, hk2.2.trans st.2.2 hk2.1.size⟩
        case measure => simp [intOf]

end Go.Proofs.YthjgnfeadagmeaaGreat

/- The contracts of package pack's writers of numbers. -/
namespace Go.Proofs.YthjgnfeadagmeaaGreat
open Go.RowKit

theorem kept_none {b : Nat} {r : Option Nat} {w w' : World} (h : Kept b none w w') : Kept b r w w' := ⟨h.os, h.tape, h.output, h.size, fun k hk hb _ => h.block k hk hb (by simp)⟩

/-- Is the number one of so many bytes? -/
def inR (s : Nat) (n : Int) : Bool := decide (0 ≤ n ∧ n < ((256 ^ s : Nat) : Int))
/-- The error behind a number of so many bytes; the bytes. -/
def wE (lim : Int) (l : List UInt8) (er : Int) (s : Nat) (n : Int) : Int := adm lim l.length er (inR s n) s
def wL (lim : Int) (l : List UInt8) (er : Int) (s : Nat) (n : Int) : List UInt8 := if adm lim l.length er (inR s n) s = 0 then l ++ be s n.toNat else l

set_option maxRecDepth 100000 in
set_option maxHeartbeats 800000 in
theorem wnum1_yes (b : Nat) (v : Value) (lim : Int) (l : List UInt8) (er : Int) (m : Nat) (w : World) (h : WrAt w b v lim l er)
    (h0 : 0 ≤ lim) (h1 : lim ≤ 9223372036854775807) (hl : l.length + 8 ≤ 140737488355328) (n1 : m < 256) (hd : adm lim l.length er true 1 = 0) :
    Calls Tryz.prog 144 #[.pointer (some ⟨b, 0, none⟩), .int .i64 m, .int .i64 1] w fun e w' => e = .returned (.tuple #[]) ∧ ∃ v', WrAt w' b v' lim (l ++ be 1 m) 0 ∧ Kept b v.ownBlock w w' ∧ Moved w v v' := by
  have hn : ((m : Int) / 256 == 0) = true := by simp; omega
  have ha := admits_any b v lim l er true 1 w h h0 h1 (by omega)
  have hdd : decide (adm lim l.length er true 1 = 0) = true := by simpa using hd
  rw [hdd, hd] at ha
  have HA := hid ha
  have HL := hid hl
  have hm0 : (0 : Int) ≤ (m : Int) := Int.natCast_nonneg _
  have hm1 : (m : Int) ≤ 4294967296 := by omega
  have HM : Hid (m < 18446744073709551616) := by unfold Hid; omega
  clear ha h hd hdd hl n1 h0 h1
  go_enter Tryz.func144, Tryz.ntmps144
  go_wp2_with fail
  refine HA.out.mono ?_
  rintro e w1 ⟨rfl, hr, hk⟩
  have HR := hid hr
  have HK := hid hk
  clear hr hk hn
  go_wp2_with fail
  refine (put_any b v lim l 0 m 1 w1 HR.out (by omega) HM.out HL.out).mono ?_
  rintro e w2 ⟨rfl, v', hv, hk2, hm⟩
  have HV := hid hv
  have HK2 := hid (And.intro hk2 hm)
  clear hv hk2 hm
  go_wp2
  go_end0
  exact ⟨rfl, v', HV.out, (kept_none HK.out).trans HK2.out.1 (.inl rfl), (Moved.refl w v).trans HK2.out.2 HK.out.size⟩

set_option maxRecDepth 100000 in
set_option maxHeartbeats 800000 in
theorem wnum1_no (b : Nat) (v : Value) (lim : Int) (l : List UInt8) (er : Int) (m : Nat) (w : World) (h : WrAt w b v lim l er)
    (h0 : 0 ≤ lim) (h1 : lim ≤ 9223372036854775807) (hl : l.length + 8 ≤ 140737488355328) (n1 : m < 256) (E : Int) (hE : adm lim l.length er true 1 = E) (hd : E ≠ 0) :
    Calls Tryz.prog 144 #[.pointer (some ⟨b, 0, none⟩), .int .i64 m, .int .i64 1] w fun e w' => e = .returned (.tuple #[]) ∧ ∃ v', WrAt w' b v' lim l E ∧ Kept b v.ownBlock w w' ∧ Moved w v v' := by
  have hn : ((m : Int) / 256 == 0) = true := by simp; omega
  have ha := admits_any b v lim l er true 1 w h h0 h1 (by omega)
  have hdd : decide (E = 0) = false := by simpa using hd
  rw [hE, hdd] at ha
  have HA := hid ha
  have hm0 : (0 : Int) ≤ (m : Int) := Int.natCast_nonneg _
  have hm1 : (m : Int) ≤ 4294967296 := by omega
  clear ha h hE hd hdd hl n1 h0 h1
  go_enter Tryz.func144, Tryz.ntmps144
  go_wp2_with fail
  refine HA.out.mono ?_
  rintro e w1 ⟨rfl, hr, hk⟩
  have HR := hid hr
  have HK := hid hk
  clear hr hk hn
  go_wp2
  go_end0
  exact ⟨rfl, v, HR.out, kept_none HK.out, Moved.refl _ _⟩

set_option maxRecDepth 100000 in
set_option maxHeartbeats 800000 in
theorem wnum1_out (b : Nat) (v : Value) (lim : Int) (l : List UInt8) (er : Int) (n : Int) (w : World) (h : WrAt w b v lim l er)
    (h0 : 0 ≤ lim) (h1 : lim ≤ 9223372036854775807) (hl : l.length + 8 ≤ 140737488355328) (hi : n ≤ 9223372036854775807) (hn : n < 0 ∨ 256 ≤ n) (E : Int) (hE : adm lim l.length er false 1 = E) :
    Calls Tryz.prog 144 #[.pointer (some ⟨b, 0, none⟩), .int .i64 n, .int .i64 1] w fun e w' => e = .returned (.tuple #[]) ∧ ∃ v', WrAt w' b v' lim l E ∧ Kept b v.ownBlock w w' ∧ Moved w v v' := by
  have ha := admits_any b v lim l er false 1 w h h0 h1 (by omega)
  have hd : ¬ E = 0 := by rw [← hE]; unfold adm; split <;> simp_all
  have hdd : decide (E = 0) = false := by simpa using hd
  rw [hE, hdd] at ha
  have HA := hid ha
  clear ha h hd hdd hE hl h0 h1
  rcases hn with hn | hn
  · go_enter Tryz.func144, Tryz.ntmps144
    go_wp2_with fail
    refine HA.out.mono ?_
    rintro e w1 ⟨rfl, hr, hk⟩
    have HR := hid hr
    have HK := hid hk
    clear hr hk
    go_wp2
    go_end0
    exact ⟨rfl, v, HR.out, kept_none HK.out, Moved.refl _ _⟩
  · have hq : (n / 256 == 0) = false := by simp; omega
    have hn0 : 0 ≤ n := by omega
    clear hn
    go_enter Tryz.func144, Tryz.ntmps144
    go_wp2_with fail
    refine HA.out.mono ?_
    rintro e w1 ⟨rfl, hr, hk⟩
    have HR := hid hr
    have HK := hid hk
    clear hr hk hq
    go_wp2
    go_end0
    exact ⟨rfl, v, HR.out, kept_none HK.out, Moved.refl _ _⟩

theorem wnum1_any (b : Nat) (v : Value) (lim : Int) (l : List UInt8) (er : Int) (n : Int) (w : World) (h : WrAt w b v lim l er)
    (h0 : 0 ≤ lim) (h1 : lim ≤ 9223372036854775807) (hl : l.length + 8 ≤ 140737488355328) (hi : n ≤ 9223372036854775807) :
    Calls Tryz.prog 144 #[.pointer (some ⟨b, 0, none⟩), .int .i64 n, .int .i64 1] w fun e w' => e = .returned (.tuple #[]) ∧ ∃ v', WrAt w' b v' lim (wL lim l er 1 n) (wE lim l er 1 n) ∧ Kept b v.ownBlock w w' ∧ Moved w v v' := by
  unfold wL wE inR
  by_cases hn : 0 ≤ n ∧ n < 256
  · have e : decide (0 ≤ n ∧ n < ((256 ^ 1 : Nat) : Int)) = true := by simp; omega
    rw [e]
    obtain ⟨m, rfl⟩ : ∃ m : Nat, n = m := ⟨n.toNat, by omega⟩
    by_cases hd : adm lim l.length er true 1 = 0
    · have := wnum1_yes b v lim l er m w h h0 h1 hl (by omega) hd
      simpa [hd] using this
    · have := wnum1_no b v lim l er m w h h0 h1 hl (by omega) _ rfl hd
      simpa [hd] using this
  · have e : decide (0 ≤ n ∧ n < ((256 ^ 1 : Nat) : Int)) = false := by simp; omega
    rw [e]
    have hd : ¬ adm lim l.length er false 1 = 0 := by unfold adm; split <;> simp_all
    have := wnum1_out b v lim l er n w h h0 h1 hl hi (by omega) _ rfl
    simpa [hd] using this

set_option maxRecDepth 100000 in
set_option maxHeartbeats 800000 in
theorem wnum2_yes (b : Nat) (v : Value) (lim : Int) (l : List UInt8) (er : Int) (m : Nat) (w : World) (h : WrAt w b v lim l er)
    (h0 : 0 ≤ lim) (h1 : lim ≤ 9223372036854775807) (hl : l.length + 8 ≤ 140737488355328) (n1 : m < 65536) (hd : adm lim l.length er true 2 = 0) :
    Calls Tryz.prog 144 #[.pointer (some ⟨b, 0, none⟩), .int .i64 m, .int .i64 2] w fun e w' => e = .returned (.tuple #[]) ∧ ∃ v', WrAt w' b v' lim (l ++ be 2 m) 0 ∧ Kept b v.ownBlock w w' ∧ Moved w v v' := by
  have hn : ((m : Int) / 65536 == 0) = true := by simp; omega
  have ha := admits_any b v lim l er true 2 w h h0 h1 (by omega)
  have hdd : decide (adm lim l.length er true 2 = 0) = true := by simpa using hd
  rw [hdd, hd] at ha
  have HA := hid ha
  have HL := hid hl
  have hm0 : (0 : Int) ≤ (m : Int) := Int.natCast_nonneg _
  have hm1 : (m : Int) ≤ 4294967296 := by omega
  have HM : Hid (m < 18446744073709551616) := by unfold Hid; omega
  clear ha h hd hdd hl n1 h0 h1
  go_enter Tryz.func144, Tryz.ntmps144
  go_wp2_with fail
  refine HA.out.mono ?_
  rintro e w1 ⟨rfl, hr, hk⟩
  have HR := hid hr
  have HK := hid hk
  clear hr hk hn
  go_wp2_with fail
  refine (put_any b v lim l 0 m 2 w1 HR.out (by omega) HM.out HL.out).mono ?_
  rintro e w2 ⟨rfl, v', hv, hk2, hm⟩
  have HV := hid hv
  have HK2 := hid (And.intro hk2 hm)
  clear hv hk2 hm
  go_wp2
  go_end0
  exact ⟨rfl, v', HV.out, (kept_none HK.out).trans HK2.out.1 (.inl rfl), (Moved.refl w v).trans HK2.out.2 HK.out.size⟩

set_option maxRecDepth 100000 in
set_option maxHeartbeats 800000 in
theorem wnum2_no (b : Nat) (v : Value) (lim : Int) (l : List UInt8) (er : Int) (m : Nat) (w : World) (h : WrAt w b v lim l er)
    (h0 : 0 ≤ lim) (h1 : lim ≤ 9223372036854775807) (hl : l.length + 8 ≤ 140737488355328) (n1 : m < 65536) (E : Int) (hE : adm lim l.length er true 2 = E) (hd : E ≠ 0) :
    Calls Tryz.prog 144 #[.pointer (some ⟨b, 0, none⟩), .int .i64 m, .int .i64 2] w fun e w' => e = .returned (.tuple #[]) ∧ ∃ v', WrAt w' b v' lim l E ∧ Kept b v.ownBlock w w' ∧ Moved w v v' := by
  have hn : ((m : Int) / 65536 == 0) = true := by simp; omega
  have ha := admits_any b v lim l er true 2 w h h0 h1 (by omega)
  have hdd : decide (E = 0) = false := by simpa using hd
  rw [hE, hdd] at ha
  have HA := hid ha
  have hm0 : (0 : Int) ≤ (m : Int) := Int.natCast_nonneg _
  have hm1 : (m : Int) ≤ 4294967296 := by omega
  clear ha h hE hd hdd hl n1 h0 h1
  go_enter Tryz.func144, Tryz.ntmps144
  go_wp2_with fail
  refine HA.out.mono ?_
  rintro e w1 ⟨rfl, hr, hk⟩
  have HR := hid hr
  have HK := hid hk
  clear hr hk hn
  go_wp2
  go_end0
  exact ⟨rfl, v, HR.out, kept_none HK.out, Moved.refl _ _⟩

set_option maxRecDepth 100000 in
set_option maxHeartbeats 800000 in
theorem wnum2_out (b : Nat) (v : Value) (lim : Int) (l : List UInt8) (er : Int) (n : Int) (w : World) (h : WrAt w b v lim l er)
    (h0 : 0 ≤ lim) (h1 : lim ≤ 9223372036854775807) (hl : l.length + 8 ≤ 140737488355328) (hi : n ≤ 9223372036854775807) (hn : n < 0 ∨ 65536 ≤ n) (E : Int) (hE : adm lim l.length er false 2 = E) :
    Calls Tryz.prog 144 #[.pointer (some ⟨b, 0, none⟩), .int .i64 n, .int .i64 2] w fun e w' => e = .returned (.tuple #[]) ∧ ∃ v', WrAt w' b v' lim l E ∧ Kept b v.ownBlock w w' ∧ Moved w v v' := by
  have ha := admits_any b v lim l er false 2 w h h0 h1 (by omega)
  have hd : ¬ E = 0 := by rw [← hE]; unfold adm; split <;> simp_all
  have hdd : decide (E = 0) = false := by simpa using hd
  rw [hE, hdd] at ha
  have HA := hid ha
  clear ha h hd hdd hE hl h0 h1
  rcases hn with hn | hn
  · go_enter Tryz.func144, Tryz.ntmps144
    go_wp2_with fail
    refine HA.out.mono ?_
    rintro e w1 ⟨rfl, hr, hk⟩
    have HR := hid hr
    have HK := hid hk
    clear hr hk
    go_wp2
    go_end0
    exact ⟨rfl, v, HR.out, kept_none HK.out, Moved.refl _ _⟩
  · have hq : (n / 65536 == 0) = false := by simp; omega
    have hn0 : 0 ≤ n := by omega
    clear hn
    go_enter Tryz.func144, Tryz.ntmps144
    go_wp2_with fail
    refine HA.out.mono ?_
    rintro e w1 ⟨rfl, hr, hk⟩
    have HR := hid hr
    have HK := hid hk
    clear hr hk hq
    go_wp2
    go_end0
    exact ⟨rfl, v, HR.out, kept_none HK.out, Moved.refl _ _⟩

theorem wnum2_any (b : Nat) (v : Value) (lim : Int) (l : List UInt8) (er : Int) (n : Int) (w : World) (h : WrAt w b v lim l er)
    (h0 : 0 ≤ lim) (h1 : lim ≤ 9223372036854775807) (hl : l.length + 8 ≤ 140737488355328) (hi : n ≤ 9223372036854775807) :
    Calls Tryz.prog 144 #[.pointer (some ⟨b, 0, none⟩), .int .i64 n, .int .i64 2] w fun e w' => e = .returned (.tuple #[]) ∧ ∃ v', WrAt w' b v' lim (wL lim l er 2 n) (wE lim l er 2 n) ∧ Kept b v.ownBlock w w' ∧ Moved w v v' := by
  unfold wL wE inR
  by_cases hn : 0 ≤ n ∧ n < 65536
  · have e : decide (0 ≤ n ∧ n < ((256 ^ 2 : Nat) : Int)) = true := by simp; omega
    rw [e]
    obtain ⟨m, rfl⟩ : ∃ m : Nat, n = m := ⟨n.toNat, by omega⟩
    by_cases hd : adm lim l.length er true 2 = 0
    · have := wnum2_yes b v lim l er m w h h0 h1 hl (by omega) hd
      simpa [hd] using this
    · have := wnum2_no b v lim l er m w h h0 h1 hl (by omega) _ rfl hd
      simpa [hd] using this
  · have e : decide (0 ≤ n ∧ n < ((256 ^ 2 : Nat) : Int)) = false := by simp; omega
    rw [e]
    have hd : ¬ adm lim l.length er false 2 = 0 := by unfold adm; split <;> simp_all
    have := wnum2_out b v lim l er n w h h0 h1 hl hi (by omega) _ rfl
    simpa [hd] using this

set_option maxRecDepth 100000 in
set_option maxHeartbeats 800000 in
theorem wnum4_yes (b : Nat) (v : Value) (lim : Int) (l : List UInt8) (er : Int) (m : Nat) (w : World) (h : WrAt w b v lim l er)
    (h0 : 0 ≤ lim) (h1 : lim ≤ 9223372036854775807) (hl : l.length + 8 ≤ 140737488355328) (n1 : m < 4294967296) (hd : adm lim l.length er true 4 = 0) :
    Calls Tryz.prog 144 #[.pointer (some ⟨b, 0, none⟩), .int .i64 m, .int .i64 4] w fun e w' => e = .returned (.tuple #[]) ∧ ∃ v', WrAt w' b v' lim (l ++ be 4 m) 0 ∧ Kept b v.ownBlock w w' ∧ Moved w v v' := by
  have hn : ((m : Int) / 4294967296 == 0) = true := by simp; omega
  have ha := admits_any b v lim l er true 4 w h h0 h1 (by omega)
  have hdd : decide (adm lim l.length er true 4 = 0) = true := by simpa using hd
  rw [hdd, hd] at ha
  have HA := hid ha
  have HL := hid hl
  have hm0 : (0 : Int) ≤ (m : Int) := Int.natCast_nonneg _
  have hm1 : (m : Int) ≤ 4294967296 := by omega
  have HM : Hid (m < 18446744073709551616) := by unfold Hid; omega
  clear ha h hd hdd hl n1 h0 h1
  go_enter Tryz.func144, Tryz.ntmps144
  go_wp2_with fail
  refine HA.out.mono ?_
  rintro e w1 ⟨rfl, hr, hk⟩
  have HR := hid hr
  have HK := hid hk
  clear hr hk hn
  go_wp2_with fail
  refine (put_any b v lim l 0 m 4 w1 HR.out (by omega) HM.out HL.out).mono ?_
  rintro e w2 ⟨rfl, v', hv, hk2, hm⟩
  have HV := hid hv
  have HK2 := hid (And.intro hk2 hm)
  clear hv hk2 hm
  go_wp2
  go_end0
  exact ⟨rfl, v', HV.out, (kept_none HK.out).trans HK2.out.1 (.inl rfl), (Moved.refl w v).trans HK2.out.2 HK.out.size⟩

set_option maxRecDepth 100000 in
set_option maxHeartbeats 800000 in
theorem wnum4_no (b : Nat) (v : Value) (lim : Int) (l : List UInt8) (er : Int) (m : Nat) (w : World) (h : WrAt w b v lim l er)
    (h0 : 0 ≤ lim) (h1 : lim ≤ 9223372036854775807) (hl : l.length + 8 ≤ 140737488355328) (n1 : m < 4294967296) (E : Int) (hE : adm lim l.length er true 4 = E) (hd : E ≠ 0) :
    Calls Tryz.prog 144 #[.pointer (some ⟨b, 0, none⟩), .int .i64 m, .int .i64 4] w fun e w' => e = .returned (.tuple #[]) ∧ ∃ v', WrAt w' b v' lim l E ∧ Kept b v.ownBlock w w' ∧ Moved w v v' := by
  have hn : ((m : Int) / 4294967296 == 0) = true := by simp; omega
  have ha := admits_any b v lim l er true 4 w h h0 h1 (by omega)
  have hdd : decide (E = 0) = false := by simpa using hd
  rw [hE, hdd] at ha
  have HA := hid ha
  have hm0 : (0 : Int) ≤ (m : Int) := Int.natCast_nonneg _
  have hm1 : (m : Int) ≤ 4294967296 := by omega
  clear ha h hE hd hdd hl n1 h0 h1
  go_enter Tryz.func144, Tryz.ntmps144
  go_wp2_with fail
  refine HA.out.mono ?_
  rintro e w1 ⟨rfl, hr, hk⟩
  have HR := hid hr
  have HK := hid hk
  clear hr hk hn
  go_wp2
  go_end0
  exact ⟨rfl, v, HR.out, kept_none HK.out, Moved.refl _ _⟩

set_option maxRecDepth 100000 in
set_option maxHeartbeats 800000 in
theorem wnum4_out (b : Nat) (v : Value) (lim : Int) (l : List UInt8) (er : Int) (n : Int) (w : World) (h : WrAt w b v lim l er)
    (h0 : 0 ≤ lim) (h1 : lim ≤ 9223372036854775807) (hl : l.length + 8 ≤ 140737488355328) (hi : n ≤ 9223372036854775807) (hn : n < 0 ∨ 4294967296 ≤ n) (E : Int) (hE : adm lim l.length er false 4 = E) :
    Calls Tryz.prog 144 #[.pointer (some ⟨b, 0, none⟩), .int .i64 n, .int .i64 4] w fun e w' => e = .returned (.tuple #[]) ∧ ∃ v', WrAt w' b v' lim l E ∧ Kept b v.ownBlock w w' ∧ Moved w v v' := by
  have ha := admits_any b v lim l er false 4 w h h0 h1 (by omega)
  have hd : ¬ E = 0 := by rw [← hE]; unfold adm; split <;> simp_all
  have hdd : decide (E = 0) = false := by simpa using hd
  rw [hE, hdd] at ha
  have HA := hid ha
  clear ha h hd hdd hE hl h0 h1
  rcases hn with hn | hn
  · go_enter Tryz.func144, Tryz.ntmps144
    go_wp2_with fail
    refine HA.out.mono ?_
    rintro e w1 ⟨rfl, hr, hk⟩
    have HR := hid hr
    have HK := hid hk
    clear hr hk
    go_wp2
    go_end0
    exact ⟨rfl, v, HR.out, kept_none HK.out, Moved.refl _ _⟩
  · have hq : (n / 4294967296 == 0) = false := by simp; omega
    have hn0 : 0 ≤ n := by omega
    clear hn
    go_enter Tryz.func144, Tryz.ntmps144
    go_wp2_with fail
    refine HA.out.mono ?_
    rintro e w1 ⟨rfl, hr, hk⟩
    have HR := hid hr
    have HK := hid hk
    clear hr hk hq
    go_wp2
    go_end0
    exact ⟨rfl, v, HR.out, kept_none HK.out, Moved.refl _ _⟩

theorem wnum4_any (b : Nat) (v : Value) (lim : Int) (l : List UInt8) (er : Int) (n : Int) (w : World) (h : WrAt w b v lim l er)
    (h0 : 0 ≤ lim) (h1 : lim ≤ 9223372036854775807) (hl : l.length + 8 ≤ 140737488355328) (hi : n ≤ 9223372036854775807) :
    Calls Tryz.prog 144 #[.pointer (some ⟨b, 0, none⟩), .int .i64 n, .int .i64 4] w fun e w' => e = .returned (.tuple #[]) ∧ ∃ v', WrAt w' b v' lim (wL lim l er 4 n) (wE lim l er 4 n) ∧ Kept b v.ownBlock w w' ∧ Moved w v v' := by
  unfold wL wE inR
  by_cases hn : 0 ≤ n ∧ n < 4294967296
  · have e : decide (0 ≤ n ∧ n < ((256 ^ 4 : Nat) : Int)) = true := by simp; omega
    rw [e]
    obtain ⟨m, rfl⟩ : ∃ m : Nat, n = m := ⟨n.toNat, by omega⟩
    by_cases hd : adm lim l.length er true 4 = 0
    · have := wnum4_yes b v lim l er m w h h0 h1 hl (by omega) hd
      simpa [hd] using this
    · have := wnum4_no b v lim l er m w h h0 h1 hl (by omega) _ rfl hd
      simpa [hd] using this
  · have e : decide (0 ≤ n ∧ n < ((256 ^ 4 : Nat) : Int)) = false := by simp; omega
    rw [e]
    have hd : ¬ adm lim l.length er false 4 = 0 := by unfold adm; split <;> simp_all
    have := wnum4_out b v lim l er n w h h0 h1 hl hi (by omega) _ rfl
    simpa [hd] using this

theorem wnum1_nil (n : Int) (w : World) : Calls Tryz.prog 144 #[.pointer none, .int .i64 n, .int .i64 1] w fun e w' => e = .returned (.tuple #[]) ∧ w' = w := by
  by_cases hn : 0 ≤ n
  · go_enter Tryz.func144, Tryz.ntmps144
    go_wp2_with (go_at_call 146; refine (admits_nil _ _ _).mono ?_; rintro e w1 ⟨rfl, rfl⟩)
    go_end0
    exact ⟨rfl, rfl⟩
  · go_enter Tryz.func144, Tryz.ntmps144
    go_wp2_with (go_at_call 146; refine (admits_nil _ _ _).mono ?_; rintro e w1 ⟨rfl, rfl⟩)
    go_end0
    exact ⟨rfl, rfl⟩

theorem wnum2_nil (n : Int) (w : World) : Calls Tryz.prog 144 #[.pointer none, .int .i64 n, .int .i64 2] w fun e w' => e = .returned (.tuple #[]) ∧ w' = w := by
  by_cases hn : 0 ≤ n
  · go_enter Tryz.func144, Tryz.ntmps144
    go_wp2_with (go_at_call 146; refine (admits_nil _ _ _).mono ?_; rintro e w1 ⟨rfl, rfl⟩)
    go_end0
    exact ⟨rfl, rfl⟩
  · go_enter Tryz.func144, Tryz.ntmps144
    go_wp2_with (go_at_call 146; refine (admits_nil _ _ _).mono ?_; rintro e w1 ⟨rfl, rfl⟩)
    go_end0
    exact ⟨rfl, rfl⟩

theorem wnum4_nil (n : Int) (w : World) : Calls Tryz.prog 144 #[.pointer none, .int .i64 n, .int .i64 4] w fun e w' => e = .returned (.tuple #[]) ∧ w' = w := by
  by_cases hn : 0 ≤ n
  · go_enter Tryz.func144, Tryz.ntmps144
    go_wp2_with (go_at_call 146; refine (admits_nil _ _ _).mono ?_; rintro e w1 ⟨rfl, rfl⟩)
    go_end0
    exact ⟨rfl, rfl⟩
  · go_enter Tryz.func144, Tryz.ntmps144
    go_wp2_with (go_at_call 146; refine (admits_nil _ _ _).mono ?_; rintro e w1 ⟨rfl, rfl⟩)
    go_end0
    exact ⟨rfl, rfl⟩

set_option maxHeartbeats 400000 in
theorem wbyte_any (b : Nat) (v : Value) (lim : Int) (l : List UInt8) (er : Int) (n : Int) (w : World) (h : WrAt w b v lim l er)
    (h0 : 0 ≤ lim) (h1 : lim ≤ 9223372036854775807) (hl : l.length + 8 ≤ 140737488355328) (hi : n ≤ 9223372036854775807) :
    Calls Tryz.prog 114 #[.pointer (some ⟨b, 0, none⟩), .int .i64 n] w fun e w' => e = .returned (.tuple #[]) ∧ ∃ v', WrAt w' b v' lim (wL lim l er 1 n) (wE lim l er 1 n) ∧ Kept b v.ownBlock w w' ∧ Moved w v v' := by
  have hc := hid (wnum1_any b v lim l er n w h h0 h1 hl hi)
  clear h
  go_enter Tryz.func114, Tryz.ntmps114
  go_wp2_with fail
  refine hc.out.mono ?_
  rintro e w1 ⟨rfl, hr⟩
  have HR := hid hr
  clear hr
  go_wp2
  go_end0
  exact ⟨rfl, HR.out⟩

theorem wbyte_nil (n : Int) (w : World) : Calls Tryz.prog 114 #[.pointer none, .int .i64 n] w fun e w' => e = .returned (.tuple #[]) ∧ w' = w := by
  go_enter Tryz.func114, Tryz.ntmps114
  go_wp2_with (go_at_call 144; refine (wnum1_nil _ _).mono ?_; rintro e w1 ⟨rfl, rfl⟩)
  go_end0
  exact ⟨rfl, rfl⟩

set_option maxHeartbeats 400000 in
theorem wword_any (b : Nat) (v : Value) (lim : Int) (l : List UInt8) (er : Int) (n : Int) (w : World) (h : WrAt w b v lim l er)
    (h0 : 0 ≤ lim) (h1 : lim ≤ 9223372036854775807) (hl : l.length + 8 ≤ 140737488355328) (hi : n ≤ 9223372036854775807) :
    Calls Tryz.prog 115 #[.pointer (some ⟨b, 0, none⟩), .int .i64 n] w fun e w' => e = .returned (.tuple #[]) ∧ ∃ v', WrAt w' b v' lim (wL lim l er 2 n) (wE lim l er 2 n) ∧ Kept b v.ownBlock w w' ∧ Moved w v v' := by
  have hc := hid (wnum2_any b v lim l er n w h h0 h1 hl hi)
  clear h
  go_enter Tryz.func115, Tryz.ntmps115
  go_wp2_with fail
  refine hc.out.mono ?_
  rintro e w1 ⟨rfl, hr⟩
  have HR := hid hr
  clear hr
  go_wp2
  go_end0
  exact ⟨rfl, HR.out⟩

theorem wword_nil (n : Int) (w : World) : Calls Tryz.prog 115 #[.pointer none, .int .i64 n] w fun e w' => e = .returned (.tuple #[]) ∧ w' = w := by
  go_enter Tryz.func115, Tryz.ntmps115
  go_wp2_with (go_at_call 144; refine (wnum2_nil _ _).mono ?_; rintro e w1 ⟨rfl, rfl⟩)
  go_end0
  exact ⟨rfl, rfl⟩

set_option maxHeartbeats 400000 in
theorem wlong_any (b : Nat) (v : Value) (lim : Int) (l : List UInt8) (er : Int) (n : Int) (w : World) (h : WrAt w b v lim l er)
    (h0 : 0 ≤ lim) (h1 : lim ≤ 9223372036854775807) (hl : l.length + 8 ≤ 140737488355328) (hi : n ≤ 9223372036854775807) :
    Calls Tryz.prog 157 #[.pointer (some ⟨b, 0, none⟩), .int .i64 n] w fun e w' => e = .returned (.tuple #[]) ∧ ∃ v', WrAt w' b v' lim (wL lim l er 4 n) (wE lim l er 4 n) ∧ Kept b v.ownBlock w w' ∧ Moved w v v' := by
  have hc := hid (wnum4_any b v lim l er n w h h0 h1 hl hi)
  clear h
  go_enter Tryz.func157, Tryz.ntmps157
  go_wp2_with fail
  refine hc.out.mono ?_
  rintro e w1 ⟨rfl, hr⟩
  have HR := hid hr
  clear hr
  go_wp2
  go_end0
  exact ⟨rfl, HR.out⟩

theorem wlong_nil (n : Int) (w : World) : Calls Tryz.prog 157 #[.pointer none, .int .i64 n] w fun e w' => e = .returned (.tuple #[]) ∧ w' = w := by
  go_enter Tryz.func157, Tryz.ntmps157
  go_wp2_with (go_at_call 144; refine (wnum4_nil _ _).mono ?_; rintro e w1 ⟨rfl, rfl⟩)
  go_end0
  exact ⟨rfl, rfl⟩

end Go.Proofs.YthjgnfeadagmeaaGreat

/- Results and their texts; what is prepared, states, and their texts; that these part. No walk here. -/
namespace Go.Proofs.YthjgnfeadagmeaaGreat
open Go.RowKit

def rsB (c : Int) : Bool := decide (0 ≤ c) && decide (c ≤ 8)
def rsL (c : Int) (f : Nat) : List UInt8 := be 1 c.toNat ++ be 8 (canW f)
def rsT (c : Int) (f : Nat) : ByteArray := if rsB c then ⟨(rsL c f).toArray⟩ else ⟨#[]⟩
def rsE (c : Int) : Int := if rsB c then 0 else 1
def rsCode (t : ByteArray) : Nat := rN t false 1
def rsBits (t : ByteArray) : Nat := rN (rd1 t).s (rd1 t).sh 8
def rsEnd (t : ByteArray) : Rd := (rd1 t).num 8
def okRs (t : ByteArray) : Bool := ((canW (rsBits t) == rsBits t) && decide (endOf (rsEnd t).s (rsEnd t).sh = 0)) && decide (rsCode t ≤ 8)
def rsC (t : ByteArray) : Int := if okRs t then rsCode t else 0
def rsF (t : ByteArray) : Nat := if okRs t then fromW (rsBits t) else 0
def rsR (t : ByteArray) : Int := if okRs t then 0 else 5
def sameS (c : Int) (f : Nat) (c' : Int) (f' : Nat) : Bool := decide (c = c') && decide (canW f = canW f')
theorem rs_back {c : Int} {f : Nat} (h : rsB c = true) (hf : f < 18446744073709551616) : okRs (rsT c f) = true ∧ rsC (rsT c f) = c ∧ rsF (rsT c f) = canW f := by
  simp only [rsB, Bool.and_eq_true, decide_eq_true_eq] at h
  have hT : (rsT c f).data.toList = rsL c f := by
    rw [rsT, if_pos (by simp only [rsB, Bool.and_eq_true, decide_eq_true_eq]; exact h)]
  generalize rsT c f = t at hT ⊢
  have e1 := rd_good t 1 c.toNat _ hT (by omega)
  have q1 : rd1 t = ⟨rS t false 1, false⟩ := by rw [rd1, Rd.num, e1.2.2]
  have h1 := e1.2.1
  generalize rS t false 1 = s1 at q1 h1
  have e2 := rd_good s1 8 (canW f) [] (by rw [List.append_nil]; exact h1) (canW_lt hf)
  have hb : rsBits t = canW f := by rw [rsBits, q1]; exact e2.1
  have he : endOf (rsEnd t).s (rsEnd t).sh = 0 := by rw [rsEnd, q1, Rd.num, e2.2.2]; exact end_of e2.2.1
  have hc : rsCode t = c.toNat := e1.1
  have hok : okRs t = true := by
    rw [okRs, hb, he, hc, canW_idem]
    simp
    omega
  refine ⟨hok, ?_, ?_⟩
  · rw [rsC, if_pos hok, hc, Int.toNat_of_nonneg h.1]
  · rw [rsF, if_pos hok, hb, fromW_can]
theorem rs_told {t : ByteArray} (h : okRs t = true) : rsB (rsC t) = true ∧ rsT (rsC t) (rsF t) = t ∧ rsF t < 18446744073709551616 := by
  have hc : rsC t = rsCode t := by rw [rsC, if_pos h]
  have hf : rsF t = fromW (rsBits t) := by rw [rsF, if_pos h]
  simp only [okRs, Bool.and_eq_true, decide_eq_true_eq] at h
  obtain ⟨⟨h1, h2⟩, h3⟩ := h
  obtain ⟨f1, f2⟩ := fromW_ok h1
  obtain ⟨g2, z2⟩ := end_ok h2
  obtain ⟨g1, z1⟩ := rd_back (rd1 t).s (rd1 t).sh 8 g2
  obtain ⟨_, z0⟩ := rd_back t false 1 g1
  have hB : rsB (rsC t) = true := by
    rw [hc]
    simp only [rsB, Bool.and_eq_true, decide_eq_true_eq]
    omega
  refine ⟨hB, ?_, ?_⟩
  · rw [rsT, if_pos hB]
    apply ByteArray.ext
    apply Array.ext'
    show rsL (rsC t) (rsF t) = t.data.toList
    rw [rsL, hc, hf, f1, f2, z0, Int.toNat_natCast]
    refine congrArg (be 1 (rsCode t) ++ ·) ?_
    refine Eq.trans ?_ z1.symm
    rw [show (rS (rd1 t).s (rd1 t).sh 8).data.toList = [] from z2, List.append_nil]
    rfl
  · rw [hf, f1]
    exact rN_lt (rd1 t).s (rd1 t).sh 8
/-- What is prepared. -/
def spB (e v s : Int) : Bool := (inR 4 e && inR 4 v) && inR 4 s
def prL (e v s : Int) : List UInt8 := be 1 80 ++ (be 4 e.toNat ++ (be 4 v.toNat ++ be 4 s.toNat))
def prT (e v s : Int) (r : Rq) : ByteArray := if rqE r = 0 then (if spB e v s then ⟨(prL e v s ++ (rqT r).data.toList).toArray⟩ else ⟨#[]⟩) else ⟨#[]⟩
def prE (e v s : Int) (r : Rq) : Int := if rqE r = 0 then (if spB e v s then 0 else 1) else 1
/-- A state. -/
def stT (s : Int) (x : ByteArray) : ByteArray := if inR 4 s then ⟨(be 1 83 ++ be 4 s.toNat ++ x.data.toList).toArray⟩ else ⟨#[]⟩
def stE (s : Int) : Int := if inR 4 s then 0 else 1
theorem inR4 {n : Int} (h : inR 4 n = true) : 0 ≤ n ∧ n < 4294967296 := by
  have := of_decide_eq_true h
  simpa using this
theorem be_inj {n a b : Nat} (ha : a < 256 ^ n) (hb : b < 256 ^ n) (h : be n a = be n b) : a = b := by
  have := congrArg val h
  rw [val_be, val_be, Nat.mod_eq_of_lt ha, Nat.mod_eq_of_lt hb] at this
  exact this
theorem prE_ok {e v s : Int} {r : Rq} (h : prE e v s r = 0) : rqE r = 0 ∧ inR 4 e = true ∧ inR 4 v = true ∧ inR 4 s = true ∧ (prT e v s r).data.toList = prL e v s ++ (rqT r).data.toList := by
  unfold prE at h
  split at h
  · next h1 =>
    split at h
    · next h2 =>
      have h3 := h2
      rw [spB, Bool.and_eq_true_iff, Bool.and_eq_true_iff] at h3
      exact ⟨h1, h3.1.1, h3.1.2, h3.2, by rw [prT, if_pos h1, if_pos h2]⟩
    · cases h
  · cases h
theorem prE_bad {e v s : Int} {r : Rq} (h : prE e v s r ≠ 0) : prT e v s r = ⟨#[]⟩ := by
  unfold prE at h
  unfold prT
  split
  · next h1 =>
    rw [if_pos h1] at h
    split
    · next h2 => rw [if_pos h2] at h; exact absurd rfl h
    · rfl
  · rfl
/-- What is prepared elsewhere, or is another request, has another text. -/
theorem pr_parts {e v s : Int} {r : Rq} {e' v' s' : Int} {r' : Rq} (h : prE e v s r = 0) (h' : prE e' v' s' r' = 0) : prT e v s r = prT e' v' s' r' ↔ (e = e' ∧ v = v' ∧ s = s' ∧ rqT r = rqT r') := by
  obtain ⟨_, a1, a2, a3, a4⟩ := prE_ok h
  obtain ⟨_, b1, b2, b3, b4⟩ := prE_ok h'
  have c1 := inR4 a1
  have c2 := inR4 a2
  have c3 := inR4 a3
  have d1 := inR4 b1
  have d2 := inR4 b2
  have d3 := inR4 b3
  refine ⟨fun hq => ?_, fun ⟨h1, h2, h3, h4⟩ => ?_⟩
  · rw [hq, b4] at a4
    unfold prL at a4
    simp only [List.append_assoc] at a4
    have i1 := List.append_inj a4 rfl
    have i2 := List.append_inj i1.2 (by rw [be_len, be_len])
    have i3 := List.append_inj i2.2 (by rw [be_len, be_len])
    have i4 := List.append_inj i3.2 (by rw [be_len, be_len])
    have k2 := be_inj (by omega) (by omega) i2.1
    have k3 := be_inj (by omega) (by omega) i3.1
    have k4 := be_inj (by omega) (by omega) i4.1
    refine ⟨by omega, by omega, by omega, ?_⟩
    apply ByteArray.ext
    apply Array.ext'
    exact i4.2.symm
  · apply ByteArray.ext
    apply Array.ext'
    rw [a4, b4, h1, h2, h3, h4]
theorem first_of {t : ByteArray} {x : UInt8} {l : List UInt8} (h : t.data.toList = x :: l) : t.data.toList.head? = some x := by rw [h]; rfl
theorem pr_first {e v s : Int} {r : Rq} (h : prE e v s r = 0) : (prT e v s r).data.toList.head? = some 80 := by rw [(prE_ok h).2.2.2.2]; rfl
theorem st_first {s : Int} {x : ByteArray} (h : stE s = 0) : (stT s x).data.toList.head? = some 83 := by
  have hs : inR 4 s = true := by
    unfold stE at h
    split at h
    · next h1 => exact h1
    · cases h
  rw [stT, if_pos hs]
  rfl
theorem rq_first {r : Rq} (h : rqE r = 0) : (rqT r).data.toList.head? = some 0 ∨ (rqT r).data.toList.head? = some 1 := by
  rcases (rqE_iff r).1 h with h1 | h1
  · left; rw [(nul_text h1).1]; rfl
  · right; rw [rqT, right_null h1, h1]; rfl
end Go.Proofs.YthjgnfeadagmeaaGreat

/- What all families of texts share: lists of texts and of numbers. -/
namespace Go.Proofs.YthjgnfeadagmeaaGreat
open Go.RowKit

theorem Tryz.info9 : (Tryz.prog.info? 9).map (fun i => (i.zero, i.size, i.bytes)) = some (some (.string ⟨#[]⟩), 1, 16) := by kernel_rfl
/-- The texts ss lie at a. -/
def StrsIn (w : World) (a : Option Addr) (ss : List ByteArray) : Prop :=
  ss = [] ∨ ∃ g off, a = some ⟨g, off, none⟩ ∧ g < w.heap.size ∧ ∀ j s, ss[j]? = some s → w.cell? ⟨g, off + j, none⟩ = some (.string s)
theorem StrsIn.keep {w w' : World} {a : Option Addr} {ss : List ByteArray} {B : Nat} (h : StrsIn w a ss) (hb : Below B w w') (hB : w.heap.size ≤ B) : StrsIn w' a ss := by
  rcases h with h | ⟨g, off, ha, hg, hc⟩
  · exact .inl h
  · exact .inr ⟨g, off, ha, Nat.lt_of_lt_of_le hg hb.size, fun j s hs => (hb.cell (p := ⟨g, off + j, none⟩) (Nat.lt_of_lt_of_le hg hB)).trans (hc j s hs)⟩
def sC (ss : List ByteArray) : List Value := ss.map Value.string
theorem sC_len (ss : List ByteArray) : (sC ss).length = ss.length := by simp [sC]
theorem sC_app (a b : List ByteArray) : sC (a ++ b) = sC a ++ sC b := by simp [sC]
theorem sC_one (ss : List ByteArray) : ∀ v ∈ sC ss, v.oneCell' = true := by
  intro v hv
  obtain ⟨x, _, rfl⟩ := List.mem_map.1 hv
  rfl
theorem sC_get (ss : List ByteArray) (j : Nat) (s : ByteArray) (h : ss[j]? = some s) : (sC ss)[j]? = some (.string s) := by simp [sC, h]
theorem sC_back (ss : List ByteArray) (j : Nat) (v : Value) (h : (sC ss)[j]? = some v) : ∃ s, ss[j]? = some s ∧ v = .string s := by
  simp [sC] at h
  obtain ⟨s, hs, rfl⟩ := h
  exact ⟨s, hs, rfl⟩
/-- The slice v holds the texts ss, in a row of its own; nothing below B has turned since w0. -/
structure OwnedS (B : Nat) (w0 w : World) (v : Value) (ss : List ByteArray) : Prop where
  own : w.ownsRow B 9 1 v ss.length (sC ss)
  bel : Below B w0 w
  le : B ≤ w.heap.size
theorem OwnedS.nil {B : Nat} {w0 w : World} (h : Below B w0 w) (hB : B ≤ w.heap.size) : OwnedS B w0 w (.slice none 0 0) [] := ⟨⟨rfl, .inl ⟨rfl, rfl⟩⟩, h, hB⟩
theorem OwnedS.alloc {B : Nat} {w0 w : World} {v : Value} {l : List ByteArray} (h : OwnedS B w0 w v l) (o : Obj) : OwnedS B w0 (w.alloc o) v l :=
  ⟨h.own.alloc o, h.bel.alloc h.le o, by have := h.le; simp; omega⟩
theorem OwnedS.grow {B : Nat} {w0 w w2 : World} {v v2 : Value} {l xs : List ByteArray} {m : Nat} (h : OwnedS B w0 w v l) (hm : xs.length = m) (h2 : w2.ownsRow B 9 1 v2 (l.length + m) (sC l ++ sC xs)) (hg : w.grownBy w2 v.ownBlock) : OwnedS B w0 w2 v2 (l ++ xs) :=
  ⟨by rw [List.length_append, sC_app, hm]; exact h2, h.bel.grown hg h.le (fun k hk => (h.own.lt k hk).1), Nat.le_trans h.le hg.size⟩
theorem OwnedS.form {B : Nat} {w0 w : World} {v : Value} {l : List ByteArray} (h : OwnedS B w0 w v l) (hl : 0 < l.length) : ∃ g cap, v = .slice (some ⟨g, 0, none⟩) l.length cap ∧ l.length ≤ cap ∧ g < w.heap.size ∧ B ≤ g ∧ ∀ j s, l[j]? = some s → w.cell? ⟨g, j, none⟩ = some (.string s) := by
  rcases h.own.2 with ⟨_, h0⟩ | ⟨g, cap, cur, hv, hb, hh, hnc, hcp, hcs, htake⟩
  · omega
  · refine ⟨g, cap, hv, hnc, lt_of_blk hh, hb, fun j s hj => ?_⟩
    subst hv
    have := h.own.cells (g := g) rfl j _ (sC_get l j s hj)
    rwa [Addr.add_lit, Nat.zero_add] at this
section
variable {o : Oper} {a : Act} {w : World} {Q : Exit → Act → World → Prop} {ops : Array Oper} {rest : List Oper}
end
/-- The numbers zs lie at a. -/
def IntsIn (w : World) (a : Option Addr) (zs : List Int) : Prop :=
  zs = [] ∨ ∃ g off, a = some ⟨g, off, none⟩ ∧ g < w.heap.size ∧ ∀ j z, zs[j]? = some z → w.cell? ⟨g, off + j, none⟩ = some (.int .i64 z)
theorem IntsIn.keep {w w' : World} {a : Option Addr} {zs : List Int} {B : Nat} (h : IntsIn w a zs) (hb : Below B w w') (hB : w.heap.size ≤ B) : IntsIn w' a zs := by
  rcases h with h | ⟨g, off, ha, hg, hc⟩
  · exact .inl h
  · exact .inr ⟨g, off, ha, Nat.lt_of_lt_of_le hg hb.size, fun j s hs => (hb.cell (p := ⟨g, off + j, none⟩) (Nat.lt_of_lt_of_le hg hB)).trans (hc j s hs)⟩
theorem IntsIn.at {w : World} {a : Option Addr} {zs : List Int} (h : IntsIn w a zs) (j : Nat) (z : Int) (hj : zs[j]? = some z) : ∃ g off, a = some ⟨g, off, none⟩ ∧ g < w.heap.size ∧ w.cell? ⟨g, off + j, none⟩ = some (.int .i64 z) := by
  rcases h with h | ⟨g, off, ha, hg, hc⟩
  · rw [h] at hj; simp at hj
  · exact ⟨g, off, ha, hg, hc j z hj⟩
theorem StrsIn.at {w : World} {a : Option Addr} {ss : List ByteArray} (h : StrsIn w a ss) (j : Nat) (s : ByteArray) (hj : ss[j]? = some s) : ∃ g off, a = some ⟨g, off, none⟩ ∧ g < w.heap.size ∧ w.cell? ⟨g, off + j, none⟩ = some (.string s) := by
  rcases h with h | ⟨g, off, ha, hg, hc⟩
  · rw [h] at hj; simp at hj
  · exact ⟨g, off, ha, hg, hc j s hj⟩
theorem sC_set (l : List ByteArray) (j : Nat) (v : Value) (x : ByteArray) (hv : v = .string x) : (sC l).toArray.setIfInBounds j v = (sC (l.set j x)).toArray := by
  subst hv
  simp [sC, List.map_set]
theorem OwnedS.keep {B : Nat} {w0 w w' : World} {v : Value} {l : List ByteArray} (h : OwnedS B w0 w v l) (hb : Below w.heap.size w w') : OwnedS B w0 w' v l := by
  refine ⟨⟨h.own.1, ?_⟩, h.bel.trans (hb.mono h.le), Nat.le_trans h.le hb.size⟩
  rcases h.own.2 with hn | ⟨g, cap, cur, hv, hB, hh, hr⟩
  · exact .inl hn
  · exact .inr ⟨g, cap, cur, hv, hB, (hb.block g (lt_of_blk hh)).trans hh, hr⟩
theorem OwnedS.strs {B : Nat} {w0 w : World} {v : Value} {l : List ByteArray} (h : OwnedS B w0 w v l) : ∃ a cap, v = .slice a l.length cap ∧ StrsIn w a l := by
  by_cases h0 : 0 < l.length
  · obtain ⟨g, cap, hv, _, hg, _, hc⟩ := h.form h0
    exact ⟨_, cap, hv, .inr ⟨g, 0, rfl, hg, fun j s hj => by rw [Nat.zero_add]; exact hc j s hj⟩⟩
  · obtain rfl : l = [] := List.eq_nil_of_length_eq_zero (by omega)
    rcases h.own.2 with ⟨hv, _⟩ | ⟨g, cap, cur, hv, _⟩
    · exact ⟨none, 0, hv, .inl rfl⟩
    · exact ⟨_, cap, hv, .inl rfl⟩
theorem Tryz.info3 : (Tryz.prog.info? 3).map (fun i => (i.zero, i.size, i.bytes)) = some (some (.int .i64 0), 1, 8) := by kernel_rfl
def iC (zs : List Int) : List Value := zs.map (Value.int .i64)
theorem iC_len (zs : List Int) : (iC zs).length = zs.length := by simp [iC]
theorem iC_app (a b : List Int) : iC (a ++ b) = iC a ++ iC b := by simp [iC]
theorem iC_one (zs : List Int) : ∀ v ∈ iC zs, v.oneCell' = true := by
  intro v hv
  obtain ⟨x, _, rfl⟩ := List.mem_map.1 hv
  rfl
theorem iC_get (zs : List Int) (j : Nat) (s : Int) (h : zs[j]? = some s) : (iC zs)[j]? = some (.int .i64 s) := by simp [iC, h]
theorem iC_back (zs : List Int) (j : Nat) (v : Value) (h : (iC zs)[j]? = some v) : ∃ s, zs[j]? = some s ∧ v = .int .i64 s := by
  simp [iC] at h
  obtain ⟨s, hs, rfl⟩ := h
  exact ⟨s, hs, rfl⟩
/-- The slice v holds the numbers zs, in a row of its own; nothing below B has turned since w0. -/
structure OwnedI (B : Nat) (w0 w : World) (v : Value) (zs : List Int) : Prop where
  own : w.ownsRow B 3 1 v zs.length (iC zs)
  bel : Below B w0 w
  le : B ≤ w.heap.size
theorem OwnedI.nil {B : Nat} {w0 w : World} (h : Below B w0 w) (hB : B ≤ w.heap.size) : OwnedI B w0 w (.slice none 0 0) [] := ⟨⟨rfl, .inl ⟨rfl, rfl⟩⟩, h, hB⟩
theorem OwnedI.alloc {B : Nat} {w0 w : World} {v : Value} {l : List Int} (h : OwnedI B w0 w v l) (o : Obj) : OwnedI B w0 (w.alloc o) v l :=
  ⟨h.own.alloc o, h.bel.alloc h.le o, by have := h.le; simp; omega⟩
theorem OwnedI.grow {B : Nat} {w0 w w2 : World} {v v2 : Value} {l xs : List Int} {m : Nat} (h : OwnedI B w0 w v l) (hm : xs.length = m) (h2 : w2.ownsRow B 3 1 v2 (l.length + m) (iC l ++ iC xs)) (hg : w.grownBy w2 v.ownBlock) : OwnedI B w0 w2 v2 (l ++ xs) :=
  ⟨by rw [List.length_append, iC_app, hm]; exact h2, h.bel.grown hg h.le (fun k hk => (h.own.lt k hk).1), Nat.le_trans h.le hg.size⟩
theorem OwnedI.form {B : Nat} {w0 w : World} {v : Value} {l : List Int} (h : OwnedI B w0 w v l) (hl : 0 < l.length) : ∃ g cap, v = .slice (some ⟨g, 0, none⟩) l.length cap ∧ l.length ≤ cap ∧ cap ≤ maxLen ∧ g < w.heap.size ∧ B ≤ g ∧ ∀ j s, l[j]? = some s → w.cell? ⟨g, j, none⟩ = some (.int .i64 s) := by
  rcases h.own.2 with ⟨_, h0⟩ | ⟨g, cap, cur, hv, hb, hh, hnc, hcp, hcs, htake⟩
  · omega
  · refine ⟨g, cap, hv, hnc, hcp, lt_of_blk hh, hb, fun j s hj => ?_⟩
    subst hv
    have := h.own.cells (g := g) rfl j _ (iC_get l j s hj)
    rwa [Addr.add_lit, Nat.zero_add] at this
theorem OwnedI.same {B : Nat} {w0 w w1 : World} {v : Value} {l : List Int} (h : OwnedI B w0 w v l) (h1 : w1.os = w.os) (h2 : w1.tape = w.tape) (h3 : w1.output = w.output) (h4 : w1.heap = w.heap) : OwnedI B w0 w1 v l :=
  ⟨ownsRow_heap h4 h.own, ⟨h1.trans h.bel.os, h2.trans h.bel.tape, h3.trans h.bel.output, by rw [h4]; exact h.bel.size, fun k hk => by rw [h4]; exact h.bel.block k hk⟩, by rw [h4]; exact h.le⟩
section
variable {o : Oper} {a : Act} {w : World} {Q : Exit → Act → World → Prop} {ops : Array Oper} {rest : List Oper}
/-- A copy of one's own. -/
theorem wl_ownI (hgd : o.guard = none) (x y : Operand) (ho : o.op = .call { callee := .builtin .append, args := #[x, y], argTypes := #[22, 22] })
    (hx : a.eval x = .slice none 0 0) (ad : Option Addr) (n cap : Nat) (zs : List Int) (hy : a.eval y = .slice ad n cap) (hn : zs.length = n) (hS : IntsIn w ad zs) (hl : n ≤ 17592186043904)
    (h : ∀ v' w', Hid (OwnedI w.heap.size w w' v' zs) → wpList Tryz.prog ops Q rest (a.put o.dst v') w') : wpList Tryz.prog ops Q (o :: rest) a w := by
  obtain ⟨i0, hi0, hz0, hz1, hz2⟩ := info_parts Tryz.info3
  cases ad with
  | none =>
    obtain rfl : zs = [] := by rcases hS with h | ⟨g, off, ha, _⟩; exact h; cases ha
    obtain rfl : 0 = n := hn
    refine wpList_plain hgd fun K hK => owp_value (v := .slice none 0 0) (w' := w) ?_ (hK _ _ (h _ _ (OwnedI.nil (Below.refl _ _) (Nat.le_refl _))))
    simp [execOp, ho, resolve, invoke, builtin, hx, hy, Builtin.append_, run_underlying Tryz.underlying22, sizeOf, typeInfo, hi0, Builtin.lenOf, Builtin.firstCells, Result.andThen]
  | some ad =>
    refine wpList_append_own w hgd x y 22 ho w.heap.size 3 i0 (.int .i64 0) 1 8 Tryz.underlying22 hi0 hz0 hz1 hz2 rfl (by decide) (.slice none 0 0) 0 [] hx ⟨rfl, .inl ⟨rfl, rfl⟩⟩ ad n cap (iC zs) hy (by rw [iC_len, hn, Nat.mul_one]) (fun j v hv => ?_) (iC_one _) (by unfold maxLen; omega) (by omega) (Nat.le_refl _) (fun v' w' hown hgrow _ => h v' w' ?_)
    · obtain ⟨s, hs, rfl⟩ := iC_back zs j v hv
      rcases hS with h | ⟨g, off, ha, hg, hc⟩
      · rw [h] at hs; simp at hs
      · cases ha
        rw [Addr.add_lit]
        exact hc j s hs
    · have := (OwnedI.nil (Below.refl w.heap.size w) (Nat.le_refl _)).grow (xs := zs) hn hown hgrow
      exact this
end
end Go.Proofs.YthjgnfeadagmeaaGreat

/- Members, quorums, configurations, as functions. No walk here. -/
namespace Go.Proofs.YthjgnfeadagmeaaGreat
open Go.RowKit

def fltZ (n : Int) : Int := if n < 1 then 0 else (n - 1) / 3
def quoZ (n : Int) : Int := if n < 1 then 0 else (n + fltZ n) / 2 + 1
def wekZ (n : Int) : Int := if n < 1 then 0 else fltZ n + 1
theorem fltZ_lo {n : Int} (h : n < 1) : fltZ n = 0 := if_pos h
theorem quoZ_lo {n : Int} (h : n < 1) : quoZ n = 0 := if_pos h
theorem wekZ_lo {n : Int} (h : n < 1) : wekZ n = 0 := if_pos h
theorem fltZ_hi {n : Int} (h : ¬ n < 1) : fltZ n = (n - 1) / 3 := if_neg h
theorem quoZ_hi {n : Int} (h : ¬ n < 1) : quoZ n = (n + fltZ n) / 2 + 1 := if_neg h
theorem wekZ_hi {n : Int} (h : ¬ n < 1) : wekZ n = fltZ n + 1 := if_neg h
theorem fltZ_le {n : Int} (h : ¬ n < 1) : 0 ≤ fltZ n ∧ 3 * fltZ n ≤ n - 1 := by rw [fltZ_hi h]; omega
/-- The i-th of the members is one, and stands behind the one ahead of it. -/
def okAt (l : List Int) (i : Nat) : Bool := decide (0 ≤ l.getD i 0 ∧ l.getD i 0 < 16) && (decide (i = 0) || decide (l.getD (i - 1) 0 < l.getD i 0))
def okTo (l : List Int) : Nat → Bool
  | 0 => true
  | j + 1 => okTo l j && okAt l j
theorem okTo_succ (l : List Int) (j : Nat) : okTo l (j + 1) = (okTo l j && okAt l j) := rfl
theorem okTo_false (l : List Int) (j n : Nat) (h : okTo l j = false) (hn : j ≤ n) : okTo l n = false := by
  induction n with
  | zero =>
    obtain rfl : j = 0 := by omega
    exact h
  | succ n ih =>
    by_cases e : j = n + 1
    · rw [← e]; exact h
    · rw [okTo_succ, ih (by omega)]; rfl
theorem okAt_no1 (l : List Int) (i : Nat) (h : ¬ (0 ≤ l.getD i 0 ∧ l.getD i 0 < 16)) : okAt l i = false := by rw [okAt, decide_eq_false h]; rfl
theorem okAt_no2 (l : List Int) (i : Nat) (h0 : i ≠ 0) (h : ¬ (l.getD (i - 1) 0 < l.getD i 0)) : okAt l i = false := by rw [okAt, decide_eq_false h, decide_eq_false h0]; simp
theorem okAt_yes0 (l : List Int) (h : 0 ≤ l.getD 0 0 ∧ l.getD 0 0 < 16) : okAt l 0 = true := by rw [okAt, decide_eq_true h]; rfl
theorem okAt_yes (l : List Int) (i : Nat) (h : 0 ≤ l.getD i 0 ∧ l.getD i 0 < 16) (h1 : l.getD (i - 1) 0 < l.getD i 0) : okAt l i = true := by rw [okAt, decide_eq_true h, decide_eq_true h1]; simp
/-- Are the members right? -/
def memB (l : List Int) : Bool := okTo l l.length && decide (4 ≤ l.length ∧ l.length ≤ 10)
/-- Is the configuration right? -/
def rightC (ep : Int) (l : List Int) : Bool := decide (0 ≤ ep ∧ ep ≤ 60) && memB l
def hasM (l : List Int) (id : Int) : Bool := decide (id ∈ l)
theorem okTo_at (l : List Int) : ∀ n, okTo l n = true → ∀ i, i < n → okAt l i = true
  | 0, _, i, hi => by omega
  | n + 1, h, i, hi => by
    rw [okTo_succ, Bool.and_eq_true_iff] at h
    by_cases e : i = n
    · rw [e]; exact h.2
    · exact okTo_at l n h.1 i (by omega)
theorem mem_len {l : List Int} (h : memB l = true) : 4 ≤ l.length ∧ l.length ≤ 10 := of_decide_eq_true (Bool.and_eq_true_iff.1 h).2
theorem mem_at {l : List Int} (h : memB l = true) (i : Nat) (hi : i < l.length) : okAt l i = true := okTo_at l _ (Bool.and_eq_true_iff.1 h).1 i hi
theorem mem_range {l : List Int} (h : memB l = true) (i : Nat) (hi : i < l.length) : 0 ≤ l.getD i 0 ∧ l.getD i 0 < 16 := of_decide_eq_true (Bool.and_eq_true_iff.1 (mem_at h i hi)).1
theorem mem_rise {l : List Int} (h : memB l = true) (i : Nat) (hi : i + 1 < l.length) : l.getD i 0 < l.getD (i + 1) 0 := by
  have := (Bool.and_eq_true_iff.1 (mem_at h (i + 1) hi)).2
  simpa using this
/-- Who leads. -/
def leadN (l : List Int) (view : Int) : Nat := (view % (l.length : Int)).toNat
def leads (ep : Int) (l : List Int) (view : Int) : Bool := rightC ep l && decide (0 ≤ view)
def leadZ (ep : Int) (l : List Int) (view : Int) : Int := if leads ep l view then l.getD (leadN l view) 0 else 0
end Go.Proofs.YthjgnfeadagmeaaGreat

/- The document's counts, members and leaders. -/
namespace Go.Proofs.YthjgnfeadagmeaaGreat
open Go.RowKit

end Go.Proofs.YthjgnfeadagmeaaGreat
