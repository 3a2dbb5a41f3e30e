/- Texts laid together: PkA PkM PkR PkT. -/
import Derived.Test.YtecidbdbdnnglaaGreatBaA
import Derived.Deep.RegionHeld3
import Derived.Deep.AppendLies
import Derived.Deep.DrawnRows
import Derived.Laws.BitsAllLaws
import Derived.Laws.IdiomStrings
/- Words for the contracts of package pack: what a writer and a reader look like in memory, and what a call keeps. No walk here. -/
namespace Go.Proofs.YtecidbdbdnnglaaGreat
open Go.RowKit

/-- All blocks but b and row r are as they were; the streams too. -/
structure Kept (b : Nat) (r : Option Nat) (w w' : World) : Prop where
  os : w'.os = w.os
  tape : w'.tape = w.tape
  output : w'.output = w.output
  size : w.heap.size ≤ w'.heap.size
  block : ∀ k, k < w.heap.size → k ≠ b → some k ≠ r → w'.heap[k]? = w.heap[k]?

theorem Kept.refl (b : Nat) (r : Option Nat) (w : World) : Kept b r w w := ⟨rfl, rfl, rfl, Nat.le_refl _, fun _ _ _ _ => rfl⟩
/-- Where the row has moved to a new block. -/
theorem Kept.trans {b : Nat} {r r' : Option Nat} {x y z : World} (h : Kept b r x y) (k : Kept b r' y z) (hr : r' = r ∨ ∃ g, r' = some g ∧ x.heap.size ≤ g) : Kept b r x z :=
  ⟨k.os.trans h.os, k.tape.trans h.tape, k.output.trans h.output, Nat.le_trans h.size k.size, fun i hi hb hne => by
    rw [k.block i (Nat.lt_of_lt_of_le hi h.size) hb (by rcases hr with rfl | ⟨g, rfl, hg⟩ <;> first | exact hne | (intro e; cases e; omega)), h.block i hi hb hne]⟩
theorem Kept.alloc {b : Nat} {r : Option Nat} {x y : World} (h : Kept b r x y) (o : Obj) : Kept b r x (y.alloc o) :=
  ⟨h.os, h.tape, h.output, by have := h.size; simp; omega, fun i hi hb hne => by rw [Below.heap_alloc _ _ _ (Nat.lt_of_lt_of_le hi h.size), h.block i hi hb hne]⟩
theorem Kept.drew {b : Nat} {r : Option Nat} {x y : World} (h : Kept b r x y) : Kept b r x y.drew := ⟨h.os, h.tape, h.output, h.size, h.block⟩
theorem Kept.setCell {b : Nat} {r : Option Nat} {x y : World} (h : Kept b r x y) (o : Nat) (u : Value) : Kept b r x (y.setCell ⟨b, o, none⟩ u) :=
  ⟨h.os, h.tape, h.output, by have := h.size; simpa [World.setCell] using this, fun i hi hb hne => by rw [Below.heap_setCell _ _ _ _ hb, h.block i hi hb hne]⟩
theorem Kept.grown {b : Nat} {r r' : Option Nat} {x y z : World} (h : Kept b r x y) (hg : y.grownBy z r') (hr : r' = r ∨ ∃ g, r' = some g ∧ x.heap.size ≤ g) : Kept b r x z :=
  h.trans ⟨hg.os, hg.tape, hg.output, hg.size, fun k hk _ hne => hg.block k hk hne⟩ hr
theorem Kept.below {b : Nat} {r : Option Nat} {x y : World} {B : Nat} (h : Kept b r x y) (hB : B ≤ x.heap.size) (hb : B ≤ b) (hr : ∀ g, r = some g → B ≤ g) : Below B x y :=
  ⟨h.os, h.tape, h.output, h.size, fun k hk => h.block k (by omega) (by omega) (fun e => by have := hr k e.symm; omega)⟩

/-- A writer at block b: its limit, its bytes l (in the slice v), its error. -/
structure WrAt (w : World) (b : Nat) (v : Value) (lim : Int) (l : List UInt8) (er : Int) : Prop where
  blk : w.heap[b]? = some (.cells #[.int .i64 lim, v, .int .i64 er] 130 (0, 0))
  own : w.ownsRow (b + 1) 5 1 v l.length (bC l)

theorem cell_of_blk {w : World} {b : Nat} {cs : Array Value} {t : TypeId} {fr : Nat × Nat} (h : w.heap[b]? = some (.cells cs t fr)) (j : Nat) (hj : j < cs.size) : w.cell? ⟨b, j, none⟩ = some cs[j] := by
  simp [World.cell?, h, hj]
theorem free_of_blk {w : World} {b : Nat} {cs : Array Value} {t : TypeId} (h : w.heap[b]? = some (.cells cs t (0, 0))) (j : Nat) : w.frozen? ⟨b, j, none⟩ = false := by
  simp [World.frozen?, h]

theorem WrAt.lt {w : World} {b : Nat} {v : Value} {lim : Int} {l : List UInt8} {er : Int} (h : WrAt w b v lim l er) : b < w.heap.size := lt_of_blk h.blk
theorem WrAt.c0 {w : World} {b : Nat} {v : Value} {lim : Int} {l : List UInt8} {er : Int} (h : WrAt w b v lim l er) : w.cell? ⟨b, 0, none⟩ = some (.int .i64 lim) := cell_of_blk h.blk 0 (by simp)
theorem WrAt.c1 {w : World} {b : Nat} {v : Value} {lim : Int} {l : List UInt8} {er : Int} (h : WrAt w b v lim l er) : w.cell? ⟨b, 1, none⟩ = some v := cell_of_blk h.blk 1 (by simp)
theorem WrAt.c2 {w : World} {b : Nat} {v : Value} {lim : Int} {l : List UInt8} {er : Int} (h : WrAt w b v lim l er) : w.cell? ⟨b, 2, none⟩ = some (.int .i64 er) := cell_of_blk h.blk 2 (by simp)
theorem WrAt.fr {w : World} {b : Nat} {v : Value} {lim : Int} {l : List UInt8} {er : Int} (h : WrAt w b v lim l er) (j : Nat) : w.frozen? ⟨b, j, none⟩ = false := free_of_blk h.blk j

/-- A reader at block b: what is left, whether it fell short. -/
def RdAt (w : World) (b : Nat) (s : ByteArray) (sh : Bool) : Prop := w.heap[b]? = some (.cells #[.string s, .bool sh] 121 (0, 0))

end Go.Proofs.YtecidbdbdnnglaaGreat

/- Plain facts on numbers and bytes. -/
namespace Go.Proofs.YtecidbdbdnnglaaGreat
open Go.RowKit

/-- The number that bytes make, the greatest first. -/
def val (l : List UInt8) : Nat := l.foldl (fun n c => n * 256 + c.toNat) 0
theorem val_snoc (l : List UInt8) (c : UInt8) : val (l ++ [c]) = val l * 256 + c.toNat := by simp [val, List.foldl_append]
theorem val_lt (l : List UInt8) : val l < 256 ^ l.length := by
  rw [← List.reverse_reverse l]
  generalize l.reverse = r
  induction r with
  | nil => simp [val]
  | cons c r ih =>
    rw [List.reverse_cons, val_snoc, List.length_append, List.length_singleton, Nat.pow_succ]
    have := c.toNat_lt
    omega
theorem take_snoc (s : ByteArray) (k : Nat) (h : k < s.size) : s.data.toList.take (k + 1) = s.data.toList.take k ++ [s[k]] := by
  rw [List.take_succ_eq_append_getElem (by simpa using h)]; rfl
theorem or_add (a c : Nat) (hc : c < 256) : a * 256 ||| c = a * 256 + c := by
  have := Nat.two_pow_add_eq_or_of_lt (i := 8) hc a
  rw [Nat.mul_comm] at this
  simpa using this.symm
theorem or_val (a : Nat) (c : UInt8) (ha : a < 72057594037927936) :
    bits BinOp.or IntKind.u64 (IntKind.u64.wrap ((a : Int) * 256)) (IntKind.u64.wrap (c.toNat : Int)) = ((a * 256 + c.toNat : Nat) : Int) := by
  have hc := c.toNat_lt
  have e1 : IntKind.u64.wrap ((a : Int) * 256) = ((a * 256 : Nat) : Int) := by simp only [IntKind.wrap_u64]; omega
  have e2 : IntKind.u64.wrap (c.toNat : Int) = ((c.toNat : Nat) : Int) := by simp only [IntKind.wrap_u64]; omega
  rw [e1, e2, u64_or_nat _ _ (by omega) (by omega), or_add _ _ (by omega)]

theorem extract_list (s : ByteArray) (a b : Nat) : (s.extract a b).data.toList = (s.data.toList.take b).drop a := by
  simp [ByteArray.data_extract, List.drop_take]

theorem be_snoc (s n : Nat) : be (s + 1) n = be s (n / 256) ++ [UInt8.ofNat n] := by
  induction s with
  | zero => simp [be]
  | succ s ih =>
    rw [be, ih, be, List.cons_append, Nat.div_div_eq_div_mul, Nat.pow_succ, Nat.mul_comm (256 ^ s) 256]
/-- Bytes of a number read again make the number. -/
theorem val_be (s n : Nat) : val (be s n) = n % 256 ^ s := by
  induction s generalizing n with
  | zero => simp [be, val, Nat.mod_one]
  | succ s ih =>
    have e : (UInt8.ofNat n).toNat = n % 256 := by simp
    rw [be_snoc, val_snoc, ih, e, Nat.pow_succ, Nat.mul_comm (256 ^ s) 256, Nat.mod_mul]
    omega
/-- A number's bytes are those that made it. -/
theorem be_val (l : List UInt8) : be l.length (val l) = l := by
  rw [← List.reverse_reverse l]
  generalize l.reverse = r
  induction r with
  | nil => rfl
  | cons c r ih =>
    have hc := c.toNat_lt
    rw [List.reverse_cons, val_snoc, List.length_append, List.length_singleton, be_snoc]
    have e1 : (val r.reverse * 256 + c.toNat) / 256 = val r.reverse := by omega
    have e2 : UInt8.ofNat (val r.reverse * 256 + c.toNat) = c := by
      apply UInt8.toNat_inj.1
      have e : ∀ n, (UInt8.ofNat n).toNat = n % 256 := fun n => by simp
      rw [e]
      omega
    rw [e1, e2, ih]

end Go.Proofs.YtecidbdbdnnglaaGreat

/- The contracts of package pack's readers. -/
namespace Go.Proofs.YtecidbdbdnnglaaGreat
open Go.RowKit

theorem RdAt.lt {w : World} {b : Nat} {s : ByteArray} {sh : Bool} (h : RdAt w b s sh) : b < w.heap.size := lt_of_blk h
theorem RdAt.c0 {w : World} {b : Nat} {s : ByteArray} {sh : Bool} (h : RdAt w b s sh) : w.cell? ⟨b, 0, none⟩ = some (.string s) := cell_of_blk h 0 (by simp)
theorem RdAt.c1 {w : World} {b : Nat} {s : ByteArray} {sh : Bool} (h : RdAt w b s sh) : w.cell? ⟨b, 1, none⟩ = some (.bool sh) := cell_of_blk h 1 (by simp)
theorem RdAt.fr {w : World} {b : Nat} {s : ByteArray} {sh : Bool} (h : RdAt w b s sh) (j : Nat) : w.frozen? ⟨b, j, none⟩ = false := free_of_blk h j

theorem ret_int {k : IntKind} {a b : Int} (h : a = b) : Ending.returned (.int k a) = .returned (.int k b) := by rw [h]

set_option maxHeartbeats 400000 in
theorem read_any (s : ByteArray) (w : World) :
    Calls Tryz.prog 35 #[.string s] w fun e w' => e = .returned (.pointer (some ⟨w.heap.size, 0, none⟩)) ∧ w' = w.alloc (.cells #[.string s, .bool false] 121) := by
  go_enter Tryz.func35, Tryz.ntmps35
  go_wp2
  go_ret
  exact ⟨rfl, rfl⟩

def endOf (s : ByteArray) (sh : Bool) : Int := if sh then 2 else if 0 < s.size then 5 else 0

set_option maxHeartbeats 400000 in
theorem end_any (b : Nat) (s : ByteArray) (sh : Bool) (w : World) (h : RdAt w b s sh) :
    Calls Tryz.prog 44 #[.pointer (some ⟨b, 0, none⟩)] w fun e w' => e = .returned (.int .i64 (endOf s sh)) ∧ w' = w := by
  have c0 := h.c0
  have c1 := h.c1
  cases sh with
  | true =>
    go_enter Tryz.func44, Tryz.ntmps44
    go_wp2
    go_ret
    exact ⟨rfl, rfl⟩
  | false =>
    by_cases hs : 0 < s.size
    · go_enter Tryz.func44, Tryz.ntmps44
      go_wp2
      go_ret
      exact ⟨by simp [endOf, hs], rfl⟩
    · go_enter Tryz.func44, Tryz.ntmps44
      go_wp2
      go_ret
      exact ⟨by simp [endOf, hs], rfl⟩

theorem end_nil (w : World) : Calls Tryz.prog 44 #[.pointer none] w fun e w' => e = .returned (.int .i64 1) ∧ w' = w := by
  go_enter Tryz.func44, Tryz.ntmps44
  go_wp2
  go_ret
  exact ⟨rfl, rfl⟩

/-- A reader behind one store. -/
theorem RdAt.short {w : World} {b : Nat} {s : ByteArray} {sh : Bool} (h : RdAt w b s sh) (u : Bool) : RdAt (w.setCell ⟨b, 1, none⟩ (.bool u)) b s u := by
  unfold RdAt at h ⊢
  simp [World.setCell, Array.getElem?_modify, h]
theorem RdAt.rest {w : World} {b : Nat} {s : ByteArray} {sh : Bool} (h : RdAt w b s sh) (u : ByteArray) : RdAt (w.setCell ⟨b, 0, none⟩ (.string u)) b u sh := by
  unfold RdAt at h ⊢
  simp [World.setCell, Array.getElem?_modify, h]

/-- has: it says yes where there are enough bytes and it never fell short; else it falls short. -/
def hasB (s : ByteArray) (sh : Bool) (n : Int) : Bool := !sh && decide (n ≤ s.size)

set_option maxHeartbeats 400000 in
theorem has_any (b : Nat) (s : ByteArray) (sh : Bool) (n : Int) (w : World) (h : RdAt w b s sh) :
    Calls Tryz.prog 83 #[.pointer (some ⟨b, 0, none⟩), .int .i64 n] w fun e w' => e = .returned (.bool (hasB s sh n)) ∧ RdAt w' b s (sh || decide ((s.size : Int) < n)) ∧ Kept b none w w' := by
  have c0 := h.c0
  have c1 := h.c1
  have f1 := h.fr 1
  by_cases hn : (s.size : Int) < n
  · go_enter Tryz.func83, Tryz.ntmps83
    go_wp2
    go_ret
    exact ⟨by simp [hasB]; omega, by simpa [hn] using h.short true, (Kept.refl _ _ _).setCell _ _⟩
  · go_enter Tryz.func83, Tryz.ntmps83
    go_wp2
    go_ret
    have hle : n ≤ (s.size : Int) := by omega
    have hd : decide ((s.size : Int) < n) = false := by simp; omega
    exact ⟨by simp [hasB, hle], by rw [hd, Bool.or_false]; exact h, Kept.refl _ _ _⟩

theorem has_nil (n : Int) (w : World) : Calls Tryz.prog 83 #[.pointer none, .int .i64 n] w fun e w' => e = .returned (.bool false) ∧ w' = w := by
  go_enter Tryz.func83, Tryz.ntmps83
  go_wp2
  go_ret
  exact ⟨rfl, rfl⟩

set_option maxHeartbeats 400000 in
theorem take_any (b : Nat) (s : ByteArray) (sh : Bool) (n : Nat) (w : World) (h : RdAt w b s sh) (hn : n ≤ s.size) :
    Calls Tryz.prog 85 #[.pointer (some ⟨b, 0, none⟩), .int .i64 n] w fun e w' => e = .returned (.string (s.extract 0 n)) ∧ w' = w.setCell ⟨b, 0, none⟩ (.string (s.extract n s.size)) := by
  have c0 := h.c0
  have f0 := h.fr 0
  have hn0 : (0 : Int) ≤ (n : Int) := Int.natCast_nonneg _
  have hn1 : (n : Int) ≤ (s.size : Int) := by omega
  go_enter Tryz.func85, Tryz.ntmps85
  go_wp2
  go_ret
  exact ⟨rfl, rfl⟩

set_option maxHeartbeats 400000 in
theorem value_any (s : ByteArray) (w : World) (hs : s.size ≤ 8) :
    Calls Tryz.prog 84 #[.string s] w fun e w' => e = .returned (.int .u64 (val s.data.toList)) ∧ w' = w := by
  go_enter Tryz.func84, Tryz.ntmps84
  go_wp2
  go_loop [3, 7] (fun n i => ∃ k : Nat, k ≤ s.size ∧ i = .int .i64 k ∧ n = .int .u64 (val (s.data.toList.take k))) (fun _ i => s.size - (intOf i).toNat)
  case atStart => exact ⟨0, Nat.zero_le _, rfl, rfl⟩
  case round =>
    obtain ⟨k, hk, rfl, rfl⟩ := hrel
    by_cases hlt : k < s.size
    · have hv := val_lt (s.data.toList.take k)
      have hl : (s.data.toList.take k).length = k := by simp; have : s.data.size = s.size := rfl; omega
      have hv2 : val (s.data.toList.take k) < 72057594037927936 := by
        rw [hl] at hv
        exact Nat.lt_of_lt_of_le hv (Nat.le_trans (Nat.pow_le_pow_right (by decide) (show k ≤ 7 by omega)) (by decide))
      have HV : Hid (val (s.data.toList.take k) < 72057594037927936) := hv2
      clear hv hl hv2
      go_wp2
      go_round
      case rel => exact ⟨k + 1, by omega, by go_num, by rw [or_val _ _ HV.out, take_snoc s k hlt, val_snoc]⟩
      case measure => simp [intOf]; omega
    · go_wp2
      go_ret
      exact ⟨ret_int (by rw [List.take_of_length_le (by simp; have : s.data.size = s.size := rfl; omega)]), rfl⟩

/-- What is read next as a number of n bytes; what is left; whether it fell short. -/
def rN (s : ByteArray) (sh : Bool) (n : Nat) : Nat := if hasB s sh n then val (s.data.toList.take n) else 0
def rS (s : ByteArray) (sh : Bool) (n : Nat) : ByteArray := if hasB s sh n then s.extract n s.size else s
def rB (s : ByteArray) (sh : Bool) (n : Nat) : Bool := !hasB s sh n

set_option maxHeartbeats 400000 in
theorem number_yes (b : Nat) (s : ByteArray) (n : Nat) (w : World) (h : RdAt w b s false) (hn : n ≤ s.size) (h8 : n ≤ 8) :
    Calls Tryz.prog 81 #[.pointer (some ⟨b, 0, none⟩), .int .i64 n] w fun e w' => e = .returned (.int .u64 (val (s.data.toList.take n))) ∧ RdAt w' b (s.extract n s.size) false ∧ Kept b none w w' := by
  have hb : hasB s false n = true := by simp [hasB]; omega
  have hd : decide ((s.size : Int) < (n : Int)) = false := by simp; omega
  have hx : (s.extract 0 n).size ≤ 8 := by simp; omega
  go_enter Tryz.func81, Tryz.ntmps81
  go_wp2_with (first | (go_at_call 83; refine (has_any b s false n _ h).mono ?_; rintro e w1 ⟨rfl, hr, hk⟩) | (go_at_call 85; refine (take_any b s _ n _ hr hn).mono ?_; rintro e w2 ⟨rfl, rfl⟩) | (go_at_call 84; refine (value_any _ _ hx).mono ?_; rintro e w3 ⟨rfl, rfl⟩))
  go_ret
  refine ⟨rfl, ?_, hk.setCell _ _⟩
  have hr2 : RdAt w1 b s false := by rw [hd] at hr; exact hr
  exact hr2.rest _

set_option maxHeartbeats 400000 in
theorem number_no (b : Nat) (s : ByteArray) (sh : Bool) (n : Nat) (w : World) (h : RdAt w b s sh) (hn : hasB s sh n = false) :
    Calls Tryz.prog 81 #[.pointer (some ⟨b, 0, none⟩), .int .i64 n] w fun e w' => e = .returned (.int .u64 0) ∧ RdAt w' b s true ∧ Kept b none w w' := by
  have hd : (sh || decide ((s.size : Int) < (n : Int))) = true := by simp [hasB] at hn ⊢; cases sh <;> simp at hn ⊢; omega
  have HD : Hid ((sh || decide ((s.size : Int) < (n : Int))) = true) := hd
  clear hd
  go_enter Tryz.func81, Tryz.ntmps81
  go_wp2_with (first | (go_at_call 83; refine (has_any b s sh n _ h).mono ?_; rintro e w1 ⟨rfl, hr, hk⟩))
  go_ret
  exact ⟨rfl, by rw [HD.out] at hr; exact hr, hk⟩

theorem number_any (b : Nat) (s : ByteArray) (sh : Bool) (n : Nat) (w : World) (h : RdAt w b s sh) (h8 : n ≤ 8) :
    Calls Tryz.prog 81 #[.pointer (some ⟨b, 0, none⟩), .int .i64 n] w fun e w' => e = .returned (.int .u64 (rN s sh n)) ∧ RdAt w' b (rS s sh n) (rB s sh n) ∧ Kept b none w w' := by
  unfold rN rS rB
  cases hb : hasB s sh n with
  | true =>
    have h1 : sh = false := by cases sh <;> simp [hasB] at hb ⊢
    subst h1
    exact number_yes b s n w h (by simp [hasB] at hb; omega) h8
  | false => exact number_no b s sh n w h hb

theorem number_nil (n : Int) (w : World) : Calls Tryz.prog 81 #[.pointer none, .int .i64 n] w fun e w' => e = .returned (.int .u64 0) ∧ w' = w := by
  go_enter Tryz.func81, Tryz.ntmps81
  go_wp2_with (go_at_call 83; refine (has_nil _ _).mono ?_; rintro e w1 ⟨rfl, rfl⟩)
  go_ret
  exact ⟨rfl, rfl⟩

theorem rN_lt (s : ByteArray) (sh : Bool) (n : Nat) : rN s sh n < 256 ^ n := by
  unfold rN
  split
  · have := val_lt (s.data.toList.take n)
    exact Nat.lt_of_lt_of_le this (Nat.pow_le_pow_right (by decide) (by simp; omega))
  · exact Nat.pow_pos (by decide)
theorem rN_i (s : ByteArray) (sh : Bool) (n : Nat) (hn : 256 ^ n ≤ 4294967296) : (rN s sh n : Int) ≤ 4294967295 := by
  have := rN_lt s sh n
  omega

set_option maxHeartbeats 400000 in
theorem rbyte_any (b : Nat) (s : ByteArray) (sh : Bool) (w : World) (h : RdAt w b s sh) :
    Calls Tryz.prog 36 #[.pointer (some ⟨b, 0, none⟩)] w fun e w' => e = .returned (.int .i64 (rN s sh 1)) ∧ RdAt w' b (rS s sh 1) (rB s sh 1) ∧ Kept b none w w' := by
  have hc : Calls Tryz.prog 81 #[.pointer (some ⟨b, 0, none⟩), .int .i64 1] w fun e w' => e = .returned (.int .u64 (rN s sh 1)) ∧ RdAt w' b (rS s sh 1) (rB s sh 1) ∧ Kept b none w w' := number_any b s sh 1 w h (by decide)
  have hv2 := rN_i s sh 1 (by decide)
  go_enter Tryz.func36, Tryz.ntmps36
  go_wp2_with (go_at_call 81; refine hc.mono ?_; rintro e w1 ⟨rfl, hr, hk⟩)
  go_ret
  exact ⟨rfl, hr, hk⟩

theorem rbyte_nil (w : World) : Calls Tryz.prog 36 #[.pointer none] w fun e w' => e = .returned (.int .i64 0) ∧ w' = w := by
  go_enter Tryz.func36, Tryz.ntmps36
  go_wp2_with (go_at_call 81; refine (number_nil _ _).mono ?_; rintro e w1 ⟨rfl, rfl⟩)
  go_ret
  exact ⟨rfl, rfl⟩

set_option maxHeartbeats 400000 in
theorem rword_any (b : Nat) (s : ByteArray) (sh : Bool) (w : World) (h : RdAt w b s sh) :
    Calls Tryz.prog 82 #[.pointer (some ⟨b, 0, none⟩)] w fun e w' => e = .returned (.int .i64 (rN s sh 2)) ∧ RdAt w' b (rS s sh 2) (rB s sh 2) ∧ Kept b none w w' := by
  have hc : Calls Tryz.prog 81 #[.pointer (some ⟨b, 0, none⟩), .int .i64 2] w fun e w' => e = .returned (.int .u64 (rN s sh 2)) ∧ RdAt w' b (rS s sh 2) (rB s sh 2) ∧ Kept b none w w' := number_any b s sh 2 w h (by decide)
  have hv2 := rN_i s sh 2 (by decide)
  go_enter Tryz.func82, Tryz.ntmps82
  go_wp2_with (go_at_call 81; refine hc.mono ?_; rintro e w1 ⟨rfl, hr, hk⟩)
  go_ret
  exact ⟨rfl, hr, hk⟩

theorem rword_nil (w : World) : Calls Tryz.prog 82 #[.pointer none] w fun e w' => e = .returned (.int .i64 0) ∧ w' = w := by
  go_enter Tryz.func82, Tryz.ntmps82
  go_wp2_with (go_at_call 81; refine (number_nil _ _).mono ?_; rintro e w1 ⟨rfl, rfl⟩)
  go_ret
  exact ⟨rfl, rfl⟩

set_option maxHeartbeats 400000 in
theorem rlong_any (b : Nat) (s : ByteArray) (sh : Bool) (w : World) (h : RdAt w b s sh) :
    Calls Tryz.prog 40 #[.pointer (some ⟨b, 0, none⟩)] w fun e w' => e = .returned (.int .i64 (rN s sh 4)) ∧ RdAt w' b (rS s sh 4) (rB s sh 4) ∧ Kept b none w w' := by
  have hc : Calls Tryz.prog 81 #[.pointer (some ⟨b, 0, none⟩), .int .i64 4] w fun e w' => e = .returned (.int .u64 (rN s sh 4)) ∧ RdAt w' b (rS s sh 4) (rB s sh 4) ∧ Kept b none w w' := number_any b s sh 4 w h (by decide)
  have hv2 := rN_i s sh 4 (by decide)
  go_enter Tryz.func40, Tryz.ntmps40
  go_wp2_with (go_at_call 81; refine hc.mono ?_; rintro e w1 ⟨rfl, hr, hk⟩)
  go_ret
  exact ⟨rfl, hr, hk⟩

theorem rlong_nil (w : World) : Calls Tryz.prog 40 #[.pointer none] w fun e w' => e = .returned (.int .i64 0) ∧ w' = w := by
  go_enter Tryz.func40, Tryz.ntmps40
  go_wp2_with (go_at_call 81; refine (number_nil _ _).mono ?_; rintro e w1 ⟨rfl, rfl⟩)
  go_ret
  exact ⟨rfl, rfl⟩

set_option maxHeartbeats 400000 in
theorem rbits_any (b : Nat) (s : ByteArray) (sh : Bool) (w : World) (h : RdAt w b s sh) :
    Calls Tryz.prog 87 #[.pointer (some ⟨b, 0, none⟩)] w fun e w' => e = .returned (.int .u64 (rN s sh 8)) ∧ RdAt w' b (rS s sh 8) (rB s sh 8) ∧ Kept b none w w' := by
  have hc : Calls Tryz.prog 81 #[.pointer (some ⟨b, 0, none⟩), .int .i64 8] w fun e w' => e = .returned (.int .u64 (rN s sh 8)) ∧ RdAt w' b (rS s sh 8) (rB s sh 8) ∧ Kept b none w w' := number_any b s sh 8 w h (by decide)
  go_enter Tryz.func87, Tryz.ntmps87
  go_wp2_with (go_at_call 81; refine hc.mono ?_; rintro e w1 ⟨rfl, hr, hk⟩)
  go_ret
  exact ⟨rfl, hr, hk⟩

theorem rbits_nil (w : World) : Calls Tryz.prog 87 #[.pointer none] w fun e w' => e = .returned (.int .u64 0) ∧ w' = w := by
  go_enter Tryz.func87, Tryz.ntmps87
  go_wp2_with (go_at_call 81; refine (number_nil _ _).mono ?_; rintro e w1 ⟨rfl, rfl⟩)
  go_ret
  exact ⟨rfl, rfl⟩

end Go.Proofs.YtecidbdbdnnglaaGreat

/- The contract of package pack's reader of texts. -/
namespace Go.Proofs.YtecidbdbdnnglaaGreat
open Go.RowKit

theorem take_at (b : Nat) (s : ByteArray) (sh : Bool) (n : Nat) (z : Int) (hz : z = n) (w : World) (h : RdAt w b s sh) (hn : n ≤ s.size) :
    Calls Tryz.prog 85 #[.pointer (some ⟨b, 0, none⟩), .int .i64 z] w fun e w' => e = .returned (.string (s.extract 0 n)) ∧ w' = w.setCell ⟨b, 0, none⟩ (.string (s.extract n s.size)) := by
  subst hz
  exact take_any b s sh n w h hn

/-- A string's bytes as a slice, and back: the string. -/
theorem back_conv (w : World) (x : ByteArray) (cap : Nat) (fr : Nat × Nat) :
    (convert 124 9 (.slice (some ⟨w.heap.size, 0, none⟩) x.size cap)).run Tryz.prog (w.alloc (.cells (bytesRow x cap) 5 fr)).drew = .ok (.string x) (w.alloc (.cells (bytesRow x cap) 5 fr)).drew := by
  have h := run_convert_bytes_back (P := Tryz.prog) (w.alloc (.cells (bytesRow x cap) 5 fr)).drew 124 9 5 ⟨w.heap.size, 0, none⟩ cap x.data.toList Tryz.underlying124 Tryz.underlying5 Tryz.underlying9 (fun j hj => by
    show (w.alloc (.cells (bytesRow x cap) 5 fr)).cell? ((⟨w.heap.size, 0, none⟩ : Addr).add j) = _
    rw [Addr.add_lit, Nat.zero_add, World.cell?_alloc_mark, bytesRow_at x _ j (by simpa using hj)]
    simp)
  simpa using h

/-- Can a text be read next? -/
def tOK (s : ByteArray) (sh : Bool) : Bool := hasB s sh 2 && decide (2 + val (s.data.toList.take 2) ≤ s.size)
def tT (s : ByteArray) (sh : Bool) : ByteArray := if tOK s sh then s.extract 2 (2 + val (s.data.toList.take 2)) else ⟨#[]⟩
def tS (s : ByteArray) (sh : Bool) : ByteArray := if tOK s sh then s.extract (2 + val (s.data.toList.take 2)) s.size else s
def tB (s : ByteArray) (sh : Bool) : Bool := !tOK s sh

set_option maxHeartbeats 800000 in
theorem rtext_yes (b : Nat) (s : ByteArray) (w : World) (h : RdAt w b s false) (m : Nat) (hm : val (s.data.toList.take 2) = m) (h2 : 2 + m ≤ s.size) (hm2 : m ≤ 65535) :
    Calls Tryz.prog 38 #[.pointer (some ⟨b, 0, none⟩)] w fun e w' => e = .returned (.string (s.extract 2 (2 + m))) ∧ RdAt w' b (s.extract (2 + m) s.size) false ∧ Kept b none w w' := by
  have hb : hasB s false 2 = true := by simp [hasB]; omega
  have hb2 : hasB s false (2 + m) = true := by simp [hasB]; omega
  have hd : decide ((s.size : Int) < 2) = false := by simp; omega
  have hd2 : decide ((s.size : Int) < 2 + (m : Int)) = false := by simp; omega
  have hx : (s.extract 0 2).size ≤ 8 := by simp; omega
  have hx2 : val (s.extract 0 2).data.toList = m := by rw [extract_list]; simpa using hm
  have hv : ∀ w, Calls Tryz.prog 84 #[.string (s.extract 0 2)] w fun e w' => e = .returned (.int .u64 m) ∧ w' = w := fun w => by
    have := value_any (s.extract 0 2) w hx
    rw [hx2] at this
    exact this
  have HV : Hid (∀ w, Calls Tryz.prog 84 #[.string (s.extract 0 2)] w fun e w' => e = .returned (.int .u64 m) ∧ w' = w) := hv
  have hcv := fun (w : World) (x : ByteArray) => run_bytes_of_string (P := Tryz.prog) w 9 124 5 x Tryz.underlying9 Tryz.underlying124 Tryz.underlying5
  have hxe : (s.extract 0 (2 + m)).extract 2 (2 + m) = s.extract 2 (2 + m) := by
    apply ByteArray.ext
    apply Array.toList_inj.1
    rw [extract_list, extract_list, extract_list]
    simp [List.take_take]
  have hxs : (s.extract 2 (2 + m)).size = m := by simp; omega
  have hbk : ∀ (w : World) (cap : Nat) (fr : Nat × Nat), (convert 124 9 (.slice (some ⟨w.heap.size, 0, none⟩) m cap)).run Tryz.prog (w.alloc (.cells (bytesRow ((s.extract 0 (2 + m)).extract 2 (2 + m)) cap) 5 fr)).drew = .ok (.string (s.extract 2 (2 + m))) (w.alloc (.cells (bytesRow ((s.extract 0 (2 + m)).extract 2 (2 + m)) cap) 5 fr)).drew := fun w cap fr => by
    have := back_conv w (s.extract 2 (2 + m)) cap fr
    rw [hxs] at this
    rw [hxe]
    exact this
  clear hxe hxs
  clear hx hx2 hm hv
  go_enter Tryz.func38, Tryz.ntmps38
  go_wp2_with fail
  refine (has_any b s false 2 _ h).mono ?_
  rintro e w1 ⟨rfl, hr, hk⟩
  have hr1 : RdAt w1 b s false := by rw [hd] at hr; exact hr
  clear hr
  have c0 := hr1.c0
  go_wp2_with fail
  refine (HV.out _).mono ?_
  rintro e w2 ⟨rfl, rfl⟩
  go_wp2_with fail
  refine (has_any b s false (2 + m) _ hr1).mono ?_
  rintro e w2 ⟨rfl, hr, hk2⟩
  have hr2 : RdAt w2 b s false := by rw [hd2] at hr; exact hr
  clear hr hr1 c0
  go_wp2_with fail
  refine (take_at b s false (2 + m) _ (by omega) _ hr2 h2).mono ?_
  rintro e w3 ⟨rfl, hw3⟩
  have hr3 : RdAt w3 b (s.extract (2 + m) s.size) false := by rw [hw3]; exact hr2.rest _
  have hk3 : Kept b none w w3 := by rw [hw3]; exact (hk.trans hk2 (.inl rfl)).setCell _ _
  clear hw3
  go_wp2
  go_ret
  refine ⟨rfl, ?_, (hk3.alloc _).drew⟩
  show RdAt _ _ _ _
  unfold RdAt at hr3 ⊢
  exact (Below.heap_alloc _ _ _ (lt_of_blk hr3)).trans hr3

set_option maxHeartbeats 800000 in
theorem rtext_short (b : Nat) (s : ByteArray) (w : World) (h : RdAt w b s false) (m : Nat) (hm : val (s.data.toList.take 2) = m) (h0 : 2 ≤ s.size) (h2 : s.size < 2 + m) (hm2 : m ≤ 65535) :
    Calls Tryz.prog 38 #[.pointer (some ⟨b, 0, none⟩)] w fun e w' => e = .returned (.string ⟨#[]⟩) ∧ RdAt w' b s true ∧ Kept b none w w' := by
  have hb : hasB s false 2 = true := by simp [hasB]; omega
  have hb2 : hasB s false (2 + m) = false := by simp [hasB]; omega
  have hd : decide ((s.size : Int) < 2) = false := by simp; omega
  have hd2 : decide ((s.size : Int) < 2 + (m : Int)) = true := by simp; omega
  have hx : (s.extract 0 2).size ≤ 8 := by simp; omega
  have hx2 : val (s.extract 0 2).data.toList = m := by rw [extract_list]; simpa using hm
  have hv : ∀ w, Calls Tryz.prog 84 #[.string (s.extract 0 2)] w fun e w' => e = .returned (.int .u64 m) ∧ w' = w := fun w => by
    have := value_any (s.extract 0 2) w hx
    rw [hx2] at this
    exact this
  have HV : Hid (∀ w, Calls Tryz.prog 84 #[.string (s.extract 0 2)] w fun e w' => e = .returned (.int .u64 m) ∧ w' = w) := hv
  clear hx hx2 hm hv
  go_enter Tryz.func38, Tryz.ntmps38
  go_wp2_with fail
  refine (has_any b s false 2 _ h).mono ?_
  rintro e w1 ⟨rfl, hr, hk⟩
  have hr1 : RdAt w1 b s false := by rw [hd] at hr; exact hr
  clear hr
  have c0 := hr1.c0
  go_wp2_with fail
  refine (HV.out _).mono ?_
  rintro e w2 ⟨rfl, rfl⟩
  go_wp2_with fail
  refine (has_any b s false (2 + m) _ hr1).mono ?_
  rintro e w2 ⟨rfl, hr, hk2⟩
  have hr2 : RdAt w2 b s true := by rw [hd2] at hr; exact hr
  go_wp2
  go_ret
  exact ⟨rfl, hr2, hk.trans hk2 (.inl rfl)⟩

set_option maxHeartbeats 800000 in
theorem rtext_no (b : Nat) (s : ByteArray) (sh : Bool) (w : World) (h : RdAt w b s sh) (hn : hasB s sh 2 = false) :
    Calls Tryz.prog 38 #[.pointer (some ⟨b, 0, none⟩)] w fun e w' => e = .returned (.string ⟨#[]⟩) ∧ RdAt w' b s true ∧ Kept b none w w' := by
  have hd : (sh || decide ((s.size : Int) < 2)) = true := by simp [hasB] at hn ⊢; cases sh <;> simp at hn ⊢; omega
  have HD : Hid ((sh || decide ((s.size : Int) < 2)) = true) := hd
  clear hd
  go_enter Tryz.func38, Tryz.ntmps38
  go_wp2_with (first | (go_at_call 83; refine (has_any b s sh 2 _ h).mono ?_; rintro e w1 ⟨rfl, hr, hk⟩))
  go_ret
  exact ⟨rfl, by rw [HD.out] at hr; exact hr, hk⟩

theorem rtext_nil (w : World) : Calls Tryz.prog 38 #[.pointer none] w fun e w' => e = .returned (.string ⟨#[]⟩) ∧ w' = w := by
  go_enter Tryz.func38, Tryz.ntmps38
  go_wp2_with (go_at_call 83; refine (has_nil _ _).mono ?_; rintro e w1 ⟨rfl, rfl⟩)
  go_ret
  exact ⟨rfl, rfl⟩

theorem rtext_any (b : Nat) (s : ByteArray) (sh : Bool) (w : World) (h : RdAt w b s sh) :
    Calls Tryz.prog 38 #[.pointer (some ⟨b, 0, none⟩)] w fun e w' => e = .returned (.string (tT s sh)) ∧ RdAt w' b (tS s sh) (tB s sh) ∧ Kept b none w w' := by
  have hm2 : val (s.data.toList.take 2) ≤ 65535 := by
    have := val_lt (s.data.toList.take 2)
    have h3 : 256 ^ (s.data.toList.take 2).length ≤ 256 ^ 2 := Nat.pow_le_pow_right (by decide) (by simp; omega)
    have h4 : (256 : Nat) ^ 2 = 65536 := by decide
    omega
  unfold tT tS tB tOK
  cases hb : hasB s sh 2 with
  | false => simpa using rtext_no b s sh w h hb
  | true =>
    have h1 : sh = false := by cases sh <;> simp [hasB] at hb ⊢
    subst h1
    have h0 : 2 ≤ s.size := by simp [hasB] at hb; omega
    by_cases h2 : 2 + val (s.data.toList.take 2) ≤ s.size
    · simpa [h2] using rtext_yes b s w h _ rfl h2 hm2
    · simpa [h2] using rtext_short b s w h _ rfl h0 (by omega) hm2

end Go.Proofs.YtecidbdbdnnglaaGreat
