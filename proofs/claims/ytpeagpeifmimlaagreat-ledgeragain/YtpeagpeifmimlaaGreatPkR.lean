/- The contracts of package pack's readers. -/
import Derived.Test.YtpeagpeifmimlaaGreatPkM
namespace Go.Proofs.YtpeagpeifmimlaaGreat
open Go.RowKit

theorem RdAt.lt {w : World} {b : Nat} {s : ByteArray} {sh : Bool} (h : RdAt w b s sh) : b < w.heap.size := lt_of_blk h
theorem RdAt.c0 {w : World} {b : Nat} {s : ByteArray} {sh : Bool} (h : RdAt w b s sh) : w.cell? ⟨b, 0, none⟩ = some (.string s) := cell_of_blk h 0 (by simp)
theorem RdAt.c1 {w : World} {b : Nat} {s : ByteArray} {sh : Bool} (h : RdAt w b s sh) : w.cell? ⟨b, 1, none⟩ = some (.bool sh) := cell_of_blk h 1 (by simp)
theorem RdAt.fr {w : World} {b : Nat} {s : ByteArray} {sh : Bool} (h : RdAt w b s sh) (j : Nat) : w.frozen? ⟨b, j, none⟩ = false := free_of_blk h j

theorem ret_int {k : IntKind} {a b : Int} (h : a = b) : Ending.returned (.int k a) = .returned (.int k b) := by rw [h]

set_option maxHeartbeats 400000 in
theorem read_any (s : ByteArray) (w : World) :
    Calls Tryz.prog 38 #[.string s] w fun e w' => e = .returned (.pointer (some ⟨w.heap.size, 0, none⟩)) ∧ w' = w.alloc (.cells #[.string s, .bool false] 125) := by
  go_enter Tryz.func38, Tryz.ntmps38
  go_wp2
  go_ret
  exact ⟨rfl, rfl⟩

def endOf (s : ByteArray) (sh : Bool) : Int := if sh then 2 else if 0 < s.size then 5 else 0

set_option maxHeartbeats 400000 in
theorem end_any (b : Nat) (s : ByteArray) (sh : Bool) (w : World) (h : RdAt w b s sh) :
    Calls Tryz.prog 47 #[.pointer (some ⟨b, 0, none⟩)] w fun e w' => e = .returned (.int .i64 (endOf s sh)) ∧ w' = w := by
  have c0 := h.c0
  have c1 := h.c1
  cases sh with
  | true =>
    go_enter Tryz.func47, Tryz.ntmps47
    go_wp2
    go_ret
    exact ⟨rfl, rfl⟩
  | false =>
    by_cases hs : 0 < s.size
    · go_enter Tryz.func47, Tryz.ntmps47
      go_wp2
      go_ret
      exact ⟨by simp [endOf, hs], rfl⟩
    · go_enter Tryz.func47, Tryz.ntmps47
      go_wp2
      go_ret
      exact ⟨by simp [endOf, hs], rfl⟩

theorem end_nil (w : World) : Calls Tryz.prog 47 #[.pointer none] w fun e w' => e = .returned (.int .i64 1) ∧ w' = w := by
  go_enter Tryz.func47, Tryz.ntmps47
  go_wp2
  go_ret
  exact ⟨rfl, rfl⟩

/-- A reader behind one store. -/
theorem RdAt.short {w : World} {b : Nat} {s : ByteArray} {sh : Bool} (h : RdAt w b s sh) (u : Bool) : RdAt (w.setCell ⟨b, 1, none⟩ (.bool u)) b s u := by
  unfold RdAt at h ⊢
  simp [World.setCell, Array.getElem?_modify, h]
theorem RdAt.rest {w : World} {b : Nat} {s : ByteArray} {sh : Bool} (h : RdAt w b s sh) (u : ByteArray) : RdAt (w.setCell ⟨b, 0, none⟩ (.string u)) b u sh := by
  unfold RdAt at h ⊢
  simp [World.setCell, Array.getElem?_modify, h]

/-- has: it says yes where there are enough bytes and it never fell short; else it falls short. -/
def hasB (s : ByteArray) (sh : Bool) (n : Int) : Bool := !sh && decide (n ≤ s.size)

set_option maxHeartbeats 400000 in
theorem has_any (b : Nat) (s : ByteArray) (sh : Bool) (n : Int) (w : World) (h : RdAt w b s sh) :
    Calls Tryz.prog 87 #[.pointer (some ⟨b, 0, none⟩), .int .i64 n] w fun e w' => e = .returned (.bool (hasB s sh n)) ∧ RdAt w' b s (sh || decide ((s.size : Int) < n)) ∧ Kept b none w w' := by
  have c0 := h.c0
  have c1 := h.c1
  have f1 := h.fr 1
  by_cases hn : (s.size : Int) < n
  · go_enter Tryz.func87, Tryz.ntmps87
    go_wp2
    go_ret
    exact ⟨by simp [hasB]; omega, by simpa [hn] using h.short true, (Kept.refl _ _ _).setCell _ _⟩
  · go_enter Tryz.func87, Tryz.ntmps87
    go_wp2
    go_ret
    have hle : n ≤ (s.size : Int) := by omega
    have hd : decide ((s.size : Int) < n) = false := by simp; omega
    exact ⟨by simp [hasB, hle], by rw [hd, Bool.or_false]; exact h, Kept.refl _ _ _⟩

theorem has_nil (n : Int) (w : World) : Calls Tryz.prog 87 #[.pointer none, .int .i64 n] w fun e w' => e = .returned (.bool false) ∧ w' = w := by
  go_enter Tryz.func87, Tryz.ntmps87
  go_wp2
  go_ret
  exact ⟨rfl, rfl⟩

set_option maxHeartbeats 400000 in
theorem take_any (b : Nat) (s : ByteArray) (sh : Bool) (n : Nat) (w : World) (h : RdAt w b s sh) (hn : n ≤ s.size) :
    Calls Tryz.prog 89 #[.pointer (some ⟨b, 0, none⟩), .int .i64 n] w fun e w' => e = .returned (.string (s.extract 0 n)) ∧ w' = w.setCell ⟨b, 0, none⟩ (.string (s.extract n s.size)) := by
  have c0 := h.c0
  have f0 := h.fr 0
  have hn0 : (0 : Int) ≤ (n : Int) := Int.natCast_nonneg _
  have hn1 : (n : Int) ≤ (s.size : Int) := by omega
  go_enter Tryz.func89, Tryz.ntmps89
  go_wp2
  go_ret
  exact ⟨rfl, rfl⟩

set_option maxHeartbeats 400000 in
theorem value_any (s : ByteArray) (w : World) (hs : s.size ≤ 8) :
    Calls Tryz.prog 88 #[.string s] w fun e w' => e = .returned (.int .u64 (val s.data.toList)) ∧ w' = w := by
  go_enter Tryz.func88, Tryz.ntmps88
  go_wp2
  go_loop [3, 7] (fun n i => ∃ k : Nat, k ≤ s.size ∧ i = .int .i64 k ∧ n = .int .u64 (val (s.data.toList.take k))) (fun _ i => s.size - (intOf i).toNat)
  case atStart => exact ⟨0, Nat.zero_le _, rfl, rfl⟩
  case round =>
    obtain ⟨k, hk, rfl, rfl⟩ := hrel
    by_cases hlt : k < s.size
    · have hv := val_lt (s.data.toList.take k)
      have hl : (s.data.toList.take k).length = k := by simp; have : s.data.size = s.size := rfl; omega
      have hv2 : val (s.data.toList.take k) < 72057594037927936 := by
        rw [hl] at hv
        exact Nat.lt_of_lt_of_le hv (Nat.le_trans (Nat.pow_le_pow_right (by decide) (show k ≤ 7 by omega)) (by decide))
      have HV : Hid (val (s.data.toList.take k) < 72057594037927936) := hv2
      clear hv hl hv2
      go_wp2
      go_round
      case rel => exact ⟨k + 1, by omega, by go_num, by rw [or_val _ _ HV.out, take_snoc s k hlt, val_snoc]⟩
      case measure => simp [intOf]; omega
    · go_wp2
      go_ret
      exact ⟨ret_int (by rw [List.take_of_length_le (by simp; have : s.data.size = s.size := rfl; omega)]), rfl⟩

/-- What is read next as a number of n bytes; what is left; whether it fell short. -/
def rN (s : ByteArray) (sh : Bool) (n : Nat) : Nat := if hasB s sh n then val (s.data.toList.take n) else 0
def rS (s : ByteArray) (sh : Bool) (n : Nat) : ByteArray := if hasB s sh n then s.extract n s.size else s
def rB (s : ByteArray) (sh : Bool) (n : Nat) : Bool := !hasB s sh n

set_option maxHeartbeats 400000 in
theorem number_yes (b : Nat) (s : ByteArray) (n : Nat) (w : World) (h : RdAt w b s false) (hn : n ≤ s.size) (h8 : n ≤ 8) :
    Calls Tryz.prog 85 #[.pointer (some ⟨b, 0, none⟩), .int .i64 n] w fun e w' => e = .returned (.int .u64 (val (s.data.toList.take n))) ∧ RdAt w' b (s.extract n s.size) false ∧ Kept b none w w' := by
  have hb : hasB s false n = true := by simp [hasB]; omega
  have hd : decide ((s.size : Int) < (n : Int)) = false := by simp; omega
  have hx : (s.extract 0 n).size ≤ 8 := by simp; omega
  go_enter Tryz.func85, Tryz.ntmps85
  go_wp2_with (first | (go_at_call 87; refine (has_any b s false n _ h).mono ?_; rintro e w1 ⟨rfl, hr, hk⟩) | (go_at_call 89; refine (take_any b s _ n _ hr hn).mono ?_; rintro e w2 ⟨rfl, rfl⟩) | (go_at_call 88; refine (value_any _ _ hx).mono ?_; rintro e w3 ⟨rfl, rfl⟩))
  go_ret
  refine ⟨rfl, ?_, hk.setCell _ _⟩
  have hr2 : RdAt w1 b s false := by rw [hd] at hr; exact hr
  exact hr2.rest _

set_option maxHeartbeats 400000 in
theorem number_no (b : Nat) (s : ByteArray) (sh : Bool) (n : Nat) (w : World) (h : RdAt w b s sh) (hn : hasB s sh n = false) :
    Calls Tryz.prog 85 #[.pointer (some ⟨b, 0, none⟩), .int .i64 n] w fun e w' => e = .returned (.int .u64 0) ∧ RdAt w' b s true ∧ Kept b none w w' := by
  have hd : (sh || decide ((s.size : Int) < (n : Int))) = true := by simp [hasB] at hn ⊢; cases sh <;> simp at hn ⊢; omega
  have HD : Hid ((sh || decide ((s.size : Int) < (n : Int))) = true) := hd
  clear hd
  go_enter Tryz.func85, Tryz.ntmps85
  go_wp2_with (first | (go_at_call 87; refine (has_any b s sh n _ h).mono ?_; rintro e w1 ⟨rfl, hr, hk⟩))
  go_ret
  exact ⟨rfl, by rw [HD.out] at hr; exact hr, hk⟩

theorem number_any (b : Nat) (s : ByteArray) (sh : Bool) (n : Nat) (w : World) (h : RdAt w b s sh) (h8 : n ≤ 8) :
    Calls Tryz.prog 85 #[.pointer (some ⟨b, 0, none⟩), .int .i64 n] w fun e w' => e = .returned (.int .u64 (rN s sh n)) ∧ RdAt w' b (rS s sh n) (rB s sh n) ∧ Kept b none w w' := by
  unfold rN rS rB
  cases hb : hasB s sh n with
  | true =>
    have h1 : sh = false := by cases sh <;> simp [hasB] at hb ⊢
    subst h1
    exact number_yes b s n w h (by simp [hasB] at hb; omega) h8
  | false => exact number_no b s sh n w h hb

theorem number_nil (n : Int) (w : World) : Calls Tryz.prog 85 #[.pointer none, .int .i64 n] w fun e w' => e = .returned (.int .u64 0) ∧ w' = w := by
  go_enter Tryz.func85, Tryz.ntmps85
  go_wp2_with (go_at_call 87; refine (has_nil _ _).mono ?_; rintro e w1 ⟨rfl, rfl⟩)
  go_ret
  exact ⟨rfl, rfl⟩

theorem rN_lt (s : ByteArray) (sh : Bool) (n : Nat) : rN s sh n < 256 ^ n := by
  unfold rN
  split
  · have := val_lt (s.data.toList.take n)
    exact Nat.lt_of_lt_of_le this (Nat.pow_le_pow_right (by decide) (by simp; omega))
  · exact Nat.pow_pos (by decide)
theorem rN_i (s : ByteArray) (sh : Bool) (n : Nat) (hn : 256 ^ n ≤ 4294967296) : (rN s sh n : Int) ≤ 4294967295 := by
  have := rN_lt s sh n
  omega

set_option maxHeartbeats 400000 in
theorem rbyte_any (b : Nat) (s : ByteArray) (sh : Bool) (w : World) (h : RdAt w b s sh) :
    Calls Tryz.prog 39 #[.pointer (some ⟨b, 0, none⟩)] w fun e w' => e = .returned (.int .i64 (rN s sh 1)) ∧ RdAt w' b (rS s sh 1) (rB s sh 1) ∧ Kept b none w w' := by
  have hc : Calls Tryz.prog 85 #[.pointer (some ⟨b, 0, none⟩), .int .i64 1] w fun e w' => e = .returned (.int .u64 (rN s sh 1)) ∧ RdAt w' b (rS s sh 1) (rB s sh 1) ∧ Kept b none w w' := number_any b s sh 1 w h (by decide)
  have hv2 := rN_i s sh 1 (by decide)
  go_enter Tryz.func39, Tryz.ntmps39
  go_wp2_with (go_at_call 85; refine hc.mono ?_; rintro e w1 ⟨rfl, hr, hk⟩)
  go_ret
  exact ⟨rfl, hr, hk⟩

theorem rbyte_nil (w : World) : Calls Tryz.prog 39 #[.pointer none] w fun e w' => e = .returned (.int .i64 0) ∧ w' = w := by
  go_enter Tryz.func39, Tryz.ntmps39
  go_wp2_with (go_at_call 85; refine (number_nil _ _).mono ?_; rintro e w1 ⟨rfl, rfl⟩)
  go_ret
  exact ⟨rfl, rfl⟩

set_option maxHeartbeats 400000 in
theorem rword_any (b : Nat) (s : ByteArray) (sh : Bool) (w : World) (h : RdAt w b s sh) :
    Calls Tryz.prog 86 #[.pointer (some ⟨b, 0, none⟩)] w fun e w' => e = .returned (.int .i64 (rN s sh 2)) ∧ RdAt w' b (rS s sh 2) (rB s sh 2) ∧ Kept b none w w' := by
  have hc : Calls Tryz.prog 85 #[.pointer (some ⟨b, 0, none⟩), .int .i64 2] w fun e w' => e = .returned (.int .u64 (rN s sh 2)) ∧ RdAt w' b (rS s sh 2) (rB s sh 2) ∧ Kept b none w w' := number_any b s sh 2 w h (by decide)
  have hv2 := rN_i s sh 2 (by decide)
  go_enter Tryz.func86, Tryz.ntmps86
  go_wp2_with (go_at_call 85; refine hc.mono ?_; rintro e w1 ⟨rfl, hr, hk⟩)
  go_ret
  exact ⟨rfl, hr, hk⟩

theorem rword_nil (w : World) : Calls Tryz.prog 86 #[.pointer none] w fun e w' => e = .returned (.int .i64 0) ∧ w' = w := by
  go_enter Tryz.func86, Tryz.ntmps86
  go_wp2_with (go_at_call 85; refine (number_nil _ _).mono ?_; rintro e w1 ⟨rfl, rfl⟩)
  go_ret
  exact ⟨rfl, rfl⟩

set_option maxHeartbeats 400000 in
theorem rlong_any (b : Nat) (s : ByteArray) (sh : Bool) (w : World) (h : RdAt w b s sh) :
    Calls Tryz.prog 43 #[.pointer (some ⟨b, 0, none⟩)] w fun e w' => e = .returned (.int .i64 (rN s sh 4)) ∧ RdAt w' b (rS s sh 4) (rB s sh 4) ∧ Kept b none w w' := by
  have hc : Calls Tryz.prog 85 #[.pointer (some ⟨b, 0, none⟩), .int .i64 4] w fun e w' => e = .returned (.int .u64 (rN s sh 4)) ∧ RdAt w' b (rS s sh 4) (rB s sh 4) ∧ Kept b none w w' := number_any b s sh 4 w h (by decide)
  have hv2 := rN_i s sh 4 (by decide)
  go_enter Tryz.func43, Tryz.ntmps43
  go_wp2_with (go_at_call 85; refine hc.mono ?_; rintro e w1 ⟨rfl, hr, hk⟩)
  go_ret
  exact ⟨rfl, hr, hk⟩

theorem rlong_nil (w : World) : Calls Tryz.prog 43 #[.pointer none] w fun e w' => e = .returned (.int .i64 0) ∧ w' = w := by
  go_enter Tryz.func43, Tryz.ntmps43
  go_wp2_with (go_at_call 85; refine (number_nil _ _).mono ?_; rintro e w1 ⟨rfl, rfl⟩)
  go_ret
  exact ⟨rfl, rfl⟩

set_option maxHeartbeats 400000 in
theorem rbits_any (b : Nat) (s : ByteArray) (sh : Bool) (w : World) (h : RdAt w b s sh) :
    Calls Tryz.prog 91 #[.pointer (some ⟨b, 0, none⟩)] w fun e w' => e = .returned (.int .u64 (rN s sh 8)) ∧ RdAt w' b (rS s sh 8) (rB s sh 8) ∧ Kept b none w w' := by
  have hc : Calls Tryz.prog 85 #[.pointer (some ⟨b, 0, none⟩), .int .i64 8] w fun e w' => e = .returned (.int .u64 (rN s sh 8)) ∧ RdAt w' b (rS s sh 8) (rB s sh 8) ∧ Kept b none w w' := number_any b s sh 8 w h (by decide)
  go_enter Tryz.func91, Tryz.ntmps91
  go_wp2_with (go_at_call 85; refine hc.mono ?_; rintro e w1 ⟨rfl, hr, hk⟩)
  go_ret
  exact ⟨rfl, hr, hk⟩

theorem rbits_nil (w : World) : Calls Tryz.prog 91 #[.pointer none] w fun e w' => e = .returned (.int .u64 0) ∧ w' = w := by
  go_enter Tryz.func91, Tryz.ntmps91
  go_wp2_with (go_at_call 85; refine (number_nil _ _).mono ?_; rintro e w1 ⟨rfl, rfl⟩)
  go_ret
  exact ⟨rfl, rfl⟩

end Go.Proofs.YtpeagpeifmimlaaGreat
