/- Texts laid together: PkR PkT MrR PaG PaC ShA ShB. -/
import Derived.Test.YtchlmcpnjpllnaaX02
import Derived.Laws.IdiomStrings
import Derived.BigQuiet
import Derived.Deep.QuietTactic
import Derived.Deep.WholeRow
/- The contracts of package pack's readers. -/
namespace Go.Proofs.Ytchlmcpnjpllnaa
open Go.RowKit

theorem RdAt.lt {w : World} {b : Nat} {s : ByteArray} {sh : Bool} (h : RdAt w b s sh) : b < w.heap.size := lt_of_blk h
theorem RdAt.c0 {w : World} {b : Nat} {s : ByteArray} {sh : Bool} (h : RdAt w b s sh) : w.cell? ⟨b, 0, none⟩ = some (.string s) := cell_of_blk h 0 (by simp)
theorem RdAt.c1 {w : World} {b : Nat} {s : ByteArray} {sh : Bool} (h : RdAt w b s sh) : w.cell? ⟨b, 1, none⟩ = some (.bool sh) := cell_of_blk h 1 (by simp)
theorem RdAt.fr {w : World} {b : Nat} {s : ByteArray} {sh : Bool} (h : RdAt w b s sh) (j : Nat) : w.frozen? ⟨b, j, none⟩ = false := free_of_blk h j

theorem ret_int {k : IntKind} {a b : Int} (h : a = b) : Ending.returned (.int k a) = .returned (.int k b) := by rw [h]

set_option maxHeartbeats 400000 in
theorem read_any (s : ByteArray) (w : World) :
    Calls Try.prog 34 #[.string s] w fun e w' => e = .returned (.pointer (some ⟨w.heap.size, 0, none⟩)) ∧ w' = w.alloc (.cells #[.string s, .bool false] 102) := by
  go_enter Try.func34, Try.ntmps34
  go_wp2
  go_ret
  exact ⟨rfl, rfl⟩

def endOf (s : ByteArray) (sh : Bool) : Int := if sh then 2 else if 0 < s.size then 5 else 0

set_option maxHeartbeats 400000 in
theorem end_any (b : Nat) (s : ByteArray) (sh : Bool) (w : World) (h : RdAt w b s sh) :
    Calls Try.prog 38 #[.pointer (some ⟨b, 0, none⟩)] w fun e w' => e = .returned (.int .i64 (endOf s sh)) ∧ w' = w := by
  have c0 := h.c0
  have c1 := h.c1
  cases sh with
  | true =>
    go_enter Try.func38, Try.ntmps38
    go_wp2
    go_ret
    exact ⟨rfl, rfl⟩
  | false =>
    by_cases hs : 0 < s.size
    · go_enter Try.func38, Try.ntmps38
      go_wp2
      go_ret
      exact ⟨by simp [endOf, hs], rfl⟩
    · go_enter Try.func38, Try.ntmps38
      go_wp2
      go_ret
      exact ⟨by simp [endOf, hs], rfl⟩

theorem end_nil (w : World) : Calls Try.prog 38 #[.pointer none] w fun e w' => e = .returned (.int .i64 1) ∧ w' = w := by
  go_enter Try.func38, Try.ntmps38
  go_wp2
  go_ret
  exact ⟨rfl, rfl⟩

/-- A reader behind one store. -/
theorem RdAt.short {w : World} {b : Nat} {s : ByteArray} {sh : Bool} (h : RdAt w b s sh) (u : Bool) : RdAt (w.setCell ⟨b, 1, none⟩ (.bool u)) b s u := by
  unfold RdAt at h ⊢
  simp [World.setCell, Array.getElem?_modify, h]
theorem RdAt.rest {w : World} {b : Nat} {s : ByteArray} {sh : Bool} (h : RdAt w b s sh) (u : ByteArray) : RdAt (w.setCell ⟨b, 0, none⟩ (.string u)) b u sh := by
  unfold RdAt at h ⊢
  simp [World.setCell, Array.getElem?_modify, h]

/-- has: it says yes where there are enough bytes and it never fell short; else it falls short. -/
def hasB (s : ByteArray) (sh : Bool) (n : Int) : Bool := !sh && decide (n ≤ s.size)

set_option maxHeartbeats 400000 in
theorem has_any (b : Nat) (s : ByteArray) (sh : Bool) (n : Int) (w : World) (h : RdAt w b s sh) :
    Calls Try.prog 85 #[.pointer (some ⟨b, 0, none⟩), .int .i64 n] w fun e w' => e = .returned (.bool (hasB s sh n)) ∧ RdAt w' b s (sh || decide ((s.size : Int) < n)) ∧ Kept b none w w' := by
  have c0 := h.c0
  have c1 := h.c1
  have f1 := h.fr 1
  by_cases hn : (s.size : Int) < n
  · go_enter Try.func85, Try.ntmps85
    go_wp2
    go_ret
    exact ⟨by simp [hasB]; omega, by simpa [hn] using h.short true, (Kept.refl _ _ _).setCell _ _⟩
  · go_enter Try.func85, Try.ntmps85
    go_wp2
    go_ret
    have hle : n ≤ (s.size : Int) := by omega
    have hd : decide ((s.size : Int) < n) = false := by simp; omega
    exact ⟨by simp [hasB, hle], by rw [hd, Bool.or_false]; exact h, Kept.refl _ _ _⟩

theorem has_nil (n : Int) (w : World) : Calls Try.prog 85 #[.pointer none, .int .i64 n] w fun e w' => e = .returned (.bool false) ∧ w' = w := by
  go_enter Try.func85, Try.ntmps85
  go_wp2
  go_ret
  exact ⟨rfl, rfl⟩

set_option maxHeartbeats 400000 in
theorem take_any (b : Nat) (s : ByteArray) (sh : Bool) (n : Nat) (w : World) (h : RdAt w b s sh) (hn : n ≤ s.size) :
    Calls Try.prog 87 #[.pointer (some ⟨b, 0, none⟩), .int .i64 n] w fun e w' => e = .returned (.string (s.extract 0 n)) ∧ w' = w.setCell ⟨b, 0, none⟩ (.string (s.extract n s.size)) := by
  have c0 := h.c0
  have f0 := h.fr 0
  have hn0 : (0 : Int) ≤ (n : Int) := Int.natCast_nonneg _
  have hn1 : (n : Int) ≤ (s.size : Int) := by omega
  go_enter Try.func87, Try.ntmps87
  go_wp2
  go_ret
  exact ⟨rfl, rfl⟩

set_option maxHeartbeats 400000 in
theorem value_any (s : ByteArray) (w : World) (hs : s.size ≤ 8) :
    Calls Try.prog 86 #[.string s] w fun e w' => e = .returned (.int .u64 (val s.data.toList)) ∧ w' = w := by
  go_enter Try.func86, Try.ntmps86
  go_wp2
  go_loop [3, 7] (fun n i => ∃ k : Nat, k ≤ s.size ∧ i = .int .i64 k ∧ n = .int .u64 (val (s.data.toList.take k))) (fun _ i => s.size - (intOf i).toNat)
  case atStart => exact ⟨0, Nat.zero_le _, rfl, rfl⟩
  case round =>
    obtain ⟨k, hk, rfl, rfl⟩ := hrel
    by_cases hlt : k < s.size
    · have hv := val_lt (s.data.toList.take k)
      have hl : (s.data.toList.take k).length = k := by simp; have : s.data.size = s.size := rfl; omega
      have hv2 : val (s.data.toList.take k) < 72057594037927936 := by
        rw [hl] at hv
        exact Nat.lt_of_lt_of_le hv (Nat.le_trans (Nat.pow_le_pow_right (by decide) (show k ≤ 7 by omega)) (by decide))
      have HV : Hid (val (s.data.toList.take k) < 72057594037927936) := hv2
      clear hv hl hv2
      go_wp2
      go_round
      case rel => exact ⟨k + 1, by omega, by go_num, by rw [or_val _ _ HV.out, take_snoc s k hlt, val_snoc]⟩
      case measure => simp [intOf]; omega
    · go_wp2
      go_ret
      exact ⟨ret_int (by rw [List.take_of_length_le (by simp; have : s.data.size = s.size := rfl; omega)]), rfl⟩

/-- What is read next as a number of n bytes; what is left; whether it fell short. -/
def rN (s : ByteArray) (sh : Bool) (n : Nat) : Nat := if hasB s sh n then val (s.data.toList.take n) else 0
def rS (s : ByteArray) (sh : Bool) (n : Nat) : ByteArray := if hasB s sh n then s.extract n s.size else s
def rB (s : ByteArray) (sh : Bool) (n : Nat) : Bool := !hasB s sh n

set_option maxHeartbeats 400000 in
theorem number_yes (b : Nat) (s : ByteArray) (n : Nat) (w : World) (h : RdAt w b s false) (hn : n ≤ s.size) (h8 : n ≤ 8) :
    Calls Try.prog 60 #[.pointer (some ⟨b, 0, none⟩), .int .i64 n] w fun e w' => e = .returned (.int .u64 (val (s.data.toList.take n))) ∧ RdAt w' b (s.extract n s.size) false ∧ Kept b none w w' := by
  have hb : hasB s false n = true := by simp [hasB]; omega
  have hd : decide ((s.size : Int) < (n : Int)) = false := by simp; omega
  have hx : (s.extract 0 n).size ≤ 8 := by simp; omega
  go_enter Try.func60, Try.ntmps60
  go_wp2_with (first | (go_at_call 85; refine (has_any b s false n _ h).mono ?_; rintro e w1 ⟨rfl, hr, hk⟩) | (go_at_call 87; refine (take_any b s _ n _ hr hn).mono ?_; rintro e w2 ⟨rfl, rfl⟩) | (go_at_call 86; refine (value_any _ _ hx).mono ?_; rintro e w3 ⟨rfl, rfl⟩))
  go_ret
  refine ⟨rfl, ?_, hk.setCell _ _⟩
  have hr2 : RdAt w1 b s false := by rw [hd] at hr; exact hr
  exact hr2.rest _

set_option maxHeartbeats 400000 in
theorem number_no (b : Nat) (s : ByteArray) (sh : Bool) (n : Nat) (w : World) (h : RdAt w b s sh) (hn : hasB s sh n = false) :
    Calls Try.prog 60 #[.pointer (some ⟨b, 0, none⟩), .int .i64 n] w fun e w' => e = .returned (.int .u64 0) ∧ RdAt w' b s true ∧ Kept b none w w' := by
  have hd : (sh || decide ((s.size : Int) < (n : Int))) = true := by simp [hasB] at hn ⊢; cases sh <;> simp at hn ⊢; omega
  have HD : Hid ((sh || decide ((s.size : Int) < (n : Int))) = true) := hd
  clear hd
  go_enter Try.func60, Try.ntmps60
  go_wp2_with (first | (go_at_call 85; refine (has_any b s sh n _ h).mono ?_; rintro e w1 ⟨rfl, hr, hk⟩))
  go_ret
  exact ⟨rfl, by rw [HD.out] at hr; exact hr, hk⟩

theorem number_any (b : Nat) (s : ByteArray) (sh : Bool) (n : Nat) (w : World) (h : RdAt w b s sh) (h8 : n ≤ 8) :
    Calls Try.prog 60 #[.pointer (some ⟨b, 0, none⟩), .int .i64 n] w fun e w' => e = .returned (.int .u64 (rN s sh n)) ∧ RdAt w' b (rS s sh n) (rB s sh n) ∧ Kept b none w w' := by
  unfold rN rS rB
  cases hb : hasB s sh n with
  | true =>
    have h1 : sh = false := by cases sh <;> simp [hasB] at hb ⊢
    subst h1
    exact number_yes b s n w h (by simp [hasB] at hb; omega) h8
  | false => exact number_no b s sh n w h hb

theorem number_nil (n : Int) (w : World) : Calls Try.prog 60 #[.pointer none, .int .i64 n] w fun e w' => e = .returned (.int .u64 0) ∧ w' = w := by
  go_enter Try.func60, Try.ntmps60
  go_wp2_with (go_at_call 85; refine (has_nil _ _).mono ?_; rintro e w1 ⟨rfl, rfl⟩)
  go_ret
  exact ⟨rfl, rfl⟩

theorem rN_lt (s : ByteArray) (sh : Bool) (n : Nat) : rN s sh n < 256 ^ n := by
  unfold rN
  split
  · have := val_lt (s.data.toList.take n)
    exact Nat.lt_of_lt_of_le this (Nat.pow_le_pow_right (by decide) (by simp; omega))
  · exact Nat.pow_pos (by decide)
theorem rN_i (s : ByteArray) (sh : Bool) (n : Nat) (hn : 256 ^ n ≤ 4294967296) : (rN s sh n : Int) ≤ 4294967295 := by
  have := rN_lt s sh n
  omega

set_option maxHeartbeats 400000 in
theorem rbyte_any (b : Nat) (s : ByteArray) (sh : Bool) (w : World) (h : RdAt w b s sh) :
    Calls Try.prog 35 #[.pointer (some ⟨b, 0, none⟩)] w fun e w' => e = .returned (.int .i64 (rN s sh 1)) ∧ RdAt w' b (rS s sh 1) (rB s sh 1) ∧ Kept b none w w' := by
  have hc : Calls Try.prog 60 #[.pointer (some ⟨b, 0, none⟩), .int .i64 1] w fun e w' => e = .returned (.int .u64 (rN s sh 1)) ∧ RdAt w' b (rS s sh 1) (rB s sh 1) ∧ Kept b none w w' := number_any b s sh 1 w h (by decide)
  have hv2 := rN_i s sh 1 (by decide)
  go_enter Try.func35, Try.ntmps35
  go_wp2_with (go_at_call 60; refine hc.mono ?_; rintro e w1 ⟨rfl, hr, hk⟩)
  go_ret
  exact ⟨rfl, hr, hk⟩

theorem rbyte_nil (w : World) : Calls Try.prog 35 #[.pointer none] w fun e w' => e = .returned (.int .i64 0) ∧ w' = w := by
  go_enter Try.func35, Try.ntmps35
  go_wp2_with (go_at_call 60; refine (number_nil _ _).mono ?_; rintro e w1 ⟨rfl, rfl⟩)
  go_ret
  exact ⟨rfl, rfl⟩

set_option maxHeartbeats 400000 in
theorem rword_any (b : Nat) (s : ByteArray) (sh : Bool) (w : World) (h : RdAt w b s sh) :
    Calls Try.prog 36 #[.pointer (some ⟨b, 0, none⟩)] w fun e w' => e = .returned (.int .i64 (rN s sh 2)) ∧ RdAt w' b (rS s sh 2) (rB s sh 2) ∧ Kept b none w w' := by
  have hc : Calls Try.prog 60 #[.pointer (some ⟨b, 0, none⟩), .int .i64 2] w fun e w' => e = .returned (.int .u64 (rN s sh 2)) ∧ RdAt w' b (rS s sh 2) (rB s sh 2) ∧ Kept b none w w' := number_any b s sh 2 w h (by decide)
  have hv2 := rN_i s sh 2 (by decide)
  go_enter Try.func36, Try.ntmps36
  go_wp2_with (go_at_call 60; refine hc.mono ?_; rintro e w1 ⟨rfl, hr, hk⟩)
  go_ret
  exact ⟨rfl, hr, hk⟩

theorem rword_nil (w : World) : Calls Try.prog 36 #[.pointer none] w fun e w' => e = .returned (.int .i64 0) ∧ w' = w := by
  go_enter Try.func36, Try.ntmps36
  go_wp2_with (go_at_call 60; refine (number_nil _ _).mono ?_; rintro e w1 ⟨rfl, rfl⟩)
  go_ret
  exact ⟨rfl, rfl⟩

end Go.Proofs.Ytchlmcpnjpllnaa

/- The contract of package pack's reader of texts. -/
namespace Go.Proofs.Ytchlmcpnjpllnaa
open Go.RowKit

theorem take_at (b : Nat) (s : ByteArray) (sh : Bool) (n : Nat) (z : Int) (hz : z = n) (w : World) (h : RdAt w b s sh) (hn : n ≤ s.size) :
    Calls Try.prog 87 #[.pointer (some ⟨b, 0, none⟩), .int .i64 z] w fun e w' => e = .returned (.string (s.extract 0 n)) ∧ w' = w.setCell ⟨b, 0, none⟩ (.string (s.extract n s.size)) := by
  subst hz
  exact take_any b s sh n w h hn

/-- A string's bytes as a slice, and back: the string. -/
theorem back_conv (w : World) (x : ByteArray) (cap : Nat) (fr : Nat × Nat) :
    (convert 57 9 (.slice (some ⟨w.heap.size, 0, none⟩) x.size cap)).run Try.prog (w.alloc (.cells (bytesRow x cap) 5 fr)).drew = .ok (.string x) (w.alloc (.cells (bytesRow x cap) 5 fr)).drew := by
  have h := run_convert_bytes_back (P := Try.prog) (w.alloc (.cells (bytesRow x cap) 5 fr)).drew 57 9 5 ⟨w.heap.size, 0, none⟩ cap x.data.toList Try.underlying57 Try.underlying5 Try.underlying9 (fun j hj => by
    show (w.alloc (.cells (bytesRow x cap) 5 fr)).cell? ((⟨w.heap.size, 0, none⟩ : Addr).add j) = _
    rw [Addr.add_lit, Nat.zero_add, World.cell?_alloc_mark, bytesRow_at x _ j (by simpa using hj)]
    simp)
  simpa using h

/-- Can a text be read next? -/
def tOK (s : ByteArray) (sh : Bool) : Bool := hasB s sh 2 && decide (2 + val (s.data.toList.take 2) ≤ s.size)
def tT (s : ByteArray) (sh : Bool) : ByteArray := if tOK s sh then s.extract 2 (2 + val (s.data.toList.take 2)) else ⟨#[]⟩
def tS (s : ByteArray) (sh : Bool) : ByteArray := if tOK s sh then s.extract (2 + val (s.data.toList.take 2)) s.size else s
def tB (s : ByteArray) (sh : Bool) : Bool := !tOK s sh

set_option maxHeartbeats 800000 in
theorem rtext_yes (b : Nat) (s : ByteArray) (w : World) (h : RdAt w b s false) (m : Nat) (hm : val (s.data.toList.take 2) = m) (h2 : 2 + m ≤ s.size) (hm2 : m ≤ 65535) :
    Calls Try.prog 64 #[.pointer (some ⟨b, 0, none⟩)] w fun e w' => e = .returned (.string (s.extract 2 (2 + m))) ∧ RdAt w' b (s.extract (2 + m) s.size) false ∧ Kept b none w w' := by
  have hb : hasB s false 2 = true := by simp [hasB]; omega
  have hb2 : hasB s false (2 + m) = true := by simp [hasB]; omega
  have hd : decide ((s.size : Int) < 2) = false := by simp; omega
  have hd2 : decide ((s.size : Int) < 2 + (m : Int)) = false := by simp; omega
  have hx : (s.extract 0 2).size ≤ 8 := by simp; omega
  have hx2 : val (s.extract 0 2).data.toList = m := by rw [extract_list]; simpa using hm
  have hv : ∀ w, Calls Try.prog 86 #[.string (s.extract 0 2)] w fun e w' => e = .returned (.int .u64 m) ∧ w' = w := fun w => by
    have := value_any (s.extract 0 2) w hx
    rw [hx2] at this
    exact this
  have HV : Hid (∀ w, Calls Try.prog 86 #[.string (s.extract 0 2)] w fun e w' => e = .returned (.int .u64 m) ∧ w' = w) := hv
  have hcv := fun (w : World) (x : ByteArray) => run_bytes_of_string (P := Try.prog) w 9 57 5 x Try.underlying9 Try.underlying57 Try.underlying5
  have hxe : (s.extract 0 (2 + m)).extract 2 (2 + m) = s.extract 2 (2 + m) := by
    apply ByteArray.ext
    apply Array.toList_inj.1
    rw [extract_list, extract_list, extract_list]
    simp [List.take_take]
  have hxs : (s.extract 2 (2 + m)).size = m := by simp; omega
  have hbk : ∀ (w : World) (cap : Nat) (fr : Nat × Nat), (convert 57 9 (.slice (some ⟨w.heap.size, 0, none⟩) m cap)).run Try.prog (w.alloc (.cells (bytesRow ((s.extract 0 (2 + m)).extract 2 (2 + m)) cap) 5 fr)).drew = .ok (.string (s.extract 2 (2 + m))) (w.alloc (.cells (bytesRow ((s.extract 0 (2 + m)).extract 2 (2 + m)) cap) 5 fr)).drew := fun w cap fr => by
    have := back_conv w (s.extract 2 (2 + m)) cap fr
    rw [hxs] at this
    rw [hxe]
    exact this
  clear hxe hxs
  clear hx hx2 hm hv
  go_enter Try.func64, Try.ntmps64
  go_wp2_with fail
  refine (has_any b s false 2 _ h).mono ?_
  rintro e w1 ⟨rfl, hr, hk⟩
  have hr1 : RdAt w1 b s false := by rw [hd] at hr; exact hr
  clear hr
  have c0 := hr1.c0
  go_wp2_with fail
  refine (HV.out _).mono ?_
  rintro e w2 ⟨rfl, rfl⟩
  go_wp2_with fail
  refine (has_any b s false (2 + m) _ hr1).mono ?_
  rintro e w2 ⟨rfl, hr, hk2⟩
  have hr2 : RdAt w2 b s false := by rw [hd2] at hr; exact hr
  clear hr hr1 c0
  go_wp2_with fail
  refine (take_at b s false (2 + m) _ (by omega) _ hr2 h2).mono ?_
  rintro e w3 ⟨rfl, hw3⟩
  have hr3 : RdAt w3 b (s.extract (2 + m) s.size) false := by rw [hw3]; exact hr2.rest _
  have hk3 : Kept b none w w3 := by rw [hw3]; exact (hk.trans hk2 (.inl rfl)).setCell _ _
  clear hw3
  go_wp2
  go_ret
  refine ⟨rfl, ?_, (hk3.alloc _).drew⟩
  show RdAt _ _ _ _
  unfold RdAt at hr3 ⊢
  exact (Below.heap_alloc _ _ _ (lt_of_blk hr3)).trans hr3

set_option maxHeartbeats 800000 in
theorem rtext_short (b : Nat) (s : ByteArray) (w : World) (h : RdAt w b s false) (m : Nat) (hm : val (s.data.toList.take 2) = m) (h0 : 2 ≤ s.size) (h2 : s.size < 2 + m) (hm2 : m ≤ 65535) :
    Calls Try.prog 64 #[.pointer (some ⟨b, 0, none⟩)] w fun e w' => e = .returned (.string ⟨#[]⟩) ∧ RdAt w' b s true ∧ Kept b none w w' := by
  have hb : hasB s false 2 = true := by simp [hasB]; omega
  have hb2 : hasB s false (2 + m) = false := by simp [hasB]; omega
  have hd : decide ((s.size : Int) < 2) = false := by simp; omega
  have hd2 : decide ((s.size : Int) < 2 + (m : Int)) = true := by simp; omega
  have hx : (s.extract 0 2).size ≤ 8 := by simp; omega
  have hx2 : val (s.extract 0 2).data.toList = m := by rw [extract_list]; simpa using hm
  have hv : ∀ w, Calls Try.prog 86 #[.string (s.extract 0 2)] w fun e w' => e = .returned (.int .u64 m) ∧ w' = w := fun w => by
    have := value_any (s.extract 0 2) w hx
    rw [hx2] at this
    exact this
  have HV : Hid (∀ w, Calls Try.prog 86 #[.string (s.extract 0 2)] w fun e w' => e = .returned (.int .u64 m) ∧ w' = w) := hv
  clear hx hx2 hm hv
  go_enter Try.func64, Try.ntmps64
  go_wp2_with fail
  refine (has_any b s false 2 _ h).mono ?_
  rintro e w1 ⟨rfl, hr, hk⟩
  have hr1 : RdAt w1 b s false := by rw [hd] at hr; exact hr
  clear hr
  have c0 := hr1.c0
  go_wp2_with fail
  refine (HV.out _).mono ?_
  rintro e w2 ⟨rfl, rfl⟩
  go_wp2_with fail
  refine (has_any b s false (2 + m) _ hr1).mono ?_
  rintro e w2 ⟨rfl, hr, hk2⟩
  have hr2 : RdAt w2 b s true := by rw [hd2] at hr; exact hr
  go_wp2
  go_ret
  exact ⟨rfl, hr2, hk.trans hk2 (.inl rfl)⟩

set_option maxHeartbeats 800000 in
theorem rtext_no (b : Nat) (s : ByteArray) (sh : Bool) (w : World) (h : RdAt w b s sh) (hn : hasB s sh 2 = false) :
    Calls Try.prog 64 #[.pointer (some ⟨b, 0, none⟩)] w fun e w' => e = .returned (.string ⟨#[]⟩) ∧ RdAt w' b s true ∧ Kept b none w w' := by
  have hd : (sh || decide ((s.size : Int) < 2)) = true := by simp [hasB] at hn ⊢; cases sh <;> simp at hn ⊢; omega
  have HD : Hid ((sh || decide ((s.size : Int) < 2)) = true) := hd
  clear hd
  go_enter Try.func64, Try.ntmps64
  go_wp2_with (first | (go_at_call 85; refine (has_any b s sh 2 _ h).mono ?_; rintro e w1 ⟨rfl, hr, hk⟩))
  go_ret
  exact ⟨rfl, by rw [HD.out] at hr; exact hr, hk⟩

theorem rtext_nil (w : World) : Calls Try.prog 64 #[.pointer none] w fun e w' => e = .returned (.string ⟨#[]⟩) ∧ w' = w := by
  go_enter Try.func64, Try.ntmps64
  go_wp2_with (go_at_call 85; refine (has_nil _ _).mono ?_; rintro e w1 ⟨rfl, rfl⟩)
  go_ret
  exact ⟨rfl, rfl⟩

theorem rtext_any (b : Nat) (s : ByteArray) (sh : Bool) (w : World) (h : RdAt w b s sh) :
    Calls Try.prog 64 #[.pointer (some ⟨b, 0, none⟩)] w fun e w' => e = .returned (.string (tT s sh)) ∧ RdAt w' b (tS s sh) (tB s sh) ∧ Kept b none w w' := by
  have hm2 : val (s.data.toList.take 2) ≤ 65535 := by
    have := val_lt (s.data.toList.take 2)
    have h3 : 256 ^ (s.data.toList.take 2).length ≤ 256 ^ 2 := Nat.pow_le_pow_right (by decide) (by simp; omega)
    have h4 : (256 : Nat) ^ 2 = 65536 := by decide
    omega
  unfold tT tS tB tOK
  cases hb : hasB s sh 2 with
  | false => simpa using rtext_no b s sh w h hb
  | true =>
    have h1 : sh = false := by cases sh <;> simp [hasB] at hb ⊢
    subst h1
    have h0 : 2 ≤ s.size := by simp [hasB] at hb; omega
    by_cases h2 : 2 + val (s.data.toList.take 2) ≤ s.size
    · simpa [h2] using rtext_yes b s w h _ rfl h2 hm2
    · simpa [h2] using rtext_short b s w h _ rfl h0 (by omega) hm2

end Go.Proofs.Ytchlmcpnjpllnaa

/- The contracts of the document's reader (layer 1's reference). -/
namespace Go.Proofs.Ytchlmcpnjpllnaa
open Go.RowKit

/-- The document's reader at block b. -/
def MrAt (w : World) (b : Nat) (s : ByteArray) (sh : Bool) : Prop := w.heap[b]? = some (.cells #[.string s, .bool sh] 110 (0, 0))
theorem MrAt.lt {w : World} {b : Nat} {s : ByteArray} {sh : Bool} (h : MrAt w b s sh) : b < w.heap.size := lt_of_blk h
theorem MrAt.c0 {w : World} {b : Nat} {s : ByteArray} {sh : Bool} (h : MrAt w b s sh) : w.cell? ⟨b, 0, none⟩ = some (.string s) := cell_of_blk h 0 (by simp)
theorem MrAt.c1 {w : World} {b : Nat} {s : ByteArray} {sh : Bool} (h : MrAt w b s sh) : w.cell? ⟨b, 1, none⟩ = some (.bool sh) := cell_of_blk h 1 (by simp)
theorem MrAt.fr {w : World} {b : Nat} {s : ByteArray} {sh : Bool} (h : MrAt w b s sh) (j : Nat) : w.frozen? ⟨b, j, none⟩ = false := free_of_blk h j
theorem MrAt.short {w : World} {b : Nat} {s : ByteArray} {sh : Bool} (h : MrAt w b s sh) (u : Bool) : MrAt (w.setCell ⟨b, 1, none⟩ (.bool u)) b s u := by
  unfold MrAt at h ⊢
  simp [World.setCell, Array.getElem?_modify, h]
theorem MrAt.rest {w : World} {b : Nat} {s : ByteArray} {sh : Bool} (h : MrAt w b s sh) (u : ByteArray) : MrAt (w.setCell ⟨b, 0, none⟩ (.string u)) b u sh := by
  unfold MrAt at h ⊢
  simp [World.setCell, Array.getElem?_modify, h]

theorem add_val (a : Nat) (c : UInt8) (ha : a < 72057594037927936) :
    IntKind.u64.wrap (IntKind.u64.wrap ((a : Int) * 256) + IntKind.u64.wrap (c.toNat : Int)) = ((a * 256 + c.toNat : Nat) : Int) := by
  have hc := c.toNat_lt
  simp only [IntKind.wrap_u64]; omega

set_option maxHeartbeats 800000 in
theorem mbits_yes (b : Nat) (s : ByteArray) (n : Nat) (w : World) (h : MrAt w b s false) (hn : n ≤ s.size) (h8 : n ≤ 8) :
    Calls Try.prog 91 #[.pointer (some ⟨b, 0, none⟩), .int .i64 n] w fun e w' => e = .returned (.int .u64 (val (s.data.toList.take n))) ∧ MrAt w' b (s.extract n s.size) false ∧ Kept b none w w' := by
  have c0 := h.c0
  have c1 := h.c1
  have f0 := h.fr 0
  have HH := hid h
  have hn0 : (0 : Int) ≤ (n : Int) := Int.natCast_nonneg _
  have hn1 : (n : Int) ≤ (s.size : Int) := by omega
  clear h
  go_enter Try.func91, Try.ntmps91
  go_wp2
  go_loop [5, 6] (fun v i => ∃ k : Nat, k ≤ n ∧ i = .int .i64 k ∧ v = .int .u64 (val (s.data.toList.take k))) (fun _ i => n - (intOf i).toNat)
  case atStart => exact ⟨0, Nat.zero_le _, rfl, rfl⟩
  case round =>
    obtain ⟨k, hk, rfl, rfl⟩ := hrel
    by_cases hlt : k < n
    · have hv := val_lt (s.data.toList.take k)
      have hl : (s.data.toList.take k).length = k := by simp; have : s.data.size = s.size := rfl; omega
      have hv2 : val (s.data.toList.take k) < 72057594037927936 := by
        rw [hl] at hv
        exact Nat.lt_of_lt_of_le hv (Nat.le_trans (Nat.pow_le_pow_right (by decide) (show k ≤ 7 by omega)) (by decide))
      have HV := hid hv2
      have hks : k < s.size := by omega
      clear hv hl hv2
      go_wp2
      go_round
      case rel => exact ⟨k + 1, by omega, by go_num, by rw [add_val _ _ HV.out, take_snoc s k hks, val_snoc]⟩
      case measure => simp [intOf]; omega
    · have hkn : k = n := by omega
      subst hkn
      clear hlt
      go_wp2
      go_ret
      exact ⟨rfl, HH.out.rest _, (Kept.refl _ _ _).setCell _ _⟩

set_option maxHeartbeats 800000 in
theorem mbits_bad (b : Nat) (s : ByteArray) (n : Nat) (w : World) (h : MrAt w b s true) :
    Calls Try.prog 91 #[.pointer (some ⟨b, 0, none⟩), .int .i64 n] w fun e w' => e = .returned (.int .u64 0) ∧ w' = w.setCell ⟨b, 1, none⟩ (.bool true) := by
  have c0 := h.c0
  have c1 := h.c1
  have f1 := h.fr 1
  clear h
  go_enter Try.func91, Try.ntmps91
  go_wp2
  go_ret
  exact ⟨rfl, rfl⟩

set_option maxHeartbeats 800000 in
theorem mbits_short (b : Nat) (s : ByteArray) (n : Nat) (w : World) (h : MrAt w b s false) (hn : (s.size : Int) < (n : Int)) :
    Calls Try.prog 91 #[.pointer (some ⟨b, 0, none⟩), .int .i64 n] w fun e w' => e = .returned (.int .u64 0) ∧ w' = w.setCell ⟨b, 1, none⟩ (.bool true) := by
  have c0 := h.c0
  have c1 := h.c1
  have f1 := h.fr 1
  clear h
  go_enter Try.func91, Try.ntmps91
  go_wp2
  go_ret
  exact ⟨rfl, rfl⟩

theorem mbits_any (b : Nat) (s : ByteArray) (sh : Bool) (n : Nat) (w : World) (h : MrAt w b s sh) (h8 : n ≤ 8) :
    Calls Try.prog 91 #[.pointer (some ⟨b, 0, none⟩), .int .i64 n] w fun e w' => e = .returned (.int .u64 (rN s sh n)) ∧ MrAt w' b (rS s sh n) (rB s sh n) ∧ Kept b none w w' := by
  unfold rN rS rB
  cases sh with
  | true =>
    have hb : hasB s true n = false := by simp [hasB]
    rw [hb]
    exact (mbits_bad b s n w h).mono fun e w' ⟨h1, h2⟩ => ⟨h1, by rw [h2]; exact h.short true, by rw [h2]; exact (Kept.refl _ _ _).setCell _ _⟩
  | false =>
    by_cases hn : n ≤ s.size
    · have hb : hasB s false n = true := by simp [hasB]; omega
      rw [hb]
      exact mbits_yes b s n w h hn h8
    · have hb : hasB s false n = false := by simp [hasB]; omega
      rw [hb]
      exact (mbits_short b s n w h (by omega)).mono fun e w' ⟨h1, h2⟩ => ⟨h1, by rw [h2]; exact h.short true, by rw [h2]; exact (Kept.refl _ _ _).setCell _ _⟩

theorem mnum_any (b : Nat) (s : ByteArray) (sh : Bool) (n : Nat) (w : World) (h : MrAt w b s sh) (h8 : 256 ^ n ≤ 4294967296) (hn8 : n ≤ 8) :
    Calls Try.prog 68 #[.pointer (some ⟨b, 0, none⟩), .int .i64 n] w fun e w' => e = .returned (.int .i64 (rN s sh n)) ∧ MrAt w' b (rS s sh n) (rB s sh n) ∧ Kept b none w w' := by
  have hc := hid (mbits_any b s sh n w h hn8)
  have hv2 := rN_i s sh n h8
  clear h h8
  go_enter Try.func68, Try.ntmps68
  go_wp2_with fail
  refine hc.out.mono ?_
  rintro e w1 ⟨rfl, hr, hk⟩
  have HR := hid (And.intro hr hk)
  clear hr hk
  go_wp2
  go_ret
  exact ⟨rfl, HR.out⟩

set_option maxHeartbeats 400000 in
theorem mend_any (b : Nat) (s : ByteArray) (sh : Bool) (w : World) (h : MrAt w b s sh) :
    Calls Try.prog 69 #[.pointer (some ⟨b, 0, none⟩)] w fun e w' => e = .returned (.int .i64 (endOf s sh)) ∧ w' = w := by
  have c0 := h.c0
  have c1 := h.c1
  clear h
  cases sh with
  | true =>
    go_enter Try.func69, Try.ntmps69
    go_wp2
    go_ret
    exact ⟨rfl, rfl⟩
  | false =>
    by_cases hs : 0 < s.size
    · go_enter Try.func69, Try.ntmps69
      go_wp2
      go_ret
      exact ⟨by simp [endOf, hs], rfl⟩
    · go_enter Try.func69, Try.ntmps69
      go_wp2
      go_ret
      exact ⟨by simp [endOf, hs], rfl⟩

theorem run_at (s : ByteArray) (k : Nat) (hk : k < s.size) (w : World) : (Instr.index 9 (.string s) (.int .i64 (k : Int))).run Try.prog w = .ok (.int .u8 (s[k].toNat : Int)) w := by
  have h0 : (0 : Int) ≤ (k : Int) := Int.natCast_nonneg _
  go_simp

theorem val_two (s : ByteArray) (h : 2 ≤ s.size) : val (s.data.toList.take 2) = s[0].toNat * 256 + s[1].toNat := by
  rw [take_snoc s 1 (by omega), val_snoc, take_snoc s 0 (by omega), val_snoc]
  simp [val]

theorem World.drewN_heap (w : World) (n : Nat) : (w.drewN n).heap = w.heap := by
  induction n with
  | zero => rfl
  | succ n ih => exact ih
theorem Kept.drewN {b : Nat} {r : Option Nat} {x y : World} (h : Kept b r x y) (n : Nat) : Kept b r x (y.drewN n) := by
  induction n with
  | zero => exact h
  | succ n ih => exact ih.drew
theorem MrAt.drewN {w : World} {b : Nat} {s : ByteArray} {sh : Bool} (h : MrAt w b s sh) (n : Nat) : MrAt (w.drewN n) b s sh := by
  unfold MrAt at h ⊢
  rw [World.drewN_heap]
  exact h

set_option maxHeartbeats 800000 in
theorem mtext_yes (b : Nat) (s : ByteArray) (w : World) (h : MrAt w b s false) (hz : s.size ≤ 9223372036854775807) (h0 : 2 ≤ s.size) (h2 : 2 + (s[0].toNat * 256 + s[1].toNat) ≤ s.size) :
    Calls Try.prog 67 #[.pointer (some ⟨b, 0, none⟩)] w fun e w' => e = .returned (.string (s.extract 2 (2 + (s[0].toNat * 256 + s[1].toNat)))) ∧ MrAt w' b (s.extract (2 + (s[0].toNat * 256 + s[1].toNat)) s.size) false ∧ Kept b none w w' := by
  have c0 := h.c0
  have c1 := h.c1
  have f0 := h.fr 0
  have HH := hid h
  have hb0 := s[0].toNat_lt
  have hb1 := s[1].toNat_lt
  clear h
  have k0 : (0 : Int) < (s.size : Int) := by omega
  have k1 : (1 : Int) < (s.size : Int) := by omega
  have x0 : ∀ w, (Instr.index 9 (.string s) (.int .i64 0)).run Try.prog w = .ok (.int .u8 (s[0].toNat : Int)) w := run_at s 0 (by omega)
  have x1 : ∀ w, (Instr.index 9 (.string s) (.int .i64 1)).run Try.prog w = .ok (.int .u8 (s[1].toNat : Int)) w := run_at s 1 (by omega)
  go_enter Try.func67, Try.ntmps67
  go_wp2
  go_quiet (fail)
  go_wp2
  go_ret
  exact ⟨rfl, (HH.out.drewN _).rest _, ((Kept.refl _ _ _).drewN _).setCell _ _⟩

set_option maxHeartbeats 800000 in
theorem mtext_short (b : Nat) (s : ByteArray) (w : World) (h : MrAt w b s false) (hz : s.size ≤ 9223372036854775807) (h0 : 2 ≤ s.size) (h2 : s.size < 2 + (s[0].toNat * 256 + s[1].toNat)) :
    Calls Try.prog 67 #[.pointer (some ⟨b, 0, none⟩)] w fun e w' => e = .returned (.string ⟨#[]⟩) ∧ MrAt w' b s true ∧ Kept b none w w' := by
  have c0 := h.c0
  have c1 := h.c1
  have f1 := h.fr 1
  have HH := hid h
  have hb0 := s[0].toNat_lt
  have hb1 := s[1].toNat_lt
  clear h
  have k0 : (0 : Int) < (s.size : Int) := by omega
  have k1 : (1 : Int) < (s.size : Int) := by omega
  have x0 : ∀ w, (Instr.index 9 (.string s) (.int .i64 0)).run Try.prog w = .ok (.int .u8 (s[0].toNat : Int)) w := run_at s 0 (by omega)
  have x1 : ∀ w, (Instr.index 9 (.string s) (.int .i64 1)).run Try.prog w = .ok (.int .u8 (s[1].toNat : Int)) w := run_at s 1 (by omega)
  go_enter Try.func67, Try.ntmps67
  go_wp2
  go_quiet (fail)
  go_wp2
  go_ret
  exact ⟨rfl, (HH.out.drewN _).short _, ((Kept.refl _ _ _).drewN _).setCell _ _⟩

set_option maxHeartbeats 800000 in
theorem mtext_bad (b : Nat) (s : ByteArray) (w : World) (h : MrAt w b s true) :
    Calls Try.prog 67 #[.pointer (some ⟨b, 0, none⟩)] w fun e w' => e = .returned (.string ⟨#[]⟩) ∧ w' = w.setCell ⟨b, 1, none⟩ (.bool true) := by
  have c1 := h.c1
  have f1 := h.fr 1
  clear h
  go_enter Try.func67, Try.ntmps67
  go_wp2
  go_ret
  exact ⟨rfl, rfl⟩

set_option maxHeartbeats 800000 in
theorem mtext_two (b : Nat) (s : ByteArray) (w : World) (h : MrAt w b s false) (hn : (s.size : Int) < 2) :
    Calls Try.prog 67 #[.pointer (some ⟨b, 0, none⟩)] w fun e w' => e = .returned (.string ⟨#[]⟩) ∧ w' = w.setCell ⟨b, 1, none⟩ (.bool true) := by
  have c0 := h.c0
  have c1 := h.c1
  have f1 := h.fr 1
  clear h
  go_enter Try.func67, Try.ntmps67
  go_wp2
  go_ret
  exact ⟨rfl, rfl⟩

theorem mtext_any (b : Nat) (s : ByteArray) (sh : Bool) (w : World) (h : MrAt w b s sh) (hz : s.size ≤ 9223372036854775807) :
    Calls Try.prog 67 #[.pointer (some ⟨b, 0, none⟩)] w fun e w' => e = .returned (.string (tT s sh)) ∧ MrAt w' b (tS s sh) (tB s sh) ∧ Kept b none w w' := by
  unfold tT tS tB tOK
  cases sh with
  | true =>
    have hb : hasB s true 2 = false := by simp [hasB]
    rw [hb]
    exact (mtext_bad b s w h).mono fun e w' ⟨h1, h2⟩ => ⟨by simpa using h1, by rw [h2]; exact h.short true, by rw [h2]; exact (Kept.refl _ _ _).setCell _ _⟩
  | false =>
    by_cases hn : 2 ≤ s.size
    · have hb : hasB s false 2 = true := by simp [hasB]; omega
      rw [hb, val_two s hn]
      by_cases h2 : 2 + (s[0].toNat * 256 + s[1].toNat) ≤ s.size
      · simpa [h2] using mtext_yes b s w h hz hn h2
      · simpa [h2] using mtext_short b s w h hz hn (by omega)
    · have hb : hasB s false 2 = false := by simp [hasB]; omega
      rw [hb]
      exact (mtext_two b s w h (by omega)).mono fun e w' ⟨h1, h2⟩ => ⟨by simpa using h1, by rw [h2]; exact h.short true, by rw [h2]; exact (Kept.refl _ _ _).setCell _ _⟩

end Go.Proofs.Ytchlmcpnjpllnaa

/- What the document opens as a certificate. -/
namespace Go.Proofs.Ytchlmcpnjpllnaa
open Go.RowKit

/-- A reader behind so many signatures; the signatures read. -/
def sgM (s : ByteArray × Bool) : ByteArray × Bool := (rS s.1 s.2 1, rB s.1 s.2 1)
def sgS (s : ByteArray × Bool) : Nat → ByteArray × Bool
  | 0 => s
  | k + 1 => (tS (sgM (sgS s k)).1 (sgM (sgS s k)).2, tB (sgM (sgS s k)).1 (sgM (sgS s k)).2)
def sgL (s : ByteArray × Bool) : Nat → List (Int × ByteArray)
  | 0 => []
  | k + 1 => sgL s k ++ [((rN (sgS s k).1 (sgS s k).2 1 : Int), tT (sgM (sgS s k)).1 (sgM (sgS s k)).2)]
theorem sgL_len (s : ByteArray × Bool) : ∀ k, (sgL s k).length = k
  | 0 => rfl
  | k + 1 => by rw [sgL, List.length_append, sgL_len s k]; rfl
def oT (c : ByteArray) : ByteArray := tT c false
def oS1 (c : ByteArray) : ByteArray × Bool := (tS c false, tB c false)
def oN (c : ByteArray) : Nat := rN (oS1 c).1 (oS1 c).2 1
def oS2 (c : ByteArray) : ByteArray × Bool := sgM (oS1 c)
def openB (c : ByteArray) : Bool := readPB (oT c) && (decide (oN c ≤ 16) && decide (endOf (sgS (oS2 c) (oN c)).1 (sgS (oS2 c) (oN c)).2 = 0))
def opZ (c : ByteArray) : Int := if openB c then readPZ (oT c) else 0
def opP (c : ByteArray) : List (Int × ByteArray) := if openB c then readPL (oT c) else []
def opT (c : ByteArray) : ByteArray := if openB c then oT c else ⟨#[]⟩
def opL (c : ByteArray) : List (Int × ByteArray) := if openB c then sgL (oS2 c) (oN c) else []
theorem rS_le (s : ByteArray) (sh : Bool) (n : Nat) : (rS s sh n).size ≤ s.size := by
  unfold rS
  split
  · rw [← data_len, ext_data, List.length_drop, List.length_take, data_len]; omega
  · exact Nat.le_refl _
theorem tS_le (s : ByteArray) (sh : Bool) : (tS s sh).size ≤ s.size := by
  unfold tS
  split
  · rw [← data_len, ext_data, List.length_drop, List.length_take, data_len]; omega
  · exact Nat.le_refl _
theorem sgS_le (s : ByteArray × Bool) : ∀ k, (sgS s k).1.size ≤ s.1.size
  | 0 => Nat.le_refl _
  | k + 1 => Nat.le_trans (tS_le _ _) (Nat.le_trans (rS_le _ _ _) (sgS_le s k))
theorem Try.info77 : (Try.prog.info? 77).map (fun i => (i.zero, i.size, i.bytes)) = some (some (.agg #[.int .i64 0, .string ⟨#[]⟩]), 2, 24) := by kernel_rfl
/-- While a certificate is opened: the result's block, the reader. -/
structure OpSt (w0 w : World) (s : ByteArray × Bool) : Prop where
  res : w.heap[w0.heap.size]? = some (.cells #[.int .i64 0, .slice none 0 0] 24 (0, 0))
  rd : MrAt w (w0.heap.size + 1) s.1 s.2
  bel : Below w0.heap.size w0 w
theorem OpSt.keep {w0 w w' : World} {s : ByteArray × Bool} (h : OpSt w0 w s) (hb : Below w.heap.size w w') : OpSt w0 w' s :=
  ⟨(hb.block _ (lt_of_blk h.res)).trans h.res, (hb.block _ h.rd.lt).trans h.rd, h.bel.trans (hb.mono h.bel.size)⟩
theorem OpSt.kept {w0 w w' : World} {s s' : ByteArray × Bool} (h : OpSt w0 w s) (k : Kept (w0.heap.size + 1) none w w') (hr : MrAt w' (w0.heap.size + 1) s'.1 s'.2) : OpSt w0 w' s' :=
  ⟨(k.block _ (lt_of_blk h.res) (by omega) (by simp)).trans h.res, hr, h.bel.trans (k.below h.bel.size (by omega) (by simp))⟩
/-- .. and the paper read at b, its seats (in a row of their own below b), the signatures read (in a row of their own behind b). -/
structure OgSt (w0 w : World) (s : ByteArray × Bool) (b : Nat) (Z : Int) (v : Value) (P : List (Int × ByteArray)) (u : Value) (L : List (Int × ByteArray)) : Prop where
  st : OpSt w0 w s
  pp : w.heap[b]? = some (.cells #[.int .i64 Z, v] 24 (0, 0))
  own : w.ownsRow (w0.heap.size + 2) 44 2 v P.length (pC P)
  low : ∀ g, v.ownBlock = some g → g < b
  hb : w0.heap.size + 2 ≤ b
  sig : w.ownsRow (b + 1) 77 2 u L.length (pC L)
theorem row_kept {w w' : World} {B r z : Nat} {v : Value} {n : Nat} {xs : List Value} {e : TypeId} (h : w.ownsRow B e z v n xs) (k : Kept r none w w') (hr : r < B) : w'.ownsRow B e z v n xs := by
  refine ⟨h.1, ?_⟩
  rcases h.2 with hn | ⟨g, cap, cur, hv, hB, hh, hx⟩
  · exact .inl hn
  · exact .inr ⟨g, cap, cur, hv, hB, (k.block g (lt_of_blk hh) (by omega) (by simp)).trans hh, hx⟩
theorem OgSt.kept {w0 w w' : World} {s s' : ByteArray × Bool} {b : Nat} {Z : Int} {v u : Value} {P L : List (Int × ByteArray)} (h : OgSt w0 w s b Z v P u L) (k : Kept (w0.heap.size + 1) none w w') (hr : MrAt w' (w0.heap.size + 1) s'.1 s'.2) : OgSt w0 w' s' b Z v P u L :=
  ⟨h.st.kept k hr, (k.block _ (lt_of_blk h.pp) (by have := h.hb; omega) (by simp)).trans h.pp, row_kept h.own k (by omega), h.low, h.hb, row_kept h.sig k (by have := h.hb; omega)⟩
/-- One more signature. -/
theorem OgSt.put {w0 w w4 : World} {s : ByteArray × Bool} {b : Nat} {Z : Int} {v u u4 : Value} {P L L4 : List (Int × ByteArray)} {o : Obj} (h : OgSt w0 w s b Z v P u L) (h4 : w4.ownsRow (b + 1) 77 2 u4 L4.length (pC L4)) (hg : (w.alloc o).grownBy w4 u.ownBlock) :
    OgSt w0 w4 s b Z v P u4 L4 := by
  have hne : ∀ k, k ≤ b → some k ≠ u.ownBlock := fun k hk e => by have := (h.sig.lt k e.symm).1; omega
  have hkeep : ∀ k, k ≤ b → k < w.heap.size → w4.heap[k]? = w.heap[k]? := fun k hk hlt => (hg.block k (by simp; omega) (hne k hk)).trans (Below.heap_alloc w o k hlt)
  have hb := h.hb
  have hbel4 : Below w0.heap.size w0 w4 := (h.st.bel.alloc h.st.bel.size o).grown hg (by have := h.st.bel.size; simp; omega) (fun k hk => by have := (h.sig.lt k hk).1; omega)
  refine ⟨⟨(hkeep _ (by omega) (lt_of_blk h.st.res)).trans h.st.res, (hkeep _ (by omega) h.st.rd.lt).trans h.st.rd, hbel4⟩, (hkeep b (Nat.le_refl _) (lt_of_blk h.pp)).trans h.pp, ?_, h.low, hb, h4⟩
  refine (h.own.alloc o).kept hg ?_
  cases e : v.ownBlock with
  | none => exact .inl rfl
  | some g =>
    right
    have hg1 := h.low g e
    intro e2
    exact hne g (by omega) e2

set_option maxRecDepth 100000 in
set_option maxHeartbeats 6400000 in
theorem xopen_any (c : ByteArray) (hc : c.size ≤ maxLen) (w : World) :
    Calls Try.prog 46 #[.string c] w fun e w' => ∃ v u, e = .returned (.tuple #[.agg #[.int .i64 (opZ c), v], .string (opT c), u, .bool (openB c)]) ∧ w'.ownsRow w.heap.size 44 2 v (opP c).length (pC (opP c)) ∧ w'.ownsRow w.heap.size 77 2 u (opL c).length (pC (opL c)) ∧ Below w.heap.size w w' := by
  have hc2 : c.size ≤ 9223372036854775807 := by unfold maxLen at hc; exact hc
  obtain ⟨i0, hi0, hz0, hz1, hz2⟩ := info_parts Try.info77
  have H0 : Hid (OpSt w ((w.alloc (.cells #[.int .i64 0, .slice none 0 0] 24)).alloc (.cells #[.string c, .bool false] 110)) (c, false)) := hid
    ⟨(Below.heap_alloc _ _ _ (by simp)).trans (heap_alloc_last w _), snd_alloc w _ _, ((Below.refl _ _).alloc (Nat.le_refl _) _).alloc (by simp) _⟩
  have hN1 : oN c < 256 := by have := rN_lt (oS1 c).1 (oS1 c).2 1; simpa [oN] using this
  obtain ⟨N, eN⟩ : ∃ N, N = oN c := ⟨_, rfl⟩
  obtain ⟨T, eT⟩ : ∃ T, T = oT c := ⟨_, rfl⟩
  obtain ⟨Z, eZ⟩ : ∃ Z, Z = readPZ T := ⟨_, rfl⟩
  obtain ⟨R, eR⟩ : ∃ R, R = readPE T := ⟨_, rfl⟩
  obtain ⟨P, eP⟩ : ∃ P, P = readPL T := ⟨_, rfl⟩
  have hN2 : (N : Int) < 256 := by omega
  have hN0 : (0 : Int) ≤ (N : Int) := Int.natCast_nonneg _
  have hsz2 : (oS2 c).1.size ≤ 9223372036854775807 := Nat.le_trans (rS_le _ _ _) (Nat.le_trans (tS_le _ _) hc2)
  have HA : Hid (∀ u : World, OpSt w u (c, false) → Calls Try.prog 67 #[.pointer (some ⟨w.heap.size + 1, 0, none⟩)] u fun e w' => e = .returned (.string T) ∧ OpSt w w' (oS1 c)) := hid (fun u hu => (mtext_any _ _ _ u hu.rd hc2).mono fun e w' ⟨he, hr, hk⟩ => ⟨by rw [he, eT]; rfl, hu.kept hk hr⟩)
  have HR : Hid (∀ u : World, Calls Try.prog 13 #[.string T] u fun e w' => ∃ v, e = .returned (.tuple #[.agg #[.int .i64 Z, v], .int .i64 R]) ∧ w'.ownsRow u.heap.size 44 2 v P.length (pC P) ∧ Below u.heap.size u w') := hid (fun u => by rw [eZ, eR, eP]; exact xread_any T u)
  have HN : Hid (∀ (u : World) (b : Nat) (v : Value), OgSt w u (oS1 c) b Z v P (.slice none 0 0) [] → Calls Try.prog 68 #[.pointer (some ⟨w.heap.size + 1, 0, none⟩), .int .i64 1] u fun e w' => e = .returned (.int .i64 (N : Int)) ∧ OgSt w w' (oS2 c) b Z v P (.slice none 0 0) []) := hid (fun u b v hu => (mnum_any _ _ _ 1 u hu.st.rd (by decide) (by decide)).mono fun e w' ⟨he, hr, hk⟩ => ⟨by rw [he, eN]; rfl, hu.kept hk hr⟩)
  have HO : Hid ((openB c = (decide (R = 0) && (decide (N ≤ 16) && decide (endOf (sgS (oS2 c) N).1 (sgS (oS2 c) N).2 = 0)))) ∧ (openB c = true → opZ c = Z ∧ opP c = P ∧ opT c = T ∧ opL c = sgL (oS2 c) N)) := hid (by
    have h1 : readPB T = decide (R = 0) := by
      rw [eR, readPE]
      cases h : readPB T <;> rfl
    refine ⟨by rw [openB, ← eT, ← eN, h1], fun hb => ⟨by rw [opZ, if_pos hb, ← eT, eZ], by rw [opP, if_pos hb, ← eT, eP], by rw [opT, if_pos hb, eT], by rw [opL, if_pos hb, eN]⟩⟩)
  have HS2 := hid hsz2
  clear eN eT eZ eR eP hN1 hc hc2 hsz2
  go_enter Try.func46, Try.ntmps46
  go_wp2_with (first
    | (go_at_call 67; refine (HA.out _ (by exact H0.out)).mono ?_; rintro e w1 ⟨rfl, h1⟩; have H1 := hid h1; clear h1)
    | (go_at_call 13; refine (HR.out _).mono ?_; rintro e w2 ⟨v2, rfl, ho2, hb2⟩
       obtain ⟨ad2, cap2, hv2, _⟩ := own_pairs ho2
       subst hv2
       have H2 : Hid (OgSt w (w2.alloc (.cells #[.int .i64 Z, .slice ad2 P.length cap2] 24)) (oS1 c) w2.heap.size Z (.slice ad2 P.length cap2) P (.slice none 0 0) []) := hid
         ⟨(H1.out.keep hb2).keep ((Below.refl _ _).alloc (Nat.le_refl _) _), heap_alloc_last w2 _, (ho2.mono (show w.heap.size + 2 ≤ w1.heap.size from H1.out.rd.lt)).alloc _, fun g hg => (ho2.lt g hg).2, Nat.le_trans H1.out.rd.lt hb2.size, ⟨rfl, .inl ⟨rfl, rfl⟩⟩⟩
       clear ho2 hb2)
    | (go_at_call 68; refine (HN.out _ _ _ (by exact H2.out)).mono ?_; rintro e w3 ⟨rfl, h3⟩; have H3 := hid h3; clear h3))
  obtain ⟨b, eb⟩ : ∃ b, b = w2.heap.size := ⟨_, rfl⟩
  rw [← eb] at H3 ⊢
  obtain ⟨v, ev⟩ : ∃ v, v = Value.slice ad2 P.length cap2 := ⟨_, rfl⟩
  rw [← ev] at H3
  simp only [← ev]
  clear ev eb H0 H1 H2
  go_loopw [11, 12] (fun u i wr => ∃ j : Nat, j ≤ N ∧ (N ≤ 16 ∨ j = 0) ∧ i = .int .i64 (j : Int) ∧ OgSt w wr (sgS (oS2 c) j) b Z v P u (sgL (oS2 c) j))
    (fun _ i _ => ((N : Int) - intOf i).toNat)
  case atStart => exact ⟨0, by omega, .inr rfl, rfl, H3.out⟩
  case round =>
    obtain ⟨j, hj, h16, rfl, hO⟩ := hrel
    have HF := hid hO
    clear hO H3
    have hj0 : (0 : Int) ≤ (j : Int) := Int.natCast_nonneg _
    by_cases hgo : j < N ∧ N ≤ 16
    · have hj1 : (j : Int) < (N : Int) := by omega
      have hj2 : (N : Int) ≤ 16 := by omega
      have hsz : (sgM (sgS (oS2 c) j)).1.size ≤ 9223372036854775807 := Nat.le_trans (rS_le _ _ _) (Nat.le_trans (sgS_le _ _) HS2.out)
      obtain ⟨S, eS⟩ : ∃ S, S = sgS (oS2 c) j := ⟨_, rfl⟩
      obtain ⟨y, ey⟩ : ∃ y, y = rN S.1 S.2 1 := ⟨_, rfl⟩
      obtain ⟨r, er⟩ : ∃ r, r = tT (sgM S).1 (sgM S).2 := ⟨_, rfl⟩
      have HL : Hid (sgL (oS2 c) (j + 1) = sgL (oS2 c) j ++ [((y : Int), r)]) := hid (by rw [sgL, ← eS, ← ey, ← er])
      have HS : Hid (sgS (oS2 c) (j + 1) = (tS (sgM S).1 (sgM S).2, tB (sgM S).1 (sgM S).2)) := hid (by rw [sgS, ← eS])
      rw [← eS] at HF hsz
      have HK1 : Hid (∀ (x : World) (u : Value), OgSt w x S b Z v P u (sgL (oS2 c) j) → Calls Try.prog 68 #[.pointer (some ⟨w.heap.size + 1, 0, none⟩), .int .i64 1] x fun e w' => e = .returned (.int .i64 (y : Int)) ∧ OgSt w w' (sgM S) b Z v P u (sgL (oS2 c) j)) := hid (fun x u hx => (mnum_any _ _ _ 1 x hx.st.rd (by decide) (by decide)).mono fun e w' ⟨he, hr, hk⟩ => ⟨by rw [he, ey], hx.kept hk hr⟩)
      have HK2 : Hid (∀ (x : World) (u : Value), OgSt w x (sgM S) b Z v P u (sgL (oS2 c) j) → Calls Try.prog 67 #[.pointer (some ⟨w.heap.size + 1, 0, none⟩)] x fun e w' => e = .returned (.string r) ∧ OgSt w w' (sgS (oS2 c) (j + 1)) b Z v P u (sgL (oS2 c) j)) := hid (fun x u hx => (mtext_any _ _ _ x hx.st.rd hsz).mono fun e w' ⟨he, hr, hk⟩ => ⟨by rw [he, er], by rw [HS.out]; exact hx.kept hk hr⟩)
      have HNl : Hid ((sgL (oS2 c) j).length + 1 ≤ 1000000) := hid (by rw [sgL_len]; omega)
      have HJ := hid (And.intro hj hgo)
      clear hsz eS ey er hgo hj h16 HS
      go_wp2_with (first
        | (go_at_call 68; refine (HK1.out _ _ (by exact HF.out)).mono ?_; rintro e w4 ⟨rfl, h4⟩; have H4 := hid h4; clear h4)
        | (go_at_call 67; refine (HK2.out _ _ (by exact H4.out)).mono ?_; rintro e w5 ⟨rfl, h5⟩; have H5 := hid h5; clear h5)
        | (at_builtin; refine wpList_append_own _ rfl _ _ 36 rfl (b + 1) 77 i0 (.agg #[.int .i64 0, .string ⟨#[]⟩]) 2 24 Try.underlying36 hi0 hz0 hz1 hz2 rfl (by decide) _ _ _ rfl (by exact H5.out.sig.alloc _) ⟨_, 0, none⟩ 1 1 (pC [((y : Int), r)]) rfl rfl (World.news_of_block (t := 77) (fr := (0, 0)) (heap_alloc_last _ _)) (by simp [pC, Value.oneCell']) (by have := HNl.out; unfold maxLen; omega) (by have := HNl.out; omega) (by have := lt_of_blk H5.out.pp; simp; omega) ?_; intro v6 w6 hown6 hgrow6 hnil6; have H6 := hid (H5.out.put (L4 := sgL (oS2 c) j ++ [((y : Int), r)]) (by rw [List.length_append, pC_app]; exact hown6) hgrow6); clear hown6 hgrow6 hnil6))
      go_roundw
      case rel => exact ⟨j + 1, by have := HJ.out; omega, .inl HJ.out.2.2, by go_num, by rw [HL.out]; exact H6.out⟩
      case measure => simp [intOf]; omega
    · by_cases hR : R = 0
      · by_cases hN16 : N ≤ 16
        · have hjN : j = N := by omega
          subst hjN
          have hj1 : ¬ ((j : Int) < (j : Int)) := by omega
          have hj2 : (j : Int) ≤ 16 := by omega
          have hE := mend_any (w.heap.size + 1) (sgS (oS2 c) j).1 (sgS (oS2 c) j).2 wr HF.out.st.rd
          by_cases he : endOf (sgS (oS2 c) j).1 (sgS (oS2 c) j).2 = 0
          · have HB : Hid (openB c = true) := hid (by rw [HO.out.1, decide_eq_true hR, decide_eq_true hN16, decide_eq_true he]; rfl)
            rw [he] at hE
            have HEnd := hid hE
            obtain ⟨ul, uc, hu, hI⟩ := own_pairs HF.out.sig
            subst hu
            obtain ⟨vl, vc, hv, hI2⟩ := own_pairs HF.out.own
            subst hv
            have r0 := (cell_two HF.out.st.res).1
            have r1 := (cell_two HF.out.st.res).2
            have f0 : wr.frozen? ⟨w.heap.size, 0, none⟩ = false := free_at HF.out.st.res 0
            have f1 : wr.frozen? ⟨w.heap.size, 1, none⟩ = false := free_at HF.out.st.res 1
            have p0 := (cell_two HF.out.pp).1
            have p1 := (cell_two HF.out.pp).2
            clear hE he hj h16 hgo hN16
            go_wp2_with (go_at_call 69; refine (HEnd.out).mono ?_; rintro e wx ⟨rfl, rfl⟩)
            refine ret_four (s := 2) (s2 := 3) (s3 := 4) (s4 := 5) (ad := ⟨w.heap.size, 0, none⟩) rfl rfl (load_paper _ _ (.int .i64 Z) (.slice vl P.length vc) (cell_two (res_put HF.out.st.res)).1 (cell_two (res_put HF.out.st.res)).2) rfl rfl rfl rfl ?_
            obtain ⟨z1, z2, z3, z4⟩ := HO.out.2 HB.out
            rw [z1, z2, z3, z4, HB.out]
            refine ⟨_, _, rfl, ?_, ?_, (HF.out.st.bel.setCell (p := ⟨w.heap.size, 0, none⟩) (Nat.le_refl _) _).setCell (p := ⟨w.heap.size, 1, none⟩) (Nat.le_refl _) _⟩
            · exact (own_put (own_put HF.out.own w.heap.size 0 _ (by omega)) w.heap.size 1 _ (by omega)).mono (by omega)
            · have := HF.out.hb
              exact (own_put (own_put HF.out.sig w.heap.size 0 _ (by omega)) w.heap.size 1 _ (by omega)).mono (by omega)
          · have HB : Hid (openB c = false) := hid (by rw [HO.out.1, decide_eq_false he]; simp)
            generalize endOf (sgS (oS2 c) j).1 (sgS (oS2 c) j).2 = er at hE he
            have HEnd := hid hE
            have hEr : (er != 0) = true := by simpa using he
            have r0 := (cell_two HF.out.st.res).1
            have r1 := (cell_two HF.out.st.res).2
            have f0 : wr.frozen? ⟨w.heap.size, 0, none⟩ = false := free_at HF.out.st.res 0
            have f1 : wr.frozen? ⟨w.heap.size, 1, none⟩ = false := free_at HF.out.st.res 1
            have p0 := (cell_two HF.out.pp).1
            have p1 := (cell_two HF.out.pp).2
            clear hE hj h16 hgo hN16
            go_wp2_with (go_at_call 69; refine (HEnd.out).mono ?_; rintro e wx ⟨rfl, rfl⟩)
            refine ret_four (s := 2) (s2 := 3) (s3 := 4) (s4 := 5) (ad := ⟨w.heap.size, 0, none⟩) rfl rfl (load_paper _ _ (.int .i64 0) (.slice none 0 0) (cell_two (res_put HF.out.st.res)).1 (cell_two (res_put HF.out.st.res)).2) rfl rfl rfl rfl ?_
            rw [opZ, opP, opT, opL, HB.out]
            exact ⟨_, _, rfl, ⟨rfl, .inl ⟨rfl, rfl⟩⟩, ⟨rfl, .inl ⟨rfl, rfl⟩⟩, (HF.out.st.bel.setCell (p := ⟨w.heap.size, 0, none⟩) (Nat.le_refl _) _).setCell (p := ⟨w.heap.size, 1, none⟩) (Nat.le_refl _) _⟩
        · have hj2 : ¬ ((N : Int) ≤ 16) := by omega
          have hj3 : (16 : Int) < (N : Int) := by omega
          have hj4 : j = 0 := by omega
          subst hj4
          have hj1 : ((0 : Nat) : Int) < (N : Int) := by omega
          have HB : Hid (openB c = false) := hid (by rw [HO.out.1, decide_eq_false hN16]; simp)
          have r0 := (cell_two HF.out.st.res).1
          have r1 := (cell_two HF.out.st.res).2
          have f0 : wr.frozen? ⟨w.heap.size, 0, none⟩ = false := free_at HF.out.st.res 0
          have f1 : wr.frozen? ⟨w.heap.size, 1, none⟩ = false := free_at HF.out.st.res 1
          have p0 := (cell_two HF.out.pp).1
          have p1 := (cell_two HF.out.pp).2
          clear hj h16 hgo hN16
          go_wp2
          refine ret_four (s := 2) (s2 := 3) (s3 := 4) (s4 := 5) (ad := ⟨w.heap.size, 0, none⟩) rfl rfl (load_paper _ _ (.int .i64 0) (.slice none 0 0) (cell_two (res_put HF.out.st.res)).1 (cell_two (res_put HF.out.st.res)).2) rfl rfl rfl rfl ?_
          rw [opZ, opP, opT, opL, HB.out]
          exact ⟨_, _, rfl, ⟨rfl, .inl ⟨rfl, rfl⟩⟩, ⟨rfl, .inl ⟨rfl, rfl⟩⟩, (HF.out.st.bel.setCell (p := ⟨w.heap.size, 0, none⟩) (Nat.le_refl _) _).setCell (p := ⟨w.heap.size, 1, none⟩) (Nat.le_refl _) _⟩
      · have HB : Hid (openB c = false) := hid (by rw [HO.out.1, decide_eq_false hR]; rfl)
        have hRb : (R != 0) = true := by simpa using hR
        have r0 := (cell_two HF.out.st.res).1
        have r1 := (cell_two HF.out.st.res).2
        have f0 : wr.frozen? ⟨w.heap.size, 0, none⟩ = false := free_at HF.out.st.res 0
        have f1 : wr.frozen? ⟨w.heap.size, 1, none⟩ = false := free_at HF.out.st.res 1
        have p0 := (cell_two HF.out.pp).1
        have p1 := (cell_two HF.out.pp).2
        by_cases hN16 : N ≤ 16
        · have hj1 : ¬ ((j : Int) < (N : Int)) := by omega
          clear hj h16 hgo hN16
          go_wp2
          refine ret_four (s := 2) (s2 := 3) (s3 := 4) (s4 := 5) (ad := ⟨w.heap.size, 0, none⟩) rfl rfl (load_paper _ _ (.int .i64 0) (.slice none 0 0) (cell_two (res_put HF.out.st.res)).1 (cell_two (res_put HF.out.st.res)).2) rfl rfl rfl rfl ?_
          rw [opZ, opP, opT, opL, HB.out]
          exact ⟨_, _, rfl, ⟨rfl, .inl ⟨rfl, rfl⟩⟩, ⟨rfl, .inl ⟨rfl, rfl⟩⟩, (HF.out.st.bel.setCell (p := ⟨w.heap.size, 0, none⟩) (Nat.le_refl _) _).setCell (p := ⟨w.heap.size, 1, none⟩) (Nat.le_refl _) _⟩
        · have hj2 : ¬ ((N : Int) ≤ 16) := by omega
          have hj4 : j = 0 := by omega
          subst hj4
          have hj1 : ((0 : Nat) : Int) < (N : Int) := by omega
          clear hj h16 hgo hN16
          go_wp2
          refine ret_four (s := 2) (s2 := 3) (s3 := 4) (s4 := 5) (ad := ⟨w.heap.size, 0, none⟩) rfl rfl (load_paper _ _ (.int .i64 0) (.slice none 0 0) (cell_two (res_put HF.out.st.res)).1 (cell_two (res_put HF.out.st.res)).2) rfl rfl rfl rfl ?_
          rw [opZ, opP, opT, opL, HB.out]
          exact ⟨_, _, rfl, ⟨rfl, .inl ⟨rfl, rfl⟩⟩, ⟨rfl, .inl ⟨rfl, rfl⟩⟩, (HF.out.st.bel.setCell (p := ⟨w.heap.size, 0, none⟩) (Nat.le_refl _) _).setCell (p := ⟨w.heap.size, 1, none⟩) (Nat.le_refl _) _⟩
end Go.Proofs.Ytchlmcpnjpllnaa

/- The document's papers: the same papers; a seat's root. -/
namespace Go.Proofs.Ytchlmcpnjpllnaa
open Go.RowKit

set_option maxRecDepth 100000 in
set_option maxHeartbeats 3200000 in
theorem xsame_yes (ep : Int) (a1 a2 : Option Addr) (n c1 c2 : Nat) (ps : List (Int × ByteArray)) (hn : ps.length = n) (hm : n ≤ maxLen) (w : World) (h1 : PairsIn w a1 ps) (h2 : PairsIn w a2 ps) :
    Calls Try.prog 14 #[.agg #[.int .i64 ep, .slice a1 n c1], .agg #[.int .i64 ep, .slice a2 n c2]] w fun e w' => e = .returned (.bool true) ∧ Below w.heap.size w w' := by
  have hm2 : (n : Int) ≤ 9223372036854775807 := by unfold maxLen at hm; omega
  have HP := hid (And.intro h1 h2)
  have HN := hid hn
  clear h1 h2 hm hn
  go_enter Try.func14, Try.ntmps14
  go_wp2
  go_loopw [5] (fun i wr => ∃ j : Nat, j ≤ n ∧ i = .int .i64 (j : Int) ∧ PpAt wr w.heap.size ep (.slice a1 n c1) 24 ∧ PpAt wr (w.heap.size + 1) ep (.slice a2 n c2) 24 ∧ Below w.heap.size w wr)
    (fun i _ => ((n : Int) - intOf i).toNat)
  case atStart =>
    refine ⟨0, by omega, rfl, (PpAt.new w ep _ _).keep ((Below.refl _ _).alloc (Nat.le_refl _) _), ?_, ((Below.refl _ _).alloc (Nat.le_refl _) _).alloc (by simp) _⟩
    have := PpAt.new (w.alloc (.cells #[.int .i64 ep, .slice a1 n c1] 24)) ep (.slice a2 n c2) 24
    simpa using this
  case round =>
    obtain ⟨j, hj, rfl, hp1, hp2, hbel⟩ := hrel
    have HB := hid (And.intro hp1 (And.intro hp2 hbel))
    have k1 := hp1.c1
    have k2 := hp2.c1
    clear hbel hp1 hp2
    by_cases hjn : j = n
    · have hj1 : ¬ ((j : Int) < (n : Int)) := by omega
      clear hj hjn
      go_wp2
      go_ret
      exact ⟨rfl, HB.out.2.2⟩
    · have hj1 : (j : Int) < (n : Int) := by omega
      have hj0 : (0 : Int) ≤ (j : Int) := Int.natCast_nonneg _
      have hp := getP_some (ps := ps) (j := j) (by rw [HN.out]; omega)
      obtain ⟨g1, o1, rfl, hg1, x1, y1⟩ := HP.out.1.at j _ hp
      obtain ⟨g2, o2, rfl, hg2, x2, y2⟩ := HP.out.2.at j _ hp
      obtain ⟨x, ex⟩ : ∃ x, x = idOf ps j := ⟨_, rfl⟩
      obtain ⟨r, er⟩ : ∃ r, r = rtOf ps j := ⟨_, rfl⟩
      rw [← ex] at x1 x2
      rw [← er] at y1 y2
      have hbx : ∀ q : Cls wr, Below w.heap.size w q.1 := fun q => HB.out.2.2.trans (q.2.mono HB.out.2.2.size)
      have d1 : ∀ q : Cls wr, q.1.cell? ⟨g1, o1 + j * 2, none⟩ = some (.int .i64 x) := fun q => ((hbx q).cell (p := ⟨g1, _, none⟩) hg1).trans x1
      have d2 : ∀ q : Cls wr, q.1.cell? ⟨g1, o1 + j * 2 + 1, none⟩ = some (.string r) := fun q => ((hbx q).cell (p := ⟨g1, _, none⟩) hg1).trans y1
      have d3 : ∀ q : Cls wr, q.1.cell? ⟨g2, o2 + j * 2, none⟩ = some (.int .i64 x) := fun q => ((hbx q).cell (p := ⟨g2, _, none⟩) hg2).trans x2
      have d4 : ∀ q : Cls wr, q.1.cell? ⟨g2, o2 + j * 2 + 1, none⟩ = some (.string r) := fun q => ((hbx q).cell (p := ⟨g2, _, none⟩) hg2).trans y2
      have d5 : ∀ q : Cls wr, q.1.cell? ⟨w.heap.size, 1, none⟩ = some (.slice (some ⟨g1, o1, none⟩) n c1) := fun q => (HB.out.1.keep q.2).c1
      have d6 : ∀ q : Cls wr, q.1.cell? ⟨w.heap.size + 1, 1, none⟩ = some (.slice (some ⟨g2, o2, none⟩) n c2) := fun q => (HB.out.2.1.keep q.2).c1
      have HJ := hid (And.intro hj hjn)
      clear hp x1 y1 x2 y2 hbx hg1 hg2 ex er hj hjn
      go_wp2
      clear k1 k2
      haveI := Cls.ne wr
      refine wp_region_cls wr (by kernel_rfl) (by kernel_rfl) ?_
      repeat (go_big_quiet_step ((fail)))
      refine wpQuiet_nil ?_
      rintro _ ⟨q, rfl⟩
      go_wp2
      go_roundw
      case rel => exact ⟨j + 1, by have := HJ.out; omega, by go_num, HB.out.1.keep q.2, HB.out.2.1.keep q.2, HB.out.2.2.trans (q.2.mono HB.out.2.2.size)⟩
      case measure => simp [intOf]; omega

/-- A seat's root. -/
def seatP (ps : List (Int × ByteArray)) (id : Int) : Option ByteArray := (ps.find? fun p => decide (p.1 = id)).map (·.2)
theorem seatP_none {ps : List (Int × ByteArray)} {id : Int} (h : ∀ j, j < ps.length → idOf ps j ≠ id) : seatP ps id = none := by
  rw [seatP, List.find?_eq_none.2]
  · rfl
  · intro p hp
    obtain ⟨j, hj, rfl⟩ := List.getElem_of_mem hp
    have := h j hj
    rw [idOf, List.getD_eq_getElem?_getD, List.getElem?_eq_getElem hj] at this
    simpa using this
theorem seatP_some {ps : List (Int × ByteArray)} {id : Int} (j : Nat) (hj : j < ps.length) (h : ∀ i, i < j → idOf ps i ≠ id) (he : idOf ps j = id) : seatP ps id = some (rtOf ps j) := by
  have hf : ps.find? (fun p => decide (p.1 = id)) = some (idOf ps j, rtOf ps j) := by
    rw [List.find?_eq_some_iff_getElem]
    refine ⟨by simpa using he, j, hj, ?_, fun i hi => ?_⟩
    · have := getP_some hj
      rw [List.getElem?_eq_getElem hj] at this
      simpa using this
    · have := h i hi
      rw [idOf, List.getD_eq_getElem?_getD, List.getElem?_eq_getElem (by omega)] at this
      simpa using this
  rw [seatP, hf]
  rfl
def seatS (ps : List (Int × ByteArray)) (id : Int) : ByteArray := (seatP ps id).getD ⟨#[]⟩
def seatB (ps : List (Int × ByteArray)) (id : Int) : Bool := (seatP ps id).isSome
set_option maxRecDepth 100000 in
set_option maxHeartbeats 1600000 in
theorem xroot_any (ep : Int) (a : Option Addr) (n cap : Nat) (ps : List (Int × ByteArray)) (hn : ps.length = n) (hm : n ≤ maxLen) (id : Int) (w : World) (hP : PairsIn w a ps) :
    Calls Try.prog 47 #[.agg #[.int .i64 ep, .slice a n cap], .int .i64 id] w fun e w' => e = .returned (.tuple #[.string (seatS ps id), .bool (seatB ps id)]) ∧ Below w.heap.size w w' := by
  have hm2 : (n : Int) ≤ 9223372036854775807 := by unfold maxLen at hm; omega
  have HP := hid hP
  have HN := hid hn
  clear hP hm hn
  go_enter Try.func47, Try.ntmps47
  go_wp2
  go_loopw [6] (fun i wr => ∃ j : Nat, j ≤ n ∧ i = .int .i64 (j : Int) ∧ (∀ k, k < j → idOf ps k ≠ id) ∧ PpAt wr w.heap.size ep (.slice a n cap) 24 ∧ Below w.heap.size w wr)
    (fun i _ => ((n : Int) - intOf i).toNat)
  case atStart => exact ⟨0, by omega, rfl, fun k hk => by omega, PpAt.new w ep _ _, (Below.refl _ _).alloc (Nat.le_refl _) _⟩
  case round =>
    obtain ⟨j, hj, rfl, hno, hpp, hbel⟩ := hrel
    have HB := hid (And.intro hpp hbel)
    have c1 := hpp.c1
    clear hbel hpp
    by_cases hjn : j = n
    · have hj1 : ¬ ((j : Int) < (n : Int)) := by omega
      have HF : Hid (seatP ps id = none) := hid (seatP_none (fun k hk => hno k (by rw [HN.out] at hk; omega)))
      clear hno hj hjn
      go_wp2
      go_ret2
      exact ⟨by rw [seatS, seatB, HF.out]; rfl, HB.out.2⟩
    · have hj1 : (j : Int) < (n : Int) := by omega
      have hj0 : (0 : Int) ≤ (j : Int) := Int.natCast_nonneg _
      have hjl : j < ps.length := by rw [HN.out]; omega
      obtain ⟨g, off, rfl, hg, hc1, hc2⟩ := HP.out.at j _ (getP_some hjl)
      have k1 := (HB.out.2.cell (p := ⟨g, _, none⟩) hg).trans hc1
      have k2 := (HB.out.2.cell (p := ⟨g, _, none⟩) hg).trans hc2
      by_cases hx : idOf ps j = id
      · have HF : Hid (seatP ps id = some (rtOf ps j)) := hid (seatP_some j hjl hno hx)
        obtain ⟨r, er⟩ : ∃ r, r = rtOf ps j := ⟨_, rfl⟩
        rw [hx] at k1
        rw [← er] at k2 HF
        clear hno hj hjn hx hjl hg hc1 hc2 er
        go_wp2
        go_ret2
        exact ⟨by rw [seatS, seatB, HF.out]; rfl, HB.out.2⟩
      · have HF : Hid (∀ k, k < j + 1 → idOf ps k ≠ id) := hid (fun k hk => by
          by_cases e : k = j
          · rw [e]; exact hx
          · exact hno k (by omega))
        obtain ⟨x, ex⟩ : ∃ x, x = idOf ps j := ⟨_, rfl⟩
        obtain ⟨r, er⟩ : ∃ r, r = rtOf ps j := ⟨_, rfl⟩
        rw [← ex] at k1 hx
        rw [← er] at k2
        have HJ := hid (And.intro hj hjn)
        clear hno hj hjn hjl hg hc1 hc2 ex er
        go_wp2
        go_roundw
        case rel => exact ⟨j + 1, by have := HJ.out; omega, by go_num, HF.out, HB.out.1, HB.out.2⟩
        case measure => simp [intOf]; omega
end Go.Proofs.Ytchlmcpnjpllnaa

/- Words of 32 bits: what the model's numbers are of them, and what turning, shifting and adding does. No walk here. -/
namespace Go.Proofs.Ytchlmcpnjpllnaa
open Go.RowKit

/-- A word's number. -/
def u (x : BitVec 32) : Int := (x.toNat : Int)
theorem u_nonneg (x : BitVec 32) : 0 ≤ u x := Int.natCast_nonneg _
theorem u_lt (x : BitVec 32) : u x < 4294967296 := by have := x.isLt; unfold u; omega
theorem u_lit (n : Nat) (h : n < 4294967296) : (n : Int) = u (BitVec.ofNat 32 n) := by
  simp [u, Nat.mod_eq_of_lt h]

theorem ofInt_u (x : BitVec 32) : BitVec.ofInt 32 (u x) = x := by
  unfold u
  rw [BitVec.ofInt_natCast, BitVec.ofNat_toNat]
  simp
theorem wrap_u (x : BitVec 32) : IntKind.u32.wrap (x.toNat : Int) = u x := by
  have := x.isLt
  unfold u
  simp [IntKind.wrap, IntKind.bits, IntKind.signed]
  omega
theorem u_or (x y : BitVec 32) : bits .or .u32 (u x) (u y) = u (x ||| y) := by
  show IntKind.u32.wrap ((BitVec.ofInt 32 (u x) ||| BitVec.ofInt 32 (u y)).toNat : Int) = _
  rw [ofInt_u, ofInt_u, wrap_u]
theorem u_and (x y : BitVec 32) : bits .and .u32 (u x) (u y) = u (x &&& y) := by
  show IntKind.u32.wrap ((BitVec.ofInt 32 (u x) &&& BitVec.ofInt 32 (u y)).toNat : Int) = _
  rw [ofInt_u, ofInt_u, wrap_u]
theorem u_xor (x y : BitVec 32) : bits .xor .u32 (u x) (u y) = u (x ^^^ y) := by
  show IntKind.u32.wrap ((BitVec.ofInt 32 (u x) ^^^ BitVec.ofInt 32 (u y)).toNat : Int) = _
  rw [ofInt_u, ofInt_u, wrap_u]
theorem u_not (x : BitVec 32) : bits .xor .u32 IntKind.u32.max (u x) = u (~~~ x) := by
  show IntKind.u32.wrap ((BitVec.ofInt 32 IntKind.u32.max ^^^ BitVec.ofInt 32 (u x)).toNat : Int) = _
  have h1 : BitVec.ofInt 32 IntKind.u32.max = BitVec.allOnes 32 := by decide
  rw [h1, ofInt_u, BitVec.allOnes_xor, wrap_u]
theorem u_add (x y : BitVec 32) : (u x + u y) % 4294967296 = u (x + y) := by
  unfold u
  rw [BitVec.toNat_add]
  omega
theorem u_shr (x : BitVec 32) (k : Nat) : u x / ((2 ^ k : Nat) : Int) = u (x >>> k) := by
  unfold u
  rw [BitVec.toNat_ushiftRight, Nat.shiftRight_eq_div_pow]
  rfl
theorem u_shl (x : BitVec 32) (k : Nat) : u x * ((2 ^ k : Nat) : Int) % 4294967296 = u (x <<< k) := by
  unfold u
  rw [BitVec.toNat_shiftLeft, Nat.shiftLeft_eq]
  rfl

/-- Turned right. -/
def rotr (x : BitVec 32) (n : Nat) : BitVec 32 := (x >>> n) ||| (x <<< (32 - n))

/-- The small and the great sigmas. -/
def sg0 (x : BitVec 32) : BitVec 32 := rotr x 7 ^^^ rotr x 18 ^^^ (x >>> 3)
def sg1 (x : BitVec 32) : BitVec 32 := rotr x 17 ^^^ rotr x 19 ^^^ (x >>> 10)
def Sg0 (x : BitVec 32) : BitVec 32 := rotr x 2 ^^^ rotr x 13 ^^^ rotr x 22
def Sg1 (x : BitVec 32) : BitVec 32 := rotr x 6 ^^^ rotr x 11 ^^^ rotr x 25
def ch (e f g : BitVec 32) : BitVec 32 := (e &&& f) ^^^ (~~~ e &&& g)
def maj (a b c : BitVec 32) : BitVec 32 := (a &&& b) ^^^ (a &&& c) ^^^ (b &&& c)
theorem ch_or (e f g : BitVec 32) : (e &&& f) ||| (~~~ e &&& g) = ch e f g := by
  unfold ch
  ext i hi
  simp
  cases e[i] <;> cases f[i] <;> cases g[i] <;> rfl
theorem maj_or (a b c : BitVec 32) : (a &&& b) ||| (a &&& c) ||| (b &&& c) = maj a b c := by
  unfold maj
  ext i hi
  simp
  cases a[i] <;> cases b[i] <;> cases c[i] <;> rfl

/-- The constants. -/
def kList : List (BitVec 32) := [
  0x428a2f98, 0x71374491, 0xb5c0fbcf, 0xe9b5dba5, 0x3956c25b, 0x59f111f1, 0x923f82a4, 0xab1c5ed5,
  0xd807aa98, 0x12835b01, 0x243185be, 0x550c7dc3, 0x72be5d74, 0x80deb1fe, 0x9bdc06a7, 0xc19bf174,
  0xe49b69c1, 0xefbe4786, 0x0fc19dc6, 0x240ca1cc, 0x2de92c6f, 0x4a7484aa, 0x5cb0a9dc, 0x76f988da,
  0x983e5152, 0xa831c66d, 0xb00327c8, 0xbf597fc7, 0xc6e00bf3, 0xd5a79147, 0x06ca6351, 0x14292967,
  0x27b70a85, 0x2e1b2138, 0x4d2c6dfc, 0x53380d13, 0x650a7354, 0x766a0abb, 0x81c2c92e, 0x92722c85,
  0xa2bfe8a1, 0xa81a664b, 0xc24b8b70, 0xc76c51a3, 0xd192e819, 0xd6990624, 0xf40e3585, 0x106aa070,
  0x19a4c116, 0x1e376c08, 0x2748774c, 0x34b0bcb5, 0x391c0cb3, 0x4ed8aa4a, 0x5b9cca4f, 0x682e6ff3,
  0x748f82ee, 0x78a5636f, 0x84c87814, 0x8cc70208, 0x90befffa, 0xa4506ceb, 0xbef9a3f7, 0xc67178f2]
/-- The start. -/
def hList : List (BitVec 32) := [0x6a09e667, 0xbb67ae85, 0x3c6ef372, 0xa54ff53a, 0x510e527f, 0x9b05688c, 0x1f83d9ab, 0x5be0cd19]
/-- Words as cells. -/
def uC (l : List (BitVec 32)) : List Value := l.map fun x => .int .u32 (u x)
theorem uC_len (l : List (BitVec 32)) : (uC l).length = l.length := by simp [uC]
theorem uC_app (a b : List (BitVec 32)) : uC (a ++ b) = uC a ++ uC b := by simp [uC]
theorem uC_get (l : List (BitVec 32)) (i : Nat) (h : i < l.length) : (uC l)[i]? = some (.int .u32 (u (l.getD i 0))) := by
  simp [uC, List.getD, h]

/-- Four bytes as a word. -/
def be4 (a b c d : UInt8) : BitVec 32 := BitVec.ofNat 32 (((a.toNat * 256 + b.toNat) * 256 + c.toNat) * 256 + d.toNat)
theorem u_be4 (a b c d : UInt8) : u (be4 a b c d) = ((((a.toNat * 256 + b.toNat) * 256 + c.toNat) * 256 + d.toNat : Nat) : Int) := by
  unfold u be4
  have := a.toNat_lt; have := b.toNat_lt; have := c.toNat_lt; have := d.toNat_lt
  rw [BitVec.toNat_ofNat]
  omega
/-- The first words of a block. -/
def words16 : Nat → List UInt8 → List (BitVec 32)
  | 0, _ => []
  | n + 1, a :: b :: c :: d :: r => be4 a b c d :: words16 n r
  | _ + 1, _ => []
theorem words16_len : ∀ (n : Nat) (l : List UInt8), l.length = 4 * n → (words16 n l).length = n
  | 0, _, _ => rfl
  | n + 1, a :: b :: c :: d :: r, h => by
    simp only [words16, List.length_cons] at h ⊢
    rw [words16_len n r (by omega)]
  | n + 1, [], h => by simp at h
  | n + 1, [_], h => by simp at h; omega
  | n + 1, [_, _], h => by simp at h; omega
  | n + 1, [_, _, _], h => by simp at h; omega
/-- One word more. -/
def nextW (l : List (BitVec 32)) : BitVec 32 := sg1 (l.getD (l.length - 2) 0) + l.getD (l.length - 7) 0 + sg0 (l.getD (l.length - 15) 0) + l.getD (l.length - 16) 0
def moreW : Nat → List (BitVec 32) → List (BitVec 32)
  | 0, l => l
  | n + 1, l => moreW n (l ++ [nextW l])
theorem moreW_len : ∀ (n : Nat) (l : List (BitVec 32)), (moreW n l).length = l.length + n
  | 0, _ => rfl
  | n + 1, l => by rw [moreW, moreW_len n]; simp; omega
/-- All words of a block. -/
def sched (l : List UInt8) : List (BitVec 32) := moreW 48 (words16 16 l)
theorem sched_len (l : List UInt8) (h : l.length = 64) : (sched l).length = 64 := by
  rw [sched, moreW_len, words16_len 16 l (by omega)]

/-- The eight words. -/
structure St where
  a : BitVec 32
  b : BitVec 32
  c : BitVec 32
  d : BitVec 32
  e : BitVec 32
  f : BitVec 32
  g : BitVec 32
  h : BitVec 32
def St.list (s : St) : List (BitVec 32) := [s.a, s.b, s.c, s.d, s.e, s.f, s.g, s.h]
def St.start : St := ⟨0x6a09e667, 0xbb67ae85, 0x3c6ef372, 0xa54ff53a, 0x510e527f, 0x9b05688c, 0x1f83d9ab, 0x5be0cd19⟩
def rU (s : St) (k w : BitVec 32) : BitVec 32 := s.h + Sg1 s.e + ch s.e s.f s.g + k + w
def rV (s : St) : BitVec 32 := Sg0 s.a + maj s.a s.b s.c
/-- One round. -/
def round1 (s : St) (k w : BitVec 32) : St := ⟨rU s k w + rV s, s.a, s.b, s.c, s.d + rU s k w, s.e, s.f, s.g⟩
/-- n rounds from t on. -/
def roundsN (W : List (BitVec 32)) : Nat → Nat → St → St
  | 0, _, s => s
  | n + 1, t, s => roundsN W n (t + 1) (round1 s (kList.getD t 0) (W.getD t 0))
def St.plus (s x : St) : St := ⟨s.a + x.a, s.b + x.b, s.c + x.c, s.d + x.d, s.e + x.e, s.f + x.f, s.g + x.g, s.h + x.h⟩
/-- The state behind a block with these words. -/
def behindW (s : St) (W : List (BitVec 32)) : St := s.plus (roundsN W 64 0 s)
def step (s : St) (l : List UInt8) : St := behindW s (sched l)
/-- The state behind all whole blocks. -/
def blocks : Nat → St → List UInt8 → St
  | 0, s, _ => s
  | n + 1, s, l => blocks n (step s (l.take 64)) (l.drop 64)
def hashB (s : St) (l : List UInt8) : St := blocks (l.length / 64) s l
theorem hashB_short (s : St) (l : List UInt8) (h : l.length < 64) : hashB s l = s := by
  unfold hashB
  rw [Nat.div_eq_of_lt h]; rfl
theorem hashB_cons (s : St) (a b : List UInt8) (h : a.length = 64) : hashB s (a ++ b) = hashB (step s a) b := by
  unfold hashB
  have e : (a ++ b).length / 64 = b.length / 64 + 1 := by simp [h]
  rw [e, blocks, ← h]
  simp
theorem hashB_app (s : St) (a b : List UInt8) : ∀ (n : Nat), a.length = 64 * n → hashB s (a ++ b) = hashB (hashB s a) b := by
  intro n
  induction n generalizing s a with
  | zero => intro h; obtain rfl := List.eq_nil_of_length_eq_zero (by omega : a.length = 0); simp [hashB_short]
  | succ n ih =>
    intro h
    have e : a = a.take 64 ++ a.drop 64 := (List.take_append_drop 64 a).symm
    have l1 : (a.take 64).length = 64 := by simp; omega
    rw [e, List.append_assoc, hashB_cons _ _ _ l1, hashB_cons _ _ _ l1]
    exact ih _ _ (by simp; omega)

/-- The bytes of a word. -/
def wBytes (x : BitVec 32) : List UInt8 := [UInt8.ofNat (x.toNat / 16777216), UInt8.ofNat (x.toNat / 65536), UInt8.ofNat (x.toNat / 256), UInt8.ofNat x.toNat]
def St.text (s : St) : List UInt8 := s.list.flatMap wBytes

def zerosN (n : Nat) : Nat := (64 - (n + 9) % 64) % 64
def padB (n : Nat) : List UInt8 := 128 :: (List.replicate (zerosN n) 0 ++ be 8 (8 * n))
theorem padB_len (n : Nat) : (padB n).length = 9 + zerosN n := by simp [padB, be_len]; omega
def shaB (l : List UInt8) : List UInt8 := (hashB .start (l ++ padB l.length)).text
theorem text_len (s : St) : s.text.length = 32 := by simp [St.text, St.list, wBytes]
theorem shaB_len (l : List UInt8) : (shaB l).length = 32 := text_len _

set_option maxRecDepth 100000 in
theorem sha_abc : (shaB [97, 98, 99]).take 4 = [186, 120, 22, 191] := by decide +kernel

end Go.Proofs.Ytchlmcpnjpllnaa

/- Turning, as the program and as the document's reference do it; the tables. -/
namespace Go.Proofs.Ytchlmcpnjpllnaa
open Go.RowKit

theorem turned_val (x : BitVec 32) (n : Nat) : bits .or .u32 (u x * ((2 ^ (32 - n) : Nat) : Int) % 4294967296) (u x / ((2 ^ n : Nat) : Int)) = u (rotr x n) := by
  rw [u_shl, u_shr, u_or, BitVec.or_comm]; rfl
theorem turn_val (x : BitVec 32) (n : Nat) : bits .or .u32 (u x / ((2 ^ n : Nat) : Int)) (u x * ((2 ^ (32 - n) : Nat) : Int) % 4294967296) = u (rotr x n) := by
  rw [u_shl, u_shr, u_or]; rfl

theorem rot2 (x : BitVec 32) (w : World) : Calls Try.prog 116 #[.int .u32 (u x), .int .i64 (-2)] w fun e w' => e = .returned (.int .u32 (u (rotr x 2))) ∧ w' = w := by
  have hb : bits .and .u64 (IntKind.u64.wrap (-2)) 31 = 30 := by decide
  go_enter Try.func116, Try.ntmps116
  go_wp2
  go_ret
  exact ⟨by rw [← turned_val]; rfl, rfl⟩
theorem turned2 (x : BitVec 32) (w : World) : Calls Try.prog 115 #[.int .u32 (u x), .int .i64 2] w fun e w' => e = .returned (.int .u32 (u (rotr x 2))) ∧ w' = w := by
  go_enter Try.func115, Try.ntmps115
  go_wp2_with (go_at_call 116; refine (rot2 _ _).mono ?_; rintro e w1 ⟨rfl, rfl⟩)
  go_ret
  exact ⟨rfl, rfl⟩
theorem turn2 (x : BitVec 32) (w : World) : Calls Try.prog 97 #[.int .u32 (u x), .int .i64 2] w fun e w' => e = .returned (.int .u32 (u (rotr x 2))) ∧ w' = w := by
  go_enter Try.func97, Try.ntmps97
  go_wp2
  go_ret
  exact ⟨by rw [← turn_val]; rfl, rfl⟩

theorem rot6 (x : BitVec 32) (w : World) : Calls Try.prog 116 #[.int .u32 (u x), .int .i64 (-6)] w fun e w' => e = .returned (.int .u32 (u (rotr x 6))) ∧ w' = w := by
  have hb : bits .and .u64 (IntKind.u64.wrap (-6)) 31 = 26 := by decide
  go_enter Try.func116, Try.ntmps116
  go_wp2
  go_ret
  exact ⟨by rw [← turned_val]; rfl, rfl⟩
theorem turned6 (x : BitVec 32) (w : World) : Calls Try.prog 115 #[.int .u32 (u x), .int .i64 6] w fun e w' => e = .returned (.int .u32 (u (rotr x 6))) ∧ w' = w := by
  go_enter Try.func115, Try.ntmps115
  go_wp2_with (go_at_call 116; refine (rot6 _ _).mono ?_; rintro e w1 ⟨rfl, rfl⟩)
  go_ret
  exact ⟨rfl, rfl⟩
theorem turn6 (x : BitVec 32) (w : World) : Calls Try.prog 97 #[.int .u32 (u x), .int .i64 6] w fun e w' => e = .returned (.int .u32 (u (rotr x 6))) ∧ w' = w := by
  go_enter Try.func97, Try.ntmps97
  go_wp2
  go_ret
  exact ⟨by rw [← turn_val]; rfl, rfl⟩

theorem rot7 (x : BitVec 32) (w : World) : Calls Try.prog 116 #[.int .u32 (u x), .int .i64 (-7)] w fun e w' => e = .returned (.int .u32 (u (rotr x 7))) ∧ w' = w := by
  have hb : bits .and .u64 (IntKind.u64.wrap (-7)) 31 = 25 := by decide
  go_enter Try.func116, Try.ntmps116
  go_wp2
  go_ret
  exact ⟨by rw [← turned_val]; rfl, rfl⟩
theorem turned7 (x : BitVec 32) (w : World) : Calls Try.prog 115 #[.int .u32 (u x), .int .i64 7] w fun e w' => e = .returned (.int .u32 (u (rotr x 7))) ∧ w' = w := by
  go_enter Try.func115, Try.ntmps115
  go_wp2_with (go_at_call 116; refine (rot7 _ _).mono ?_; rintro e w1 ⟨rfl, rfl⟩)
  go_ret
  exact ⟨rfl, rfl⟩
theorem turn7 (x : BitVec 32) (w : World) : Calls Try.prog 97 #[.int .u32 (u x), .int .i64 7] w fun e w' => e = .returned (.int .u32 (u (rotr x 7))) ∧ w' = w := by
  go_enter Try.func97, Try.ntmps97
  go_wp2
  go_ret
  exact ⟨by rw [← turn_val]; rfl, rfl⟩

theorem rot11 (x : BitVec 32) (w : World) : Calls Try.prog 116 #[.int .u32 (u x), .int .i64 (-11)] w fun e w' => e = .returned (.int .u32 (u (rotr x 11))) ∧ w' = w := by
  have hb : bits .and .u64 (IntKind.u64.wrap (-11)) 31 = 21 := by decide
  go_enter Try.func116, Try.ntmps116
  go_wp2
  go_ret
  exact ⟨by rw [← turned_val]; rfl, rfl⟩
theorem turned11 (x : BitVec 32) (w : World) : Calls Try.prog 115 #[.int .u32 (u x), .int .i64 11] w fun e w' => e = .returned (.int .u32 (u (rotr x 11))) ∧ w' = w := by
  go_enter Try.func115, Try.ntmps115
  go_wp2_with (go_at_call 116; refine (rot11 _ _).mono ?_; rintro e w1 ⟨rfl, rfl⟩)
  go_ret
  exact ⟨rfl, rfl⟩
theorem turn11 (x : BitVec 32) (w : World) : Calls Try.prog 97 #[.int .u32 (u x), .int .i64 11] w fun e w' => e = .returned (.int .u32 (u (rotr x 11))) ∧ w' = w := by
  go_enter Try.func97, Try.ntmps97
  go_wp2
  go_ret
  exact ⟨by rw [← turn_val]; rfl, rfl⟩

theorem rot13 (x : BitVec 32) (w : World) : Calls Try.prog 116 #[.int .u32 (u x), .int .i64 (-13)] w fun e w' => e = .returned (.int .u32 (u (rotr x 13))) ∧ w' = w := by
  have hb : bits .and .u64 (IntKind.u64.wrap (-13)) 31 = 19 := by decide
  go_enter Try.func116, Try.ntmps116
  go_wp2
  go_ret
  exact ⟨by rw [← turned_val]; rfl, rfl⟩
theorem turned13 (x : BitVec 32) (w : World) : Calls Try.prog 115 #[.int .u32 (u x), .int .i64 13] w fun e w' => e = .returned (.int .u32 (u (rotr x 13))) ∧ w' = w := by
  go_enter Try.func115, Try.ntmps115
  go_wp2_with (go_at_call 116; refine (rot13 _ _).mono ?_; rintro e w1 ⟨rfl, rfl⟩)
  go_ret
  exact ⟨rfl, rfl⟩
theorem turn13 (x : BitVec 32) (w : World) : Calls Try.prog 97 #[.int .u32 (u x), .int .i64 13] w fun e w' => e = .returned (.int .u32 (u (rotr x 13))) ∧ w' = w := by
  go_enter Try.func97, Try.ntmps97
  go_wp2
  go_ret
  exact ⟨by rw [← turn_val]; rfl, rfl⟩

theorem rot17 (x : BitVec 32) (w : World) : Calls Try.prog 116 #[.int .u32 (u x), .int .i64 (-17)] w fun e w' => e = .returned (.int .u32 (u (rotr x 17))) ∧ w' = w := by
  have hb : bits .and .u64 (IntKind.u64.wrap (-17)) 31 = 15 := by decide
  go_enter Try.func116, Try.ntmps116
  go_wp2
  go_ret
  exact ⟨by rw [← turned_val]; rfl, rfl⟩
theorem turned17 (x : BitVec 32) (w : World) : Calls Try.prog 115 #[.int .u32 (u x), .int .i64 17] w fun e w' => e = .returned (.int .u32 (u (rotr x 17))) ∧ w' = w := by
  go_enter Try.func115, Try.ntmps115
  go_wp2_with (go_at_call 116; refine (rot17 _ _).mono ?_; rintro e w1 ⟨rfl, rfl⟩)
  go_ret
  exact ⟨rfl, rfl⟩
theorem turn17 (x : BitVec 32) (w : World) : Calls Try.prog 97 #[.int .u32 (u x), .int .i64 17] w fun e w' => e = .returned (.int .u32 (u (rotr x 17))) ∧ w' = w := by
  go_enter Try.func97, Try.ntmps97
  go_wp2
  go_ret
  exact ⟨by rw [← turn_val]; rfl, rfl⟩

theorem rot18 (x : BitVec 32) (w : World) : Calls Try.prog 116 #[.int .u32 (u x), .int .i64 (-18)] w fun e w' => e = .returned (.int .u32 (u (rotr x 18))) ∧ w' = w := by
  have hb : bits .and .u64 (IntKind.u64.wrap (-18)) 31 = 14 := by decide
  go_enter Try.func116, Try.ntmps116
  go_wp2
  go_ret
  exact ⟨by rw [← turned_val]; rfl, rfl⟩
theorem turned18 (x : BitVec 32) (w : World) : Calls Try.prog 115 #[.int .u32 (u x), .int .i64 18] w fun e w' => e = .returned (.int .u32 (u (rotr x 18))) ∧ w' = w := by
  go_enter Try.func115, Try.ntmps115
  go_wp2_with (go_at_call 116; refine (rot18 _ _).mono ?_; rintro e w1 ⟨rfl, rfl⟩)
  go_ret
  exact ⟨rfl, rfl⟩
theorem turn18 (x : BitVec 32) (w : World) : Calls Try.prog 97 #[.int .u32 (u x), .int .i64 18] w fun e w' => e = .returned (.int .u32 (u (rotr x 18))) ∧ w' = w := by
  go_enter Try.func97, Try.ntmps97
  go_wp2
  go_ret
  exact ⟨by rw [← turn_val]; rfl, rfl⟩

theorem rot19 (x : BitVec 32) (w : World) : Calls Try.prog 116 #[.int .u32 (u x), .int .i64 (-19)] w fun e w' => e = .returned (.int .u32 (u (rotr x 19))) ∧ w' = w := by
  have hb : bits .and .u64 (IntKind.u64.wrap (-19)) 31 = 13 := by decide
  go_enter Try.func116, Try.ntmps116
  go_wp2
  go_ret
  exact ⟨by rw [← turned_val]; rfl, rfl⟩
theorem turned19 (x : BitVec 32) (w : World) : Calls Try.prog 115 #[.int .u32 (u x), .int .i64 19] w fun e w' => e = .returned (.int .u32 (u (rotr x 19))) ∧ w' = w := by
  go_enter Try.func115, Try.ntmps115
  go_wp2_with (go_at_call 116; refine (rot19 _ _).mono ?_; rintro e w1 ⟨rfl, rfl⟩)
  go_ret
  exact ⟨rfl, rfl⟩
theorem turn19 (x : BitVec 32) (w : World) : Calls Try.prog 97 #[.int .u32 (u x), .int .i64 19] w fun e w' => e = .returned (.int .u32 (u (rotr x 19))) ∧ w' = w := by
  go_enter Try.func97, Try.ntmps97
  go_wp2
  go_ret
  exact ⟨by rw [← turn_val]; rfl, rfl⟩

theorem rot22 (x : BitVec 32) (w : World) : Calls Try.prog 116 #[.int .u32 (u x), .int .i64 (-22)] w fun e w' => e = .returned (.int .u32 (u (rotr x 22))) ∧ w' = w := by
  have hb : bits .and .u64 (IntKind.u64.wrap (-22)) 31 = 10 := by decide
  go_enter Try.func116, Try.ntmps116
  go_wp2
  go_ret
  exact ⟨by rw [← turned_val]; rfl, rfl⟩
theorem turned22 (x : BitVec 32) (w : World) : Calls Try.prog 115 #[.int .u32 (u x), .int .i64 22] w fun e w' => e = .returned (.int .u32 (u (rotr x 22))) ∧ w' = w := by
  go_enter Try.func115, Try.ntmps115
  go_wp2_with (go_at_call 116; refine (rot22 _ _).mono ?_; rintro e w1 ⟨rfl, rfl⟩)
  go_ret
  exact ⟨rfl, rfl⟩
theorem turn22 (x : BitVec 32) (w : World) : Calls Try.prog 97 #[.int .u32 (u x), .int .i64 22] w fun e w' => e = .returned (.int .u32 (u (rotr x 22))) ∧ w' = w := by
  go_enter Try.func97, Try.ntmps97
  go_wp2
  go_ret
  exact ⟨by rw [← turn_val]; rfl, rfl⟩

theorem rot25 (x : BitVec 32) (w : World) : Calls Try.prog 116 #[.int .u32 (u x), .int .i64 (-25)] w fun e w' => e = .returned (.int .u32 (u (rotr x 25))) ∧ w' = w := by
  have hb : bits .and .u64 (IntKind.u64.wrap (-25)) 31 = 7 := by decide
  go_enter Try.func116, Try.ntmps116
  go_wp2
  go_ret
  exact ⟨by rw [← turned_val]; rfl, rfl⟩
theorem turned25 (x : BitVec 32) (w : World) : Calls Try.prog 115 #[.int .u32 (u x), .int .i64 25] w fun e w' => e = .returned (.int .u32 (u (rotr x 25))) ∧ w' = w := by
  go_enter Try.func115, Try.ntmps115
  go_wp2_with (go_at_call 116; refine (rot25 _ _).mono ?_; rintro e w1 ⟨rfl, rfl⟩)
  go_ret
  exact ⟨rfl, rfl⟩
theorem turn25 (x : BitVec 32) (w : World) : Calls Try.prog 97 #[.int .u32 (u x), .int .i64 25] w fun e w' => e = .returned (.int .u32 (u (rotr x 25))) ∧ w' = w := by
  go_enter Try.func97, Try.ntmps97
  go_wp2
  go_ret
  exact ⟨by rw [← turn_val]; rfl, rfl⟩

theorem turned_any (x : BitVec 32) (n : Int) (w : World) (h : n = 2 ∨ n = 6 ∨ n = 7 ∨ n = 11 ∨ n = 13 ∨ n = 17 ∨ n = 18 ∨ n = 19 ∨ n = 22 ∨ n = 25) : Calls Try.prog 115 #[.int .u32 (u x), .int .i64 n] w fun e w' => e = .returned (.int .u32 (u (rotr x n.toNat))) ∧ w' = w := by
  rcases h with rfl | rfl | rfl | rfl | rfl | rfl | rfl | rfl | rfl | rfl
  · exact turned2 x w
  · exact turned6 x w
  · exact turned7 x w
  · exact turned11 x w
  · exact turned13 x w
  · exact turned17 x w
  · exact turned18 x w
  · exact turned19 x w
  · exact turned22 x w
  · exact turned25 x w

theorem turn_any (x : BitVec 32) (n : Int) (w : World) (h : n = 2 ∨ n = 6 ∨ n = 7 ∨ n = 11 ∨ n = 13 ∨ n = 17 ∨ n = 18 ∨ n = 19 ∨ n = 22 ∨ n = 25) : Calls Try.prog 97 #[.int .u32 (u x), .int .i64 n] w fun e w' => e = .returned (.int .u32 (u (rotr x n.toNat))) ∧ w' = w := by
  rcases h with rfl | rfl | rfl | rfl | rfl | rfl | rfl | rfl | rfl | rfl
  · exact turn2 x w
  · exact turn6 x w
  · exact turn7 x w
  · exact turn11 x w
  · exact turn13 x w
  · exact turn17 x w
  · exact turn18 x w
  · exact turn19 x w
  · exact turn22 x w
  · exact turn25 x w


def kC : Array Value := (uC kList).toArray
def hC : Array Value := (uC hList).toArray
theorem kC_size : kC.size = 64 := rfl
theorem hC_size : hC.size = 8 := rfl

end Go.Proofs.Ytchlmcpnjpllnaa
