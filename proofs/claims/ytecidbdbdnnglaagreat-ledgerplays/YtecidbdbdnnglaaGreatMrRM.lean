/- The contracts of the document's reader (layer 1's reference). -/
import Derived.Test.YtecidbdbdnnglaaGreatPk1
import Derived.BigQuiet
import Derived.Deep.QuietTactic
namespace Go.Proofs.YtecidbdbdnnglaaGreat
open Go.RowKit

/-- The document's reader at block b. -/
def MrAt (w : World) (b : Nat) (s : ByteArray) (sh : Bool) : Prop := w.heap[b]? = some (.cells #[.string s, .bool sh] 96 (0, 0))
theorem MrAt.lt {w : World} {b : Nat} {s : ByteArray} {sh : Bool} (h : MrAt w b s sh) : b < w.heap.size := lt_of_blk h
theorem MrAt.c0 {w : World} {b : Nat} {s : ByteArray} {sh : Bool} (h : MrAt w b s sh) : w.cell? ⟨b, 0, none⟩ = some (.string s) := cell_of_blk h 0 (by simp)
theorem MrAt.c1 {w : World} {b : Nat} {s : ByteArray} {sh : Bool} (h : MrAt w b s sh) : w.cell? ⟨b, 1, none⟩ = some (.bool sh) := cell_of_blk h 1 (by simp)
theorem MrAt.fr {w : World} {b : Nat} {s : ByteArray} {sh : Bool} (h : MrAt w b s sh) (j : Nat) : w.frozen? ⟨b, j, none⟩ = false := free_of_blk h j
theorem MrAt.short {w : World} {b : Nat} {s : ByteArray} {sh : Bool} (h : MrAt w b s sh) (u : Bool) : MrAt (w.setCell ⟨b, 1, none⟩ (.bool u)) b s u := by
  unfold MrAt at h ⊢
  simp [World.setCell, Array.getElem?_modify, h]
theorem MrAt.rest {w : World} {b : Nat} {s : ByteArray} {sh : Bool} (h : MrAt w b s sh) (u : ByteArray) : MrAt (w.setCell ⟨b, 0, none⟩ (.string u)) b u sh := by
  unfold MrAt at h ⊢
  simp [World.setCell, Array.getElem?_modify, h]

theorem add_val (a : Nat) (c : UInt8) (ha : a < 72057594037927936) :
    IntKind.u64.wrap (IntKind.u64.wrap ((a : Int) * 256) + IntKind.u64.wrap (c.toNat : Int)) = ((a * 256 + c.toNat : Nat) : Int) := by
  have hc := c.toNat_lt
  simp only [IntKind.wrap_u64]; omega

set_option maxHeartbeats 800000 in
theorem mbits_yes (b : Nat) (s : ByteArray) (n : Nat) (w : World) (h : MrAt w b s false) (hn : n ≤ s.size) (h8 : n ≤ 8) :
    Calls Tryz.prog 48 #[.pointer (some ⟨b, 0, none⟩), .int .i64 n] w fun e w' => e = .returned (.int .u64 (val (s.data.toList.take n))) ∧ MrAt w' b (s.extract n s.size) false ∧ Kept b none w w' := by
  have c0 := h.c0
  have c1 := h.c1
  have f0 := h.fr 0
  have HH := hid h
  have hn0 : (0 : Int) ≤ (n : Int) := Int.natCast_nonneg _
  have hn1 : (n : Int) ≤ (s.size : Int) := by omega
  clear h
  go_enter Tryz.func48, Tryz.ntmps48
  go_wp2
  go_loop [5, 6] (fun v i => ∃ k : Nat, k ≤ n ∧ i = .int .i64 k ∧ v = .int .u64 (val (s.data.toList.take k))) (fun _ i => n - (intOf i).toNat)
  case atStart => exact ⟨0, Nat.zero_le _, rfl, rfl⟩
  case round =>
    obtain ⟨k, hk, rfl, rfl⟩ := hrel
    by_cases hlt : k < n
    · have hv := val_lt (s.data.toList.take k)
      have hl : (s.data.toList.take k).length = k := by simp; have : s.data.size = s.size := rfl; omega
      have hv2 : val (s.data.toList.take k) < 72057594037927936 := by
        rw [hl] at hv
        exact Nat.lt_of_lt_of_le hv (Nat.le_trans (Nat.pow_le_pow_right (by decide) (show k ≤ 7 by omega)) (by decide))
      have HV := hid hv2
      have hks : k < s.size := by omega
      clear hv hl hv2
      go_wp2
      go_round
      case rel => exact ⟨k + 1, by omega, by go_num, by rw [add_val _ _ HV.out, take_snoc s k hks, val_snoc]⟩
      case measure => simp [intOf]; omega
    · have hkn : k = n := by omega
      subst hkn
      clear hlt
      go_wp2
      go_ret
      exact ⟨rfl, HH.out.rest _, (Kept.refl _ _ _).setCell _ _⟩

set_option maxHeartbeats 800000 in
theorem mbits_bad (b : Nat) (s : ByteArray) (n : Nat) (w : World) (h : MrAt w b s true) :
    Calls Tryz.prog 48 #[.pointer (some ⟨b, 0, none⟩), .int .i64 n] w fun e w' => e = .returned (.int .u64 0) ∧ w' = w.setCell ⟨b, 1, none⟩ (.bool true) := by
  have c0 := h.c0
  have c1 := h.c1
  have f1 := h.fr 1
  clear h
  go_enter Tryz.func48, Tryz.ntmps48
  go_wp2
  go_ret
  exact ⟨rfl, rfl⟩

set_option maxHeartbeats 800000 in
theorem mbits_short (b : Nat) (s : ByteArray) (n : Nat) (w : World) (h : MrAt w b s false) (hn : (s.size : Int) < (n : Int)) :
    Calls Tryz.prog 48 #[.pointer (some ⟨b, 0, none⟩), .int .i64 n] w fun e w' => e = .returned (.int .u64 0) ∧ w' = w.setCell ⟨b, 1, none⟩ (.bool true) := by
  have c0 := h.c0
  have c1 := h.c1
  have f1 := h.fr 1
  clear h
  go_enter Tryz.func48, Tryz.ntmps48
  go_wp2
  go_ret
  exact ⟨rfl, rfl⟩

theorem mbits_any (b : Nat) (s : ByteArray) (sh : Bool) (n : Nat) (w : World) (h : MrAt w b s sh) (h8 : n ≤ 8) :
    Calls Tryz.prog 48 #[.pointer (some ⟨b, 0, none⟩), .int .i64 n] w fun e w' => e = .returned (.int .u64 (rN s sh n)) ∧ MrAt w' b (rS s sh n) (rB s sh n) ∧ Kept b none w w' := by
  unfold rN rS rB
  cases sh with
  | true =>
    have hb : hasB s true n = false := by simp [hasB]
    rw [hb]
    exact (mbits_bad b s n w h).mono fun e w' ⟨h1, h2⟩ => ⟨h1, by rw [h2]; exact h.short true, by rw [h2]; exact (Kept.refl _ _ _).setCell _ _⟩
  | false =>
    by_cases hn : n ≤ s.size
    · have hb : hasB s false n = true := by simp [hasB]; omega
      rw [hb]
      exact mbits_yes b s n w h hn h8
    · have hb : hasB s false n = false := by simp [hasB]; omega
      rw [hb]
      exact (mbits_short b s n w h (by omega)).mono fun e w' ⟨h1, h2⟩ => ⟨h1, by rw [h2]; exact h.short true, by rw [h2]; exact (Kept.refl _ _ _).setCell _ _⟩

theorem mnum_any (b : Nat) (s : ByteArray) (sh : Bool) (n : Nat) (w : World) (h : MrAt w b s sh) (h8 : 256 ^ n ≤ 4294967296) (hn8 : n ≤ 8) :
    Calls Tryz.prog 45 #[.pointer (some ⟨b, 0, none⟩), .int .i64 n] w fun e w' => e = .returned (.int .i64 (rN s sh n)) ∧ MrAt w' b (rS s sh n) (rB s sh n) ∧ Kept b none w w' := by
  have hc := hid (mbits_any b s sh n w h hn8)
  have hv2 := rN_i s sh n h8
  clear h h8
  go_enter Tryz.func45, Tryz.ntmps45
  go_wp2_with fail
  refine hc.out.mono ?_
  rintro e w1 ⟨rfl, hr, hk⟩
  have HR := hid (And.intro hr hk)
  clear hr hk
  go_wp2
  go_ret
  exact ⟨rfl, HR.out⟩

set_option maxHeartbeats 400000 in
theorem mend_any (b : Nat) (s : ByteArray) (sh : Bool) (w : World) (h : MrAt w b s sh) :
    Calls Tryz.prog 50 #[.pointer (some ⟨b, 0, none⟩)] w fun e w' => e = .returned (.int .i64 (endOf s sh)) ∧ w' = w := by
  have c0 := h.c0
  have c1 := h.c1
  clear h
  cases sh with
  | true =>
    go_enter Tryz.func50, Tryz.ntmps50
    go_wp2
    go_ret
    exact ⟨rfl, rfl⟩
  | false =>
    by_cases hs : 0 < s.size
    · go_enter Tryz.func50, Tryz.ntmps50
      go_wp2
      go_ret
      exact ⟨by simp [endOf, hs], rfl⟩
    · go_enter Tryz.func50, Tryz.ntmps50
      go_wp2
      go_ret
      exact ⟨by simp [endOf, hs], rfl⟩

theorem run_at (s : ByteArray) (k : Nat) (hk : k < s.size) (w : World) : (Instr.index 9 (.string s) (.int .i64 (k : Int))).run Tryz.prog w = .ok (.int .u8 (s[k].toNat : Int)) w := by
  have h0 : (0 : Int) ≤ (k : Int) := Int.natCast_nonneg _
  go_simp

theorem val_two (s : ByteArray) (h : 2 ≤ s.size) : val (s.data.toList.take 2) = s[0].toNat * 256 + s[1].toNat := by
  rw [take_snoc s 1 (by omega), val_snoc, take_snoc s 0 (by omega), val_snoc]
  simp [val]

theorem World.drewN_heap (w : World) (n : Nat) : (w.drewN n).heap = w.heap := by
  induction n with
  | zero => rfl
  | succ n ih => exact ih
theorem Kept.drewN {b : Nat} {r : Option Nat} {x y : World} (h : Kept b r x y) (n : Nat) : Kept b r x (y.drewN n) := by
  induction n with
  | zero => exact h
  | succ n ih => exact ih.drew
theorem MrAt.drewN {w : World} {b : Nat} {s : ByteArray} {sh : Bool} (h : MrAt w b s sh) (n : Nat) : MrAt (w.drewN n) b s sh := by
  unfold MrAt at h ⊢
  rw [World.drewN_heap]
  exact h

set_option maxHeartbeats 800000 in
theorem mtext_yes (b : Nat) (s : ByteArray) (w : World) (h : MrAt w b s false) (hz : s.size ≤ 9223372036854775807) (h0 : 2 ≤ s.size) (h2 : 2 + (s[0].toNat * 256 + s[1].toNat) ≤ s.size) :
    Calls Tryz.prog 47 #[.pointer (some ⟨b, 0, none⟩)] w fun e w' => e = .returned (.string (s.extract 2 (2 + (s[0].toNat * 256 + s[1].toNat)))) ∧ MrAt w' b (s.extract (2 + (s[0].toNat * 256 + s[1].toNat)) s.size) false ∧ Kept b none w w' := by
  have c0 := h.c0
  have c1 := h.c1
  have f0 := h.fr 0
  have HH := hid h
  have hb0 := s[0].toNat_lt
  have hb1 := s[1].toNat_lt
  clear h
  have k0 : (0 : Int) < (s.size : Int) := by omega
  have k1 : (1 : Int) < (s.size : Int) := by omega
  have x0 : ∀ w, (Instr.index 9 (.string s) (.int .i64 0)).run Tryz.prog w = .ok (.int .u8 (s[0].toNat : Int)) w := run_at s 0 (by omega)
  have x1 : ∀ w, (Instr.index 9 (.string s) (.int .i64 1)).run Tryz.prog w = .ok (.int .u8 (s[1].toNat : Int)) w := run_at s 1 (by omega)
  go_enter Tryz.func47, Tryz.ntmps47
  go_wp2
  go_quiet (fail)
  go_wp2
  go_ret
  exact ⟨rfl, (HH.out.drewN _).rest _, ((Kept.refl _ _ _).drewN _).setCell _ _⟩

set_option maxHeartbeats 800000 in
theorem mtext_short (b : Nat) (s : ByteArray) (w : World) (h : MrAt w b s false) (hz : s.size ≤ 9223372036854775807) (h0 : 2 ≤ s.size) (h2 : s.size < 2 + (s[0].toNat * 256 + s[1].toNat)) :
    Calls Tryz.prog 47 #[.pointer (some ⟨b, 0, none⟩)] w fun e w' => e = .returned (.string ⟨#[]⟩) ∧ MrAt w' b s true ∧ Kept b none w w' := by
  have c0 := h.c0
  have c1 := h.c1
  have f1 := h.fr 1
  have HH := hid h
  have hb0 := s[0].toNat_lt
  have hb1 := s[1].toNat_lt
  clear h
  have k0 : (0 : Int) < (s.size : Int) := by omega
  have k1 : (1 : Int) < (s.size : Int) := by omega
  have x0 : ∀ w, (Instr.index 9 (.string s) (.int .i64 0)).run Tryz.prog w = .ok (.int .u8 (s[0].toNat : Int)) w := run_at s 0 (by omega)
  have x1 : ∀ w, (Instr.index 9 (.string s) (.int .i64 1)).run Tryz.prog w = .ok (.int .u8 (s[1].toNat : Int)) w := run_at s 1 (by omega)
  go_enter Tryz.func47, Tryz.ntmps47
  go_wp2
  go_quiet (fail)
  go_wp2
  go_ret
  exact ⟨rfl, (HH.out.drewN _).short _, ((Kept.refl _ _ _).drewN _).setCell _ _⟩

set_option maxHeartbeats 800000 in
theorem mtext_bad (b : Nat) (s : ByteArray) (w : World) (h : MrAt w b s true) :
    Calls Tryz.prog 47 #[.pointer (some ⟨b, 0, none⟩)] w fun e w' => e = .returned (.string ⟨#[]⟩) ∧ w' = w.setCell ⟨b, 1, none⟩ (.bool true) := by
  have c1 := h.c1
  have f1 := h.fr 1
  clear h
  go_enter Tryz.func47, Tryz.ntmps47
  go_wp2
  go_ret
  exact ⟨rfl, rfl⟩

set_option maxHeartbeats 800000 in
theorem mtext_two (b : Nat) (s : ByteArray) (w : World) (h : MrAt w b s false) (hn : (s.size : Int) < 2) :
    Calls Tryz.prog 47 #[.pointer (some ⟨b, 0, none⟩)] w fun e w' => e = .returned (.string ⟨#[]⟩) ∧ w' = w.setCell ⟨b, 1, none⟩ (.bool true) := by
  have c0 := h.c0
  have c1 := h.c1
  have f1 := h.fr 1
  clear h
  go_enter Tryz.func47, Tryz.ntmps47
  go_wp2
  go_ret
  exact ⟨rfl, rfl⟩

theorem mtext_any (b : Nat) (s : ByteArray) (sh : Bool) (w : World) (h : MrAt w b s sh) (hz : s.size ≤ 9223372036854775807) :
    Calls Tryz.prog 47 #[.pointer (some ⟨b, 0, none⟩)] w fun e w' => e = .returned (.string (tT s sh)) ∧ MrAt w' b (tS s sh) (tB s sh) ∧ Kept b none w w' := by
  unfold tT tS tB tOK
  cases sh with
  | true =>
    have hb : hasB s true 2 = false := by simp [hasB]
    rw [hb]
    exact (mtext_bad b s w h).mono fun e w' ⟨h1, h2⟩ => ⟨by simpa using h1, by rw [h2]; exact h.short true, by rw [h2]; exact (Kept.refl _ _ _).setCell _ _⟩
  | false =>
    by_cases hn : 2 ≤ s.size
    · have hb : hasB s false 2 = true := by simp [hasB]; omega
      rw [hb, val_two s hn]
      by_cases h2 : 2 + (s[0].toNat * 256 + s[1].toNat) ≤ s.size
      · simpa [h2] using mtext_yes b s w h hz hn h2
      · simpa [h2] using mtext_short b s w h hz hn (by omega)
    · have hb : hasB s false 2 = false := by simp [hasB]; omega
      rw [hb]
      exact (mtext_two b s w h (by omega)).mono fun e w' ⟨h1, h2⟩ => ⟨by simpa using h1, by rw [h2]; exact h.short true, by rw [h2]; exact (Kept.refl _ _ _).setCell _ _⟩

end Go.Proofs.YtecidbdbdnnglaaGreat
