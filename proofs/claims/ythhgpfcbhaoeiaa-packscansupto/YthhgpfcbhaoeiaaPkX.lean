/- The contract of package pack's 'next': the thing of a letter, or a panic of its own type. -/
import Derived.Test.YthhgpfcbhaoeiaaPkS
namespace Go.Proofs.Ythhgpfcbhaoeiaa
open Go.RowKit

theorem Kept.cell {b : Nat} {r : Option Nat} {w w' : World} (h : Kept b r w w') {k o : Nat} (hk : k < w.heap.size) (hb : k ≠ b) (hr : some k ≠ r) : w'.cell? ⟨k, o, none⟩ = w.cell? ⟨k, o, none⟩ := World.cell?_of_block (w := w) (h.block k hk hb hr)
theorem Kept.frozen {b : Nat} {r : Option Nat} {w w' : World} (h : Kept b r w w') {k o : Nat} (hk : k < w.heap.size) (hb : k ≠ b) (hr : some k ≠ r) : w'.frozen? ⟨k, o, none⟩ = w.frozen? ⟨k, o, none⟩ := World.frozen?_of_block (w := w) (h.block k hk hb hr)
/-- A store into a block that was not there. -/
theorem Kept.setNew {b : Nat} {r : Option Nat} {x y : World} (h : Kept b r x y) {k : Nat} (hk : x.heap.size ≤ k) (o : Nat) (u : Value) : Kept b r x (y.setCell ⟨k, o, none⟩ u) :=
  ⟨h.os, h.tape, h.output, by have := h.size; simpa [World.setCell] using this, fun i hi hb hne => by rw [Below.heap_setCell _ _ _ _ (by show i ≠ k; omega), h.block i hi hb hne]⟩
theorem RdAt.alloc {w : World} {b : Nat} {s : ByteArray} {sh : Bool} (h : RdAt w b s sh) (o : Obj) : RdAt (w.alloc o) b s sh := (Below.heap_alloc w o b (lt_of_blk h)).trans h
theorem RdAt.other {w : World} {b : Nat} {s : ByteArray} {sh : Bool} (h : RdAt w b s sh) {k o : Nat} (u : Value) (hk : k ≠ b) : RdAt (w.setCell ⟨k, o, none⟩ u) b s sh := (Below.heap_setCell w _ u b (Ne.symm hk)).trans h

set_option maxRecDepth 100000 in
set_option maxHeartbeats 1600000 in
theorem next98_ok (b : Nat) (s : ByteArray) (w : World) (h : RdAt w b s false) (hs : rB s false 1 = false) :
    Calls Try.prog 43 #[.pointer (some ⟨b, 0, none⟩), .int .u8 98] w fun e w' => e = .returned (.agg #[.int .i64 (rN s false 1), .int .u64 0, .string ⟨#[]⟩]) ∧ RdAt w' b (rS s false 1) false ∧ Kept b none w w' := by
  have hb := h.lt
  have HH := hid (h.alloc (.cells #[.int .i64 0, .int .u64 0, .string ⟨#[]⟩] 56))
  have HC := hid (rbyte_any b s false ((w.alloc (.cells #[.int .i64 0, .int .u64 0, .string ⟨#[]⟩] 56)).alloc (.cells #[.int .i64 0, .int .u64 0, .string ⟨#[]⟩] 56)) (HH.out.alloc _))
  have HB := hid hs
  clear h hs
  go_enter Try.func43, Try.ntmps43
  go_wp2_with fail
  refine HC.out.mono ?_
  rintro e w1 ⟨rfl, hr, hk⟩
  rw [HB.out] at hr
  have HR := hid hr
  have HK := hid (((((Kept.refl b none w).alloc _).alloc _)).trans hk (.inl rfl))
  have c1 := hr.c1
  have hz := hk.size
  have x0 := hk.cell (k := w.heap.size) (o := 0) (by simp; omega) (by omega) (by simp)
  have x1 := hk.cell (k := w.heap.size) (o := 1) (by simp; omega) (by omega) (by simp)
  have x2 := hk.cell (k := w.heap.size) (o := 2) (by simp; omega) (by omega) (by simp)
  have y0 := hk.cell (k := w.heap.size + 1) (o := 0) (by simp) (by omega) (by simp)
  have y1 := hk.cell (k := w.heap.size + 1) (o := 1) (by simp) (by omega) (by simp)
  have y2 := hk.cell (k := w.heap.size + 1) (o := 2) (by simp) (by omega) (by simp)
  have fx0 := hk.frozen (k := w.heap.size) (o := 0) (by simp; omega) (by omega) (by simp)
  have fx1 := hk.frozen (k := w.heap.size) (o := 1) (by simp; omega) (by omega) (by simp)
  have fx2 := hk.frozen (k := w.heap.size) (o := 2) (by simp; omega) (by omega) (by simp)
  have fy0 := hk.frozen (k := w.heap.size + 1) (o := 0) (by simp) (by omega) (by simp)
  have fy1 := hk.frozen (k := w.heap.size + 1) (o := 1) (by simp) (by omega) (by simp)
  have fy2 := hk.frozen (k := w.heap.size + 1) (o := 2) (by simp) (by omega) (by simp)
  simp at x0 x1 x2 y0 y1 y2 fx0 fx1 fx2 fy0 fy1 fy2 hz
  clear hr hk
  go_wp2
  refine bodyPost_ret (v := .agg #[.int .i64 (rN s false 1), .int .u64 0, .string ⟨#[]⟩]) (by simp [results, Try.results43, go_sem, x0, x1, x2]) rfl ⟨rfl, ?_, ?_⟩
  · exact (((HR.out.other _ (by omega)).other _ (by omega)).other _ (by omega)).other _ (by omega)
  · exact (((HK.out.setNew (by omega) _ _).setNew (by omega) _ _).setNew (by omega) _ _).setNew (by omega) _ _

set_option maxRecDepth 100000 in
set_option maxHeartbeats 1600000 in
theorem next98_short (b : Nat) (s : ByteArray) (w : World) (h : RdAt w b s false) (hs : rB s false 1 = true) :
    Calls Try.prog 43 #[.pointer (some ⟨b, 0, none⟩), .int .u8 98] w fun e w' => e = .panicked [{ v := .iface 76 (.agg #[]), recovered := false }] ∧ RdAt w' b (rS s false 1) true ∧ Kept b none w w' := by
  have hb := h.lt
  have HH := hid (h.alloc (.cells #[.int .i64 0, .int .u64 0, .string ⟨#[]⟩] 56))
  have HC := hid (rbyte_any b s false ((w.alloc (.cells #[.int .i64 0, .int .u64 0, .string ⟨#[]⟩] 56)).alloc (.cells #[.int .i64 0, .int .u64 0, .string ⟨#[]⟩] 56)) (HH.out.alloc _))
  have HB := hid hs
  clear h hs
  go_enter Try.func43, Try.ntmps43
  go_wp2_with fail
  refine HC.out.mono ?_
  rintro e w1 ⟨rfl, hr, hk⟩
  rw [HB.out] at hr
  have HR := hid hr
  have HK := hid (((((Kept.refl b none w).alloc _).alloc _)).trans hk (.inl rfl))
  have c1 := hr.c1
  have hz := hk.size
  have x0 := hk.cell (k := w.heap.size) (o := 0) (by simp; omega) (by omega) (by simp)
  have x1 := hk.cell (k := w.heap.size) (o := 1) (by simp; omega) (by omega) (by simp)
  have x2 := hk.cell (k := w.heap.size) (o := 2) (by simp; omega) (by omega) (by simp)
  have y0 := hk.cell (k := w.heap.size + 1) (o := 0) (by simp) (by omega) (by simp)
  have y1 := hk.cell (k := w.heap.size + 1) (o := 1) (by simp) (by omega) (by simp)
  have y2 := hk.cell (k := w.heap.size + 1) (o := 2) (by simp) (by omega) (by simp)
  have fx0 := hk.frozen (k := w.heap.size) (o := 0) (by simp; omega) (by omega) (by simp)
  have fx1 := hk.frozen (k := w.heap.size) (o := 1) (by simp; omega) (by omega) (by simp)
  have fx2 := hk.frozen (k := w.heap.size) (o := 2) (by simp; omega) (by omega) (by simp)
  have fy0 := hk.frozen (k := w.heap.size + 1) (o := 0) (by simp) (by omega) (by simp)
  have fy1 := hk.frozen (k := w.heap.size + 1) (o := 1) (by simp) (by omega) (by simp)
  have fy2 := hk.frozen (k := w.heap.size + 1) (o := 2) (by simp) (by omega) (by simp)
  simp at x0 x1 x2 y0 y1 y2 fx0 fx1 fx2 fy0 fy1 fy2 hz
  clear hr hk
  go_wp2
  exact ⟨rfl, rfl, HR.out.other _ (by omega), HK.out.setNew (by omega) _ _⟩

set_option maxRecDepth 100000 in
set_option maxHeartbeats 1600000 in
theorem next119_ok (b : Nat) (s : ByteArray) (w : World) (h : RdAt w b s false) (hs : rB s false 2 = false) :
    Calls Try.prog 43 #[.pointer (some ⟨b, 0, none⟩), .int .u8 119] w fun e w' => e = .returned (.agg #[.int .i64 (rN s false 2), .int .u64 0, .string ⟨#[]⟩]) ∧ RdAt w' b (rS s false 2) false ∧ Kept b none w w' := by
  have hb := h.lt
  have HH := hid (h.alloc (.cells #[.int .i64 0, .int .u64 0, .string ⟨#[]⟩] 56))
  have HC := hid (rword_any b s false ((w.alloc (.cells #[.int .i64 0, .int .u64 0, .string ⟨#[]⟩] 56)).alloc (.cells #[.int .i64 0, .int .u64 0, .string ⟨#[]⟩] 56)) (HH.out.alloc _))
  have HB := hid hs
  clear h hs
  go_enter Try.func43, Try.ntmps43
  go_wp2_with fail
  refine HC.out.mono ?_
  rintro e w1 ⟨rfl, hr, hk⟩
  rw [HB.out] at hr
  have HR := hid hr
  have HK := hid (((((Kept.refl b none w).alloc _).alloc _)).trans hk (.inl rfl))
  have c1 := hr.c1
  have hz := hk.size
  have x0 := hk.cell (k := w.heap.size) (o := 0) (by simp; omega) (by omega) (by simp)
  have x1 := hk.cell (k := w.heap.size) (o := 1) (by simp; omega) (by omega) (by simp)
  have x2 := hk.cell (k := w.heap.size) (o := 2) (by simp; omega) (by omega) (by simp)
  have y0 := hk.cell (k := w.heap.size + 1) (o := 0) (by simp) (by omega) (by simp)
  have y1 := hk.cell (k := w.heap.size + 1) (o := 1) (by simp) (by omega) (by simp)
  have y2 := hk.cell (k := w.heap.size + 1) (o := 2) (by simp) (by omega) (by simp)
  have fx0 := hk.frozen (k := w.heap.size) (o := 0) (by simp; omega) (by omega) (by simp)
  have fx1 := hk.frozen (k := w.heap.size) (o := 1) (by simp; omega) (by omega) (by simp)
  have fx2 := hk.frozen (k := w.heap.size) (o := 2) (by simp; omega) (by omega) (by simp)
  have fy0 := hk.frozen (k := w.heap.size + 1) (o := 0) (by simp) (by omega) (by simp)
  have fy1 := hk.frozen (k := w.heap.size + 1) (o := 1) (by simp) (by omega) (by simp)
  have fy2 := hk.frozen (k := w.heap.size + 1) (o := 2) (by simp) (by omega) (by simp)
  simp at x0 x1 x2 y0 y1 y2 fx0 fx1 fx2 fy0 fy1 fy2 hz
  clear hr hk
  go_wp2
  refine bodyPost_ret (v := .agg #[.int .i64 (rN s false 2), .int .u64 0, .string ⟨#[]⟩]) (by simp [results, Try.results43, go_sem, x0, x1, x2]) rfl ⟨rfl, ?_, ?_⟩
  · exact (((HR.out.other _ (by omega)).other _ (by omega)).other _ (by omega)).other _ (by omega)
  · exact (((HK.out.setNew (by omega) _ _).setNew (by omega) _ _).setNew (by omega) _ _).setNew (by omega) _ _

set_option maxRecDepth 100000 in
set_option maxHeartbeats 1600000 in
theorem next119_short (b : Nat) (s : ByteArray) (w : World) (h : RdAt w b s false) (hs : rB s false 2 = true) :
    Calls Try.prog 43 #[.pointer (some ⟨b, 0, none⟩), .int .u8 119] w fun e w' => e = .panicked [{ v := .iface 76 (.agg #[]), recovered := false }] ∧ RdAt w' b (rS s false 2) true ∧ Kept b none w w' := by
  have hb := h.lt
  have HH := hid (h.alloc (.cells #[.int .i64 0, .int .u64 0, .string ⟨#[]⟩] 56))
  have HC := hid (rword_any b s false ((w.alloc (.cells #[.int .i64 0, .int .u64 0, .string ⟨#[]⟩] 56)).alloc (.cells #[.int .i64 0, .int .u64 0, .string ⟨#[]⟩] 56)) (HH.out.alloc _))
  have HB := hid hs
  clear h hs
  go_enter Try.func43, Try.ntmps43
  go_wp2_with fail
  refine HC.out.mono ?_
  rintro e w1 ⟨rfl, hr, hk⟩
  rw [HB.out] at hr
  have HR := hid hr
  have HK := hid (((((Kept.refl b none w).alloc _).alloc _)).trans hk (.inl rfl))
  have c1 := hr.c1
  have hz := hk.size
  have x0 := hk.cell (k := w.heap.size) (o := 0) (by simp; omega) (by omega) (by simp)
  have x1 := hk.cell (k := w.heap.size) (o := 1) (by simp; omega) (by omega) (by simp)
  have x2 := hk.cell (k := w.heap.size) (o := 2) (by simp; omega) (by omega) (by simp)
  have y0 := hk.cell (k := w.heap.size + 1) (o := 0) (by simp) (by omega) (by simp)
  have y1 := hk.cell (k := w.heap.size + 1) (o := 1) (by simp) (by omega) (by simp)
  have y2 := hk.cell (k := w.heap.size + 1) (o := 2) (by simp) (by omega) (by simp)
  have fx0 := hk.frozen (k := w.heap.size) (o := 0) (by simp; omega) (by omega) (by simp)
  have fx1 := hk.frozen (k := w.heap.size) (o := 1) (by simp; omega) (by omega) (by simp)
  have fx2 := hk.frozen (k := w.heap.size) (o := 2) (by simp; omega) (by omega) (by simp)
  have fy0 := hk.frozen (k := w.heap.size + 1) (o := 0) (by simp) (by omega) (by simp)
  have fy1 := hk.frozen (k := w.heap.size + 1) (o := 1) (by simp) (by omega) (by simp)
  have fy2 := hk.frozen (k := w.heap.size + 1) (o := 2) (by simp) (by omega) (by simp)
  simp at x0 x1 x2 y0 y1 y2 fx0 fx1 fx2 fy0 fy1 fy2 hz
  clear hr hk
  go_wp2
  exact ⟨rfl, rfl, HR.out.other _ (by omega), HK.out.setNew (by omega) _ _⟩

set_option maxRecDepth 100000 in
set_option maxHeartbeats 1600000 in
theorem next108_ok (b : Nat) (s : ByteArray) (w : World) (h : RdAt w b s false) (hs : rB s false 4 = false) :
    Calls Try.prog 43 #[.pointer (some ⟨b, 0, none⟩), .int .u8 108] w fun e w' => e = .returned (.agg #[.int .i64 (rN s false 4), .int .u64 0, .string ⟨#[]⟩]) ∧ RdAt w' b (rS s false 4) false ∧ Kept b none w w' := by
  have hb := h.lt
  have HH := hid (h.alloc (.cells #[.int .i64 0, .int .u64 0, .string ⟨#[]⟩] 56))
  have HC := hid (rlong_any b s false ((w.alloc (.cells #[.int .i64 0, .int .u64 0, .string ⟨#[]⟩] 56)).alloc (.cells #[.int .i64 0, .int .u64 0, .string ⟨#[]⟩] 56)) (HH.out.alloc _))
  have HB := hid hs
  clear h hs
  go_enter Try.func43, Try.ntmps43
  go_wp2_with fail
  refine HC.out.mono ?_
  rintro e w1 ⟨rfl, hr, hk⟩
  rw [HB.out] at hr
  have HR := hid hr
  have HK := hid (((((Kept.refl b none w).alloc _).alloc _)).trans hk (.inl rfl))
  have c1 := hr.c1
  have hz := hk.size
  have x0 := hk.cell (k := w.heap.size) (o := 0) (by simp; omega) (by omega) (by simp)
  have x1 := hk.cell (k := w.heap.size) (o := 1) (by simp; omega) (by omega) (by simp)
  have x2 := hk.cell (k := w.heap.size) (o := 2) (by simp; omega) (by omega) (by simp)
  have y0 := hk.cell (k := w.heap.size + 1) (o := 0) (by simp) (by omega) (by simp)
  have y1 := hk.cell (k := w.heap.size + 1) (o := 1) (by simp) (by omega) (by simp)
  have y2 := hk.cell (k := w.heap.size + 1) (o := 2) (by simp) (by omega) (by simp)
  have fx0 := hk.frozen (k := w.heap.size) (o := 0) (by simp; omega) (by omega) (by simp)
  have fx1 := hk.frozen (k := w.heap.size) (o := 1) (by simp; omega) (by omega) (by simp)
  have fx2 := hk.frozen (k := w.heap.size) (o := 2) (by simp; omega) (by omega) (by simp)
  have fy0 := hk.frozen (k := w.heap.size + 1) (o := 0) (by simp) (by omega) (by simp)
  have fy1 := hk.frozen (k := w.heap.size + 1) (o := 1) (by simp) (by omega) (by simp)
  have fy2 := hk.frozen (k := w.heap.size + 1) (o := 2) (by simp) (by omega) (by simp)
  simp at x0 x1 x2 y0 y1 y2 fx0 fx1 fx2 fy0 fy1 fy2 hz
  clear hr hk
  go_wp2
  refine bodyPost_ret (v := .agg #[.int .i64 (rN s false 4), .int .u64 0, .string ⟨#[]⟩]) (by simp [results, Try.results43, go_sem, x0, x1, x2]) rfl ⟨rfl, ?_, ?_⟩
  · exact (((HR.out.other _ (by omega)).other _ (by omega)).other _ (by omega)).other _ (by omega)
  · exact (((HK.out.setNew (by omega) _ _).setNew (by omega) _ _).setNew (by omega) _ _).setNew (by omega) _ _

set_option maxRecDepth 100000 in
set_option maxHeartbeats 1600000 in
theorem next108_short (b : Nat) (s : ByteArray) (w : World) (h : RdAt w b s false) (hs : rB s false 4 = true) :
    Calls Try.prog 43 #[.pointer (some ⟨b, 0, none⟩), .int .u8 108] w fun e w' => e = .panicked [{ v := .iface 76 (.agg #[]), recovered := false }] ∧ RdAt w' b (rS s false 4) true ∧ Kept b none w w' := by
  have hb := h.lt
  have HH := hid (h.alloc (.cells #[.int .i64 0, .int .u64 0, .string ⟨#[]⟩] 56))
  have HC := hid (rlong_any b s false ((w.alloc (.cells #[.int .i64 0, .int .u64 0, .string ⟨#[]⟩] 56)).alloc (.cells #[.int .i64 0, .int .u64 0, .string ⟨#[]⟩] 56)) (HH.out.alloc _))
  have HB := hid hs
  clear h hs
  go_enter Try.func43, Try.ntmps43
  go_wp2_with fail
  refine HC.out.mono ?_
  rintro e w1 ⟨rfl, hr, hk⟩
  rw [HB.out] at hr
  have HR := hid hr
  have HK := hid (((((Kept.refl b none w).alloc _).alloc _)).trans hk (.inl rfl))
  have c1 := hr.c1
  have hz := hk.size
  have x0 := hk.cell (k := w.heap.size) (o := 0) (by simp; omega) (by omega) (by simp)
  have x1 := hk.cell (k := w.heap.size) (o := 1) (by simp; omega) (by omega) (by simp)
  have x2 := hk.cell (k := w.heap.size) (o := 2) (by simp; omega) (by omega) (by simp)
  have y0 := hk.cell (k := w.heap.size + 1) (o := 0) (by simp) (by omega) (by simp)
  have y1 := hk.cell (k := w.heap.size + 1) (o := 1) (by simp) (by omega) (by simp)
  have y2 := hk.cell (k := w.heap.size + 1) (o := 2) (by simp) (by omega) (by simp)
  have fx0 := hk.frozen (k := w.heap.size) (o := 0) (by simp; omega) (by omega) (by simp)
  have fx1 := hk.frozen (k := w.heap.size) (o := 1) (by simp; omega) (by omega) (by simp)
  have fx2 := hk.frozen (k := w.heap.size) (o := 2) (by simp; omega) (by omega) (by simp)
  have fy0 := hk.frozen (k := w.heap.size + 1) (o := 0) (by simp) (by omega) (by simp)
  have fy1 := hk.frozen (k := w.heap.size + 1) (o := 1) (by simp) (by omega) (by simp)
  have fy2 := hk.frozen (k := w.heap.size + 1) (o := 2) (by simp) (by omega) (by simp)
  simp at x0 x1 x2 y0 y1 y2 fx0 fx1 fx2 fy0 fy1 fy2 hz
  clear hr hk
  go_wp2
  exact ⟨rfl, rfl, HR.out.other _ (by omega), HK.out.setNew (by omega) _ _⟩

set_option maxRecDepth 100000 in
set_option maxHeartbeats 1600000 in
theorem next113_ok (b : Nat) (s : ByteArray) (w : World) (h : RdAt w b s false) (hs : rB s false 8 = false) :
    Calls Try.prog 43 #[.pointer (some ⟨b, 0, none⟩), .int .u8 113] w fun e w' => e = .returned (.agg #[.int .i64 0, .int .u64 (rN s false 8), .string ⟨#[]⟩]) ∧ RdAt w' b (rS s false 8) false ∧ Kept b none w w' := by
  have hb := h.lt
  have HH := hid (h.alloc (.cells #[.int .i64 0, .int .u64 0, .string ⟨#[]⟩] 56))
  have HC := hid (rbits_any b s false ((w.alloc (.cells #[.int .i64 0, .int .u64 0, .string ⟨#[]⟩] 56)).alloc (.cells #[.int .i64 0, .int .u64 0, .string ⟨#[]⟩] 56)) (HH.out.alloc _))
  have HB := hid hs
  clear h hs
  go_enter Try.func43, Try.ntmps43
  go_wp2_with fail
  refine HC.out.mono ?_
  rintro e w1 ⟨rfl, hr, hk⟩
  rw [HB.out] at hr
  have HR := hid hr
  have HK := hid (((((Kept.refl b none w).alloc _).alloc _)).trans hk (.inl rfl))
  have c1 := hr.c1
  have hz := hk.size
  have x0 := hk.cell (k := w.heap.size) (o := 0) (by simp; omega) (by omega) (by simp)
  have x1 := hk.cell (k := w.heap.size) (o := 1) (by simp; omega) (by omega) (by simp)
  have x2 := hk.cell (k := w.heap.size) (o := 2) (by simp; omega) (by omega) (by simp)
  have y0 := hk.cell (k := w.heap.size + 1) (o := 0) (by simp) (by omega) (by simp)
  have y1 := hk.cell (k := w.heap.size + 1) (o := 1) (by simp) (by omega) (by simp)
  have y2 := hk.cell (k := w.heap.size + 1) (o := 2) (by simp) (by omega) (by simp)
  have fx0 := hk.frozen (k := w.heap.size) (o := 0) (by simp; omega) (by omega) (by simp)
  have fx1 := hk.frozen (k := w.heap.size) (o := 1) (by simp; omega) (by omega) (by simp)
  have fx2 := hk.frozen (k := w.heap.size) (o := 2) (by simp; omega) (by omega) (by simp)
  have fy0 := hk.frozen (k := w.heap.size + 1) (o := 0) (by simp) (by omega) (by simp)
  have fy1 := hk.frozen (k := w.heap.size + 1) (o := 1) (by simp) (by omega) (by simp)
  have fy2 := hk.frozen (k := w.heap.size + 1) (o := 2) (by simp) (by omega) (by simp)
  simp at x0 x1 x2 y0 y1 y2 fx0 fx1 fx2 fy0 fy1 fy2 hz
  clear hr hk
  go_wp2
  refine bodyPost_ret (v := .agg #[.int .i64 0, .int .u64 (rN s false 8), .string ⟨#[]⟩]) (by simp [results, Try.results43, go_sem, x0, x1, x2]) rfl ⟨rfl, ?_, ?_⟩
  · exact (((HR.out.other _ (by omega)).other _ (by omega)).other _ (by omega)).other _ (by omega)
  · exact (((HK.out.setNew (by omega) _ _).setNew (by omega) _ _).setNew (by omega) _ _).setNew (by omega) _ _

set_option maxRecDepth 100000 in
set_option maxHeartbeats 1600000 in
theorem next113_short (b : Nat) (s : ByteArray) (w : World) (h : RdAt w b s false) (hs : rB s false 8 = true) :
    Calls Try.prog 43 #[.pointer (some ⟨b, 0, none⟩), .int .u8 113] w fun e w' => e = .panicked [{ v := .iface 76 (.agg #[]), recovered := false }] ∧ RdAt w' b (rS s false 8) true ∧ Kept b none w w' := by
  have hb := h.lt
  have HH := hid (h.alloc (.cells #[.int .i64 0, .int .u64 0, .string ⟨#[]⟩] 56))
  have HC := hid (rbits_any b s false ((w.alloc (.cells #[.int .i64 0, .int .u64 0, .string ⟨#[]⟩] 56)).alloc (.cells #[.int .i64 0, .int .u64 0, .string ⟨#[]⟩] 56)) (HH.out.alloc _))
  have HB := hid hs
  clear h hs
  go_enter Try.func43, Try.ntmps43
  go_wp2_with fail
  refine HC.out.mono ?_
  rintro e w1 ⟨rfl, hr, hk⟩
  rw [HB.out] at hr
  have HR := hid hr
  have HK := hid (((((Kept.refl b none w).alloc _).alloc _)).trans hk (.inl rfl))
  have c1 := hr.c1
  have hz := hk.size
  have x0 := hk.cell (k := w.heap.size) (o := 0) (by simp; omega) (by omega) (by simp)
  have x1 := hk.cell (k := w.heap.size) (o := 1) (by simp; omega) (by omega) (by simp)
  have x2 := hk.cell (k := w.heap.size) (o := 2) (by simp; omega) (by omega) (by simp)
  have y0 := hk.cell (k := w.heap.size + 1) (o := 0) (by simp) (by omega) (by simp)
  have y1 := hk.cell (k := w.heap.size + 1) (o := 1) (by simp) (by omega) (by simp)
  have y2 := hk.cell (k := w.heap.size + 1) (o := 2) (by simp) (by omega) (by simp)
  have fx0 := hk.frozen (k := w.heap.size) (o := 0) (by simp; omega) (by omega) (by simp)
  have fx1 := hk.frozen (k := w.heap.size) (o := 1) (by simp; omega) (by omega) (by simp)
  have fx2 := hk.frozen (k := w.heap.size) (o := 2) (by simp; omega) (by omega) (by simp)
  have fy0 := hk.frozen (k := w.heap.size + 1) (o := 0) (by simp) (by omega) (by simp)
  have fy1 := hk.frozen (k := w.heap.size + 1) (o := 1) (by simp) (by omega) (by simp)
  have fy2 := hk.frozen (k := w.heap.size + 1) (o := 2) (by simp) (by omega) (by simp)
  simp at x0 x1 x2 y0 y1 y2 fx0 fx1 fx2 fy0 fy1 fy2 hz
  clear hr hk
  go_wp2
  exact ⟨rfl, rfl, HR.out.other _ (by omega), HK.out.setNew (by omega) _ _⟩

set_option maxRecDepth 100000 in
set_option maxHeartbeats 1600000 in
theorem next116_ok (b : Nat) (s : ByteArray) (w : World) (h : RdAt w b s false) (hs : tB s false = false) :
    Calls Try.prog 43 #[.pointer (some ⟨b, 0, none⟩), .int .u8 116] w fun e w' => e = .returned (.agg #[.int .i64 0, .int .u64 0, .string (tT s false)]) ∧ RdAt w' b (tS s false) false ∧ Kept b none w w' := by
  have hb := h.lt
  have HH := hid (h.alloc (.cells #[.int .i64 0, .int .u64 0, .string ⟨#[]⟩] 56))
  have HC := hid (rtext_any b s false ((w.alloc (.cells #[.int .i64 0, .int .u64 0, .string ⟨#[]⟩] 56)).alloc (.cells #[.int .i64 0, .int .u64 0, .string ⟨#[]⟩] 56)) (HH.out.alloc _))
  have HB := hid hs
  clear h hs
  go_enter Try.func43, Try.ntmps43
  go_wp2_with fail
  refine HC.out.mono ?_
  rintro e w1 ⟨rfl, hr, hk⟩
  rw [HB.out] at hr
  have HR := hid hr
  have HK := hid (((((Kept.refl b none w).alloc _).alloc _)).trans hk (.inl rfl))
  have c1 := hr.c1
  have hz := hk.size
  have x0 := hk.cell (k := w.heap.size) (o := 0) (by simp; omega) (by omega) (by simp)
  have x1 := hk.cell (k := w.heap.size) (o := 1) (by simp; omega) (by omega) (by simp)
  have x2 := hk.cell (k := w.heap.size) (o := 2) (by simp; omega) (by omega) (by simp)
  have y0 := hk.cell (k := w.heap.size + 1) (o := 0) (by simp) (by omega) (by simp)
  have y1 := hk.cell (k := w.heap.size + 1) (o := 1) (by simp) (by omega) (by simp)
  have y2 := hk.cell (k := w.heap.size + 1) (o := 2) (by simp) (by omega) (by simp)
  have fx0 := hk.frozen (k := w.heap.size) (o := 0) (by simp; omega) (by omega) (by simp)
  have fx1 := hk.frozen (k := w.heap.size) (o := 1) (by simp; omega) (by omega) (by simp)
  have fx2 := hk.frozen (k := w.heap.size) (o := 2) (by simp; omega) (by omega) (by simp)
  have fy0 := hk.frozen (k := w.heap.size + 1) (o := 0) (by simp) (by omega) (by simp)
  have fy1 := hk.frozen (k := w.heap.size + 1) (o := 1) (by simp) (by omega) (by simp)
  have fy2 := hk.frozen (k := w.heap.size + 1) (o := 2) (by simp) (by omega) (by simp)
  simp at x0 x1 x2 y0 y1 y2 fx0 fx1 fx2 fy0 fy1 fy2 hz
  clear hr hk
  go_wp2
  refine bodyPost_ret (v := .agg #[.int .i64 0, .int .u64 0, .string (tT s false)]) (by simp [results, Try.results43, go_sem, x0, x1, x2]) rfl ⟨rfl, ?_, ?_⟩
  · exact (((HR.out.other _ (by omega)).other _ (by omega)).other _ (by omega)).other _ (by omega)
  · exact (((HK.out.setNew (by omega) _ _).setNew (by omega) _ _).setNew (by omega) _ _).setNew (by omega) _ _

set_option maxRecDepth 100000 in
set_option maxHeartbeats 1600000 in
theorem next116_short (b : Nat) (s : ByteArray) (w : World) (h : RdAt w b s false) (hs : tB s false = true) :
    Calls Try.prog 43 #[.pointer (some ⟨b, 0, none⟩), .int .u8 116] w fun e w' => e = .panicked [{ v := .iface 76 (.agg #[]), recovered := false }] ∧ RdAt w' b (tS s false) true ∧ Kept b none w w' := by
  have hb := h.lt
  have HH := hid (h.alloc (.cells #[.int .i64 0, .int .u64 0, .string ⟨#[]⟩] 56))
  have HC := hid (rtext_any b s false ((w.alloc (.cells #[.int .i64 0, .int .u64 0, .string ⟨#[]⟩] 56)).alloc (.cells #[.int .i64 0, .int .u64 0, .string ⟨#[]⟩] 56)) (HH.out.alloc _))
  have HB := hid hs
  clear h hs
  go_enter Try.func43, Try.ntmps43
  go_wp2_with fail
  refine HC.out.mono ?_
  rintro e w1 ⟨rfl, hr, hk⟩
  rw [HB.out] at hr
  have HR := hid hr
  have HK := hid (((((Kept.refl b none w).alloc _).alloc _)).trans hk (.inl rfl))
  have c1 := hr.c1
  have hz := hk.size
  have x0 := hk.cell (k := w.heap.size) (o := 0) (by simp; omega) (by omega) (by simp)
  have x1 := hk.cell (k := w.heap.size) (o := 1) (by simp; omega) (by omega) (by simp)
  have x2 := hk.cell (k := w.heap.size) (o := 2) (by simp; omega) (by omega) (by simp)
  have y0 := hk.cell (k := w.heap.size + 1) (o := 0) (by simp) (by omega) (by simp)
  have y1 := hk.cell (k := w.heap.size + 1) (o := 1) (by simp) (by omega) (by simp)
  have y2 := hk.cell (k := w.heap.size + 1) (o := 2) (by simp) (by omega) (by simp)
  have fx0 := hk.frozen (k := w.heap.size) (o := 0) (by simp; omega) (by omega) (by simp)
  have fx1 := hk.frozen (k := w.heap.size) (o := 1) (by simp; omega) (by omega) (by simp)
  have fx2 := hk.frozen (k := w.heap.size) (o := 2) (by simp; omega) (by omega) (by simp)
  have fy0 := hk.frozen (k := w.heap.size + 1) (o := 0) (by simp) (by omega) (by simp)
  have fy1 := hk.frozen (k := w.heap.size + 1) (o := 1) (by simp) (by omega) (by simp)
  have fy2 := hk.frozen (k := w.heap.size + 1) (o := 2) (by simp) (by omega) (by simp)
  simp at x0 x1 x2 y0 y1 y2 fx0 fx1 fx2 fy0 fy1 fy2 hz
  clear hr hk
  go_wp2
  exact ⟨rfl, rfl, HR.out.other _ (by omega), HK.out.setNew (by omega) _ _⟩

/-- Can the thing of that letter be read next? the thing; what is left. -/
def nxOK (c : UInt8) (s : ByteArray) : Bool := if c = 98 then hasB s false 1 else if c = 119 then hasB s false 2 else if c = 108 then hasB s false 4 else if c = 113 then hasB s false 8 else tOK s false
def nxN (c : UInt8) (s : ByteArray) : Nat := if c = 98 then rN s false 1 else if c = 119 then rN s false 2 else if c = 108 then rN s false 4 else 0
def nxQ (c : UInt8) (s : ByteArray) : Nat := if c = 113 then rN s false 8 else 0
def nxT (c : UInt8) (s : ByteArray) : ByteArray := if c = 116 then tT s false else ⟨#[]⟩
def nxS (c : UInt8) (s : ByteArray) : ByteArray := if c = 98 then rS s false 1 else if c = 119 then rS s false 2 else if c = 108 then rS s false 4 else if c = 113 then rS s false 8 else tS s false

theorem next_ok (b : Nat) (c : UInt8) (s : ByteArray) (w : World) (hc : ltr c = true) (h : RdAt w b s false) (hs : nxOK c s = true) :
    Calls Try.prog 43 #[.pointer (some ⟨b, 0, none⟩), .int .u8 (c.toNat : Int)] w fun e w' => e = .returned (.agg #[.int .i64 (nxN c s), .int .u64 (nxQ c s), .string (nxT c s)]) ∧ RdAt w' b (nxS c s) false ∧ Kept b none w w' := by
  simp [ltr] at hc
  rcases hc with (((hc | hc) | hc) | hc) | hc <;> subst hc
  · exact next98_ok b s w h (by simpa [nxOK, rB] using hs)
  · exact next119_ok b s w h (by simpa [nxOK, rB] using hs)
  · exact next108_ok b s w h (by simpa [nxOK, rB] using hs)
  · exact next113_ok b s w h (by simpa [nxOK, rB] using hs)
  · exact next116_ok b s w h (by simpa [nxOK, tB] using hs)

theorem next_short (b : Nat) (c : UInt8) (s : ByteArray) (w : World) (hc : ltr c = true) (h : RdAt w b s false) (hs : nxOK c s = false) :
    Calls Try.prog 43 #[.pointer (some ⟨b, 0, none⟩), .int .u8 (c.toNat : Int)] w fun e w' => e = .panicked [{ v := .iface 76 (.agg #[]), recovered := false }] ∧ Kept b none w w' := by
  simp [ltr] at hc
  rcases hc with (((hc | hc) | hc) | hc) | hc <;> subst hc
  · exact (next98_short b s w h (by simpa [nxOK, rB] using hs)).mono fun _ _ h => ⟨h.1, h.2.2⟩
  · exact (next119_short b s w h (by simpa [nxOK, rB] using hs)).mono fun _ _ h => ⟨h.1, h.2.2⟩
  · exact (next108_short b s w h (by simpa [nxOK, rB] using hs)).mono fun _ _ h => ⟨h.1, h.2.2⟩
  · exact (next113_short b s w h (by simpa [nxOK, rB] using hs)).mono fun _ _ h => ⟨h.1, h.2.2⟩
  · exact (next116_short b s w h (by simpa [nxOK, tB] using hs)).mono fun _ _ h => ⟨h.1, h.2.2⟩

end Go.Proofs.Ythhgpfcbhaoeiaa
