/- DeedsSigned: the texts that are signed are what the document says. -/
import Derived.Test.YtpgfdnmlkaoigaaDsI
namespace Go.Proofs.Ytpgfdnmlkaoigaa
open Go.RowKit

def SpAt (w : World) (b : Nat) (e v s : Int) : Prop := w.heap[b]? = some (.cells #[.int .i64 e, .int .i64 v, .int .i64 s] 51 (0, 0))
theorem SpAt.cells {w : World} {b : Nat} {e v s : Int} (h : SpAt w b e v s) : w.cell? ⟨b, 0, none⟩ = some (.int .i64 e) ∧ w.cell? ⟨b, 1, none⟩ = some (.int .i64 v) ∧ w.cell? ⟨b, 2, none⟩ = some (.int .i64 s) := ⟨cell_at h 0 _ rfl, cell_at h 1 _ rfl, cell_at h 2 _ rfl⟩
theorem SpAt.keep {w w' : World} {b : Nat} {e v s : Int} (h : SpAt w b e v s) (hb : Below w.heap.size w w') : SpAt w' b e v s := (hb.block b (lt_of_blk h)).trans h
set_option maxRecDepth 100000 in
set_option maxHeartbeats 6400000 in
theorem dsigned_any (e v s : Int) (hi : e ≤ 9223372036854775807 ∧ v ≤ 9223372036854775807 ∧ s ≤ 9223372036854775807) (a : Rq) (hb : a.b < 18446744073709551616) (x : ByteArray) (hx : x.size ≤ 140737488355328) (w : World) : Calls Try.prog 8 #[.agg #[.int .i64 e, .int .i64 v, .int .i64 s], .agg #[.int .i64 a.c, .int .i64 a.st, .int .i64 a.k, .string a.key, .int .u64 (a.b : Int), .int .i64 a.id], .string x] w fun r w' => r = .returned (.bool true) ∧ Below w.heap.size w w' := by
  have HRq := hid (drequest_any a)
  have HP1 := hid (dprepared_any e v s hi a hb)
  have HP2 := hid (qprepared_any e v s a hb)
  have HS1 := hid (dstate_any s hi.2.2 x hx)
  have HS2 := hid (qstate_any s x hx)
  clear hb hx hi
  generalize prT e v s a = T at *
  generalize prE e v s a = E at *
  generalize stT s x = U at *
  generalize stE s = G at *
  have H0 : Hid (SpAt ((w.alloc (.cells #[.int .i64 e, .int .i64 v, .int .i64 s] 51)).alloc (.cells #[.int .i64 a.c, .int .i64 a.st, .int .i64 a.k, .string a.key, .int .u64 (a.b : Int), .int .i64 a.id] 24)) w.heap.size e v s ∧ AkAt ((w.alloc (.cells #[.int .i64 e, .int .i64 v, .int .i64 s] 51)).alloc (.cells #[.int .i64 a.c, .int .i64 a.st, .int .i64 a.k, .string a.key, .int .u64 (a.b : Int), .int .i64 a.id] 24)) (w.heap.size + 1) a ∧ Below w.heap.size w ((w.alloc (.cells #[.int .i64 e, .int .i64 v, .int .i64 s] 51)).alloc (.cells #[.int .i64 a.c, .int .i64 a.st, .int .i64 a.k, .string a.key, .int .u64 (a.b : Int), .int .i64 a.id] 24))) := hid ⟨(Below.heap_alloc _ _ _ (by simp)).trans (heap_alloc_last w _), snd_alloc w _ _, ((Below.refl _ _).alloc (Nat.le_refl _) _).alloc (by simp) _⟩
  go_enter Try.func8, Try.ntmps8
  go_wp2_with (go_at_call 9; refine (dlives_any _).mono ?_; rintro r w1 ⟨rfl, hb1⟩; have H1 := hid (And.intro (H0.out.1.keep hb1) (And.intro (H0.out.2.1.keep hb1) (H0.out.2.2.trans (hb1.mono H0.out.2.2.size)))); clear hb1)
  go_wp2
  haveI := Cls.ne w1
  have q0 : ∀ u : Cls w1, u.1.cell? ⟨w.heap.size, 0, none⟩ = some (.int .i64 e) := fun u => (H1.out.1.keep u.2).cells.1
  have q1 : ∀ u : Cls w1, u.1.cell? ⟨w.heap.size, 1, none⟩ = some (.int .i64 v) := fun u => (H1.out.1.keep u.2).cells.2.1
  have q2 : ∀ u : Cls w1, u.1.cell? ⟨w.heap.size, 2, none⟩ = some (.int .i64 s) := fun u => (H1.out.1.keep u.2).cells.2.2
  have p0 : ∀ u : Cls w1, u.1.cell? ⟨w.heap.size + 1, 0, none⟩ = some (.int .i64 a.c) := fun u => (H1.out.2.1.keep u.2).cells.1.1
  have p1 : ∀ u : Cls w1, u.1.cell? ⟨w.heap.size + 1, 1, none⟩ = some (.int .i64 a.st) := fun u => (H1.out.2.1.keep u.2).cells.1.2
  have p2 : ∀ u : Cls w1, u.1.cell? ⟨w.heap.size + 1, 2, none⟩ = some (.int .i64 a.k) := fun u => (H1.out.2.1.keep u.2).cells.2.1
  have p3 : ∀ u : Cls w1, u.1.cell? ⟨w.heap.size + 1, 3, none⟩ = some (.string a.key) := fun u => (H1.out.2.1.keep u.2).cells.2.2.1
  have p4 : ∀ u : Cls w1, u.1.cell? ⟨w.heap.size + 1, 4, none⟩ = some (.int .u64 (a.b : Int)) := fun u => (H1.out.2.1.keep u.2).cells.2.2.2.1
  have p5 : ∀ u : Cls w1, u.1.cell? ⟨w.heap.size + 1, 5, none⟩ = some (.int .i64 a.id) := fun u => (H1.out.2.1.keep u.2).cells.2.2.2.2
  refine wp_region_cls w1 (by kernel_rfl) (by kernel_rfl) ?_
  repeat (go_big_quiet_step ((first | (go_at_call 10; exact Cls.of _ (fun u _ => HRq.out u)) | (go_at_call 28; exact Cls.of _ (fun u _ => HP1.out u)))))
  rintro w2 ⟨u, hu⟩
  have hw : Below w1.heap.size w1 w2 := by first | exact hu ▸ u.2 | (rw [hu]; exact u.2) | (rw [← hu]; exact u.2)
  clear q0 q1 q2 p0 p1 p2 p3 p4 p5 hu u
  have H2 := hid (And.intro (H1.out.1.keep hw) (And.intro (H1.out.2.1.keep hw) (H1.out.2.2.trans (hw.mono H1.out.2.2.size))))
  clear hw
  go_wp2
  haveI := Cls.ne w2
  have q0 : ∀ u : Cls w2, u.1.cell? ⟨w.heap.size, 0, none⟩ = some (.int .i64 e) := fun u => (H2.out.1.keep u.2).cells.1
  have q1 : ∀ u : Cls w2, u.1.cell? ⟨w.heap.size, 1, none⟩ = some (.int .i64 v) := fun u => (H2.out.1.keep u.2).cells.2.1
  have q2 : ∀ u : Cls w2, u.1.cell? ⟨w.heap.size, 2, none⟩ = some (.int .i64 s) := fun u => (H2.out.1.keep u.2).cells.2.2
  have p0 : ∀ u : Cls w2, u.1.cell? ⟨w.heap.size + 1, 0, none⟩ = some (.int .i64 a.c) := fun u => (H2.out.2.1.keep u.2).cells.1.1
  have p1 : ∀ u : Cls w2, u.1.cell? ⟨w.heap.size + 1, 1, none⟩ = some (.int .i64 a.st) := fun u => (H2.out.2.1.keep u.2).cells.1.2
  have p2 : ∀ u : Cls w2, u.1.cell? ⟨w.heap.size + 1, 2, none⟩ = some (.int .i64 a.k) := fun u => (H2.out.2.1.keep u.2).cells.2.1
  have p3 : ∀ u : Cls w2, u.1.cell? ⟨w.heap.size + 1, 3, none⟩ = some (.string a.key) := fun u => (H2.out.2.1.keep u.2).cells.2.2.1
  have p4 : ∀ u : Cls w2, u.1.cell? ⟨w.heap.size + 1, 4, none⟩ = some (.int .u64 (a.b : Int)) := fun u => (H2.out.2.1.keep u.2).cells.2.2.2.1
  have p5 : ∀ u : Cls w2, u.1.cell? ⟨w.heap.size + 1, 5, none⟩ = some (.int .i64 a.id) := fun u => (H2.out.2.1.keep u.2).cells.2.2.2.2
  refine wp_region_cls w2 (by kernel_rfl) (by kernel_rfl) ?_
  repeat (go_big_quiet_step ((first | (go_at_call 10; exact Cls.of _ (fun u _ => HRq.out u)) | (go_at_call 29; exact Cls.of _ (fun u _ => HP2.out u)))))
  rintro w3 ⟨u, hu⟩
  have hw : Below w2.heap.size w2 w3 := by first | exact hu ▸ u.2 | (rw [hu]; exact u.2) | (rw [← hu]; exact u.2)
  clear q0 q1 q2 p0 p1 p2 p3 p4 p5 hu u
  have H3 := hid (And.intro (H2.out.1.keep hw) (And.intro (H2.out.2.1.keep hw) (H2.out.2.2.trans (hw.mono H2.out.2.2.size))))
  clear hw
  obtain ⟨z0, z1, z2⟩ := H3.out.1.cells
  go_wp2_with (first
    | (go_at_call 31; refine (HS2.out _).mono ?_; rintro r w5 ⟨rfl, hb5⟩; have H5 := hid (H4.out.2.trans (hb5.mono H4.out.2.size)); clear hb5)
    | (go_at_call 30; refine (HS1.out _).mono ?_; rintro r w4 ⟨rfl, hb4⟩; have H4 := hid (And.intro (H3.out.1.keep hb4) (H3.out.2.2.trans (hb4.mono H3.out.2.2.size))); clear hb4 z0 z1 z2; obtain ⟨z0, z1, z2⟩ := H4.out.1.cells))
  go_ret
  exact ⟨rfl, H5.out⟩
end Go.Proofs.Ytpgfdnmlkaoigaa
