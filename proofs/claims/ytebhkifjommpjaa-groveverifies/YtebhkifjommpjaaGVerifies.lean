/- GroveVerifies: the walk. -/
import Derived.Test.YtebhkifjommpjaaGrJ
import Derived.Test.YtebhkifjommpjaaGrE
namespace Go.Proofs.Ytebhkifjommpjaa
open Go.RowKit

def GvAt (w : World) (b : Nat) (r : ByteArray) (h : Int) (t s : ByteArray) : Prop := w.heap[b]? = some (.cells #[.string r, .int .i64 h, .string t, .string s] 43 (0, 0))
theorem GvAt.keep {w w' : World} {b : Nat} {r : ByteArray} {h : Int} {t s : ByteArray} (hS : GvAt w b r h t s) (hb : Below w.heap.size w w') : GvAt w' b r h t s := (hb.block b (lt_of_blk hS)).trans hS
theorem GvAt.c0 {w : World} {b : Nat} {r : ByteArray} {h : Int} {t s : ByteArray} (hS : GvAt w b r h t s) : w.cell? ⟨b, 0, none⟩ = some (.string r) := cell_at (L := [.string r, .int .i64 h, .string t, .string s]) hS 0 _ rfl
theorem GvAt.c1 {w : World} {b : Nat} {r : ByteArray} {h : Int} {t s : ByteArray} (hS : GvAt w b r h t s) : w.cell? ⟨b, 1, none⟩ = some (.int .i64 h) := cell_at (L := [.string r, .int .i64 h, .string t, .string s]) hS 1 _ rfl
theorem GvAt.c2 {w : World} {b : Nat} {r : ByteArray} {h : Int} {t s : ByteArray} (hS : GvAt w b r h t s) : w.cell? ⟨b, 2, none⟩ = some (.string t) := cell_at (L := [.string r, .int .i64 h, .string t, .string s]) hS 2 _ rfl
theorem GvAt.c3 {w : World} {b : Nat} {r : ByteArray} {h : Int} {t s : ByteArray} (hS : GvAt w b r h t s) : w.cell? ⟨b, 3, none⟩ = some (.string s) := cell_at (L := [.string r, .int .i64 h, .string t, .string s]) hS 3 _ rfl
theorem GvAt.new (w : World) (r : ByteArray) (h : Int) (t s : ByteArray) : GvAt (w.alloc (.cells #[.string r, .int .i64 h, .string t, .string s] 43)) w.heap.size r h t s := heap_alloc_last w _
set_option maxRecDepth 100000 in
set_option maxHeartbeats 3200000 in
theorem groveVerifies_walk (r : ByteArray) (h : Int) (t s : ByteArray) (w : World) :
    Calls Try.prog 5 #[.agg #[.string r, .int .i64 h, .string t, .string s]] w fun e w' => e = .returned (.bool true) ∧ Below w.heap.size w w' := by
  by_cases hl : t.size ≤ 4096
  · have hl1 : (t.size : Int) ≤ 4096 := by omega
    obtain ⟨B, eB⟩ : ∃ B, B = takenB r h t s := ⟨_, rfl⟩
    have HV : Hid (∀ u : World, Calls Try.prog 20 #[.string r, .int .i64 h, .string t, .string s] u fun e w' => e = .returned (.bool B) ∧ Below u.heap.size u w') := hid (fun u => by rw [eB]; exact gverify_any r h t s (by omega) u)
    have HR : Hid (∀ u : World, Calls Try.prog 21 #[.string r, .int .i64 h, .string t, .string s] u fun e w' => e = .returned (.bool B) ∧ Below u.heap.size u w') := hid (fun u => by rw [eB]; exact hverify_any r h t s (by omega) u)
    clear hl eB
    go_enter Try.func5, Try.ntmps5
    go_wp2_with (go_at_call 9; refine (glives_any _).mono ?_; rintro e w1 ⟨rfl, hb1⟩; have H1 := hid (And.intro ((GvAt.new w r h t s).keep hb1) (((Below.refl _ _).alloc (Nat.le_refl _) _).trans (hb1.mono (by simp)))); clear hb1; have c2 := H1.out.1.c2)
    have d0 : ∀ x : Cls w1, x.1.cell? ⟨w.heap.size, 0, none⟩ = some (.string r) := fun x => (H1.out.1.keep x.2).c0
    have d1 : ∀ x : Cls w1, x.1.cell? ⟨w.heap.size, 1, none⟩ = some (.int .i64 h) := fun x => (H1.out.1.keep x.2).c1
    have d2 : ∀ x : Cls w1, x.1.cell? ⟨w.heap.size, 2, none⟩ = some (.string t) := fun x => (H1.out.1.keep x.2).c2
    have d3 : ∀ x : Cls w1, x.1.cell? ⟨w.heap.size, 3, none⟩ = some (.string s) := fun x => (H1.out.1.keep x.2).c3
    clear c2
    haveI := Cls.ne w1
    refine wp_region_cls w1 (by kernel_rfl) (by kernel_rfl) ?_
    repeat (go_big_quiet_step ((first
      | (go_at_call 20; exact Cls.of _ (fun u _ => HV.out u))
      | (go_at_call 21; exact Cls.of _ (fun u _ => HR.out u)))))
    refine wpQuiet_nil ?_
    rintro _ ⟨x, rfl⟩
    go_wp2
    go_ret
    exact ⟨rfl, H1.out.2.trans (x.2.mono H1.out.2.size)⟩
  · have hl1 : ¬ ((t.size : Int) ≤ 4096) := by omega
    clear hl
    go_enter Try.func5, Try.ntmps5
    go_wp2_with (first
      | (go_at_call 9; have := H1; refine (glives_any _).mono ?_; rintro e w2 ⟨rfl, hb2⟩; have H2 := hid (H1.out.2.trans (hb2.mono H1.out.2.size)); clear hb2)
      | (go_at_call 9; refine (glives_any _).mono ?_; rintro e w1 ⟨rfl, hb1⟩; have H1 := hid (And.intro ((GvAt.new w r h t s).keep hb1) (((Below.refl w.heap.size w).alloc (Nat.le_refl _) _).trans (hb1.mono (by simp)))); clear hb1; have c2 := H1.out.1.c2))
    go_ret
    exact ⟨rfl, H2.out⟩
end Go.Proofs.Ytebhkifjommpjaa
