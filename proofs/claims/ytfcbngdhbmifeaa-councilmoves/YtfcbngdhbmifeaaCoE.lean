/- The document's leaders. -/
import Derived.Test.YtfcbngdhbmifeaaCoD
namespace Go.Proofs.Ytfcbngdhbmifeaa
open Go.RowKit

theorem right_mem {ep : Int} {l : List Int} (h : rightC ep l = true) : (0 ≤ ep ∧ ep ≤ 60) ∧ memB l = true := by
  obtain ⟨h1, h2⟩ := Bool.and_eq_true_iff.1 h
  exact ⟨of_decide_eq_true h1, h2⟩
theorem leadN_lt (l : List Int) (view : Int) (hl : 0 < l.length) : leadN l view < l.length ∧ view % (l.length : Int) = (leadN l view : Int) := by
  unfold leadN
  have h1 := Int.emod_nonneg view (show (l.length : Int) ≠ 0 by omega)
  have h2 := Int.emod_lt_of_pos view (show (0 : Int) < (l.length : Int) by omega)
  omega
/-- A struct of two cells, as laid. -/
theorem conf_cells (w : World) (ep s : Value) : (w.alloc (.cells #[ep, s] 30)).heap[w.heap.size]? = some (.cells [ep, s].toArray 30 (0, 0)) := heap_alloc_last w _
set_option maxRecDepth 100000 in
set_option maxHeartbeats 1600000 in
theorem vprimary_any (ep : Int) (a : Option Addr) (n cap : Nat) (l : List Int) (hn : l.length = n) (hm : n ≤ maxLen) (view : Int) (w : World) (hI : IntsIn w a l) :
    Calls Try.prog 22 #[.agg #[.int .i64 ep, .slice a n cap], .int .i64 view] w fun e w' => e = .returned (.tuple #[.int .i64 (leadZ ep l view), .bool (leads ep l view)]) ∧ Below w.heap.size w w' := by
  have HR : Hid (∀ (b : Bool), rightC ep l = b → ∀ u : World, IntsIn u a l → Calls Try.prog 18 #[.agg #[.int .i64 ep, .slice a n cap]] u fun e w' => e = .returned (.bool b) ∧ Below u.heap.size u w') := hid (fun b hb u hu => by rw [← hb]; exact vright_any ep a n cap l hn hm u hu)
  have HI := hid hI
  have HN := hid hn
  clear hI hm hn
  cases hr : rightC ep l with
  | false =>
    have hl : leads ep l view = false := by rw [leads, hr]; rfl
    rw [hl, show leadZ ep l view = 0 by rw [leadZ, hl]; rfl]
    have HRb := hid (HR.out false hr)
    clear hr hl
    go_enter Try.func22, Try.ntmps22
    go_wp2_with (go_at_call 18; refine (HRb.out _ (by exact HI.out.alloc _)).mono ?_; rintro e w1 ⟨rfl, hb1⟩; have H1 := hid (((Below.refl w.heap.size w).alloc (Nat.le_refl _) _).trans (hb1.mono (by simp))); clear hb1)
    go_ret2
    exact ⟨rfl, H1.out⟩
  | true =>
    have HRb := hid (HR.out true hr)
    by_cases hv : view < 0
    · have hl : leads ep l view = false := by rw [leads, decide_eq_false (by omega)]; simp
      rw [hl, show leadZ ep l view = 0 by rw [leadZ, hl]; rfl]
      clear hr hl
      go_enter Try.func22, Try.ntmps22
      go_wp2_with (go_at_call 18; refine (HRb.out _ (by exact HI.out.alloc _)).mono ?_; rintro e w1 ⟨rfl, hb1⟩; have H1 := hid (((Below.refl w.heap.size w).alloc (Nat.le_refl _) _).trans (hb1.mono (by simp))); clear hb1)
      go_ret2
      exact ⟨rfl, H1.out⟩
    · have hl : leads ep l view = true := by rw [leads, hr, decide_eq_true (by omega)]; rfl
      have hml := mem_len (right_mem hr).2
      obtain ⟨hq, hmod⟩ := leadN_lt l view (by omega)
      obtain ⟨x, ex⟩ : ∃ x, x = leadZ ep l view := ⟨_, rfl⟩
      have ex2 : x = l.getD (leadN l view) 0 := by rw [ex, leadZ, hl]; rfl
      rw [hl, ← ex]
      generalize leadN l view = q at hq hmod ex2
      have hget : l[q]? = some x := by rw [ex2]; exact getD_some hq
      obtain ⟨g, off, rfl, hg, hc⟩ := HI.out.at q x hget
      rw [HN.out] at hmod hq hml
      have hn1 : (4 : Int) ≤ (n : Int) := by omega
      have hn2 : (n : Int) ≤ 10 := by omega
      have hn0 : ¬ (n = 0) := by omega
      have hv0 : 0 ≤ view := by omega
      have hq1 : (q : Int) < (n : Int) := by omega
      have hq0 : (0 : Int) ≤ (q : Int) := Int.natCast_nonneg _
      have HC := hid (And.intro hg hc)
      clear hr hl hml hq ex ex2 hget hg hc hv
      go_enter Try.func22, Try.ntmps22
      go_wp2_with (go_at_call 18; refine (HRb.out _ (by exact HI.out.alloc _)).mono ?_; rintro e w1 ⟨rfl, hb1⟩
                   have c0 : w1.cell? ⟨w.heap.size, 0, none⟩ = some (.int .i64 ep) := (hb1.cell (p := ⟨w.heap.size, 0, none⟩) (by simp)).trans (cell_at (conf_cells w _ _) 0 _ rfl)
                   have c1 : w1.cell? ⟨w.heap.size, 1, none⟩ = some (.slice (some ⟨g, off, none⟩) n cap) := (hb1.cell (p := ⟨w.heap.size, 1, none⟩) (by simp)).trans (cell_at (conf_cells w _ _) 1 _ rfl)
                   have H1 := hid (((Below.refl w.heap.size w).alloc (Nat.le_refl _) _).trans (hb1.mono (by simp)))
                   have c2 : w1.cell? ⟨g, off + q, none⟩ = some (.int .i64 x) := (H1.out.cell (p := ⟨g, off + q, none⟩) HC.out.1).trans HC.out.2
                   clear hb1)
      go_quiet (fail)
      go_wp2
      go_ret2
      exact ⟨rfl, H1.out.trans ⟨rfl, rfl, rfl, Nat.le_refl _, fun _ _ => rfl⟩⟩
end Go.Proofs.Ytfcbngdhbmifeaa
