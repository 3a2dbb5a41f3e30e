/- Which tag is taken is what the document says: the walk. -/
import Derived.Test.YtnlmjclloaholaaMaH
namespace Go.Proofs.Ytnlmjclloaholaa
open Go.RowKit

/-- What is sent, in memory. -/
structure SentAt (w : World) (b : Nat) (s : ByteArray) (a c : Int) (t g : ByteArray) : Prop where
  lt : b < w.heap.size
  c0 : w.cell? ⟨b, 0, none⟩ = some (.string s)
  c1 : w.cell? ⟨b, 1, none⟩ = some (.int .i64 a)
  c2 : w.cell? ⟨b, 2, none⟩ = some (.int .i64 c)
  c3 : w.cell? ⟨b, 3, none⟩ = some (.string t)
  c4 : w.cell? ⟨b, 4, none⟩ = some (.string g)
theorem SentAt.keep {w w' : World} {b : Nat} {s : ByteArray} {a c : Int} {t g : ByteArray} (h : SentAt w b s a c t g) (hb : Below w.heap.size w w') : SentAt w' b s a c t g :=
  ⟨Nat.lt_of_lt_of_le h.lt hb.size, (hb.cell (p := ⟨b, 0, none⟩) h.lt).trans h.c0, (hb.cell (p := ⟨b, 1, none⟩) h.lt).trans h.c1, (hb.cell (p := ⟨b, 2, none⟩) h.lt).trans h.c2, (hb.cell (p := ⟨b, 3, none⟩) h.lt).trans h.c3, (hb.cell (p := ⟨b, 4, none⟩) h.lt).trans h.c4⟩
theorem SentAt.new (w : World) (s : ByteArray) (a c : Int) (t g : ByteArray) : SentAt (w.alloc (.cells #[.string s, .int .i64 a, .int .i64 c, .string t, .string g] 30)) w.heap.size s a c t g := by
  have h := fun (j : Nat) (v : Value) hv => cell_at (L := [.string s, .int .i64 a, .int .i64 c, .string t, .string g]) (t := 30) (fr := (0, 0)) (heap_alloc_last w _) j v hv
  exact ⟨by simp, h 0 _ rfl, h 1 _ rfl, h 2 _ rfl, h 3 _ rfl, h 4 _ rfl⟩

set_option maxRecDepth 100000 in
set_option maxHeartbeats 1600000 in
theorem checks_at (s t g : ByteArray) (a c : Int) (hs : s.size ≤ 4096) (ht : t.size ≤ 4096) (r : Bool)
    (HM : Hid (∀ u : World, Calls Try.prog 19 #[.string s, .int .i64 a, .int .i64 c, .string t, .string g] u fun e w' => e = .returned (.bool r) ∧ Below u.heap.size u w'))
    (HN : Hid (∀ u : World, Calls Try.prog 20 #[.string s, .int .i64 a, .int .i64 c, .string t, .string g] u fun e w' => e = .returned (.bool r) ∧ Below u.heap.size u w')) (w : World) :
    Calls Try.prog 6 #[.agg #[.string s, .int .i64 a, .int .i64 c, .string t, .string g]] w fun e w' => e = .returned (.bool true) ∧ Below w.heap.size w w' := by
  have HS := hid (show decide (s.size ≤ 4096 ∧ t.size ≤ 4096) = true from decide_eq_true ⟨hs, ht⟩)
  clear hs ht
  go_enter Try.func6, Try.ntmps6
  go_wp2_with (first
    | (go_at_call 9; refine (mlives_any _).mono ?_; rintro e w1 ⟨rfl, hb1⟩; have H1 := hid hb1; clear hb1
       have H2 := hid ((SentAt.new w s a c t g).keep H1.out)
       have c0 := H2.out.c0
       have c3 := H2.out.c3)
    | (go_at_call 10; refine (mshort_any _ _ _ (by exact HS.out) _).mono ?_; rintro e wx ⟨rfl, rfl⟩))
  have d0 : ∀ x : Cls wx, x.1.cell? ⟨w.heap.size, 0, none⟩ = some (.string s) := fun x => (H2.out.keep x.2).c0
  have d1 : ∀ x : Cls wx, x.1.cell? ⟨w.heap.size, 1, none⟩ = some (.int .i64 a) := fun x => (H2.out.keep x.2).c1
  have d2 : ∀ x : Cls wx, x.1.cell? ⟨w.heap.size, 2, none⟩ = some (.int .i64 c) := fun x => (H2.out.keep x.2).c2
  have d3 : ∀ x : Cls wx, x.1.cell? ⟨w.heap.size, 3, none⟩ = some (.string t) := fun x => (H2.out.keep x.2).c3
  have d4 : ∀ x : Cls wx, x.1.cell? ⟨w.heap.size, 4, none⟩ = some (.string g) := fun x => (H2.out.keep x.2).c4
  clear c0 c3
  haveI := Cls.ne wx
  refine wp_region_cls wx (by kernel_rfl) (by kernel_rfl) ?_
  repeat (go_big_quiet_step ((first | (go_at_call 19; exact Cls.of _ (fun u _ => HM.out u)) | (go_at_call 20; exact Cls.of _ (fun u _ => HN.out u)))))
  refine wpQuiet_nil ?_
  rintro _ ⟨x, rfl⟩
  go_wp2
  go_ret
  exact ⟨rfl, ((Below.refl _ _).alloc (Nat.le_refl _) _).trans ((H1.out.mono (by simp)).trans (x.2.mono (Nat.le_trans (by simp) H1.out.size)))⟩

set_option maxRecDepth 100000 in
set_option maxHeartbeats 1600000 in
theorem macChecks_walk (s t g : ByteArray) (a c : Int) (w : World) :
    Calls Try.prog 6 #[.agg #[.string s, .int .i64 a, .int .i64 c, .string t, .string g]] w fun e w' => e = .returned (.bool true) ∧ Below w.heap.size w w' := by
  by_cases hl : s.size ≤ 4096 ∧ t.size ≤ 4096
  · cases hn : nodeB a && nodeB c with
    | true =>
      obtain ⟨h1, h2⟩ := Bool.and_eq_true_iff.1 hn
      obtain ⟨a, rfl, ha⟩ := node_nat h1
      obtain ⟨c, rfl, hc⟩ := node_nat h2
      exact checks_at s t g a c hl.1 hl.2 _ (hid (check_yes s (by omega) a c ha hc t (by omega) g _ rfl)) (hid (ncheck_yes s (by omega) a c ha hc t (by omega) g _ rfl)) w
    | false =>
      exact checks_at s t g a c hl.1 hl.2 _ (hid (of_same (check_no s a c hn t g))) (hid (of_same (ncheck_no s a c hn t g))) w
  · have HS := hid (show decide (s.size ≤ 4096 ∧ t.size ≤ 4096) = false from decide_eq_false hl)
    clear hl
    go_enter Try.func6, Try.ntmps6
    go_wp2_with (first
      | (go_at_call 9; have := H1; refine (mlives_any _).mono ?_; rintro e w2 ⟨rfl, hb2⟩; have H3 := hid hb2; clear hb2)
      | (go_at_call 9; refine (mlives_any _).mono ?_; rintro e w1 ⟨rfl, hb1⟩; have H1 := hid hb1; clear hb1
         have H2 := hid ((SentAt.new w s a c t g).keep H1.out)
         have c0 := H2.out.c0
         have c3 := H2.out.c3)
      | (go_at_call 10; refine (mshort_any _ _ _ (by exact HS.out) _).mono ?_; rintro e wx ⟨rfl, rfl⟩))
    go_ret
    exact ⟨rfl, ((Below.refl _ _).alloc (Nat.le_refl _) _).trans ((H1.out.mono (by simp)).trans (H3.out.mono (Nat.le_trans (by simp) H1.out.size)))⟩
end Go.Proofs.Ytnlmjclloaholaa
