/- The document's deeds: which operation is right, which request, which is the null one. -/
import Derived.Test.YthjgnfeadagmeaaGreatOa1
import Derived.Test.YthjgnfeadagmeaaGreatOa3
namespace Go.Proofs.YthjgnfeadagmeaaGreat
open Go.RowKit

theorem ret_bool {X Y : Bool} (h : X = Y) : Ending.returned (.bool X) = Ending.returned (.bool Y) := by rw [h]
theorem none_size (s : ByteArray) : s.toList.isEmpty = decide (s.size = 0) := by
  rw [ByteArray.toList_eq]
  cases h : s.data.toList with
  | nil =>
    have : s.size = 0 := by rw [← data_len, h]; rfl
    simp [this]
  | cons x l =>
    have : s.size ≠ 0 := by rw [← data_len, h]; simp
    simp [this]
/-- An operation, a request in a variable. -/
def OpAt (w : World) (b : Nat) (r : Rq) : Prop := w.heap[b]? = some (.cells [.int .i64 r.k, .string r.key, .float .f64 r.b, .int .i64 r.id].toArray 39 (0, 0))
def RqAt (w : World) (b : Nat) (r : Rq) : Prop := w.heap[b]? = some (.cells [.int .i64 r.c, .int .i64 r.st, .int .i64 r.k, .string r.key, .float .f64 r.b, .int .i64 r.id].toArray 41 (0, 0))
theorem OpAt.cells {w : World} {b : Nat} {r : Rq} (h : OpAt w b r) : w.cell? ⟨b, 0, none⟩ = some (.int .i64 r.k) ∧ w.cell? ⟨b, 1, none⟩ = some (.string r.key) ∧ w.cell? ⟨b, 2, none⟩ = some (.float .f64 r.b) ∧ w.cell? ⟨b, 3, none⟩ = some (.int .i64 r.id) :=
  ⟨cell_at h 0 _ rfl, cell_at h 1 _ rfl, cell_at h 2 _ rfl, cell_at h 3 _ rfl⟩
theorem RqAt.cells {w : World} {b : Nat} {r : Rq} (h : RqAt w b r) : (w.cell? ⟨b, 0, none⟩ = some (.int .i64 r.c) ∧ w.cell? ⟨b, 1, none⟩ = some (.int .i64 r.st)) ∧ w.cell? ⟨b, 2, none⟩ = some (.int .i64 r.k) ∧ w.cell? ⟨b, 3, none⟩ = some (.string r.key) ∧ w.cell? ⟨b, 4, none⟩ = some (.float .f64 r.b) ∧ w.cell? ⟨b, 5, none⟩ = some (.int .i64 r.id) :=
  ⟨⟨cell_at h 0 _ rfl, cell_at h 1 _ rfl⟩, cell_at h 2 _ rfl, cell_at h 3 _ rfl, cell_at h 4 _ rfl, cell_at h 5 _ rfl⟩
theorem OpAt.keep {w w' : World} {b : Nat} {r : Rq} (h : OpAt w b r) (hb : Below w.heap.size w w') : OpAt w' b r := (hb.block b (lt_of_blk h)).trans h
theorem RqAt.keep {w w' : World} {b : Nat} {r : Rq} (h : RqAt w b r) (hb : Below w.heap.size w w') : RqAt w' b r := (hb.block b (lt_of_blk h)).trans h
set_option maxRecDepth 100000 in
theorem qkeyed_any (r : Rq) (w : World) : Calls Tryz.prog 128 #[.agg #[.int .i64 r.k, .string r.key, .float .f64 r.b, .int .i64 r.id]] w fun e w' => e = .returned (.bool (keyedB r)) ∧ Below w.heap.size w w' := by
  have HB : Hid (Below w.heap.size w (w.alloc (.cells #[.int .i64 r.k, .string r.key, .float .f64 r.b, .int .i64 r.id] 39))) := hid ((Below.refl _ _).alloc (Nat.le_refl _) _)
  obtain ⟨B, hB⟩ : ∃ B, keyedB r = B := ⟨_, rfl⟩
  have HBe := hid hB
  rw [hB]
  clear hB
  go_enter Tryz.func128, Tryz.ntmps128
  go_wp2
  all_goals go_ret
  all_goals refine ⟨ret_bool ?_, HB.out⟩
  all_goals (rw [← HBe.out, keyedB, Bool.eq_iff_iff]; simp; try omega)
set_option maxRecDepth 100000 in
theorem qplain_any (r : Rq) (w : World) : Calls Tryz.prog 86 #[.agg #[.int .i64 r.k, .string r.key, .float .f64 r.b, .int .i64 r.id]] w fun e w' => e = .returned (.bool (plainB r)) ∧ Below w.heap.size w w' := by
  have HB : Hid (Below w.heap.size w (w.alloc (.cells #[.int .i64 r.k, .string r.key, .float .f64 r.b, .int .i64 r.id] 39))) := hid ((Below.refl _ _).alloc (Nat.le_refl _) _)
  obtain ⟨B, hB⟩ : ∃ B, plainB r = B := ⟨_, rfl⟩
  have HBe := hid hB
  rw [hB]
  clear hB
  go_enter Tryz.func86, Tryz.ntmps86
  go_wp2_with (go_at_call 89; refine (kbits_any _ _).mono ?_; rintro e w1 ⟨rfl, rfl⟩)
  go_ret
  refine ⟨ret_bool ?_, HB.out⟩
  rw [← HBe.out, plainB, Bool.eq_iff_iff]
  simp
set_option maxRecDepth 100000 in
set_option maxHeartbeats 6400000 in
theorem qop_any (r : Rq) (w : World) : Calls Tryz.prog 85 #[.agg #[.int .i64 r.k, .string r.key, .float .f64 r.b, .int .i64 r.id]] w fun e w' => e = .returned (.bool (opB r)) ∧ Below w.heap.size w w' := by
  obtain ⟨c, st, k, key, b, id⟩ := r
  simp only
  have HK := fun (k : Int) (u : World) => qkeyed_any ⟨c, st, k, key, b, id⟩ u
  have HP := fun (k : Int) (u : World) => qplain_any ⟨c, st, k, key, b, id⟩ u
  simp only at HK HP
  have HKk : ∀ k, keyedB ⟨c, st, k, key, b, id⟩ = keyedB ⟨c, st, 0, key, b, id⟩ := fun _ => rfl
  have HPk : ∀ k, plainB ⟨c, st, k, key, b, id⟩ = plainB ⟨c, st, 0, key, b, id⟩ := fun _ => rfl
  have HOp : Hid (∀ k, opB ⟨c, st, k, key, b, id⟩ = if k = 1 ∨ k = 2 ∨ k = 3 then keyedB ⟨c, st, 0, key, b, id⟩ else if k = 4 ∨ k = 5 then keyedB ⟨c, st, 0, key, b, id⟩ && plainB ⟨c, st, 0, key, b, id⟩ else if k = 6 ∨ k = 7 then ((decide (key.size = 0) && plainB ⟨c, st, 0, key, b, id⟩) && decide (0 ≤ id)) && decide (id < 16) else false) := hid (fun _ => rfl)
  simp only [HKk] at HK
  simp only [HPk] at HP
  have HKh := hid HK
  have HPh := hid HP
  obtain ⟨B, hB⟩ : ∃ B, B = opB ⟨c, st, k, key, b, id⟩ := ⟨_, rfl⟩
  rw [HOp.out] at hB
  rw [show opB ⟨c, st, k, key, b, id⟩ = B by rw [hB, HOp.out]]
  have HBe := hid hB
  have hz2 := none_size key
  clear HK HP HKk HPk hB HOp
  generalize keyedB ⟨c, st, 0, key, b, id⟩ = K at *
  generalize plainB ⟨c, st, 0, key, b, id⟩ = P at *
  by_cases h1 : k = 1
  · subst h1
    rw [if_pos (by decide)] at HBe
    go_enter Tryz.func85, Tryz.ntmps85
    go_wp2_with (first
      | (go_at_call 128; refine (HKh.out _ _).mono ?_; rintro e w1 ⟨rfl, hb1⟩; have H1 := hid (And.intro ((hb1.block _ (by simp)).trans (heap_alloc_last w _)) (((Below.refl w.heap.size w).alloc (Nat.le_refl _) _).trans (hb1.mono (by simp)))); clear hb1; have z0 := cell_at (L := [.int .i64 1, .string key, .float .f64 b, .int .i64 id]) H1.out.1 0 _ rfl; have z1 := cell_at (L := [.int .i64 1, .string key, .float .f64 b, .int .i64 id]) H1.out.1 1 _ rfl; have z2 := cell_at (L := [.int .i64 1, .string key, .float .f64 b, .int .i64 id]) H1.out.1 2 _ rfl; have z3 := cell_at (L := [.int .i64 1, .string key, .float .f64 b, .int .i64 id]) H1.out.1 3 _ rfl)
      | (go_at_call 86; have := H1; refine (HPh.out _ _).mono ?_; rintro e w2 ⟨rfl, hb2⟩; have H2 := hid (H1.out.2.trans (hb2.mono H1.out.2.size)); clear hb2)
      | (go_at_call 86; refine (HPh.out _ _).mono ?_; rintro e w2 ⟨rfl, hb2⟩; have H1 := hid (And.intro ((hb2.block _ (by simp)).trans (heap_alloc_last w _)) (((Below.refl w.heap.size w).alloc (Nat.le_refl _) _).trans (hb2.mono (by simp)))); clear hb2; have z0 := cell_at (L := [.int .i64 1, .string key, .float .f64 b, .int .i64 id]) H1.out.1 0 _ rfl; have z1 := cell_at (L := [.int .i64 1, .string key, .float .f64 b, .int .i64 id]) H1.out.1 1 _ rfl; have z2 := cell_at (L := [.int .i64 1, .string key, .float .f64 b, .int .i64 id]) H1.out.1 2 _ rfl; have z3 := cell_at (L := [.int .i64 1, .string key, .float .f64 b, .int .i64 id]) H1.out.1 3 _ rfl))
    all_goals go_ret
    all_goals refine ⟨ret_bool ?_, by first | exact H2.out | exact H1.out.2 | exact (Below.refl w.heap.size w).alloc (Nat.le_refl _) _⟩
    all_goals (first | exact HBe.out.symm | (rw [HBe.out, Bool.eq_iff_iff]; simp; done) | (rw [HBe.out, Bool.eq_iff_iff]; simp; omega))
  by_cases h2 : k = 2
  · subst h2
    rw [if_pos (by decide)] at HBe
    go_enter Tryz.func85, Tryz.ntmps85
    go_wp2_with (first
      | (go_at_call 128; refine (HKh.out _ _).mono ?_; rintro e w1 ⟨rfl, hb1⟩; have H1 := hid (And.intro ((hb1.block _ (by simp)).trans (heap_alloc_last w _)) (((Below.refl w.heap.size w).alloc (Nat.le_refl _) _).trans (hb1.mono (by simp)))); clear hb1; have z0 := cell_at (L := [.int .i64 2, .string key, .float .f64 b, .int .i64 id]) H1.out.1 0 _ rfl; have z1 := cell_at (L := [.int .i64 2, .string key, .float .f64 b, .int .i64 id]) H1.out.1 1 _ rfl; have z2 := cell_at (L := [.int .i64 2, .string key, .float .f64 b, .int .i64 id]) H1.out.1 2 _ rfl; have z3 := cell_at (L := [.int .i64 2, .string key, .float .f64 b, .int .i64 id]) H1.out.1 3 _ rfl)
      | (go_at_call 86; have := H1; refine (HPh.out _ _).mono ?_; rintro e w2 ⟨rfl, hb2⟩; have H2 := hid (H1.out.2.trans (hb2.mono H1.out.2.size)); clear hb2)
      | (go_at_call 86; refine (HPh.out _ _).mono ?_; rintro e w2 ⟨rfl, hb2⟩; have H1 := hid (And.intro ((hb2.block _ (by simp)).trans (heap_alloc_last w _)) (((Below.refl w.heap.size w).alloc (Nat.le_refl _) _).trans (hb2.mono (by simp)))); clear hb2; have z0 := cell_at (L := [.int .i64 2, .string key, .float .f64 b, .int .i64 id]) H1.out.1 0 _ rfl; have z1 := cell_at (L := [.int .i64 2, .string key, .float .f64 b, .int .i64 id]) H1.out.1 1 _ rfl; have z2 := cell_at (L := [.int .i64 2, .string key, .float .f64 b, .int .i64 id]) H1.out.1 2 _ rfl; have z3 := cell_at (L := [.int .i64 2, .string key, .float .f64 b, .int .i64 id]) H1.out.1 3 _ rfl))
    all_goals go_ret
    all_goals refine ⟨ret_bool ?_, by first | exact H2.out | exact H1.out.2 | exact (Below.refl w.heap.size w).alloc (Nat.le_refl _) _⟩
    all_goals (first | exact HBe.out.symm | (rw [HBe.out, Bool.eq_iff_iff]; simp; done) | (rw [HBe.out, Bool.eq_iff_iff]; simp; omega))
  by_cases h3 : k = 3
  · subst h3
    rw [if_pos (by decide)] at HBe
    go_enter Tryz.func85, Tryz.ntmps85
    go_wp2_with (first
      | (go_at_call 128; refine (HKh.out _ _).mono ?_; rintro e w1 ⟨rfl, hb1⟩; have H1 := hid (And.intro ((hb1.block _ (by simp)).trans (heap_alloc_last w _)) (((Below.refl w.heap.size w).alloc (Nat.le_refl _) _).trans (hb1.mono (by simp)))); clear hb1; have z0 := cell_at (L := [.int .i64 3, .string key, .float .f64 b, .int .i64 id]) H1.out.1 0 _ rfl; have z1 := cell_at (L := [.int .i64 3, .string key, .float .f64 b, .int .i64 id]) H1.out.1 1 _ rfl; have z2 := cell_at (L := [.int .i64 3, .string key, .float .f64 b, .int .i64 id]) H1.out.1 2 _ rfl; have z3 := cell_at (L := [.int .i64 3, .string key, .float .f64 b, .int .i64 id]) H1.out.1 3 _ rfl)
      | (go_at_call 86; have := H1; refine (HPh.out _ _).mono ?_; rintro e w2 ⟨rfl, hb2⟩; have H2 := hid (H1.out.2.trans (hb2.mono H1.out.2.size)); clear hb2)
      | (go_at_call 86; refine (HPh.out _ _).mono ?_; rintro e w2 ⟨rfl, hb2⟩; have H1 := hid (And.intro ((hb2.block _ (by simp)).trans (heap_alloc_last w _)) (((Below.refl w.heap.size w).alloc (Nat.le_refl _) _).trans (hb2.mono (by simp)))); clear hb2; have z0 := cell_at (L := [.int .i64 3, .string key, .float .f64 b, .int .i64 id]) H1.out.1 0 _ rfl; have z1 := cell_at (L := [.int .i64 3, .string key, .float .f64 b, .int .i64 id]) H1.out.1 1 _ rfl; have z2 := cell_at (L := [.int .i64 3, .string key, .float .f64 b, .int .i64 id]) H1.out.1 2 _ rfl; have z3 := cell_at (L := [.int .i64 3, .string key, .float .f64 b, .int .i64 id]) H1.out.1 3 _ rfl))
    all_goals go_ret
    all_goals refine ⟨ret_bool ?_, by first | exact H2.out | exact H1.out.2 | exact (Below.refl w.heap.size w).alloc (Nat.le_refl _) _⟩
    all_goals (first | exact HBe.out.symm | (rw [HBe.out, Bool.eq_iff_iff]; simp; done) | (rw [HBe.out, Bool.eq_iff_iff]; simp; omega))
  by_cases h4 : k = 4
  · subst h4
    rw [if_neg (by decide), if_pos (by decide)] at HBe
    cases K <;>
    · go_enter Tryz.func85, Tryz.ntmps85
      go_wp2_with (first
        | (go_at_call 128; refine (HKh.out _ _).mono ?_; rintro e w1 ⟨rfl, hb1⟩; have H1 := hid (And.intro ((hb1.block _ (by simp)).trans (heap_alloc_last w _)) (((Below.refl w.heap.size w).alloc (Nat.le_refl _) _).trans (hb1.mono (by simp)))); clear hb1; have z0 := cell_at (L := [.int .i64 4, .string key, .float .f64 b, .int .i64 id]) H1.out.1 0 _ rfl; have z1 := cell_at (L := [.int .i64 4, .string key, .float .f64 b, .int .i64 id]) H1.out.1 1 _ rfl; have z2 := cell_at (L := [.int .i64 4, .string key, .float .f64 b, .int .i64 id]) H1.out.1 2 _ rfl; have z3 := cell_at (L := [.int .i64 4, .string key, .float .f64 b, .int .i64 id]) H1.out.1 3 _ rfl)
        | (go_at_call 86; have := H1; refine (HPh.out _ _).mono ?_; rintro e w2 ⟨rfl, hb2⟩; have H2 := hid (H1.out.2.trans (hb2.mono H1.out.2.size)); clear hb2)
        | (go_at_call 86; refine (HPh.out _ _).mono ?_; rintro e w2 ⟨rfl, hb2⟩; have H1 := hid (And.intro ((hb2.block _ (by simp)).trans (heap_alloc_last w _)) (((Below.refl w.heap.size w).alloc (Nat.le_refl _) _).trans (hb2.mono (by simp)))); clear hb2; have z0 := cell_at (L := [.int .i64 4, .string key, .float .f64 b, .int .i64 id]) H1.out.1 0 _ rfl; have z1 := cell_at (L := [.int .i64 4, .string key, .float .f64 b, .int .i64 id]) H1.out.1 1 _ rfl; have z2 := cell_at (L := [.int .i64 4, .string key, .float .f64 b, .int .i64 id]) H1.out.1 2 _ rfl; have z3 := cell_at (L := [.int .i64 4, .string key, .float .f64 b, .int .i64 id]) H1.out.1 3 _ rfl))
      all_goals go_ret
      all_goals refine ⟨ret_bool ?_, by first | exact H2.out | exact H1.out.2 | exact (Below.refl w.heap.size w).alloc (Nat.le_refl _) _⟩
      all_goals (first | exact HBe.out.symm | (rw [HBe.out, Bool.eq_iff_iff]; simp; done) | (rw [HBe.out, Bool.eq_iff_iff]; simp; omega))
  by_cases h5 : k = 5
  · subst h5
    rw [if_neg (by decide), if_pos (by decide)] at HBe
    cases K <;>
    · go_enter Tryz.func85, Tryz.ntmps85
      go_wp2_with (first
        | (go_at_call 128; refine (HKh.out _ _).mono ?_; rintro e w1 ⟨rfl, hb1⟩; have H1 := hid (And.intro ((hb1.block _ (by simp)).trans (heap_alloc_last w _)) (((Below.refl w.heap.size w).alloc (Nat.le_refl _) _).trans (hb1.mono (by simp)))); clear hb1; have z0 := cell_at (L := [.int .i64 5, .string key, .float .f64 b, .int .i64 id]) H1.out.1 0 _ rfl; have z1 := cell_at (L := [.int .i64 5, .string key, .float .f64 b, .int .i64 id]) H1.out.1 1 _ rfl; have z2 := cell_at (L := [.int .i64 5, .string key, .float .f64 b, .int .i64 id]) H1.out.1 2 _ rfl; have z3 := cell_at (L := [.int .i64 5, .string key, .float .f64 b, .int .i64 id]) H1.out.1 3 _ rfl)
        | (go_at_call 86; have := H1; refine (HPh.out _ _).mono ?_; rintro e w2 ⟨rfl, hb2⟩; have H2 := hid (H1.out.2.trans (hb2.mono H1.out.2.size)); clear hb2)
        | (go_at_call 86; refine (HPh.out _ _).mono ?_; rintro e w2 ⟨rfl, hb2⟩; have H1 := hid (And.intro ((hb2.block _ (by simp)).trans (heap_alloc_last w _)) (((Below.refl w.heap.size w).alloc (Nat.le_refl _) _).trans (hb2.mono (by simp)))); clear hb2; have z0 := cell_at (L := [.int .i64 5, .string key, .float .f64 b, .int .i64 id]) H1.out.1 0 _ rfl; have z1 := cell_at (L := [.int .i64 5, .string key, .float .f64 b, .int .i64 id]) H1.out.1 1 _ rfl; have z2 := cell_at (L := [.int .i64 5, .string key, .float .f64 b, .int .i64 id]) H1.out.1 2 _ rfl; have z3 := cell_at (L := [.int .i64 5, .string key, .float .f64 b, .int .i64 id]) H1.out.1 3 _ rfl))
      all_goals go_ret
      all_goals refine ⟨ret_bool ?_, by first | exact H2.out | exact H1.out.2 | exact (Below.refl w.heap.size w).alloc (Nat.le_refl _) _⟩
      all_goals (first | exact HBe.out.symm | (rw [HBe.out, Bool.eq_iff_iff]; simp; done) | (rw [HBe.out, Bool.eq_iff_iff]; simp; omega))
  by_cases h6 : k = 6
  · subst h6
    rw [if_neg (by decide), if_neg (by decide), if_pos (by decide)] at HBe
    cases hd : decide (key.size = 0) <;> rw [hd] at HBe hz2 <;> cases P <;>
    · clear hd
      go_enter Tryz.func85, Tryz.ntmps85
      go_wp2_with (first
        | (go_at_call 128; refine (HKh.out _ _).mono ?_; rintro e w1 ⟨rfl, hb1⟩; have H1 := hid (And.intro ((hb1.block _ (by simp)).trans (heap_alloc_last w _)) (((Below.refl w.heap.size w).alloc (Nat.le_refl _) _).trans (hb1.mono (by simp)))); clear hb1; have z0 := cell_at (L := [.int .i64 6, .string key, .float .f64 b, .int .i64 id]) H1.out.1 0 _ rfl; have z1 := cell_at (L := [.int .i64 6, .string key, .float .f64 b, .int .i64 id]) H1.out.1 1 _ rfl; have z2 := cell_at (L := [.int .i64 6, .string key, .float .f64 b, .int .i64 id]) H1.out.1 2 _ rfl; have z3 := cell_at (L := [.int .i64 6, .string key, .float .f64 b, .int .i64 id]) H1.out.1 3 _ rfl)
        | (go_at_call 86; have := H1; refine (HPh.out _ _).mono ?_; rintro e w2 ⟨rfl, hb2⟩; have H2 := hid (H1.out.2.trans (hb2.mono H1.out.2.size)); clear hb2)
        | (go_at_call 86; refine (HPh.out _ _).mono ?_; rintro e w2 ⟨rfl, hb2⟩; have H1 := hid (And.intro ((hb2.block _ (by simp)).trans (heap_alloc_last w _)) (((Below.refl w.heap.size w).alloc (Nat.le_refl _) _).trans (hb2.mono (by simp)))); clear hb2; have z0 := cell_at (L := [.int .i64 6, .string key, .float .f64 b, .int .i64 id]) H1.out.1 0 _ rfl; have z1 := cell_at (L := [.int .i64 6, .string key, .float .f64 b, .int .i64 id]) H1.out.1 1 _ rfl; have z2 := cell_at (L := [.int .i64 6, .string key, .float .f64 b, .int .i64 id]) H1.out.1 2 _ rfl; have z3 := cell_at (L := [.int .i64 6, .string key, .float .f64 b, .int .i64 id]) H1.out.1 3 _ rfl))
      all_goals go_ret
      all_goals refine ⟨ret_bool ?_, by first | exact H2.out | exact H1.out.2 | exact (Below.refl w.heap.size w).alloc (Nat.le_refl _) _⟩
      all_goals (first | exact HBe.out.symm | (rw [HBe.out, Bool.eq_iff_iff]; simp; done) | (rw [HBe.out, Bool.eq_iff_iff]; simp; omega))
  by_cases h7 : k = 7
  · subst h7
    rw [if_neg (by decide), if_neg (by decide), if_pos (by decide)] at HBe
    cases hd : decide (key.size = 0) <;> rw [hd] at HBe hz2 <;> cases P <;>
    · clear hd
      go_enter Tryz.func85, Tryz.ntmps85
      go_wp2_with (first
        | (go_at_call 128; refine (HKh.out _ _).mono ?_; rintro e w1 ⟨rfl, hb1⟩; have H1 := hid (And.intro ((hb1.block _ (by simp)).trans (heap_alloc_last w _)) (((Below.refl w.heap.size w).alloc (Nat.le_refl _) _).trans (hb1.mono (by simp)))); clear hb1; have z0 := cell_at (L := [.int .i64 7, .string key, .float .f64 b, .int .i64 id]) H1.out.1 0 _ rfl; have z1 := cell_at (L := [.int .i64 7, .string key, .float .f64 b, .int .i64 id]) H1.out.1 1 _ rfl; have z2 := cell_at (L := [.int .i64 7, .string key, .float .f64 b, .int .i64 id]) H1.out.1 2 _ rfl; have z3 := cell_at (L := [.int .i64 7, .string key, .float .f64 b, .int .i64 id]) H1.out.1 3 _ rfl)
        | (go_at_call 86; have := H1; refine (HPh.out _ _).mono ?_; rintro e w2 ⟨rfl, hb2⟩; have H2 := hid (H1.out.2.trans (hb2.mono H1.out.2.size)); clear hb2)
        | (go_at_call 86; refine (HPh.out _ _).mono ?_; rintro e w2 ⟨rfl, hb2⟩; have H1 := hid (And.intro ((hb2.block _ (by simp)).trans (heap_alloc_last w _)) (((Below.refl w.heap.size w).alloc (Nat.le_refl _) _).trans (hb2.mono (by simp)))); clear hb2; have z0 := cell_at (L := [.int .i64 7, .string key, .float .f64 b, .int .i64 id]) H1.out.1 0 _ rfl; have z1 := cell_at (L := [.int .i64 7, .string key, .float .f64 b, .int .i64 id]) H1.out.1 1 _ rfl; have z2 := cell_at (L := [.int .i64 7, .string key, .float .f64 b, .int .i64 id]) H1.out.1 2 _ rfl; have z3 := cell_at (L := [.int .i64 7, .string key, .float .f64 b, .int .i64 id]) H1.out.1 3 _ rfl))
      all_goals go_ret
      all_goals refine ⟨ret_bool ?_, by first | exact H2.out | exact H1.out.2 | exact (Below.refl w.heap.size w).alloc (Nat.le_refl _) _⟩
      all_goals (first | exact HBe.out.symm | (rw [HBe.out, Bool.eq_iff_iff]; simp; done) | (rw [HBe.out, Bool.eq_iff_iff]; simp; omega))
  rw [if_neg (by omega), if_neg (by omega), if_neg (by omega)] at HBe
  go_enter Tryz.func85, Tryz.ntmps85
  go_wp2_with (first
    | (go_at_call 128; refine (HKh.out _ _).mono ?_; rintro e w1 ⟨rfl, hb1⟩; have H1 := hid (And.intro ((hb1.block _ (by simp)).trans (heap_alloc_last w _)) (((Below.refl w.heap.size w).alloc (Nat.le_refl _) _).trans (hb1.mono (by simp)))); clear hb1; have z0 := cell_at (L := [.int .i64 k, .string key, .float .f64 b, .int .i64 id]) H1.out.1 0 _ rfl; have z1 := cell_at (L := [.int .i64 k, .string key, .float .f64 b, .int .i64 id]) H1.out.1 1 _ rfl; have z2 := cell_at (L := [.int .i64 k, .string key, .float .f64 b, .int .i64 id]) H1.out.1 2 _ rfl; have z3 := cell_at (L := [.int .i64 k, .string key, .float .f64 b, .int .i64 id]) H1.out.1 3 _ rfl)
    | (go_at_call 86; have := H1; refine (HPh.out _ _).mono ?_; rintro e w2 ⟨rfl, hb2⟩; have H2 := hid (H1.out.2.trans (hb2.mono H1.out.2.size)); clear hb2)
    | (go_at_call 86; refine (HPh.out _ _).mono ?_; rintro e w2 ⟨rfl, hb2⟩; have H1 := hid (And.intro ((hb2.block _ (by simp)).trans (heap_alloc_last w _)) (((Below.refl w.heap.size w).alloc (Nat.le_refl _) _).trans (hb2.mono (by simp)))); clear hb2; have z0 := cell_at (L := [.int .i64 k, .string key, .float .f64 b, .int .i64 id]) H1.out.1 0 _ rfl; have z1 := cell_at (L := [.int .i64 k, .string key, .float .f64 b, .int .i64 id]) H1.out.1 1 _ rfl; have z2 := cell_at (L := [.int .i64 k, .string key, .float .f64 b, .int .i64 id]) H1.out.1 2 _ rfl; have z3 := cell_at (L := [.int .i64 k, .string key, .float .f64 b, .int .i64 id]) H1.out.1 3 _ rfl))
  all_goals go_ret
  all_goals refine ⟨ret_bool ?_, by first | exact H2.out | exact H1.out.2 | exact (Below.refl w.heap.size w).alloc (Nat.le_refl _) _⟩
  all_goals (first | exact HBe.out.symm | (rw [HBe.out, Bool.eq_iff_iff]; simp; done) | (rw [HBe.out, Bool.eq_iff_iff]; simp; omega))
set_option maxRecDepth 100000 in
set_option maxHeartbeats 6400000 in
theorem qright_any (r : Rq) (w : World) : Calls Tryz.prog 46 #[.agg #[.int .i64 r.c, .int .i64 r.st, .int .i64 r.k, .string r.key, .float .f64 r.b, .int .i64 r.id]] w fun e w' => e = .returned (.bool (rightB r)) ∧ Below w.heap.size w w' := by
  have H0 : Hid (RqAt (w.alloc (.cells #[.int .i64 r.c, .int .i64 r.st, .int .i64 r.k, .string r.key, .float .f64 r.b, .int .i64 r.id] 41)) w.heap.size r ∧ Below w.heap.size w (w.alloc (.cells #[.int .i64 r.c, .int .i64 r.st, .int .i64 r.k, .string r.key, .float .f64 r.b, .int .i64 r.id] 41))) := hid ⟨heap_alloc_last w _, (Below.refl w.heap.size w).alloc (Nat.le_refl _) _⟩
  obtain ⟨B, hB⟩ : ∃ B, rightB r = B := ⟨_, rfl⟩
  have HBe : Hid (B = rightB r) := hid hB.symm
  rw [hB]
  clear hB
  obtain ⟨O, hO⟩ : ∃ O, opB r = O := ⟨_, rfl⟩
  have HO := hid (fun u => hO ▸ qop_any r u)
  have HOe := hid hO
  clear hO
  go_enter Tryz.func46, Tryz.ntmps46
  go_wp2_with (go_at_call 85; refine (HO.out _).mono ?_; rintro e w1 ⟨rfl, hb1⟩; have H1 := hid (H0.out.2.trans (hb1.mono H0.out.2.size)); clear hb1)
  all_goals go_ret
  all_goals refine ⟨ret_bool ?_, by first | exact H1.out | exact H0.out.2⟩
  all_goals (rw [HBe.out, rightB, HOe.out, Bool.eq_iff_iff]; simp; try omega)
set_option maxRecDepth 100000 in
set_option maxHeartbeats 6400000 in
theorem qnull_any (r : Rq) (w : World) : Calls Tryz.prog 48 #[.agg #[.int .i64 r.c, .int .i64 r.st, .int .i64 r.k, .string r.key, .float .f64 r.b, .int .i64 r.id]] w fun e w' => e = .returned (.bool (nullB r)) ∧ Below w.heap.size w w' := by
  obtain ⟨c, st, k, key, b, id⟩ := r
  simp only
  have HP := fun (k : Int) (u : World) => qplain_any ⟨c, st, k, key, b, id⟩ u
  simp only at HP
  have HPk : ∀ k, plainB ⟨c, st, k, key, b, id⟩ = plainB ⟨c, st, 0, key, b, id⟩ := fun _ => rfl
  simp only [HPk] at HP
  have HPh := hid HP
  obtain ⟨B, hB⟩ : ∃ B, nullB ⟨c, st, k, key, b, id⟩ = B := ⟨_, rfl⟩
  have HNe : Hid (B = (((((decide (c = 0) && decide (st = 0)) && decide (k = 0)) && decide (key.size = 0)) && plainB ⟨c, st, 0, key, b, id⟩) && decide (id = 0))) := hid (by rw [← hB]; rfl)
  rw [hB]
  clear hB HP HPk
  generalize plainB ⟨c, st, 0, key, b, id⟩ = P at *
  have hz2 := none_size key
  cases hd : decide (key.size = 0) <;> rw [hd] at HNe hz2 <;> cases P <;>
  · clear hd
    go_enter Tryz.func48, Tryz.ntmps48
    go_wp2_with (go_at_call 86; refine (HPh.out _ _).mono ?_; rintro e w1 ⟨rfl, hb1⟩; have H1 := hid (And.intro ((hb1.block _ (by simp)).trans (heap_alloc_last w _)) (((Below.refl w.heap.size w).alloc (Nat.le_refl _) _).trans (hb1.mono (by simp)))); clear hb1; have z5 := cell_at (L := [_, _, _, _, _, _]) H1.out.1 5 _ rfl)
    all_goals go_ret
    all_goals refine ⟨ret_bool ?_, by first | exact H1.out.2 | exact (Below.refl w.heap.size w).alloc (Nat.le_refl _) _⟩
    all_goals (rw [HNe.out]; first | (rw [Bool.eq_iff_iff]; simp_all; done) | (rw [Bool.eq_iff_iff]; simp_all; omega))
end Go.Proofs.YthjgnfeadagmeaaGreat
