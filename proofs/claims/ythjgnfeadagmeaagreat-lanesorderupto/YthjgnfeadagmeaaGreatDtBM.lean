/- The program's deeds: which operation is right, which request, which is the null one, which result. -/
import Derived.Test.YthjgnfeadagmeaaGreatOa7
namespace Go.Proofs.YthjgnfeadagmeaaGreat
open Go.RowKit

set_option maxRecDepth 100000 in
theorem dplain_any (r : Rq) (w : World) : Calls Tryz.prog 154 #[.agg #[.int .i64 r.k, .string r.key, .float .f64 r.b, .int .i64 r.id]] w fun e w' => e = .returned (.bool (plainB r)) ∧ Below w.heap.size w w' := by
  have HB : Hid (Below w.heap.size w (w.alloc (.cells #[.int .i64 r.k, .string r.key, .float .f64 r.b, .int .i64 r.id] 39))) := hid ((Below.refl _ _).alloc (Nat.le_refl _) _)
  obtain ⟨B, hB⟩ : ∃ B, plainB r = B := ⟨_, rfl⟩
  have HBe := hid hB
  rw [hB]
  clear hB
  go_enter Tryz.func154, Tryz.ntmps154
  go_wp2_with (go_at_call 135; refine (bits_any _ _).mono ?_; rintro e w1 ⟨rfl, rfl⟩)
  go_ret
  refine ⟨ret_bool ?_, HB.out⟩
  rw [← HBe.out, plainB, Bool.eq_iff_iff]
  simp
set_option maxRecDepth 100000 in
set_option maxHeartbeats 6400000 in
theorem dop_any (r : Rq) (w : World) : Calls Tryz.prog 136 #[.agg #[.int .i64 r.k, .string r.key, .float .f64 r.b, .int .i64 r.id]] w fun e w' => e = .returned (.bool (opB r)) ∧ Below w.heap.size w w' := by
  obtain ⟨c, st, k, key, b, id⟩ := r
  simp only
  have HP := fun (k : Int) (u : World) => dplain_any ⟨c, st, k, key, b, id⟩ u
  simp only at HP
  have HPk : ∀ k, plainB ⟨c, st, k, key, b, id⟩ = plainB ⟨c, st, 0, key, b, id⟩ := fun _ => rfl
  have HOp : Hid (∀ k, opB ⟨c, st, k, key, b, id⟩ = if k = 1 ∨ k = 2 ∨ k = 3 then ((decide (1 ≤ key.size) && decide (key.size ≤ 16)) && decide (id = 0)) else if k = 4 ∨ k = 5 then ((decide (1 ≤ key.size) && decide (key.size ≤ 16)) && decide (id = 0)) && plainB ⟨c, st, 0, key, b, id⟩ else if k = 6 ∨ k = 7 then ((decide (key.size = 0) && plainB ⟨c, st, 0, key, b, id⟩) && decide (0 ≤ id)) && decide (id < 16) else false) := hid (fun _ => rfl)
  simp only [HPk] at HP
  have HPh := hid HP
  obtain ⟨B, hB⟩ : ∃ B, B = opB ⟨c, st, k, key, b, id⟩ := ⟨_, rfl⟩
  rw [HOp.out] at hB
  rw [show opB ⟨c, st, k, key, b, id⟩ = B by rw [hB, HOp.out]]
  have HBe := hid hB
  have hz2 := none_size key
  clear HP HPk hB HOp
  generalize plainB ⟨c, st, 0, key, b, id⟩ = P at *
  by_cases h1 : k = 1
  · subst h1
    rw [if_pos (by decide)] at HBe
    go_enter Tryz.func136, Tryz.ntmps136
    go_wp2_with (go_at_call 154; refine (HPh.out _ _).mono ?_; rintro e w2 ⟨rfl, hb2⟩; have H1 := hid (And.intro ((hb2.block _ (by simp)).trans (heap_alloc_last w _)) (((Below.refl w.heap.size w).alloc (Nat.le_refl _) _).trans (hb2.mono (by simp)))); clear hb2; have z0 := cell_at (L := [.int .i64 1, .string key, .float .f64 b, .int .i64 id]) H1.out.1 0 _ rfl; have z1 := cell_at (L := [.int .i64 1, .string key, .float .f64 b, .int .i64 id]) H1.out.1 1 _ rfl; have z2 := cell_at (L := [.int .i64 1, .string key, .float .f64 b, .int .i64 id]) H1.out.1 2 _ rfl; have z3 := cell_at (L := [.int .i64 1, .string key, .float .f64 b, .int .i64 id]) H1.out.1 3 _ rfl)
    all_goals go_ret
    all_goals refine ⟨ret_bool ?_, by first | exact H1.out.2 | exact (Below.refl w.heap.size w).alloc (Nat.le_refl _) _⟩
    all_goals (first | exact HBe.out.symm | (rw [HBe.out, Bool.eq_iff_iff]; simp; done) | (rw [HBe.out, Bool.eq_iff_iff]; simp; omega))
  by_cases h2 : k = 2
  · subst h2
    rw [if_pos (by decide)] at HBe
    go_enter Tryz.func136, Tryz.ntmps136
    go_wp2_with (go_at_call 154; refine (HPh.out _ _).mono ?_; rintro e w2 ⟨rfl, hb2⟩; have H1 := hid (And.intro ((hb2.block _ (by simp)).trans (heap_alloc_last w _)) (((Below.refl w.heap.size w).alloc (Nat.le_refl _) _).trans (hb2.mono (by simp)))); clear hb2; have z0 := cell_at (L := [.int .i64 2, .string key, .float .f64 b, .int .i64 id]) H1.out.1 0 _ rfl; have z1 := cell_at (L := [.int .i64 2, .string key, .float .f64 b, .int .i64 id]) H1.out.1 1 _ rfl; have z2 := cell_at (L := [.int .i64 2, .string key, .float .f64 b, .int .i64 id]) H1.out.1 2 _ rfl; have z3 := cell_at (L := [.int .i64 2, .string key, .float .f64 b, .int .i64 id]) H1.out.1 3 _ rfl)
    all_goals go_ret
    all_goals refine ⟨ret_bool ?_, by first | exact H1.out.2 | exact (Below.refl w.heap.size w).alloc (Nat.le_refl _) _⟩
    all_goals (first | exact HBe.out.symm | (rw [HBe.out, Bool.eq_iff_iff]; simp; done) | (rw [HBe.out, Bool.eq_iff_iff]; simp; omega))
  by_cases h3 : k = 3
  · subst h3
    rw [if_pos (by decide)] at HBe
    go_enter Tryz.func136, Tryz.ntmps136
    go_wp2_with (go_at_call 154; refine (HPh.out _ _).mono ?_; rintro e w2 ⟨rfl, hb2⟩; have H1 := hid (And.intro ((hb2.block _ (by simp)).trans (heap_alloc_last w _)) (((Below.refl w.heap.size w).alloc (Nat.le_refl _) _).trans (hb2.mono (by simp)))); clear hb2; have z0 := cell_at (L := [.int .i64 3, .string key, .float .f64 b, .int .i64 id]) H1.out.1 0 _ rfl; have z1 := cell_at (L := [.int .i64 3, .string key, .float .f64 b, .int .i64 id]) H1.out.1 1 _ rfl; have z2 := cell_at (L := [.int .i64 3, .string key, .float .f64 b, .int .i64 id]) H1.out.1 2 _ rfl; have z3 := cell_at (L := [.int .i64 3, .string key, .float .f64 b, .int .i64 id]) H1.out.1 3 _ rfl)
    all_goals go_ret
    all_goals refine ⟨ret_bool ?_, by first | exact H1.out.2 | exact (Below.refl w.heap.size w).alloc (Nat.le_refl _) _⟩
    all_goals (first | exact HBe.out.symm | (rw [HBe.out, Bool.eq_iff_iff]; simp; done) | (rw [HBe.out, Bool.eq_iff_iff]; simp; omega))
  by_cases h4 : k = 4
  · subst h4
    rw [if_neg (by decide), if_pos (by decide)] at HBe
    cases P <;>
    · go_enter Tryz.func136, Tryz.ntmps136
      go_wp2_with (go_at_call 154; refine (HPh.out _ _).mono ?_; rintro e w2 ⟨rfl, hb2⟩; have H1 := hid (And.intro ((hb2.block _ (by simp)).trans (heap_alloc_last w _)) (((Below.refl w.heap.size w).alloc (Nat.le_refl _) _).trans (hb2.mono (by simp)))); clear hb2; have z0 := cell_at (L := [.int .i64 4, .string key, .float .f64 b, .int .i64 id]) H1.out.1 0 _ rfl; have z1 := cell_at (L := [.int .i64 4, .string key, .float .f64 b, .int .i64 id]) H1.out.1 1 _ rfl; have z2 := cell_at (L := [.int .i64 4, .string key, .float .f64 b, .int .i64 id]) H1.out.1 2 _ rfl; have z3 := cell_at (L := [.int .i64 4, .string key, .float .f64 b, .int .i64 id]) H1.out.1 3 _ rfl)
      all_goals go_ret
      all_goals refine ⟨ret_bool ?_, by first | exact H1.out.2 | exact (Below.refl w.heap.size w).alloc (Nat.le_refl _) _⟩
      all_goals (first | exact HBe.out.symm | (rw [HBe.out, Bool.eq_iff_iff]; simp; done) | (rw [HBe.out, Bool.eq_iff_iff]; simp; omega))
  by_cases h5 : k = 5
  · subst h5
    rw [if_neg (by decide), if_pos (by decide)] at HBe
    cases P <;>
    · go_enter Tryz.func136, Tryz.ntmps136
      go_wp2_with (go_at_call 154; refine (HPh.out _ _).mono ?_; rintro e w2 ⟨rfl, hb2⟩; have H1 := hid (And.intro ((hb2.block _ (by simp)).trans (heap_alloc_last w _)) (((Below.refl w.heap.size w).alloc (Nat.le_refl _) _).trans (hb2.mono (by simp)))); clear hb2; have z0 := cell_at (L := [.int .i64 5, .string key, .float .f64 b, .int .i64 id]) H1.out.1 0 _ rfl; have z1 := cell_at (L := [.int .i64 5, .string key, .float .f64 b, .int .i64 id]) H1.out.1 1 _ rfl; have z2 := cell_at (L := [.int .i64 5, .string key, .float .f64 b, .int .i64 id]) H1.out.1 2 _ rfl; have z3 := cell_at (L := [.int .i64 5, .string key, .float .f64 b, .int .i64 id]) H1.out.1 3 _ rfl)
      all_goals go_ret
      all_goals refine ⟨ret_bool ?_, by first | exact H1.out.2 | exact (Below.refl w.heap.size w).alloc (Nat.le_refl _) _⟩
      all_goals (first | exact HBe.out.symm | (rw [HBe.out, Bool.eq_iff_iff]; simp; done) | (rw [HBe.out, Bool.eq_iff_iff]; simp; omega))
  by_cases h6 : k = 6
  · subst h6
    rw [if_neg (by decide), if_neg (by decide), if_pos (by decide)] at HBe
    cases hd : decide (key.size = 0) <;> rw [hd] at HBe hz2 <;> cases P <;>
    · clear hd
      go_enter Tryz.func136, Tryz.ntmps136
      go_wp2_with (go_at_call 154; refine (HPh.out _ _).mono ?_; rintro e w2 ⟨rfl, hb2⟩; have H1 := hid (And.intro ((hb2.block _ (by simp)).trans (heap_alloc_last w _)) (((Below.refl w.heap.size w).alloc (Nat.le_refl _) _).trans (hb2.mono (by simp)))); clear hb2; have z0 := cell_at (L := [.int .i64 6, .string key, .float .f64 b, .int .i64 id]) H1.out.1 0 _ rfl; have z1 := cell_at (L := [.int .i64 6, .string key, .float .f64 b, .int .i64 id]) H1.out.1 1 _ rfl; have z2 := cell_at (L := [.int .i64 6, .string key, .float .f64 b, .int .i64 id]) H1.out.1 2 _ rfl; have z3 := cell_at (L := [.int .i64 6, .string key, .float .f64 b, .int .i64 id]) H1.out.1 3 _ rfl)
      all_goals go_ret
      all_goals refine ⟨ret_bool ?_, by first | exact H1.out.2 | exact (Below.refl w.heap.size w).alloc (Nat.le_refl _) _⟩
      all_goals (first | exact HBe.out.symm | (rw [HBe.out, Bool.eq_iff_iff]; simp; done) | (rw [HBe.out, Bool.eq_iff_iff]; simp; omega))
  by_cases h7 : k = 7
  · subst h7
    rw [if_neg (by decide), if_neg (by decide), if_pos (by decide)] at HBe
    cases hd : decide (key.size = 0) <;> rw [hd] at HBe hz2 <;> cases P <;>
    · clear hd
      go_enter Tryz.func136, Tryz.ntmps136
      go_wp2_with (go_at_call 154; refine (HPh.out _ _).mono ?_; rintro e w2 ⟨rfl, hb2⟩; have H1 := hid (And.intro ((hb2.block _ (by simp)).trans (heap_alloc_last w _)) (((Below.refl w.heap.size w).alloc (Nat.le_refl _) _).trans (hb2.mono (by simp)))); clear hb2; have z0 := cell_at (L := [.int .i64 7, .string key, .float .f64 b, .int .i64 id]) H1.out.1 0 _ rfl; have z1 := cell_at (L := [.int .i64 7, .string key, .float .f64 b, .int .i64 id]) H1.out.1 1 _ rfl; have z2 := cell_at (L := [.int .i64 7, .string key, .float .f64 b, .int .i64 id]) H1.out.1 2 _ rfl; have z3 := cell_at (L := [.int .i64 7, .string key, .float .f64 b, .int .i64 id]) H1.out.1 3 _ rfl)
      all_goals go_ret
      all_goals refine ⟨ret_bool ?_, by first | exact H1.out.2 | exact (Below.refl w.heap.size w).alloc (Nat.le_refl _) _⟩
      all_goals (first | exact HBe.out.symm | (rw [HBe.out, Bool.eq_iff_iff]; simp; done) | (rw [HBe.out, Bool.eq_iff_iff]; simp; omega))
  rw [if_neg (by omega), if_neg (by omega), if_neg (by omega)] at HBe
  go_enter Tryz.func136, Tryz.ntmps136
  go_wp2_with (go_at_call 154; refine (HPh.out _ _).mono ?_; rintro e w2 ⟨rfl, hb2⟩; have H1 := hid (And.intro ((hb2.block _ (by simp)).trans (heap_alloc_last w _)) (((Below.refl w.heap.size w).alloc (Nat.le_refl _) _).trans (hb2.mono (by simp)))); clear hb2; have z0 := cell_at (L := [.int .i64 k, .string key, .float .f64 b, .int .i64 id]) H1.out.1 0 _ rfl; have z1 := cell_at (L := [.int .i64 k, .string key, .float .f64 b, .int .i64 id]) H1.out.1 1 _ rfl; have z2 := cell_at (L := [.int .i64 k, .string key, .float .f64 b, .int .i64 id]) H1.out.1 2 _ rfl; have z3 := cell_at (L := [.int .i64 k, .string key, .float .f64 b, .int .i64 id]) H1.out.1 3 _ rfl)
  all_goals go_ret
  all_goals refine ⟨ret_bool ?_, by first | exact H1.out.2 | exact (Below.refl w.heap.size w).alloc (Nat.le_refl _) _⟩
  all_goals (first | exact HBe.out.symm | (rw [HBe.out, Bool.eq_iff_iff]; simp; done) | (rw [HBe.out, Bool.eq_iff_iff]; simp; omega))
set_option maxRecDepth 100000 in
set_option maxHeartbeats 6400000 in
theorem dright_any (r : Rq) (w : World) : Calls Tryz.prog 102 #[.agg #[.int .i64 r.c, .int .i64 r.st, .int .i64 r.k, .string r.key, .float .f64 r.b, .int .i64 r.id]] w fun e w' => e = .returned (.bool (rightB r)) ∧ Below w.heap.size w w' := by
  have H0 : Hid (RqAt (w.alloc (.cells #[.int .i64 r.c, .int .i64 r.st, .int .i64 r.k, .string r.key, .float .f64 r.b, .int .i64 r.id] 41)) w.heap.size r ∧ Below w.heap.size w (w.alloc (.cells #[.int .i64 r.c, .int .i64 r.st, .int .i64 r.k, .string r.key, .float .f64 r.b, .int .i64 r.id] 41))) := hid ⟨heap_alloc_last w _, (Below.refl w.heap.size w).alloc (Nat.le_refl _) _⟩
  obtain ⟨B, hB⟩ : ∃ B, rightB r = B := ⟨_, rfl⟩
  have HBe : Hid (B = rightB r) := hid hB.symm
  rw [hB]
  clear hB
  obtain ⟨O, hO⟩ : ∃ O, opB r = O := ⟨_, rfl⟩
  have HO := hid (fun u => hO ▸ dop_any r u)
  have HOe := hid hO
  clear hO
  go_enter Tryz.func102, Tryz.ntmps102
  go_wp2_with (go_at_call 136; refine (HO.out _).mono ?_; rintro e w1 ⟨rfl, hb1⟩; have H1 := hid (H0.out.2.trans (hb1.mono H0.out.2.size)); clear hb1)
  all_goals go_ret
  all_goals refine ⟨ret_bool ?_, by first | exact H1.out | exact H0.out.2⟩
  all_goals (rw [HBe.out, rightB, HOe.out, Bool.eq_iff_iff]; simp; try omega)
set_option maxRecDepth 100000 in
set_option maxHeartbeats 6400000 in
theorem dnull_any (r : Rq) (w : World) : Calls Tryz.prog 134 #[.agg #[.int .i64 r.c, .int .i64 r.st, .int .i64 r.k, .string r.key, .float .f64 r.b, .int .i64 r.id]] w fun e w' => e = .returned (.bool (nullB r)) ∧ Below w.heap.size w w' := by
  obtain ⟨c, st, k, key, b, id⟩ := r
  simp only
  have HP := fun (k id : Int) (u : World) => dplain_any ⟨c, st, k, key, b, id⟩ u
  simp only at HP
  have HPk : ∀ k id, plainB ⟨c, st, k, key, b, id⟩ = plainB ⟨c, st, 0, key, b, 0⟩ := fun _ _ => rfl
  simp only [HPk] at HP
  have HPh := hid HP
  obtain ⟨B, hB⟩ : ∃ B, nullB ⟨c, st, k, key, b, id⟩ = B := ⟨_, rfl⟩
  have HNe : Hid (B = (((((decide (c = 0) && decide (st = 0)) && decide (k = 0)) && decide (key.size = 0)) && plainB ⟨c, st, 0, key, b, 0⟩) && decide (id = 0))) := hid (by rw [← hB]; rfl)
  rw [hB]
  clear hB HP HPk
  generalize plainB ⟨c, st, 0, key, b, 0⟩ = P at *
  have hz2 := none_size key
  cases hd : decide (key.size = 0) <;> rw [hd] at HNe hz2 <;> cases P <;>
  · clear hd
    go_enter Tryz.func134, Tryz.ntmps134
    go_wp2_with (go_at_call 154; refine (HPh.out _ _ _).mono ?_; rintro e w1 ⟨rfl, hb1⟩; have H1 := hid (((Below.refl w.heap.size w).alloc (Nat.le_refl _) _).trans (hb1.mono (by simp))); clear hb1)
    all_goals go_ret
    all_goals refine ⟨ret_bool ?_, by first | exact H1.out | exact (Below.refl w.heap.size w).alloc (Nat.le_refl _) _⟩
    all_goals (rw [HNe.out]; first | (rw [Bool.eq_iff_iff]; simp_all; done) | (rw [Bool.eq_iff_iff]; simp_all; omega))
set_option maxRecDepth 100000 in
theorem dresult_any (c : Int) (f : Nat) (w : World) : Calls Tryz.prog 142 #[.agg #[.int .i64 c, .float .f64 f]] w fun e w' => e = .returned (.bool (rsB c)) ∧ Below w.heap.size w w' := by
  have HB : Hid (Below w.heap.size w (w.alloc (.cells #[.int .i64 c, .float .f64 f] 43))) := hid ((Below.refl _ _).alloc (Nat.le_refl _) _)
  obtain ⟨B, hB⟩ : ∃ B, rsB c = B := ⟨_, rfl⟩
  have HBe := hid hB
  rw [hB]
  clear hB
  go_enter Tryz.func142, Tryz.ntmps142
  go_wp2
  all_goals go_ret
  all_goals refine ⟨ret_bool ?_, HB.out⟩
  all_goals (rw [← HBe.out, rsB, Bool.eq_iff_iff]; simp; try omega)
end Go.Proofs.YthjgnfeadagmeaaGreat
