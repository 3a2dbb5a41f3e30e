/- Texts laid together: DsG DsH DtB DtC DtD KlB KlC. -/
import Derived.Test.YtoepppkadpjonaaGreatDsFM
import Derived.Test.YtoepppkadpjonaaGreatNb6
import Derived.Test.YtoepppkadpjonaaGreatNb2
import Derived.Deep.DeepMust
import Derived.Deep.DeepCutAuto
namespace Go.Proofs.YtoepppkadpjonaaGreat
section
open Go.RowKit
theorem load_rs (w : World) (b : Nat) (c : Int) (f : Nat) (h : RsAt w b c f) : (loadVar 43 ⟨b, 0, none⟩).run Tryz.prog w = .ok (.agg #[.int .i64 c, .float .f64 f]) w := by
 obtain ⟨z0, z1⟩ := h.cells
 clear h
 go_simp
end
section
open Go.RowKit
end
section
set_option maxRecDepth 100000
open Go.RowKit
theorem dplain_any (r : Rq) (w : World) : Calls Tryz.prog 131 #[.agg #[.int .i64 r.k, .string r.key, .float .f64 r.b, .int .i64 r.id]] w fun e w' => e = .returned (.bool (plainB r)) ∧ Below w.heap.size w w' := by
 have HB : Hid (Below w.heap.size w (w.alloc (.cells #[.int .i64 r.k, .string r.key, .float .f64 r.b, .int .i64 r.id] 39))) := hid ((Below.refl _ _).alloc (Nat.le_refl _) _)
 obtain ⟨B, hB⟩ : ∃ B, plainB r = B := ⟨_, rfl⟩
 have HBe := hid hB
 rw [hB]
 clear hB
 go_enter Tryz.func131, Tryz.ntmps131
 go_wp2_with (go_at_call 122; refine (bits_any _ _).mono ?_; rintro e w1 ⟨rfl, rfl⟩)
 go_ret
 refine ⟨ret_bool ?_, HB.out⟩
 rw [← HBe.out, plainB, Bool.eq_iff_iff]
 simp
set_option maxHeartbeats 6400000 in
theorem dop_any (r : Rq) (w : World) : Calls Tryz.prog 151 #[.agg #[.int .i64 r.k, .string r.key, .float .f64 r.b, .int .i64 r.id]] w fun e w' => e = .returned (.bool (opB r)) ∧ Below w.heap.size w w' := by
 obtain ⟨c, st, k, key, b, id⟩ := r
 simp only
 have HP := fun (k : Int) (u : World) => dplain_any ⟨c, st, k, key, b, id⟩ u
 simp only at HP
 have HPk : ∀ k, plainB ⟨c, st, k, key, b, id⟩ = plainB ⟨c, st, 0, key, b, id⟩ := fun _ => rfl
 have HOp : Hid (∀ k, opB ⟨c, st, k, key, b, id⟩ = if k = 1 ∨ k = 2 ∨ k = 3 then ((decide (1 ≤ key.size) && decide (key.size ≤ 16)) && decide (id = 0)) else if k = 4 ∨ k = 5 then ((decide (1 ≤ key.size) && decide (key.size ≤ 16)) && decide (id = 0)) && plainB ⟨c, st, 0, key, b, id⟩ else if k = 6 ∨ k = 7 then ((decide (key.size = 0) && plainB ⟨c, st, 0, key, b, id⟩) && decide (0 ≤ id)) && decide (id < 16) else false) := hid (fun _ => rfl)
 simp only [HPk] at HP
 have HPh := hid HP
 obtain ⟨B, hB⟩ : ∃ B, B = opB ⟨c, st, k, key, b, id⟩ := ⟨_, rfl⟩
 rw [HOp.out] at hB
 rw [show opB ⟨c, st, k, key, b, id⟩ = B by rw [hB, HOp.out]]
 have HBe := hid hB
 have hz2 := none_size key
 clear HP HPk hB HOp
 generalize plainB ⟨c, st, 0, key, b, id⟩ = P at *
 by_cases h1 : k = 1
 · subst h1
   rw [if_pos (by decide)] at HBe
   go_enter Tryz.func151, Tryz.ntmps151
   go_wp2_with (go_at_call 131; refine (HPh.out _ _).mono ?_; rintro e w2 ⟨rfl, hb2⟩; have H1 := hid (And.intro ((hb2.block _ (by simp)).trans (heap_alloc_last w _)) (((Below.refl w.heap.size w).alloc (Nat.le_refl _) _).trans (hb2.mono (by simp)))); clear hb2; have z0 := cell_at (L := [.int .i64 1, .string key, .float .f64 b, .int .i64 id]) H1.out.1 0 _ rfl; have z1 := cell_at (L := [.int .i64 1, .string key, .float .f64 b, .int .i64 id]) H1.out.1 1 _ rfl; have z2 := cell_at (L := [.int .i64 1, .string key, .float .f64 b, .int .i64 id]) H1.out.1 2 _ rfl; have z3 := cell_at (L := [.int .i64 1, .string key, .float .f64 b, .int .i64 id]) H1.out.1 3 _ rfl)
   all_goals go_ret
   all_goals refine ⟨ret_bool ?_, by first | exact H1.out.2 | exact (Below.refl w.heap.size w).alloc (Nat.le_refl _) _⟩
   all_goals (first | exact HBe.out.symm | (rw [HBe.out, Bool.eq_iff_iff]; simp; done) | (rw [HBe.out, Bool.eq_iff_iff]; simp; omega))
 by_cases h2 : k = 2
 · subst h2
   rw [if_pos (by decide)] at HBe
   go_enter Tryz.func151, Tryz.ntmps151
   go_wp2_with (go_at_call 131; refine (HPh.out _ _).mono ?_; rintro e w2 ⟨rfl, hb2⟩; have H1 := hid (And.intro ((hb2.block _ (by simp)).trans (heap_alloc_last w _)) (((Below.refl w.heap.size w).alloc (Nat.le_refl _) _).trans (hb2.mono (by simp)))); clear hb2; have z0 := cell_at (L := [.int .i64 2, .string key, .float .f64 b, .int .i64 id]) H1.out.1 0 _ rfl; have z1 := cell_at (L := [.int .i64 2, .string key, .float .f64 b, .int .i64 id]) H1.out.1 1 _ rfl; have z2 := cell_at (L := [.int .i64 2, .string key, .float .f64 b, .int .i64 id]) H1.out.1 2 _ rfl; have z3 := cell_at (L := [.int .i64 2, .string key, .float .f64 b, .int .i64 id]) H1.out.1 3 _ rfl)
   all_goals go_ret
   all_goals refine ⟨ret_bool ?_, by first | exact H1.out.2 | exact (Below.refl w.heap.size w).alloc (Nat.le_refl _) _⟩
   all_goals (first | exact HBe.out.symm | (rw [HBe.out, Bool.eq_iff_iff]; simp; done) | (rw [HBe.out, Bool.eq_iff_iff]; simp; omega))
 by_cases h3 : k = 3
 · subst h3
   rw [if_pos (by decide)] at HBe
   go_enter Tryz.func151, Tryz.ntmps151
   go_wp2_with (go_at_call 131; refine (HPh.out _ _).mono ?_; rintro e w2 ⟨rfl, hb2⟩; have H1 := hid (And.intro ((hb2.block _ (by simp)).trans (heap_alloc_last w _)) (((Below.refl w.heap.size w).alloc (Nat.le_refl _) _).trans (hb2.mono (by simp)))); clear hb2; have z0 := cell_at (L := [.int .i64 3, .string key, .float .f64 b, .int .i64 id]) H1.out.1 0 _ rfl; have z1 := cell_at (L := [.int .i64 3, .string key, .float .f64 b, .int .i64 id]) H1.out.1 1 _ rfl; have z2 := cell_at (L := [.int .i64 3, .string key, .float .f64 b, .int .i64 id]) H1.out.1 2 _ rfl; have z3 := cell_at (L := [.int .i64 3, .string key, .float .f64 b, .int .i64 id]) H1.out.1 3 _ rfl)
   all_goals go_ret
   all_goals refine ⟨ret_bool ?_, by first | exact H1.out.2 | exact (Below.refl w.heap.size w).alloc (Nat.le_refl _) _⟩
   all_goals (first | exact HBe.out.symm | (rw [HBe.out, Bool.eq_iff_iff]; simp; done) | (rw [HBe.out, Bool.eq_iff_iff]; simp; omega))
 by_cases h4 : k = 4
 · subst h4
   rw [if_neg (by decide), if_pos (by decide)] at HBe
   cases P <;>
   · go_enter Tryz.func151, Tryz.ntmps151
     go_wp2_with (go_at_call 131; refine (HPh.out _ _).mono ?_; rintro e w2 ⟨rfl, hb2⟩; have H1 := hid (And.intro ((hb2.block _ (by simp)).trans (heap_alloc_last w _)) (((Below.refl w.heap.size w).alloc (Nat.le_refl _) _).trans (hb2.mono (by simp)))); clear hb2; have z0 := cell_at (L := [.int .i64 4, .string key, .float .f64 b, .int .i64 id]) H1.out.1 0 _ rfl; have z1 := cell_at (L := [.int .i64 4, .string key, .float .f64 b, .int .i64 id]) H1.out.1 1 _ rfl; have z2 := cell_at (L := [.int .i64 4, .string key, .float .f64 b, .int .i64 id]) H1.out.1 2 _ rfl; have z3 := cell_at (L := [.int .i64 4, .string key, .float .f64 b, .int .i64 id]) H1.out.1 3 _ rfl)
     all_goals go_ret
     all_goals refine ⟨ret_bool ?_, by first | exact H1.out.2 | exact (Below.refl w.heap.size w).alloc (Nat.le_refl _) _⟩
     all_goals (first | exact HBe.out.symm | (rw [HBe.out, Bool.eq_iff_iff]; simp; done) | (rw [HBe.out, Bool.eq_iff_iff]; simp; omega))
 by_cases h5 : k = 5
 · subst h5
   rw [if_neg (by decide), if_pos (by decide)] at HBe
   cases P <;>
   · go_enter Tryz.func151, Tryz.ntmps151
     go_wp2_with (go_at_call 131; refine (HPh.out _ _).mono ?_; rintro e w2 ⟨rfl, hb2⟩; have H1 := hid (And.intro ((hb2.block _ (by simp)).trans (heap_alloc_last w _)) (((Below.refl w.heap.size w).alloc (Nat.le_refl _) _).trans (hb2.mono (by simp)))); clear hb2; have z0 := cell_at (L := [.int .i64 5, .string key, .float .f64 b, .int .i64 id]) H1.out.1 0 _ rfl; have z1 := cell_at (L := [.int .i64 5, .string key, .float .f64 b, .int .i64 id]) H1.out.1 1 _ rfl; have z2 := cell_at (L := [.int .i64 5, .string key, .float .f64 b, .int .i64 id]) H1.out.1 2 _ rfl; have z3 := cell_at (L := [.int .i64 5, .string key, .float .f64 b, .int .i64 id]) H1.out.1 3 _ rfl)
     all_goals go_ret
     all_goals refine ⟨ret_bool ?_, by first | exact H1.out.2 | exact (Below.refl w.heap.size w).alloc (Nat.le_refl _) _⟩
     all_goals (first | exact HBe.out.symm | (rw [HBe.out, Bool.eq_iff_iff]; simp; done) | (rw [HBe.out, Bool.eq_iff_iff]; simp; omega))
 by_cases h6 : k = 6
 · subst h6
   rw [if_neg (by decide), if_neg (by decide), if_pos (by decide)] at HBe
   cases hd : decide (key.size = 0) <;> rw [hd] at HBe hz2 <;> cases P <;>
   · clear hd
     go_enter Tryz.func151, Tryz.ntmps151
     go_wp2_with (go_at_call 131; refine (HPh.out _ _).mono ?_; rintro e w2 ⟨rfl, hb2⟩; have H1 := hid (And.intro ((hb2.block _ (by simp)).trans (heap_alloc_last w _)) (((Below.refl w.heap.size w).alloc (Nat.le_refl _) _).trans (hb2.mono (by simp)))); clear hb2; have z0 := cell_at (L := [.int .i64 6, .string key, .float .f64 b, .int .i64 id]) H1.out.1 0 _ rfl; have z1 := cell_at (L := [.int .i64 6, .string key, .float .f64 b, .int .i64 id]) H1.out.1 1 _ rfl; have z2 := cell_at (L := [.int .i64 6, .string key, .float .f64 b, .int .i64 id]) H1.out.1 2 _ rfl; have z3 := cell_at (L := [.int .i64 6, .string key, .float .f64 b, .int .i64 id]) H1.out.1 3 _ rfl)
     all_goals go_ret
     all_goals refine ⟨ret_bool ?_, by first | exact H1.out.2 | exact (Below.refl w.heap.size w).alloc (Nat.le_refl _) _⟩
     all_goals (first | exact HBe.out.symm | (rw [HBe.out, Bool.eq_iff_iff]; simp; done) | (rw [HBe.out, Bool.eq_iff_iff]; simp; omega))
 by_cases h7 : k = 7
 · subst h7
   rw [if_neg (by decide), if_neg (by decide), if_pos (by decide)] at HBe
   cases hd : decide (key.size = 0) <;> rw [hd] at HBe hz2 <;> cases P <;>
   · clear hd
     go_enter Tryz.func151, Tryz.ntmps151
     go_wp2_with (go_at_call 131; refine (HPh.out _ _).mono ?_; rintro e w2 ⟨rfl, hb2⟩; have H1 := hid (And.intro ((hb2.block _ (by simp)).trans (heap_alloc_last w _)) (((Below.refl w.heap.size w).alloc (Nat.le_refl _) _).trans (hb2.mono (by simp)))); clear hb2; have z0 := cell_at (L := [.int .i64 7, .string key, .float .f64 b, .int .i64 id]) H1.out.1 0 _ rfl; have z1 := cell_at (L := [.int .i64 7, .string key, .float .f64 b, .int .i64 id]) H1.out.1 1 _ rfl; have z2 := cell_at (L := [.int .i64 7, .string key, .float .f64 b, .int .i64 id]) H1.out.1 2 _ rfl; have z3 := cell_at (L := [.int .i64 7, .string key, .float .f64 b, .int .i64 id]) H1.out.1 3 _ rfl)
     all_goals go_ret
     all_goals refine ⟨ret_bool ?_, by first | exact H1.out.2 | exact (Below.refl w.heap.size w).alloc (Nat.le_refl _) _⟩
     all_goals (first | exact HBe.out.symm | (rw [HBe.out, Bool.eq_iff_iff]; simp; done) | (rw [HBe.out, Bool.eq_iff_iff]; simp; omega))
 rw [if_neg (by omega), if_neg (by omega), if_neg (by omega)] at HBe
 go_enter Tryz.func151, Tryz.ntmps151
 go_wp2_with (go_at_call 131; refine (HPh.out _ _).mono ?_; rintro e w2 ⟨rfl, hb2⟩; have H1 := hid (And.intro ((hb2.block _ (by simp)).trans (heap_alloc_last w _)) (((Below.refl w.heap.size w).alloc (Nat.le_refl _) _).trans (hb2.mono (by simp)))); clear hb2; have z0 := cell_at (L := [.int .i64 k, .string key, .float .f64 b, .int .i64 id]) H1.out.1 0 _ rfl; have z1 := cell_at (L := [.int .i64 k, .string key, .float .f64 b, .int .i64 id]) H1.out.1 1 _ rfl; have z2 := cell_at (L := [.int .i64 k, .string key, .float .f64 b, .int .i64 id]) H1.out.1 2 _ rfl; have z3 := cell_at (L := [.int .i64 k, .string key, .float .f64 b, .int .i64 id]) H1.out.1 3 _ rfl)
 all_goals go_ret
 all_goals refine ⟨ret_bool ?_, by first | exact H1.out.2 | exact (Below.refl w.heap.size w).alloc (Nat.le_refl _) _⟩
 all_goals (first | exact HBe.out.symm | (rw [HBe.out, Bool.eq_iff_iff]; simp; done) | (rw [HBe.out, Bool.eq_iff_iff]; simp; omega))
set_option maxHeartbeats 6400000 in
theorem dright_any (r : Rq) (w : World) : Calls Tryz.prog 116 #[.agg #[.int .i64 r.c, .int .i64 r.st, .int .i64 r.k, .string r.key, .float .f64 r.b, .int .i64 r.id]] w fun e w' => e = .returned (.bool (rightB r)) ∧ Below w.heap.size w w' := by
 have H0 : Hid (RqAt (w.alloc (.cells #[.int .i64 r.c, .int .i64 r.st, .int .i64 r.k, .string r.key, .float .f64 r.b, .int .i64 r.id] 41)) w.heap.size r ∧ Below w.heap.size w (w.alloc (.cells #[.int .i64 r.c, .int .i64 r.st, .int .i64 r.k, .string r.key, .float .f64 r.b, .int .i64 r.id] 41))) := hid ⟨heap_alloc_last w _, (Below.refl w.heap.size w).alloc (Nat.le_refl _) _⟩
 obtain ⟨B, hB⟩ : ∃ B, rightB r = B := ⟨_, rfl⟩
 have HBe : Hid (B = rightB r) := hid hB.symm
 rw [hB]
 clear hB
 obtain ⟨O, hO⟩ : ∃ O, opB r = O := ⟨_, rfl⟩
 have HO := hid (fun u => hO ▸ dop_any r u)
 have HOe := hid hO
 clear hO
 go_enter Tryz.func116, Tryz.ntmps116
 go_wp2_with (go_at_call 151; refine (HO.out _).mono ?_; rintro e w1 ⟨rfl, hb1⟩; have H1 := hid (H0.out.2.trans (hb1.mono H0.out.2.size)); clear hb1)
 all_goals go_ret
 all_goals refine ⟨ret_bool ?_, by first | exact H1.out | exact H0.out.2⟩
 all_goals (rw [HBe.out, rightB, HOe.out, Bool.eq_iff_iff]; simp; try omega)
set_option maxHeartbeats 6400000 in
theorem dnull_any (r : Rq) (w : World) : Calls Tryz.prog 81 #[.agg #[.int .i64 r.c, .int .i64 r.st, .int .i64 r.k, .string r.key, .float .f64 r.b, .int .i64 r.id]] w fun e w' => e = .returned (.bool (nullB r)) ∧ Below w.heap.size w w' := by
 obtain ⟨c, st, k, key, b, id⟩ := r
 simp only
 have HP := fun (k id : Int) (u : World) => dplain_any ⟨c, st, k, key, b, id⟩ u
 simp only at HP
 have HPk : ∀ k id, plainB ⟨c, st, k, key, b, id⟩ = plainB ⟨c, st, 0, key, b, 0⟩ := fun _ _ => rfl
 simp only [HPk] at HP
 have HPh := hid HP
 obtain ⟨B, hB⟩ : ∃ B, nullB ⟨c, st, k, key, b, id⟩ = B := ⟨_, rfl⟩
 have HNe : Hid (B = (((((decide (c = 0) && decide (st = 0)) && decide (k = 0)) && decide (key.size = 0)) && plainB ⟨c, st, 0, key, b, 0⟩) && decide (id = 0))) := hid (by rw [← hB]; rfl)
 rw [hB]
 clear hB HP HPk
 generalize plainB ⟨c, st, 0, key, b, 0⟩ = P at *
 have hz2 := none_size key
 cases hd : decide (key.size = 0) <;> rw [hd] at HNe hz2 <;> cases P <;>
 · clear hd
   go_enter Tryz.func81, Tryz.ntmps81
   go_wp2_with (go_at_call 131; refine (HPh.out _ _ _).mono ?_; rintro e w1 ⟨rfl, hb1⟩; have H1 := hid (((Below.refl w.heap.size w).alloc (Nat.le_refl _) _).trans (hb1.mono (by simp))); clear hb1)
   all_goals go_ret
   all_goals refine ⟨ret_bool ?_, by first | exact H1.out | exact (Below.refl w.heap.size w).alloc (Nat.le_refl _) _⟩
   all_goals (rw [HNe.out]; first | (rw [Bool.eq_iff_iff]; simp_all; done) | (rw [Bool.eq_iff_iff]; simp_all; omega))
theorem dresult_any (c : Int) (f : Nat) (w : World) : Calls Tryz.prog 142 #[.agg #[.int .i64 c, .float .f64 f]] w fun e w' => e = .returned (.bool (rsB c)) ∧ Below w.heap.size w w' := by
 have HB : Hid (Below w.heap.size w (w.alloc (.cells #[.int .i64 c, .float .f64 f] 43))) := hid ((Below.refl _ _).alloc (Nat.le_refl _) _)
 obtain ⟨B, hB⟩ : ∃ B, rsB c = B := ⟨_, rfl⟩
 have HBe := hid hB
 rw [hB]
 clear hB
 go_enter Tryz.func142, Tryz.ntmps142
 go_wp2
 all_goals go_ret
 all_goals refine ⟨ret_bool ?_, HB.out⟩
 all_goals (rw [← HBe.out, rsB, Bool.eq_iff_iff]; simp; try omega)
end
section
set_option maxRecDepth 100000
open Go.RowKit
set_option maxHeartbeats 6400000 in
theorem dtext_any (r : Rq) (hb : r.b < 18446744073709551616) (w : World) : Calls Tryz.prog 79 #[.agg #[.int .i64 r.c, .int .i64 r.st, .int .i64 r.k, .string r.key, .float .f64 r.b, .int .i64 r.id]] w fun e' w' => e' = .returned (.tuple #[.string (rqT r), .int .i64 (rqE r)]) ∧ Below w.heap.size w w' := by
 have H0 : Hid (RqAt (w.alloc (.cells #[.int .i64 r.c, .int .i64 r.st, .int .i64 r.k, .string r.key, .float .f64 r.b, .int .i64 r.id] 41)) w.heap.size r ∧ Below w.heap.size w (w.alloc (.cells #[.int .i64 r.c, .int .i64 r.st, .int .i64 r.k, .string r.key, .float .f64 r.b, .int .i64 r.id] 41))) := hid ⟨heap_alloc_last w _, (Below.refl w.heap.size w).alloc (Nat.le_refl _) _⟩
 have HN : Hid (∀ X, nullB r = X → ∀ u, Calls Tryz.prog 81 #[.agg #[.int .i64 r.c, .int .i64 r.st, .int .i64 r.k, .string r.key, .float .f64 r.b, .int .i64 r.id]] u fun e w' => e = .returned (.bool X) ∧ Below u.heap.size u w') := hid (fun X hX u => by rw [← hX]; exact dnull_any r u)
 have HR : Hid (∀ X, rightB r = X → ∀ u, Calls Tryz.prog 116 #[.agg #[.int .i64 r.c, .int .i64 r.st, .int .i64 r.k, .string r.key, .float .f64 r.b, .int .i64 r.id]] u fun e w' => e = .returned (.bool X) ∧ Below u.heap.size u w') := hid (fun X hX u => by rw [← hX]; exact dright_any r u)
 cases hN : nullB r with
 | true =>
   rw [show rqT r = ⟨#[0]⟩ by rw [rqT, if_pos hN], show rqE r = 0 by rw [rqE, if_pos hN]]
   have HNb := hid (HN.out _ hN)
   clear hN hb
   go_enter Tryz.func79, Tryz.ntmps79
   go_wp2_with (go_at_call 81; refine (HNb.out _).mono ?_; rintro e w1 ⟨rfl, hb1⟩; have H1 := hid (And.intro (H0.out.1.keep hb1) (H0.out.2.trans (hb1.mono H0.out.2.size))); clear hb1; obtain ⟨⟨z0, z1⟩, z2, z3, z4, z5⟩ := H1.out.1.cells)
   go_ret2
   exact ⟨rfl, H1.out.2⟩
 | false =>
   have HNb := hid (HN.out _ hN)
   cases hR : rightB r with
   | false =>
     rw [show rqT r = ⟨#[]⟩ by rw [rqT, hN, hR]; rfl, show rqE r = 1 by rw [rqE, hN, hR]; rfl]
     have HRb := hid (HR.out _ hR)
     clear hN hR hb
     go_enter Tryz.func79, Tryz.ntmps79
     go_wp2_with (first
       | (go_at_call 81; refine (HNb.out _).mono ?_; rintro e w1 ⟨rfl, hb1⟩; have H1 := hid (And.intro (H0.out.1.keep hb1) (H0.out.2.trans (hb1.mono H0.out.2.size))); clear hb1; obtain ⟨⟨z0, z1⟩, z2, z3, z4, z5⟩ := H1.out.1.cells)
       | (go_at_call 116; refine (HRb.out _).mono ?_; rintro e w2 ⟨rfl, hb2⟩; have H2 := hid (And.intro (H1.out.1.keep hb2) (H1.out.2.trans (hb2.mono H1.out.2.size))); clear hb2 z0 z1 z2 z3 z4 z5; obtain ⟨⟨z0, z1⟩, z2, z3, z4, z5⟩ := H2.out.1.cells))
     go_ret2
     exact ⟨rfl, H2.out.2⟩
   | true =>
     rw [show rqT r = ⟨(rqL r).toArray⟩ by rw [rqT, hN, hR]; rfl, show rqE r = 0 by rw [rqE, hN, hR]; rfl]
     have HRb := hid (HR.out _ hR)
     obtain ⟨⟨c1, c2⟩, ⟨s1, s2⟩, ⟨k1, k2⟩, hk, i1, i2⟩ := right_fields hR
     have HZ := hid (And.intro hk (canW_lt hb))
     obtain ⟨C, eC⟩ : ∃ C : Nat, r.c = (C : Int) := ⟨r.c.toNat, by omega⟩
     obtain ⟨S, eS⟩ : ∃ S : Nat, r.st = (S : Int) := ⟨r.st.toNat, by omega⟩
     obtain ⟨N, eN⟩ : ∃ N : Nat, r.k = (N : Int) := ⟨r.k.toNat, by omega⟩
     obtain ⟨I, eI⟩ : ∃ I : Nat, r.id = (I : Int) := ⟨r.id.toNat, by omega⟩
     have HF : Hid ((C < 256 ∧ S < 4294967296 ∧ N < 256 ∧ I < 256) ∧ rqL r = be 1 1 ++ (be 1 C ++ (be 4 S ++ (be 1 N ++ (be 2 r.key.size ++ (r.key.data.toList ++ (be 8 (canW r.b) ++ be 1 I))))))) := hid ⟨by omega, by rw [rqL, eC, eS, eN, eI]; rfl⟩
     clear c1 c2 s1 s2 k1 k2 hk i1 i2 hN hR hb
     obtain ⟨c, st, k, key, b, id⟩ := r
     simp only at eC eS eN eI HF HZ H0 HN HR HNb HRb ⊢
     subst eC eS eN eI
     have HKB : Hid (∀ u, Calls Tryz.prog 122 #[.float .f64 b] u fun e w' => e = .returned (.int .u64 (canW b : Nat)) ∧ w' = u) := hid (fun u => bits_any b u)
     generalize canW b = W8 at HF HZ HKB
     go_enter Tryz.func79, Tryz.ntmps79
     go_wp2_with (first
       | (go_at_call 81; refine (HNb.out _).mono ?_; rintro e w1 ⟨rfl, hb1⟩; have H1 := hid (And.intro (H0.out.1.keep hb1) (H0.out.2.trans (hb1.mono H0.out.2.size))); clear hb1; obtain ⟨⟨z0, z1⟩, z2, z3, z4, z5⟩ := H1.out.1.cells)
       | (go_at_call 116; refine (HRb.out _).mono ?_; rintro e w2 ⟨rfl, hb2⟩; have H2 := hid (And.intro (H1.out.1.keep hb2) (H1.out.2.trans (hb2.mono H1.out.2.size))); clear hb2 z0 z1 z2 z3 z4 z5; obtain ⟨⟨z0, z1⟩, z2, z3, z4, z5⟩ := H2.out.1.cells)
       | (go_at_call 117; refine (pwnew 34 (by decide) _).mono ?_; rintro e w3 ⟨rfl, h3⟩; have T0 := hid h3; clear h3; have HQT0 : Hid (RqAt w3 w.heap.size ⟨C, S, N, key, b, I⟩) := hid (((T0.out.2).block _ (lt_of_blk H2.out.1)).trans H2.out.1); (try clear z0 z1 z2 z3 z4 z5); obtain ⟨⟨z0, z1⟩, z2, z3, z4, z5⟩ := HQT0.out.cells)
       | (go_at_call 118; have := T6; refine (pwbyte 34 (by decide) (by decide) _ _ _ ([] ++ be 1 1 ++ be 1 C ++ be 4 S ++ be 1 N ++ (be 2 key.size ++ key.data.toList) ++ be 8 W8) I (by have := HF.out.1.2.2.2; omega) (by have := HZ.out.1; simp only [List.length_append, List.length_nil, be_len]; (try rw [data_len]); omega) (by exact T6.out)).mono ?_; rintro e v6 ⟨rfl, h6⟩; have T7 := hid h6; clear h6; have HQT7 : Hid (RqAt v6 w.heap.size ⟨C, S, N, key, b, I⟩) := hid (((T7.out.2).block _ (lt_of_blk H2.out.1)).trans H2.out.1); (try clear z0 z1 z2 z3 z4 z5); obtain ⟨⟨z0, z1⟩, z2, z3, z4, z5⟩ := HQT7.out.cells)
       | (go_at_call 121; have := T5; refine (pwbits 34 (by decide) (by decide) _ _ _ ([] ++ be 1 1 ++ be 1 C ++ be 4 S ++ be 1 N ++ (be 2 key.size ++ key.data.toList)) W8 HZ.out.2 (by have := HZ.out.1; simp only [List.length_append, List.length_nil, be_len]; (try rw [data_len]); omega) (by exact T5.out)).mono ?_; rintro e v5 ⟨rfl, h5⟩; have T6 := hid h5; clear h5; have HQT6 : Hid (RqAt v5 w.heap.size ⟨C, S, N, key, b, I⟩) := hid (((T6.out.2).block _ (lt_of_blk H2.out.1)).trans H2.out.1); (try clear z0 z1 z2 z3 z4 z5); obtain ⟨⟨z0, z1⟩, z2, z3, z4, z5⟩ := HQT6.out.cells)
       | (go_at_call 120; have := T4; refine (pwtext 34 (by decide) (by decide) _ _ _ ([] ++ be 1 1 ++ be 1 C ++ be 4 S ++ be 1 N) key (by have := HZ.out.1; omega) (by have := HZ.out.1; simp only [List.length_append, List.length_nil, be_len]; (try rw [data_len]); omega) (by exact T4.out)).mono ?_; rintro e v4 ⟨rfl, h4⟩; have T5 := hid h4; clear h4; have HQT5 : Hid (RqAt v4 w.heap.size ⟨C, S, N, key, b, I⟩) := hid (((T5.out.2).block _ (lt_of_blk H2.out.1)).trans H2.out.1); (try clear z0 z1 z2 z3 z4 z5); obtain ⟨⟨z0, z1⟩, z2, z3, z4, z5⟩ := HQT5.out.cells)
       | (go_at_call 118; have := T3; refine (pwbyte 34 (by decide) (by decide) _ _ _ ([] ++ be 1 1 ++ be 1 C ++ be 4 S) N (by have := HF.out.1.2.2.1; omega) (by have := HZ.out.1; simp only [List.length_append, List.length_nil, be_len]; (try rw [data_len]); omega) (by exact T3.out)).mono ?_; rintro e v3 ⟨rfl, h3⟩; have T4 := hid h3; clear h3; have HQT4 : Hid (RqAt v3 w.heap.size ⟨C, S, N, key, b, I⟩) := hid (((T4.out.2).block _ (lt_of_blk H2.out.1)).trans H2.out.1); (try clear z0 z1 z2 z3 z4 z5); obtain ⟨⟨z0, z1⟩, z2, z3, z4, z5⟩ := HQT4.out.cells)
       | (go_at_call 119; have := T2; refine (pwlong 34 (by decide) (by decide) _ _ _ ([] ++ be 1 1 ++ be 1 C) S (by have := HF.out.1.2.1; omega) (by have := HZ.out.1; simp only [List.length_append, List.length_nil, be_len]; (try rw [data_len]); omega) (by exact T2.out)).mono ?_; rintro e v2 ⟨rfl, h2⟩; have T3 := hid h2; clear h2; have HQT3 : Hid (RqAt v2 w.heap.size ⟨C, S, N, key, b, I⟩) := hid (((T3.out.2).block _ (lt_of_blk H2.out.1)).trans H2.out.1); (try clear z0 z1 z2 z3 z4 z5); obtain ⟨⟨z0, z1⟩, z2, z3, z4, z5⟩ := HQT3.out.cells)
       | (go_at_call 118; have := T1; refine (pwbyte 34 (by decide) (by decide) _ _ _ ([] ++ be 1 1) C (by have := HF.out.1.1; omega) (by have := HZ.out.1; simp only [List.length_append, List.length_nil, be_len]; (try rw [data_len]); omega) (by exact T1.out)).mono ?_; rintro e v1 ⟨rfl, h1⟩; have T2 := hid h1; clear h1; have HQT2 : Hid (RqAt v1 w.heap.size ⟨C, S, N, key, b, I⟩) := hid (((T2.out.2).block _ (lt_of_blk H2.out.1)).trans H2.out.1); (try clear z0 z1 z2 z3 z4 z5); obtain ⟨⟨z0, z1⟩, z2, z3, z4, z5⟩ := HQT2.out.cells)
       | (go_at_call 118; have := T0; refine (pwbyte 34 (by decide) (by decide) _ _ _ [] 1 (by decide) (by decide) (by exact T0.out)).mono ?_; rintro e v0 ⟨rfl, h0⟩; have T1 := hid h0; clear h0; have HQT1 : Hid (RqAt v0 w.heap.size ⟨C, S, N, key, b, I⟩) := hid (((T1.out.2).block _ (lt_of_blk H2.out.1)).trans H2.out.1); (try clear z0 z1 z2 z3 z4 z5); obtain ⟨⟨z0, z1⟩, z2, z3, z4, z5⟩ := HQT1.out.cells)
       | (go_at_call 122; refine (HKB.out _).mono ?_; rintro e w9 ⟨rfl, rfl⟩)
       | (go_at_call 123; refine (pwdone 34 _ _ _ _ (by exact T7.out)).mono ?_; rintro e wd ⟨rfl, hd⟩; have HDn := hid (H2.out.2.trans (hd.mono H2.out.2.size)); clear hd))
     go_ret2
     refine ⟨?_, HDn.out⟩
     rw [HF.out.2]
     rfl
set_option maxHeartbeats 3200000 in
theorem dsame_any (x y : Rq) (hx : x.b < 18446744073709551616) (hy : y.b < 18446744073709551616) (w : World) : Calls Tryz.prog 89 #[.agg #[.int .i64 x.c, .int .i64 x.st, .int .i64 x.k, .string x.key, .float .f64 x.b, .int .i64 x.id], .agg #[.int .i64 y.c, .int .i64 y.st, .int .i64 y.k, .string y.key, .float .f64 y.b, .int .i64 y.id]] w fun e' w' => e' = .returned (.bool (sameB x y)) ∧ Below w.heap.size w w' := by
 have H0 := hid (twq_new w x y)
 have HX := hid (fun u => dtext_any x hx u)
 have HY := hid (fun u => dtext_any y hy u)
 obtain ⟨B, hB⟩ : ∃ B, sameB x y = B := ⟨_, rfl⟩
 rw [hB]
 have HBe : Hid (B = ((decide (rqE x = 0) && decide (rqE y = 0)) && decide (rqT x = rqT y))) := hid hB.symm
 have hte := text_eq (rqT x) (rqT y)
 clear hx hy hB
 generalize rqT x = TX at *
 generalize rqT y = TY at *
 generalize rqE x = EX at *
 generalize rqE y = EY at *
 go_enter Tryz.func89, Tryz.ntmps89
 go_wp2_with (first
   | (go_at_call 79; have := H1; refine (HY.out _).mono ?_; rintro e w2 ⟨rfl, hb2⟩; have H2 := hid (H1.out.keep hb2); clear hb2)
   | (go_at_call 79; refine (HX.out _).mono ?_; rintro e w1 ⟨rfl, hb1⟩; have H1 := hid (H0.out.keep hb1); clear hb1; obtain ⟨⟨z0, z1⟩, z2, z3, z4, z5⟩ := H1.out.two.cells))
 all_goals go_ret
 all_goals refine ⟨ret_bool ?_, H2.out.bel⟩
 all_goals (rw [HBe.out, Bool.eq_iff_iff]; simp_all)
set_option maxHeartbeats 6400000 in
theorem dresultText_any (c : Int) (f : Nat) (hf : f < 18446744073709551616) (w : World) : Calls Tryz.prog 91 #[.agg #[.int .i64 c, .float .f64 f]] w fun e' w' => e' = .returned (.tuple #[.string (rsT c f), .int .i64 (rsE c)]) ∧ Below w.heap.size w w' := by
 have H0 : Hid (RsAt (w.alloc (.cells #[.int .i64 c, .float .f64 f] 43)) w.heap.size c f ∧ Below w.heap.size w (w.alloc (.cells #[.int .i64 c, .float .f64 f] 43))) := hid ⟨heap_alloc_last w _, (Below.refl w.heap.size w).alloc (Nat.le_refl _) _⟩
 have HR : Hid (∀ X, rsB c = X → ∀ u, Calls Tryz.prog 142 #[.agg #[.int .i64 c, .float .f64 f]] u fun e w' => e = .returned (.bool X) ∧ Below u.heap.size u w') := hid (fun X hX u => by rw [← hX]; exact dresult_any c f u)
 cases hR : rsB c with
 | false =>
   rw [show rsT c f = ⟨#[]⟩ by rw [rsT, hR]; rfl, show rsE c = 1 by rw [rsE, hR]; rfl]
   have HRb := hid (HR.out _ hR)
   clear hR hf
   go_enter Tryz.func91, Tryz.ntmps91
   go_wp2_with (go_at_call 142; refine (HRb.out _).mono ?_; rintro e w1 ⟨rfl, hb1⟩; have H1 := hid (H0.out.2.trans (hb1.mono H0.out.2.size)); clear hb1)
   go_ret2
   exact ⟨rfl, H1.out⟩
 | true =>
   have HRb := hid (HR.out _ hR)
   rw [show rsE c = 0 by rw [rsE, hR]; rfl]
   have hc : 0 ≤ c ∧ c ≤ 8 := by simpa [rsB] using hR
   obtain ⟨C, rfl⟩ : ∃ C : Nat, c = (C : Int) := ⟨c.toNat, by omega⟩
   have HT : Hid (rsT (C : Int) f = ⟨([] ++ be 1 C ++ be 8 (canW f)).toArray⟩) := hid (by rw [rsT, hR]; rfl)
   rw [HT.out]
   have HZ := hid (And.intro (show C < 256 by omega) (canW_lt hf))
   have HKB : Hid (∀ u, Calls Tryz.prog 122 #[.float .f64 f] u fun e w' => e = .returned (.int .u64 (canW f : Nat)) ∧ w' = u) := hid (fun u => bits_any f u)
   clear hR hc hf HT
   generalize canW f = W8 at HZ HKB ⊢
   go_enter Tryz.func91, Tryz.ntmps91
   go_wp2_with (first
     | (go_at_call 142; refine (HRb.out _).mono ?_; rintro e w1 ⟨rfl, hb1⟩; have H1 := hid (And.intro (H0.out.1.keep hb1) (H0.out.2.trans (hb1.mono H0.out.2.size))); clear hb1; obtain ⟨z0, z1⟩ := H1.out.1.cells)
     | (go_at_call 117; refine (pwnew 9 (by decide) _).mono ?_; rintro e w3 ⟨rfl, h3⟩; have T0 := hid h3; clear h3; have HQ0 : Hid (RsAt w3 w.heap.size (C : Int) f) := hid ((T0.out.2.block _ (lt_of_blk H1.out.1)).trans H1.out.1); clear z0 z1; obtain ⟨z0, z1⟩ := HQ0.out.cells)
     | (go_at_call 121; refine (pwbits 9 (by decide) (by decide) _ _ _ ([] ++ be 1 C) W8 HZ.out.2 (by simp only [List.length_append, List.length_nil, be_len]; decide) (by exact T1.out)).mono ?_; rintro e w5 ⟨rfl, h5⟩; have T2 := hid h5; clear h5)
     | (go_at_call 118; refine (pwbyte 9 (by decide) (by decide) _ _ _ [] C HZ.out.1 (by decide) (by exact T0.out)).mono ?_; rintro e w4 ⟨rfl, h4⟩; have T1 := hid h4; clear h4; have HQ1 : Hid (RsAt w4 w.heap.size (C : Int) f) := hid ((T1.out.2.block _ (lt_of_blk H1.out.1)).trans H1.out.1); clear z0 z1; obtain ⟨z0, z1⟩ := HQ1.out.cells)
     | (go_at_call 122; refine (HKB.out _).mono ?_; rintro e w9 ⟨rfl, rfl⟩)
     | (go_at_call 123; refine (pwdone 9 _ _ _ _ (by exact T2.out)).mono ?_; rintro e wd ⟨rfl, hd⟩; have HDn := hid (H1.out.2.trans (hd.mono H1.out.2.size)); clear hd))
   go_ret2
   exact ⟨rfl, HDn.out⟩
end
section
set_option maxRecDepth 100000
open Go.RowKit
theorem rq_c {w : World} {b : Nat} {r : Rq} (h : RqAt w b r) (v : Int) : RqAt (w.setCell ⟨b, 0, none⟩ (.int .i64 v)) b { r with c := v } := (blk_set h 0 _).trans (by simp)
structure QrSt (w0 w : World) (x : Rd) : Prop where
 res : RqAt w w0.heap.size zeroQ
 rd : RdAt w (w0.heap.size + 1) x.s x.sh
 bel : Below w0.heap.size w0 w
theorem QrSt.kept {w0 w w' : World} {x y : Rd} (h : QrSt w0 w x) (k : Kept (w0.heap.size + 1) none w w') (hr : RdAt w' (w0.heap.size + 1) y.s y.sh) : QrSt w0 w' y :=
 ⟨(k.block _ (lt_of_blk h.res) (by omega) (by simp)).trans h.res, hr, h.bel.trans (k.below (Nat.le_of_lt (lt_of_blk h.res)) (by omega) (fun g hg => by cases hg))⟩
theorem QrSt.keep {w0 w w' : World} {x : Rd} (h : QrSt w0 w x) (hb : Below w.heap.size w w') : QrSt w0 w' x :=
 ⟨h.res.keep hb, (hb.block _ (lt_of_blk h.rd)).trans h.rd, h.bel.trans (hb.mono h.bel.size)⟩
theorem QrSt.put {w0 w : World} {x : Rd} (h : QrSt w0 w x) {b : Nat} (hb : w0.heap.size + 2 ≤ b) (o : Nat) (v : Value) : QrSt w0 (w.setCell ⟨b, o, none⟩ v) x :=
 ⟨(Below.heap_setCell _ _ _ _ (by simp; omega)).trans h.res, (Below.heap_setCell _ _ _ _ (by simp; omega)).trans h.rd, h.bel.setCell (p := ⟨b, o, none⟩) (by simp; omega) v⟩
structure QxSt (w0 w : World) (x : Rd) (b : Nat) (r : Rq) : Prop where
 st : QrSt w0 w x
 rq : RqAt w b r
 hb : w0.heap.size + 2 ≤ b
theorem QxSt.st0 {w0 w : World} {x : Rd} {b : Nat} {r : Rq} (h : QxSt w0 w x b r) (v : Int) : QxSt w0 (w.setCell ⟨b, 0, none⟩ (.int .i64 v)) x b { r with c := v } := ⟨h.st.put h.hb 0 _, rq_c h.rq v, h.hb⟩
theorem QxSt.st1 {w0 w : World} {x : Rd} {b : Nat} {r : Rq} (h : QxSt w0 w x b r) (v : Int) : QxSt w0 (w.setCell ⟨b, 1, none⟩ (.int .i64 v)) x b { r with st := v } := ⟨h.st.put h.hb 1 _, rq_st h.rq v, h.hb⟩
theorem QxSt.st2 {w0 w : World} {x : Rd} {b : Nat} {r : Rq} (h : QxSt w0 w x b r) (v : Int) : QxSt w0 (w.setCell ⟨b, 2, none⟩ (.int .i64 v)) x b { r with k := v } := ⟨h.st.put h.hb 2 _, rq_k h.rq v, h.hb⟩
theorem QxSt.st3 {w0 w : World} {x : Rd} {b : Nat} {r : Rq} (h : QxSt w0 w x b r) (v : ByteArray) : QxSt w0 (w.setCell ⟨b, 3, none⟩ (.string v)) x b { r with key := v } := ⟨h.st.put h.hb 3 _, rq_key h.rq v, h.hb⟩
theorem QxSt.st4 {w0 w : World} {x : Rd} {b : Nat} {r : Rq} (h : QxSt w0 w x b r) (v : Nat) : QxSt w0 (w.setCell ⟨b, 4, none⟩ (.float .f64 v)) x b { r with b := v } := ⟨h.st.put h.hb 4 _, rq_b h.rq v, h.hb⟩
theorem QxSt.st5 {w0 w : World} {x : Rd} {b : Nat} {r : Rq} (h : QxSt w0 w x b r) (v : Int) : QxSt w0 (w.setCell ⟨b, 5, none⟩ (.int .i64 v)) x b { r with id := v } := ⟨h.st.put h.hb 5 _, rq_id h.rq v, h.hb⟩
theorem QxSt.kept {w0 w w' : World} {x y : Rd} {b : Nat} {r : Rq} (h : QxSt w0 w x b r) (k : Kept (w0.heap.size + 1) none w w') (hr : RdAt w' (w0.heap.size + 1) y.s y.sh) : QxSt w0 w' y b r :=
 ⟨h.st.kept k hr, (k.block _ (lt_of_blk h.rq) (by have := h.hb; omega) (by simp)).trans h.rq, h.hb⟩
theorem QxSt.keep {w0 w w' : World} {x : Rd} {b : Nat} {r : Rq} (h : QxSt w0 w x b r) (hb : Below w.heap.size w w') : QxSt w0 w' x b r := ⟨h.st.keep hb, h.rq.keep hb, h.hb⟩
set_option maxHeartbeats 12800000 in
theorem dread_any (t : ByteArray) (_ht : t.size ≤ 9223372036854775807) (w : World) : Calls Tryz.prog 80 #[.string t] w fun e w' => e = .returned (.tuple #[.agg #[.int .i64 (rdR t).c, .int .i64 (rdR t).st, .int .i64 (rdR t).k, .string (rdR t).key, .float .f64 (rdR t).b, .int .i64 (rdR t).id], .int .i64 (rdE t)]) ∧ Below w.heap.size w w' := by
 have H0 : Hid (RqAt (w.alloc (.cells #[.int .i64 0, .int .i64 0, .int .i64 0, .string ⟨#[]⟩, .float .f64 0, .int .i64 0] 41)) w.heap.size zeroQ ∧ Below w.heap.size w (w.alloc (.cells #[.int .i64 0, .int .i64 0, .int .i64 0, .string ⟨#[]⟩, .float .f64 0, .int .i64 0] 41))) := hid ⟨heap_alloc_last w _, (Below.refl _ _).alloc (Nat.le_refl _) _⟩
 cases hn : isNul t with
 | true =>
   have hn2 : (t.toList == [0]) = true := by rw [ByteArray.toList_eq]; simpa [isNul] using hn
   rw [show rdR t = zeroQ by rw [rdR, if_pos hn], show rdE t = 0 by rw [rdE, if_pos hn]]
   clear hn
   go_enter Tryz.func80, Tryz.ntmps80
   go_wp2_with (refine wl_store_rq rfl _ _ rfl w.heap.size rfl zeroQ zeroQ rfl H0.out.1 ?_; intro w1 H1)
   refine ret_pair (s := 2) (s2 := 3) (ad := ⟨w.heap.size, 0, none⟩) rfl rfl (load_rq _ _ zeroQ H1.out.1) rfl rfl ?_
   exact ⟨rfl, H1.out.2.below H0.out.2 (Nat.le_refl _)⟩
 | false =>
   have hn2 : (t.toList == [0]) = false := by rw [ByteArray.toList_eq]; simpa [isNul] using hn
   have HRd : Hid (rdR t = (if okq t then rdq t else zeroQ) ∧ rdE t = (if okq t then 0 else 5)) := hid ⟨by rw [rdR, hn]; rfl, by rw [rdE, hn]; rfl⟩
   have HOk : Hid (okq t = (((decide (rdHead t = 1) && (canW (rdBits t) == rdBits t)) && decide (endOf (rd7 t).s (rd7 t).sh = 0)) && rightB (rdq t))) := hid rfl
   have HR : Hid (∀ (X : Bool), rightB (rdq t) = X → ∀ u, Calls Tryz.prog 116 #[.agg #[.int .i64 (rdq t).c, .int .i64 (rdq t).st, .int .i64 (rdq t).k, .string (rdq t).key, .float .f64 (rdq t).b, .int .i64 (rdq t).id]] u fun e w' => e = .returned (.bool X) ∧ Below u.heap.size u w') := hid (fun X hX u => by rw [← hX]; exact dright_any (rdq t) u)
   have HFr : Hid (∀ (X : Bool), (canW (rdBits t) == rdBits t) = X → ∀ u, Calls Tryz.prog 128 #[.int .u64 ((rdBits t : Nat) : Int)] u fun e w' => e = .returned (.tuple #[.float .f64 (fromW (rdBits t)), .bool X]) ∧ w' = u) := hid (fun X hX u => by rw [← hX]; exact from_any (rdBits t) u)
   have hbx := (Below.refl (w.alloc (.cells #[.int .i64 0, .int .i64 0, .int .i64 0, .string ⟨#[]⟩, .float .f64 0, .int .i64 0] 41)).heap.size (w.alloc (.cells #[.int .i64 0, .int .i64 0, .int .i64 0, .string ⟨#[]⟩, .float .f64 0, .int .i64 0] 41))).alloc (Nat.le_refl _) (.cells #[.string t, .bool false] 207)
   have H1 : Hid (QrSt w ((w.alloc (.cells #[.int .i64 0, .int .i64 0, .int .i64 0, .string ⟨#[]⟩, .float .f64 0, .int .i64 0] 41)).alloc (.cells #[.string t, .bool false] 207)) ⟨t, false⟩) := hid ⟨H0.out.1.keep hbx, snd_alloc w _ _, H0.out.2.trans (hbx.mono (by simp))⟩
   clear hn hbx
   by_cases he : endOf (rd7 t).s (rd7 t).sh = 0
   · have heb : (endOf (rd7 t).s (rd7 t).sh != 0) = false := by rw [he]; rfl
     by_cases hh : rdHead t = 1
     · have hhb : ((rN t false 1 : Int) != 1) = false := by have : rN t false 1 = 1 := hh; rw [this]; rfl
       cases hD : (canW (rdBits t) == rdBits t) with
       | false =>
         have HFb := hid (HFr.out _ hD)
         have HV : Hid (rdR t = zeroQ ∧ rdE t = 5) := hid (by rw [HRd.out.1, HRd.out.2, HOk.out, hD]; simp)
         clear hD hh HFr HR HRd HOk he
         go_enter Tryz.func80, Tryz.ntmps80
         go_wp2_with (first
           | (have := HRs; refine wl_store_rq rfl _ _ rfl w.heap.size rfl zeroQ zeroQ rfl HRs.out.1 ?_; intro wz Hz)
           | (go_at_call 116; refine (HRb.out _).mono ?_; rintro e w10 ⟨rfl, hb10⟩; have H10 := hid (H9s.out.keep hb10); clear hb10; (try clear z0 z1 z2 z3 z4 z5); obtain ⟨⟨z0, z1⟩, z2, z3, z4, z5⟩ := H10.out.rq.cells; have HRs : Hid (RqAt w10 w.heap.size zeroQ ∧ Below w.heap.size w w10) := hid ⟨H10.out.st.res, H10.out.st.bel⟩)
           | (go_at_call 130; refine (end_any _ _ _ _ H9s.out.st.rd).mono ?_; rintro e w11 ⟨rfl, rfl⟩)
           | (go_at_call 125; have := H8s; refine (rbyte_any _ _ _ _ H8s.out.st.rd).mono ?_; rintro e w9 ⟨rfl, hr, hk⟩; have H9 := hid (H8s.out.kept (y := rd7 t) hk hr); have H9s := hid (H9.out.st5 (rN (rd6 t).s (rd6 t).sh 1 : Int)); clear hr hk; (try clear z0 z1 z2 z3 z4 z5); obtain ⟨⟨z0, z1⟩, z2, z3, z4, z5⟩ := H9.out.rq.cells; have f5 := free_at H9.out.rq 5; have HRs : Hid (RqAt (w9.setCell ⟨w2.heap.size, 5, none⟩ (.int .i64 (rN (rd6 t).s (rd6 t).sh 1 : Int))) w.heap.size zeroQ ∧ Below w.heap.size w (w9.setCell ⟨w2.heap.size, 5, none⟩ (.int .i64 (rN (rd6 t).s (rd6 t).sh 1 : Int)))) := hid ⟨H9s.out.st.res, H9s.out.st.bel⟩)
           | (have := H8; refine wl_store_f rfl _ _ rfl w2.heap.size 4 rfl (fromW (rdBits t)) rfl _ z4 f4 ?_; have H8s := hid (H8.out.st4 (fromW (rdBits t))))
           | (go_at_call 128; refine (HFb.out _).mono ?_; rintro e w12 ⟨rfl, rfl⟩)
           | (go_at_call 129; have := H7s; refine (rbits_any _ _ _ _ H7s.out.st.rd).mono ?_; rintro e w8 ⟨rfl, hr, hk⟩; have H8 := hid (H7s.out.kept (y := rd6 t) hk hr); clear hr hk; (try clear z0 z1 z2 z3 z4 z5); obtain ⟨⟨z0, z1⟩, z2, z3, z4, z5⟩ := H8.out.rq.cells; have f4 := free_at H8.out.rq 4; clear z0 z1 z2 z3 z5)
           | (go_at_call 127; have := H6s; refine (rtext_any _ _ _ _ H6s.out.st.rd).mono ?_; rintro e w7 ⟨rfl, hr, hk⟩; have H7 := hid (H6s.out.kept (y := rd5 t) hk hr); have H7s := hid (H7.out.st3 (tT (rd4 t).s (rd4 t).sh)); clear hr hk; (try clear z0 z1 z2 z3 z4 z5); obtain ⟨⟨z0, z1⟩, z2, z3, z4, z5⟩ := H7.out.rq.cells; have f3 := free_at H7.out.rq 3; clear z0 z1 z2 z4 z5)
           | (go_at_call 125; have := H5s; refine (rbyte_any _ _ _ _ H5s.out.st.rd).mono ?_; rintro e w6 ⟨rfl, hr, hk⟩; have H6 := hid (H5s.out.kept (y := rd4 t) hk hr); have H6s := hid (H6.out.st2 (rN (rd3 t).s (rd3 t).sh 1 : Int)); clear hr hk; (try clear z0 z1 z2 z3 z4 z5); obtain ⟨⟨z0, z1⟩, z2, z3, z4, z5⟩ := H6.out.rq.cells; have f2 := free_at H6.out.rq 2; clear z0 z1 z3 z4 z5)
           | (go_at_call 126; have := H4s; refine (rlong_any _ _ _ _ H4s.out.st.rd).mono ?_; rintro e w5 ⟨rfl, hr, hk⟩; have H5 := hid (H4s.out.kept (y := rd3 t) hk hr); have H5s := hid (H5.out.st1 (rN (rd2 t).s (rd2 t).sh 4 : Int)); clear hr hk; (try clear z0 z1 z2 z3 z4 z5); obtain ⟨⟨z0, z1⟩, z2, z3, z4, z5⟩ := H5.out.rq.cells; have f1 := free_at H5.out.rq 1; clear z0 z2 z3 z4 z5)
           | (go_at_call 125; have := H3; refine (rbyte_any _ _ _ _ H3.out.st.rd).mono ?_; rintro e w4 ⟨rfl, hr, hk⟩; have H4 := hid (H3.out.kept (y := rd2 t) hk hr); have H4s := hid (H4.out.st0 (rN (rd1 t).s (rd1 t).sh 1 : Int)); clear hr hk; (try clear z0 z1 z2 z3 z4 z5); obtain ⟨⟨z0, z1⟩, z2, z3, z4, z5⟩ := H4.out.rq.cells; have f0 := free_at H4.out.rq 0; clear z1 z2 z3 z4 z5)
           | (go_at_call 125; refine (rbyte_any _ _ _ _ H1.out.rd).mono ?_; rintro e w2 ⟨rfl, hr, hk⟩; have H2 := hid (H1.out.kept (y := rd1 t) hk hr); clear hr hk; have hax := (Below.refl w2.heap.size w2).alloc (Nat.le_refl _) (.cells #[.int .i64 0, .int .i64 0, .int .i64 0, .string ⟨#[]⟩, .float .f64 0, .int .i64 0] 41); have H3 : Hid (QxSt w (w2.alloc (.cells #[.int .i64 0, .int .i64 0, .int .i64 0, .string ⟨#[]⟩, .float .f64 0, .int .i64 0] 41)) (rd1 t) w2.heap.size zeroQ) := hid ⟨H2.out.keep hax, heap_alloc_last w2 _, lt_of_blk H2.out.rd⟩; clear hax)
           | (go_at_call 124; refine (read_any _ _).mono ?_; rintro e w1 ⟨rfl, rfl⟩))
         refine ret_pair (s := 2) (s2 := 3) (ad := ⟨w.heap.size, 0, none⟩) rfl rfl (load_rq _ _ zeroQ Hz.out.1) rfl rfl ?_
         refine ⟨?_, Hz.out.2.below HRs.out.2 (Nat.le_refl _)⟩
         rw [HV.out.1, HV.out.2]
         rfl
       | true =>
         have HFb := hid (HFr.out _ hD)
         cases hX : rightB (rdq t) with
         | false =>
           have HRb := hid (HR.out _ hX)
           have HV : Hid (rdR t = zeroQ ∧ rdE t = 5) := hid (by rw [HRd.out.1, HRd.out.2, HOk.out, hX]; simp)
           clear hD hh HFr HR HRd HOk hX he
           go_enter Tryz.func80, Tryz.ntmps80
           go_wp2_with (first
             | (have := HRs; refine wl_store_rq rfl _ _ rfl w.heap.size rfl zeroQ zeroQ rfl HRs.out.1 ?_; intro wz Hz)
             | (go_at_call 116; refine (HRb.out _).mono ?_; rintro e w10 ⟨rfl, hb10⟩; have H10 := hid (H9s.out.keep hb10); clear hb10; (try clear z0 z1 z2 z3 z4 z5); obtain ⟨⟨z0, z1⟩, z2, z3, z4, z5⟩ := H10.out.rq.cells; have HRs : Hid (RqAt w10 w.heap.size zeroQ ∧ Below w.heap.size w w10) := hid ⟨H10.out.st.res, H10.out.st.bel⟩)
             | (go_at_call 130; refine (end_any _ _ _ _ H9s.out.st.rd).mono ?_; rintro e w11 ⟨rfl, rfl⟩)
             | (go_at_call 125; have := H8s; refine (rbyte_any _ _ _ _ H8s.out.st.rd).mono ?_; rintro e w9 ⟨rfl, hr, hk⟩; have H9 := hid (H8s.out.kept (y := rd7 t) hk hr); have H9s := hid (H9.out.st5 (rN (rd6 t).s (rd6 t).sh 1 : Int)); clear hr hk; (try clear z0 z1 z2 z3 z4 z5); obtain ⟨⟨z0, z1⟩, z2, z3, z4, z5⟩ := H9.out.rq.cells; have f5 := free_at H9.out.rq 5; have HRs : Hid (RqAt (w9.setCell ⟨w2.heap.size, 5, none⟩ (.int .i64 (rN (rd6 t).s (rd6 t).sh 1 : Int))) w.heap.size zeroQ ∧ Below w.heap.size w (w9.setCell ⟨w2.heap.size, 5, none⟩ (.int .i64 (rN (rd6 t).s (rd6 t).sh 1 : Int)))) := hid ⟨H9s.out.st.res, H9s.out.st.bel⟩)
             | (have := H8; refine wl_store_f rfl _ _ rfl w2.heap.size 4 rfl (fromW (rdBits t)) rfl _ z4 f4 ?_; have H8s := hid (H8.out.st4 (fromW (rdBits t))))
             | (go_at_call 128; refine (HFb.out _).mono ?_; rintro e w12 ⟨rfl, rfl⟩)
             | (go_at_call 129; have := H7s; refine (rbits_any _ _ _ _ H7s.out.st.rd).mono ?_; rintro e w8 ⟨rfl, hr, hk⟩; have H8 := hid (H7s.out.kept (y := rd6 t) hk hr); clear hr hk; (try clear z0 z1 z2 z3 z4 z5); obtain ⟨⟨z0, z1⟩, z2, z3, z4, z5⟩ := H8.out.rq.cells; have f4 := free_at H8.out.rq 4; clear z0 z1 z2 z3 z5)
             | (go_at_call 127; have := H6s; refine (rtext_any _ _ _ _ H6s.out.st.rd).mono ?_; rintro e w7 ⟨rfl, hr, hk⟩; have H7 := hid (H6s.out.kept (y := rd5 t) hk hr); have H7s := hid (H7.out.st3 (tT (rd4 t).s (rd4 t).sh)); clear hr hk; (try clear z0 z1 z2 z3 z4 z5); obtain ⟨⟨z0, z1⟩, z2, z3, z4, z5⟩ := H7.out.rq.cells; have f3 := free_at H7.out.rq 3; clear z0 z1 z2 z4 z5)
             | (go_at_call 125; have := H5s; refine (rbyte_any _ _ _ _ H5s.out.st.rd).mono ?_; rintro e w6 ⟨rfl, hr, hk⟩; have H6 := hid (H5s.out.kept (y := rd4 t) hk hr); have H6s := hid (H6.out.st2 (rN (rd3 t).s (rd3 t).sh 1 : Int)); clear hr hk; (try clear z0 z1 z2 z3 z4 z5); obtain ⟨⟨z0, z1⟩, z2, z3, z4, z5⟩ := H6.out.rq.cells; have f2 := free_at H6.out.rq 2; clear z0 z1 z3 z4 z5)
             | (go_at_call 126; have := H4s; refine (rlong_any _ _ _ _ H4s.out.st.rd).mono ?_; rintro e w5 ⟨rfl, hr, hk⟩; have H5 := hid (H4s.out.kept (y := rd3 t) hk hr); have H5s := hid (H5.out.st1 (rN (rd2 t).s (rd2 t).sh 4 : Int)); clear hr hk; (try clear z0 z1 z2 z3 z4 z5); obtain ⟨⟨z0, z1⟩, z2, z3, z4, z5⟩ := H5.out.rq.cells; have f1 := free_at H5.out.rq 1; clear z0 z2 z3 z4 z5)
             | (go_at_call 125; have := H3; refine (rbyte_any _ _ _ _ H3.out.st.rd).mono ?_; rintro e w4 ⟨rfl, hr, hk⟩; have H4 := hid (H3.out.kept (y := rd2 t) hk hr); have H4s := hid (H4.out.st0 (rN (rd1 t).s (rd1 t).sh 1 : Int)); clear hr hk; (try clear z0 z1 z2 z3 z4 z5); obtain ⟨⟨z0, z1⟩, z2, z3, z4, z5⟩ := H4.out.rq.cells; have f0 := free_at H4.out.rq 0; clear z1 z2 z3 z4 z5)
             | (go_at_call 125; refine (rbyte_any _ _ _ _ H1.out.rd).mono ?_; rintro e w2 ⟨rfl, hr, hk⟩; have H2 := hid (H1.out.kept (y := rd1 t) hk hr); clear hr hk; have hax := (Below.refl w2.heap.size w2).alloc (Nat.le_refl _) (.cells #[.int .i64 0, .int .i64 0, .int .i64 0, .string ⟨#[]⟩, .float .f64 0, .int .i64 0] 41); have H3 : Hid (QxSt w (w2.alloc (.cells #[.int .i64 0, .int .i64 0, .int .i64 0, .string ⟨#[]⟩, .float .f64 0, .int .i64 0] 41)) (rd1 t) w2.heap.size zeroQ) := hid ⟨H2.out.keep hax, heap_alloc_last w2 _, lt_of_blk H2.out.rd⟩; clear hax)
             | (go_at_call 124; refine (read_any _ _).mono ?_; rintro e w1 ⟨rfl, rfl⟩))
           refine ret_pair (s := 2) (s2 := 3) (ad := ⟨w.heap.size, 0, none⟩) rfl rfl (load_rq _ _ zeroQ Hz.out.1) rfl rfl ?_
           refine ⟨?_, Hz.out.2.below HRs.out.2 (Nat.le_refl _)⟩
           rw [HV.out.1, HV.out.2]
           rfl
         | true =>
           have HRb := hid (HR.out _ hX)
           have HV : Hid (rdR t = rdq t ∧ rdE t = 0) := hid (by rw [HRd.out.1, HRd.out.2, HOk.out, hX, hD, hh, he]; simp)
           clear hD hh HFr HR HRd HOk hX he
           go_enter Tryz.func80, Tryz.ntmps80
           go_wp2_with (first
             | (have := HRs; refine wl_store_rq rfl _ _ rfl w.heap.size rfl zeroQ (rdq t) rfl HRs.out.1 ?_; intro wz Hz)
             | (go_at_call 116; refine (HRb.out _).mono ?_; rintro e w10 ⟨rfl, hb10⟩; have H10 := hid (H9s.out.keep hb10); clear hb10; (try clear z0 z1 z2 z3 z4 z5); obtain ⟨⟨z0, z1⟩, z2, z3, z4, z5⟩ := H10.out.rq.cells; have HRs : Hid (RqAt w10 w.heap.size zeroQ ∧ Below w.heap.size w w10) := hid ⟨H10.out.st.res, H10.out.st.bel⟩)
             | (go_at_call 130; refine (end_any _ _ _ _ H9s.out.st.rd).mono ?_; rintro e w11 ⟨rfl, rfl⟩)
             | (go_at_call 125; have := H8s; refine (rbyte_any _ _ _ _ H8s.out.st.rd).mono ?_; rintro e w9 ⟨rfl, hr, hk⟩; have H9 := hid (H8s.out.kept (y := rd7 t) hk hr); have H9s := hid (H9.out.st5 (rN (rd6 t).s (rd6 t).sh 1 : Int)); clear hr hk; (try clear z0 z1 z2 z3 z4 z5); obtain ⟨⟨z0, z1⟩, z2, z3, z4, z5⟩ := H9.out.rq.cells; have f5 := free_at H9.out.rq 5; have HRs : Hid (RqAt (w9.setCell ⟨w2.heap.size, 5, none⟩ (.int .i64 (rN (rd6 t).s (rd6 t).sh 1 : Int))) w.heap.size zeroQ ∧ Below w.heap.size w (w9.setCell ⟨w2.heap.size, 5, none⟩ (.int .i64 (rN (rd6 t).s (rd6 t).sh 1 : Int)))) := hid ⟨H9s.out.st.res, H9s.out.st.bel⟩)
             | (have := H8; refine wl_store_f rfl _ _ rfl w2.heap.size 4 rfl (fromW (rdBits t)) rfl _ z4 f4 ?_; have H8s := hid (H8.out.st4 (fromW (rdBits t))))
             | (go_at_call 128; refine (HFb.out _).mono ?_; rintro e w12 ⟨rfl, rfl⟩)
             | (go_at_call 129; have := H7s; refine (rbits_any _ _ _ _ H7s.out.st.rd).mono ?_; rintro e w8 ⟨rfl, hr, hk⟩; have H8 := hid (H7s.out.kept (y := rd6 t) hk hr); clear hr hk; (try clear z0 z1 z2 z3 z4 z5); obtain ⟨⟨z0, z1⟩, z2, z3, z4, z5⟩ := H8.out.rq.cells; have f4 := free_at H8.out.rq 4; clear z0 z1 z2 z3 z5)
             | (go_at_call 127; have := H6s; refine (rtext_any _ _ _ _ H6s.out.st.rd).mono ?_; rintro e w7 ⟨rfl, hr, hk⟩; have H7 := hid (H6s.out.kept (y := rd5 t) hk hr); have H7s := hid (H7.out.st3 (tT (rd4 t).s (rd4 t).sh)); clear hr hk; (try clear z0 z1 z2 z3 z4 z5); obtain ⟨⟨z0, z1⟩, z2, z3, z4, z5⟩ := H7.out.rq.cells; have f3 := free_at H7.out.rq 3; clear z0 z1 z2 z4 z5)
             | (go_at_call 125; have := H5s; refine (rbyte_any _ _ _ _ H5s.out.st.rd).mono ?_; rintro e w6 ⟨rfl, hr, hk⟩; have H6 := hid (H5s.out.kept (y := rd4 t) hk hr); have H6s := hid (H6.out.st2 (rN (rd3 t).s (rd3 t).sh 1 : Int)); clear hr hk; (try clear z0 z1 z2 z3 z4 z5); obtain ⟨⟨z0, z1⟩, z2, z3, z4, z5⟩ := H6.out.rq.cells; have f2 := free_at H6.out.rq 2; clear z0 z1 z3 z4 z5)
             | (go_at_call 126; have := H4s; refine (rlong_any _ _ _ _ H4s.out.st.rd).mono ?_; rintro e w5 ⟨rfl, hr, hk⟩; have H5 := hid (H4s.out.kept (y := rd3 t) hk hr); have H5s := hid (H5.out.st1 (rN (rd2 t).s (rd2 t).sh 4 : Int)); clear hr hk; (try clear z0 z1 z2 z3 z4 z5); obtain ⟨⟨z0, z1⟩, z2, z3, z4, z5⟩ := H5.out.rq.cells; have f1 := free_at H5.out.rq 1; clear z0 z2 z3 z4 z5)
             | (go_at_call 125; have := H3; refine (rbyte_any _ _ _ _ H3.out.st.rd).mono ?_; rintro e w4 ⟨rfl, hr, hk⟩; have H4 := hid (H3.out.kept (y := rd2 t) hk hr); have H4s := hid (H4.out.st0 (rN (rd1 t).s (rd1 t).sh 1 : Int)); clear hr hk; (try clear z0 z1 z2 z3 z4 z5); obtain ⟨⟨z0, z1⟩, z2, z3, z4, z5⟩ := H4.out.rq.cells; have f0 := free_at H4.out.rq 0; clear z1 z2 z3 z4 z5)
             | (go_at_call 125; refine (rbyte_any _ _ _ _ H1.out.rd).mono ?_; rintro e w2 ⟨rfl, hr, hk⟩; have H2 := hid (H1.out.kept (y := rd1 t) hk hr); clear hr hk; have hax := (Below.refl w2.heap.size w2).alloc (Nat.le_refl _) (.cells #[.int .i64 0, .int .i64 0, .int .i64 0, .string ⟨#[]⟩, .float .f64 0, .int .i64 0] 41); have H3 : Hid (QxSt w (w2.alloc (.cells #[.int .i64 0, .int .i64 0, .int .i64 0, .string ⟨#[]⟩, .float .f64 0, .int .i64 0] 41)) (rd1 t) w2.heap.size zeroQ) := hid ⟨H2.out.keep hax, heap_alloc_last w2 _, lt_of_blk H2.out.rd⟩; clear hax)
             | (go_at_call 124; refine (read_any _ _).mono ?_; rintro e w1 ⟨rfl, rfl⟩))
           refine ret_pair (s := 2) (s2 := 3) (ad := ⟨w.heap.size, 0, none⟩) rfl rfl (load_rq _ _ (rdq t) Hz.out.1) rfl rfl ?_
           refine ⟨?_, Hz.out.2.below HRs.out.2 (Nat.le_refl _)⟩
           rw [HV.out.1, HV.out.2]
           rfl
     · have hhb : ((rN t false 1 : Int) != 1) = true := by
         have : rN t false 1 ≠ 1 := hh
         simp
         omega
       have HFb := hid (HFr.out _ rfl)
       have HV : Hid (rdR t = zeroQ ∧ rdE t = 5) := hid (by rw [HRd.out.1, HRd.out.2, HOk.out]; simp [hh])
       clear hh HFr HR HRd HOk he
       go_enter Tryz.func80, Tryz.ntmps80
       go_wp2_with (first
         | (have := HRs; refine wl_store_rq rfl _ _ rfl w.heap.size rfl zeroQ zeroQ rfl HRs.out.1 ?_; intro wz Hz)
         | (go_at_call 116; refine (HRb.out _).mono ?_; rintro e w10 ⟨rfl, hb10⟩; have H10 := hid (H9s.out.keep hb10); clear hb10; (try clear z0 z1 z2 z3 z4 z5); obtain ⟨⟨z0, z1⟩, z2, z3, z4, z5⟩ := H10.out.rq.cells; have HRs : Hid (RqAt w10 w.heap.size zeroQ ∧ Below w.heap.size w w10) := hid ⟨H10.out.st.res, H10.out.st.bel⟩)
         | (go_at_call 130; refine (end_any _ _ _ _ H9s.out.st.rd).mono ?_; rintro e w11 ⟨rfl, rfl⟩)
         | (go_at_call 125; have := H8s; refine (rbyte_any _ _ _ _ H8s.out.st.rd).mono ?_; rintro e w9 ⟨rfl, hr, hk⟩; have H9 := hid (H8s.out.kept (y := rd7 t) hk hr); have H9s := hid (H9.out.st5 (rN (rd6 t).s (rd6 t).sh 1 : Int)); clear hr hk; (try clear z0 z1 z2 z3 z4 z5); obtain ⟨⟨z0, z1⟩, z2, z3, z4, z5⟩ := H9.out.rq.cells; have f5 := free_at H9.out.rq 5; have HRs : Hid (RqAt (w9.setCell ⟨w2.heap.size, 5, none⟩ (.int .i64 (rN (rd6 t).s (rd6 t).sh 1 : Int))) w.heap.size zeroQ ∧ Below w.heap.size w (w9.setCell ⟨w2.heap.size, 5, none⟩ (.int .i64 (rN (rd6 t).s (rd6 t).sh 1 : Int)))) := hid ⟨H9s.out.st.res, H9s.out.st.bel⟩)
         | (have := H8; refine wl_store_f rfl _ _ rfl w2.heap.size 4 rfl (fromW (rdBits t)) rfl _ z4 f4 ?_; have H8s := hid (H8.out.st4 (fromW (rdBits t))))
         | (go_at_call 128; refine (HFb.out _).mono ?_; rintro e w12 ⟨rfl, rfl⟩)
         | (go_at_call 129; have := H7s; refine (rbits_any _ _ _ _ H7s.out.st.rd).mono ?_; rintro e w8 ⟨rfl, hr, hk⟩; have H8 := hid (H7s.out.kept (y := rd6 t) hk hr); clear hr hk; (try clear z0 z1 z2 z3 z4 z5); obtain ⟨⟨z0, z1⟩, z2, z3, z4, z5⟩ := H8.out.rq.cells; have f4 := free_at H8.out.rq 4; clear z0 z1 z2 z3 z5)
         | (go_at_call 127; have := H6s; refine (rtext_any _ _ _ _ H6s.out.st.rd).mono ?_; rintro e w7 ⟨rfl, hr, hk⟩; have H7 := hid (H6s.out.kept (y := rd5 t) hk hr); have H7s := hid (H7.out.st3 (tT (rd4 t).s (rd4 t).sh)); clear hr hk; (try clear z0 z1 z2 z3 z4 z5); obtain ⟨⟨z0, z1⟩, z2, z3, z4, z5⟩ := H7.out.rq.cells; have f3 := free_at H7.out.rq 3; clear z0 z1 z2 z4 z5)
         | (go_at_call 125; have := H5s; refine (rbyte_any _ _ _ _ H5s.out.st.rd).mono ?_; rintro e w6 ⟨rfl, hr, hk⟩; have H6 := hid (H5s.out.kept (y := rd4 t) hk hr); have H6s := hid (H6.out.st2 (rN (rd3 t).s (rd3 t).sh 1 : Int)); clear hr hk; (try clear z0 z1 z2 z3 z4 z5); obtain ⟨⟨z0, z1⟩, z2, z3, z4, z5⟩ := H6.out.rq.cells; have f2 := free_at H6.out.rq 2; clear z0 z1 z3 z4 z5)
         | (go_at_call 126; have := H4s; refine (rlong_any _ _ _ _ H4s.out.st.rd).mono ?_; rintro e w5 ⟨rfl, hr, hk⟩; have H5 := hid (H4s.out.kept (y := rd3 t) hk hr); have H5s := hid (H5.out.st1 (rN (rd2 t).s (rd2 t).sh 4 : Int)); clear hr hk; (try clear z0 z1 z2 z3 z4 z5); obtain ⟨⟨z0, z1⟩, z2, z3, z4, z5⟩ := H5.out.rq.cells; have f1 := free_at H5.out.rq 1; clear z0 z2 z3 z4 z5)
         | (go_at_call 125; have := H3; refine (rbyte_any _ _ _ _ H3.out.st.rd).mono ?_; rintro e w4 ⟨rfl, hr, hk⟩; have H4 := hid (H3.out.kept (y := rd2 t) hk hr); have H4s := hid (H4.out.st0 (rN (rd1 t).s (rd1 t).sh 1 : Int)); clear hr hk; (try clear z0 z1 z2 z3 z4 z5); obtain ⟨⟨z0, z1⟩, z2, z3, z4, z5⟩ := H4.out.rq.cells; have f0 := free_at H4.out.rq 0; clear z1 z2 z3 z4 z5)
         | (go_at_call 125; refine (rbyte_any _ _ _ _ H1.out.rd).mono ?_; rintro e w2 ⟨rfl, hr, hk⟩; have H2 := hid (H1.out.kept (y := rd1 t) hk hr); clear hr hk; have hax := (Below.refl w2.heap.size w2).alloc (Nat.le_refl _) (.cells #[.int .i64 0, .int .i64 0, .int .i64 0, .string ⟨#[]⟩, .float .f64 0, .int .i64 0] 41); have H3 : Hid (QxSt w (w2.alloc (.cells #[.int .i64 0, .int .i64 0, .int .i64 0, .string ⟨#[]⟩, .float .f64 0, .int .i64 0] 41)) (rd1 t) w2.heap.size zeroQ) := hid ⟨H2.out.keep hax, heap_alloc_last w2 _, lt_of_blk H2.out.rd⟩; clear hax)
         | (go_at_call 124; refine (read_any _ _).mono ?_; rintro e w1 ⟨rfl, rfl⟩))
       refine ret_pair (s := 2) (s2 := 3) (ad := ⟨w.heap.size, 0, none⟩) rfl rfl (load_rq _ _ zeroQ Hz.out.1) rfl rfl ?_
       refine ⟨?_, Hz.out.2.below HRs.out.2 (Nat.le_refl _)⟩
       rw [HV.out.1, HV.out.2]
       rfl
   · have heb : (endOf (rd7 t).s (rd7 t).sh != 0) = true := by simpa using he
     have HFb := hid (HFr.out _ rfl)
     have HV : Hid (rdR t = zeroQ ∧ rdE t = 5) := hid (by rw [HRd.out.1, HRd.out.2, HOk.out]; simp [he])
     clear HFr HR HRd HOk he
     go_enter Tryz.func80, Tryz.ntmps80
     go_wp2_with (first
       | (have := HRs; refine wl_store_rq rfl _ _ rfl w.heap.size rfl zeroQ zeroQ rfl HRs.out.1 ?_; intro wz Hz)
       | (go_at_call 116; refine (HRb.out _).mono ?_; rintro e w10 ⟨rfl, hb10⟩; have H10 := hid (H9s.out.keep hb10); clear hb10; (try clear z0 z1 z2 z3 z4 z5); obtain ⟨⟨z0, z1⟩, z2, z3, z4, z5⟩ := H10.out.rq.cells; have HRs : Hid (RqAt w10 w.heap.size zeroQ ∧ Below w.heap.size w w10) := hid ⟨H10.out.st.res, H10.out.st.bel⟩)
       | (go_at_call 130; refine (end_any _ _ _ _ H9s.out.st.rd).mono ?_; rintro e w11 ⟨rfl, rfl⟩)
       | (go_at_call 125; have := H8s; refine (rbyte_any _ _ _ _ H8s.out.st.rd).mono ?_; rintro e w9 ⟨rfl, hr, hk⟩; have H9 := hid (H8s.out.kept (y := rd7 t) hk hr); have H9s := hid (H9.out.st5 (rN (rd6 t).s (rd6 t).sh 1 : Int)); clear hr hk; (try clear z0 z1 z2 z3 z4 z5); obtain ⟨⟨z0, z1⟩, z2, z3, z4, z5⟩ := H9.out.rq.cells; have f5 := free_at H9.out.rq 5; have HRs : Hid (RqAt (w9.setCell ⟨w2.heap.size, 5, none⟩ (.int .i64 (rN (rd6 t).s (rd6 t).sh 1 : Int))) w.heap.size zeroQ ∧ Below w.heap.size w (w9.setCell ⟨w2.heap.size, 5, none⟩ (.int .i64 (rN (rd6 t).s (rd6 t).sh 1 : Int)))) := hid ⟨H9s.out.st.res, H9s.out.st.bel⟩)
       | (have := H8; refine wl_store_f rfl _ _ rfl w2.heap.size 4 rfl (fromW (rdBits t)) rfl _ z4 f4 ?_; have H8s := hid (H8.out.st4 (fromW (rdBits t))))
       | (go_at_call 128; refine (HFb.out _).mono ?_; rintro e w12 ⟨rfl, rfl⟩)
       | (go_at_call 129; have := H7s; refine (rbits_any _ _ _ _ H7s.out.st.rd).mono ?_; rintro e w8 ⟨rfl, hr, hk⟩; have H8 := hid (H7s.out.kept (y := rd6 t) hk hr); clear hr hk; (try clear z0 z1 z2 z3 z4 z5); obtain ⟨⟨z0, z1⟩, z2, z3, z4, z5⟩ := H8.out.rq.cells; have f4 := free_at H8.out.rq 4; clear z0 z1 z2 z3 z5)
       | (go_at_call 127; have := H6s; refine (rtext_any _ _ _ _ H6s.out.st.rd).mono ?_; rintro e w7 ⟨rfl, hr, hk⟩; have H7 := hid (H6s.out.kept (y := rd5 t) hk hr); have H7s := hid (H7.out.st3 (tT (rd4 t).s (rd4 t).sh)); clear hr hk; (try clear z0 z1 z2 z3 z4 z5); obtain ⟨⟨z0, z1⟩, z2, z3, z4, z5⟩ := H7.out.rq.cells; have f3 := free_at H7.out.rq 3; clear z0 z1 z2 z4 z5)
       | (go_at_call 125; have := H5s; refine (rbyte_any _ _ _ _ H5s.out.st.rd).mono ?_; rintro e w6 ⟨rfl, hr, hk⟩; have H6 := hid (H5s.out.kept (y := rd4 t) hk hr); have H6s := hid (H6.out.st2 (rN (rd3 t).s (rd3 t).sh 1 : Int)); clear hr hk; (try clear z0 z1 z2 z3 z4 z5); obtain ⟨⟨z0, z1⟩, z2, z3, z4, z5⟩ := H6.out.rq.cells; have f2 := free_at H6.out.rq 2; clear z0 z1 z3 z4 z5)
       | (go_at_call 126; have := H4s; refine (rlong_any _ _ _ _ H4s.out.st.rd).mono ?_; rintro e w5 ⟨rfl, hr, hk⟩; have H5 := hid (H4s.out.kept (y := rd3 t) hk hr); have H5s := hid (H5.out.st1 (rN (rd2 t).s (rd2 t).sh 4 : Int)); clear hr hk; (try clear z0 z1 z2 z3 z4 z5); obtain ⟨⟨z0, z1⟩, z2, z3, z4, z5⟩ := H5.out.rq.cells; have f1 := free_at H5.out.rq 1; clear z0 z2 z3 z4 z5)
       | (go_at_call 125; have := H3; refine (rbyte_any _ _ _ _ H3.out.st.rd).mono ?_; rintro e w4 ⟨rfl, hr, hk⟩; have H4 := hid (H3.out.kept (y := rd2 t) hk hr); have H4s := hid (H4.out.st0 (rN (rd1 t).s (rd1 t).sh 1 : Int)); clear hr hk; (try clear z0 z1 z2 z3 z4 z5); obtain ⟨⟨z0, z1⟩, z2, z3, z4, z5⟩ := H4.out.rq.cells; have f0 := free_at H4.out.rq 0; clear z1 z2 z3 z4 z5)
       | (go_at_call 125; refine (rbyte_any _ _ _ _ H1.out.rd).mono ?_; rintro e w2 ⟨rfl, hr, hk⟩; have H2 := hid (H1.out.kept (y := rd1 t) hk hr); clear hr hk; have hax := (Below.refl w2.heap.size w2).alloc (Nat.le_refl _) (.cells #[.int .i64 0, .int .i64 0, .int .i64 0, .string ⟨#[]⟩, .float .f64 0, .int .i64 0] 41); have H3 : Hid (QxSt w (w2.alloc (.cells #[.int .i64 0, .int .i64 0, .int .i64 0, .string ⟨#[]⟩, .float .f64 0, .int .i64 0] 41)) (rd1 t) w2.heap.size zeroQ) := hid ⟨H2.out.keep hax, heap_alloc_last w2 _, lt_of_blk H2.out.rd⟩; clear hax)
       | (go_at_call 124; refine (read_any _ _).mono ?_; rintro e w1 ⟨rfl, rfl⟩))
     refine ret_pair (s := 2) (s2 := 3) (ad := ⟨w.heap.size, 0, none⟩) rfl rfl (load_rq _ _ zeroQ Hz.out.1) rfl rfl ?_
     refine ⟨?_, Hz.out.2.below HRs.out.2 (Nat.le_refl _)⟩
     rw [HV.out.1, HV.out.2]
     rfl
structure ZrSt (w0 w : World) (x : Rd) : Prop where
 res : RsAt w w0.heap.size 0 0
 rd : RdAt w (w0.heap.size + 1) x.s x.sh
 bel : Below w0.heap.size w0 w
theorem ZrSt.kept {w0 w w' : World} {x y : Rd} (h : ZrSt w0 w x) (k : Kept (w0.heap.size + 1) none w w') (hr : RdAt w' (w0.heap.size + 1) y.s y.sh) : ZrSt w0 w' y :=
 ⟨(k.block _ (lt_of_blk h.res) (by omega) (by simp)).trans h.res, hr, h.bel.trans (k.below (Nat.le_of_lt (lt_of_blk h.res)) (by omega) (fun g hg => by cases hg))⟩
theorem ZrSt.keep {w0 w w' : World} {x : Rd} (h : ZrSt w0 w x) (hb : Below w.heap.size w w') : ZrSt w0 w' x :=
 ⟨h.res.keep hb, (hb.block _ (lt_of_blk h.rd)).trans h.rd, h.bel.trans (hb.mono h.bel.size)⟩
theorem ZrSt.one {w0 w w' : World} {x : Rd} (h : ZrSt w0 w x) {b : Nat} (hb : w0.heap.size + 2 ≤ b) (ho : One b w w') : ZrSt w0 w' x :=
 ⟨(ho.block _ (by omega)).trans h.res, (ho.block _ (by omega)).trans h.rd, ho.below h.bel (by omega)⟩
structure ZxSt (w0 w : World) (x : Rd) (b : Nat) (c : Int) (f : Nat) : Prop where
 st : ZrSt w0 w x
 rs : RsAt w b c f
 hb : w0.heap.size + 2 ≤ b
theorem ZxSt.keep {w0 w w' : World} {x : Rd} {b : Nat} {c : Int} {f : Nat} (h : ZxSt w0 w x b c f) (hb : Below w.heap.size w w') : ZxSt w0 w' x b c f := ⟨h.st.keep hb, h.rs.keep hb, h.hb⟩
set_option maxHeartbeats 12800000 in
theorem dreadResult_any (t : ByteArray) (w : World) : Calls Tryz.prog 202 #[.string t] w fun e w' => e = .returned (.tuple #[.agg #[.int .i64 (rsC t), .float .f64 (rsF t)], .int .i64 (rsR t)]) ∧ Below w.heap.size w w' := by
 have H0 : Hid (RsAt (w.alloc (.cells #[.int .i64 0, .float .f64 0] 43)) w.heap.size 0 0 ∧ Below w.heap.size w (w.alloc (.cells #[.int .i64 0, .float .f64 0] 43))) := hid ⟨heap_alloc_last w _, (Below.refl _ _).alloc (Nat.le_refl _) _⟩
 have hbx := (Below.refl (w.alloc (.cells #[.int .i64 0, .float .f64 0] 43)).heap.size (w.alloc (.cells #[.int .i64 0, .float .f64 0] 43))).alloc (Nat.le_refl _) (.cells #[.string t, .bool false] 207)
 have H1 : Hid (ZrSt w ((w.alloc (.cells #[.int .i64 0, .float .f64 0] 43)).alloc (.cells #[.string t, .bool false] 207)) ⟨t, false⟩) := hid ⟨H0.out.1.keep hbx, snd_alloc w _ _, H0.out.2.trans (hbx.mono (by simp))⟩
 have HFr : Hid (∀ (X : Bool), (canW (rsBits t) == rsBits t) = X → ∀ u, Calls Tryz.prog 128 #[.int .u64 ((rsBits t : Nat) : Int)] u fun e w' => e = .returned (.tuple #[.float .f64 (fromW (rsBits t)), .bool X]) ∧ w' = u) := hid (fun X hX u => by rw [← hX]; exact from_any (rsBits t) u)
 have HR : Hid (∀ (X : Bool), rsB (rN t false 1 : Int) = X → ∀ u, Calls Tryz.prog 142 #[.agg #[.int .i64 (rN t false 1 : Int), .float .f64 (fromW (rsBits t))]] u fun e w' => e = .returned (.bool X) ∧ Below u.heap.size u w') := hid (fun X hX u => by rw [← hX]; exact dresult_any (rN t false 1 : Int) (fromW (rsBits t)) u)
 have HOk : Hid (okRs t = (((canW (rsBits t) == rsBits t) && decide (endOf (rsEnd t).s (rsEnd t).sh = 0)) && rsB (rN t false 1 : Int))) := hid (by
   have h : decide (rsCode t ≤ 8) = rsB (rN t false 1 : Int) := by
     rw [rsB, Bool.eq_iff_iff]
     show decide (rN t false 1 ≤ 8) = true ↔ _
     simp only [Bool.and_eq_true, decide_eq_true_eq]
     omega
   rw [okRs, h])
 clear hbx
 by_cases he : endOf (rsEnd t).s (rsEnd t).sh = 0
 · have heb : (endOf (rsEnd t).s (rsEnd t).sh != 0) = false := by rw [he]; rfl
   cases hD : (canW (rsBits t) == rsBits t) with
   | false =>
     have HFb := hid (HFr.out _ hD)
     have HV : Hid (rsC t = 0 ∧ rsF t = 0 ∧ rsR t = 5) := hid (by have h : okRs t = false := (by rw [HOk.out, hD]; simp); rw [rsC, rsF, rsR, h]; simp)
     clear hD HFr HR HOk he
     go_enter Tryz.func202, Tryz.ntmps202
     go_wp2_with (first
       | (have := HRs; refine wl_store_rs rfl _ _ rfl w.heap.size rfl 0 0 0 0 rfl HRs.out.1 ?_; intro wz Hz)
       | (go_at_call 142; refine (HRb.out _).mono ?_; rintro e w10 ⟨rfl, hb10⟩; have H10 := hid (H4.out.keep hb10); clear hb10; (try clear z0 z1); obtain ⟨z0, z1⟩ := H10.out.rs.cells; have HRs : Hid (RsAt w10 w.heap.size 0 0 ∧ Below w.heap.size w w10) := hid ⟨H10.out.st.res, H10.out.st.bel⟩)
       | (go_at_call 130; refine (end_any _ _ _ _ H4.out.st.rd).mono ?_; rintro e w11 ⟨rfl, rfl⟩; have HRs : Hid (RsAt w11 w.heap.size 0 0 ∧ Below w.heap.size w w11) := hid ⟨H4.out.st.res, H4.out.st.bel⟩)
       | (have := H3; refine wl_store_rs rfl _ _ rfl w12.heap.size rfl 0 (rN t false 1 : Int) 0 (fromW (rsBits t)) rfl (heap_alloc_last w12 _) ?_; intro w4 Hq; have hax := (Below.refl w12.heap.size w12).alloc (Nat.le_refl _) (.cells #[.int .i64 0, .float .f64 0] 43); have H4 : Hid (ZxSt w w4 (rsEnd t) w12.heap.size (rN t false 1 : Int) (fromW (rsBits t))) := hid ⟨(H3.out.keep hax).one (lt_of_blk H3.out.rd) Hq.out.2, Hq.out.1, lt_of_blk H3.out.rd⟩; clear hax; obtain ⟨z0, z1⟩ := H4.out.rs.cells)
       | (go_at_call 128; refine (HFb.out _).mono ?_; rintro e w12 ⟨rfl, rfl⟩; have H3 : Hid (ZrSt w w12 (rsEnd t)) := H3p)
       | (go_at_call 129; refine (rbits_any _ _ _ _ H2.out.rd).mono ?_; rintro e w3 ⟨rfl, hr, hk⟩; have H3p := hid (H2.out.kept (y := rsEnd t) hk hr); clear hr hk)
       | (go_at_call 125; refine (rbyte_any _ _ _ _ H1.out.rd).mono ?_; rintro e w2 ⟨rfl, hr, hk⟩; have H2 := hid (H1.out.kept (y := rd1 t) hk hr); clear hr hk)
       | (go_at_call 124; refine (read_any _ _).mono ?_; rintro e w1 ⟨rfl, rfl⟩))
     refine ret_pair (s := 2) (s2 := 3) (ad := ⟨w.heap.size, 0, none⟩) rfl rfl (load_rs _ _ 0 0 Hz.out.1) rfl rfl ?_
     refine ⟨?_, Hz.out.2.below HRs.out.2 (Nat.le_refl _)⟩
     rw [HV.out.1, HV.out.2.1, HV.out.2.2]
     rfl
   | true =>
     have HFb := hid (HFr.out _ hD)
     cases hX : rsB (rN t false 1 : Int) with
     | false =>
       have HRb := hid (HR.out _ hX)
       have HV : Hid (rsC t = 0 ∧ rsF t = 0 ∧ rsR t = 5) := hid (by have h : okRs t = false := (by rw [HOk.out, hX]; simp); rw [rsC, rsF, rsR, h]; simp)
       clear hD HFr HR HOk he hX
       go_enter Tryz.func202, Tryz.ntmps202
       go_wp2_with (first
         | (have := HRs; refine wl_store_rs rfl _ _ rfl w.heap.size rfl 0 0 0 0 rfl HRs.out.1 ?_; intro wz Hz)
         | (go_at_call 142; refine (HRb.out _).mono ?_; rintro e w10 ⟨rfl, hb10⟩; have H10 := hid (H4.out.keep hb10); clear hb10; (try clear z0 z1); obtain ⟨z0, z1⟩ := H10.out.rs.cells; have HRs : Hid (RsAt w10 w.heap.size 0 0 ∧ Below w.heap.size w w10) := hid ⟨H10.out.st.res, H10.out.st.bel⟩)
         | (go_at_call 130; refine (end_any _ _ _ _ H4.out.st.rd).mono ?_; rintro e w11 ⟨rfl, rfl⟩; have HRs : Hid (RsAt w11 w.heap.size 0 0 ∧ Below w.heap.size w w11) := hid ⟨H4.out.st.res, H4.out.st.bel⟩)
         | (have := H3; refine wl_store_rs rfl _ _ rfl w12.heap.size rfl 0 (rN t false 1 : Int) 0 (fromW (rsBits t)) rfl (heap_alloc_last w12 _) ?_; intro w4 Hq; have hax := (Below.refl w12.heap.size w12).alloc (Nat.le_refl _) (.cells #[.int .i64 0, .float .f64 0] 43); have H4 : Hid (ZxSt w w4 (rsEnd t) w12.heap.size (rN t false 1 : Int) (fromW (rsBits t))) := hid ⟨(H3.out.keep hax).one (lt_of_blk H3.out.rd) Hq.out.2, Hq.out.1, lt_of_blk H3.out.rd⟩; clear hax; obtain ⟨z0, z1⟩ := H4.out.rs.cells)
         | (go_at_call 128; refine (HFb.out _).mono ?_; rintro e w12 ⟨rfl, rfl⟩; have H3 : Hid (ZrSt w w12 (rsEnd t)) := H3p)
         | (go_at_call 129; refine (rbits_any _ _ _ _ H2.out.rd).mono ?_; rintro e w3 ⟨rfl, hr, hk⟩; have H3p := hid (H2.out.kept (y := rsEnd t) hk hr); clear hr hk)
         | (go_at_call 125; refine (rbyte_any _ _ _ _ H1.out.rd).mono ?_; rintro e w2 ⟨rfl, hr, hk⟩; have H2 := hid (H1.out.kept (y := rd1 t) hk hr); clear hr hk)
         | (go_at_call 124; refine (read_any _ _).mono ?_; rintro e w1 ⟨rfl, rfl⟩))
       refine ret_pair (s := 2) (s2 := 3) (ad := ⟨w.heap.size, 0, none⟩) rfl rfl (load_rs _ _ 0 0 Hz.out.1) rfl rfl ?_
       refine ⟨?_, Hz.out.2.below HRs.out.2 (Nat.le_refl _)⟩
       rw [HV.out.1, HV.out.2.1, HV.out.2.2]
       rfl
     | true =>
       have HRb := hid (HR.out _ hX)
       have HV : Hid (rsC t = rsCode t ∧ rsF t = fromW (rsBits t) ∧ rsR t = 0) := hid (by have h : okRs t = true := (by rw [HOk.out, hX, hD, he]; simp); rw [rsC, rsF, rsR, h]; simp)
       clear hD HFr HR HOk he hX
       go_enter Tryz.func202, Tryz.ntmps202
       go_wp2_with (first
         | (have := HRs; refine wl_store_rs rfl _ _ rfl w.heap.size rfl 0 (rN t false 1 : Int) 0 (fromW (rsBits t)) rfl HRs.out.1 ?_; intro wz Hz)
         | (go_at_call 142; refine (HRb.out _).mono ?_; rintro e w10 ⟨rfl, hb10⟩; have H10 := hid (H4.out.keep hb10); clear hb10; (try clear z0 z1); obtain ⟨z0, z1⟩ := H10.out.rs.cells; have HRs : Hid (RsAt w10 w.heap.size 0 0 ∧ Below w.heap.size w w10) := hid ⟨H10.out.st.res, H10.out.st.bel⟩)
         | (go_at_call 130; refine (end_any _ _ _ _ H4.out.st.rd).mono ?_; rintro e w11 ⟨rfl, rfl⟩; have HRs : Hid (RsAt w11 w.heap.size 0 0 ∧ Below w.heap.size w w11) := hid ⟨H4.out.st.res, H4.out.st.bel⟩)
         | (have := H3; refine wl_store_rs rfl _ _ rfl w12.heap.size rfl 0 (rN t false 1 : Int) 0 (fromW (rsBits t)) rfl (heap_alloc_last w12 _) ?_; intro w4 Hq; have hax := (Below.refl w12.heap.size w12).alloc (Nat.le_refl _) (.cells #[.int .i64 0, .float .f64 0] 43); have H4 : Hid (ZxSt w w4 (rsEnd t) w12.heap.size (rN t false 1 : Int) (fromW (rsBits t))) := hid ⟨(H3.out.keep hax).one (lt_of_blk H3.out.rd) Hq.out.2, Hq.out.1, lt_of_blk H3.out.rd⟩; clear hax; obtain ⟨z0, z1⟩ := H4.out.rs.cells)
         | (go_at_call 128; refine (HFb.out _).mono ?_; rintro e w12 ⟨rfl, rfl⟩; have H3 : Hid (ZrSt w w12 (rsEnd t)) := H3p)
         | (go_at_call 129; refine (rbits_any _ _ _ _ H2.out.rd).mono ?_; rintro e w3 ⟨rfl, hr, hk⟩; have H3p := hid (H2.out.kept (y := rsEnd t) hk hr); clear hr hk)
         | (go_at_call 125; refine (rbyte_any _ _ _ _ H1.out.rd).mono ?_; rintro e w2 ⟨rfl, hr, hk⟩; have H2 := hid (H1.out.kept (y := rd1 t) hk hr); clear hr hk)
         | (go_at_call 124; refine (read_any _ _).mono ?_; rintro e w1 ⟨rfl, rfl⟩))
       refine ret_pair (s := 2) (s2 := 3) (ad := ⟨w.heap.size, 0, none⟩) rfl rfl (load_rs _ _ (rN t false 1 : Int) (fromW (rsBits t)) Hz.out.1) rfl rfl ?_
       refine ⟨?_, Hz.out.2.below HRs.out.2 (Nat.le_refl _)⟩
       rw [HV.out.1, HV.out.2.1, HV.out.2.2]
       rfl
 · have heb : (endOf (rsEnd t).s (rsEnd t).sh != 0) = true := by simpa using he
   have HFb := hid (HFr.out _ rfl)
   have HV : Hid (rsC t = 0 ∧ rsF t = 0 ∧ rsR t = 5) := hid (by have h : okRs t = false := (by rw [HOk.out]; simp [he]); rw [rsC, rsF, rsR, h]; simp)
   clear HFr HR HOk he
   go_enter Tryz.func202, Tryz.ntmps202
   go_wp2_with (first
     | (have := HRs; refine wl_store_rs rfl _ _ rfl w.heap.size rfl 0 0 0 0 rfl HRs.out.1 ?_; intro wz Hz)
     | (go_at_call 142; refine (HRb.out _).mono ?_; rintro e w10 ⟨rfl, hb10⟩; have H10 := hid (H4.out.keep hb10); clear hb10; (try clear z0 z1); obtain ⟨z0, z1⟩ := H10.out.rs.cells; have HRs : Hid (RsAt w10 w.heap.size 0 0 ∧ Below w.heap.size w w10) := hid ⟨H10.out.st.res, H10.out.st.bel⟩)
     | (go_at_call 130; refine (end_any _ _ _ _ H4.out.st.rd).mono ?_; rintro e w11 ⟨rfl, rfl⟩; have HRs : Hid (RsAt w11 w.heap.size 0 0 ∧ Below w.heap.size w w11) := hid ⟨H4.out.st.res, H4.out.st.bel⟩)
     | (have := H3; refine wl_store_rs rfl _ _ rfl w12.heap.size rfl 0 (rN t false 1 : Int) 0 (fromW (rsBits t)) rfl (heap_alloc_last w12 _) ?_; intro w4 Hq; have hax := (Below.refl w12.heap.size w12).alloc (Nat.le_refl _) (.cells #[.int .i64 0, .float .f64 0] 43); have H4 : Hid (ZxSt w w4 (rsEnd t) w12.heap.size (rN t false 1 : Int) (fromW (rsBits t))) := hid ⟨(H3.out.keep hax).one (lt_of_blk H3.out.rd) Hq.out.2, Hq.out.1, lt_of_blk H3.out.rd⟩; clear hax; obtain ⟨z0, z1⟩ := H4.out.rs.cells)
     | (go_at_call 128; refine (HFb.out _).mono ?_; rintro e w12 ⟨rfl, rfl⟩; have H3 : Hid (ZrSt w w12 (rsEnd t)) := H3p)
     | (go_at_call 129; refine (rbits_any _ _ _ _ H2.out.rd).mono ?_; rintro e w3 ⟨rfl, hr, hk⟩; have H3p := hid (H2.out.kept (y := rsEnd t) hk hr); clear hr hk)
     | (go_at_call 125; refine (rbyte_any _ _ _ _ H1.out.rd).mono ?_; rintro e w2 ⟨rfl, hr, hk⟩; have H2 := hid (H1.out.kept (y := rd1 t) hk hr); clear hr hk)
     | (go_at_call 124; refine (read_any _ _).mono ?_; rintro e w1 ⟨rfl, rfl⟩))
   refine ret_pair (s := 2) (s2 := 3) (ad := ⟨w.heap.size, 0, none⟩) rfl rfl (load_rs _ _ 0 0 Hz.out.1) rfl rfl ?_
   refine ⟨?_, Hz.out.2.below HRs.out.2 (Nat.le_refl _)⟩
   rw [HV.out.1, HV.out.2.1, HV.out.2.2]
   rfl
end
section
open Go.RowKit
def rqV0 (r : Rq) : Value := .agg #[.int .i64 r.c, .int .i64 r.st, .int .i64 r.k, .string r.key, .float .f64 r.b, .int .i64 r.id]
theorem clC_op {c : Clt} {vt vc va : Value} {w : World} {g : Nat} (h : BxAt w g (clC c vt vc va) 94) : ∀ (j : Nat) (v : Value), [Value.int .i64 c.op.c, .int .i64 c.op.st, .int .i64 c.op.k, .string c.op.key, .float .f64 c.op.b, .int .i64 c.op.id][j]? = some v → w.cell? ⟨g, 3 + j, none⟩ = some v := fun j v hv => h.cell (3 + j) v (by
 match j, hv with
 | 0, hv => exact hv
 | 1, hv => exact hv
 | 2, hv => exact hv
 | 3, hv => exact hv
 | 4, hv => exact hv
 | 5, hv => exact hv
 | j + 6, hv => cases hv)
section
variable {O P : Nat → Prop} {N g : Nat} {w : World} {v vt vc va : Value} {fm : List Int} {ls : List Lk} {c : Clt}
theorem knode_any (h : BxAt w g (clC c vt vc va) 94) (hi : 1 ≤ c.id ∧ c.id ≤ 8) : Calls Tryz.prog 82 #[.pointer (some ⟨g, 0, none⟩)] w fun e w' => e = .returned (.int .i64 (100 + c.id)) ∧ Below w.heap.size w w' := by
 have y0 := h.cell 0 _ rfl
 have hw : IntKind.i64.wrap (100 + c.id) = 100 + c.id := wrap_small _ (by omega) (by omega)
 clear h hi
 go_enter Tryz.func82, Tryz.ntmps82
 go_wp2
 go_ret
 exact ⟨rfl, Below.refl _ _⟩
theorem kisOpen_any (h : BxAt w g (clC c vt vc va) 94) : Calls Tryz.prog 42 #[.pointer (some ⟨g, 0, none⟩)] w fun e w' => e = .returned (.bool (!nullB c.op)) ∧ Below w.heap.size w w' := by
 have y0 := h.cell 3 _ rfl
 have HO := hid (clC_op h)
 have HN := hid (fun u => dnull_any c.op u)
 obtain ⟨A, eA⟩ : ∃ A, A = rqV0 c.op := ⟨_, rfl⟩
 have HA := hid eA
 unfold rqV0 at eA
 rw [← eA] at HN
 clear h eA
 go_enter Tryz.func42, Tryz.ntmps42
 go_wp2_with (first
   | (refine wl_ldat rfl 41 _ rfl g 3 rfl _ HO.out _ Tryz.underlying41 rfl (by kernel_rfl) A HA.out ?_)
   | (go_at_call 81; go_must (refine (HN.out _).mono ?_; rintro e w1 ⟨rfl, hb⟩; have H1 := hid hb; clear hb)))
 go_ret
 exact ⟨rfl, H1.out⟩
theorem kepoch_any (h : ClM O N w g vt vc va fm ls c) (hl : ls.length ≤ 900) : Calls Tryz.prog 30 #[.pointer (some ⟨g, 0, none⟩)] w fun e w' => e = .returned (.int .i64 (ls.length : Int)) ∧ Below w.heap.size w w' := by
 have y1 := h.blk.cell 1 _ rfl
 have HE := hid (lepoch_any O vt fm ls hl w h.tr)
 clear h
 go_enter Tryz.func30, Tryz.ntmps30
 go_wp2_with (go_at_call 61; go_must (refine HE.out.mono ?_; rintro e w1 ⟨rfl, hb⟩; have H1 := hid hb; clear hb))
 go_ret
 exact ⟨rfl, H1.out⟩
set_option maxHeartbeats 1600000 in
theorem kopen_any (h : BxAt w g (clC c vt vc va) 94) (hz : nullB c.op = true → c.op = zeroQ) : Calls Tryz.prog 22 #[.pointer (some ⟨g, 0, none⟩)] w fun e w' => e = .returned (.tuple #[rqV0 c.op, .bool (!nullB c.op)]) ∧ Below w.heap.size w w' := by
 have hb0 : Below w.heap.size w (w.alloc (.cells #[.int .i64 0, .int .i64 0, .int .i64 0, .string ⟨#[]⟩, .float .f64 0, .int .i64 0] 41)) := (Below.refl _ _).alloc (Nat.le_refl _) _
 have H0 : Hid (RqAt (w.alloc (.cells #[.int .i64 0, .int .i64 0, .int .i64 0, .string ⟨#[]⟩, .float .f64 0, .int .i64 0] 41)) w.heap.size zeroQ ∧ Below w.heap.size w (w.alloc (.cells #[.int .i64 0, .int .i64 0, .int .i64 0, .string ⟨#[]⟩, .float .f64 0, .int .i64 0] 41)) ∧ BxAt (w.alloc (.cells #[.int .i64 0, .int .i64 0, .int .i64 0, .string ⟨#[]⟩, .float .f64 0, .int .i64 0] 41)) g (clC c vt vc va) 94) := hid ⟨heap_alloc_last w _, hb0, h.keep hb0⟩
 have HC := hid (fun (u : World) (hu : BxAt u g (clC c vt vc va) 94) => kisOpen_any hu)
 cases hn : nullB c.op with
 | true =>
   rw [hn] at HC
   rw [hz hn]
   clear hz hn hb0 h
   go_enter Tryz.func22, Tryz.ntmps22
   go_wp2_with (first
     | (go_at_call 42; go_must (refine (HC.out _ H0.out.2.2).mono ?_; rintro e w1 ⟨rfl, hb⟩; have H1 := hid (And.intro (show RqAt w1 w.heap.size zeroQ from (hb.block _ (lt_of_blk H0.out.1)).trans H0.out.1) (H0.out.2.1.trans (hb.mono H0.out.2.1.size))); clear hb))
     | (have := H1; refine wl_store_rq rfl _ _ rfl w.heap.size rfl zeroQ zeroQ rfl H1.out.1 ?_; intro w2 Hz))
   refine ret_pair (s := 2) (s2 := 3) (ad := ⟨w.heap.size, 0, none⟩) rfl rfl (load_rq _ _ zeroQ Hz.out.1) rfl rfl ?_
   exact ⟨rfl, Hz.out.2.below H1.out.2 (Nat.le_refl _)⟩
 | false =>
   rw [hn] at HC
   obtain ⟨A, eA⟩ : ∃ A, A = rqV0 c.op := ⟨_, rfl⟩
   have HA := hid eA
   clear hz hn hb0 h eA
   go_enter Tryz.func22, Tryz.ntmps22
   go_wp2_with (first
     | (go_at_call 42; go_must (refine (HC.out _ H0.out.2.2).mono ?_; rintro e w1 ⟨rfl, hb⟩; have H1 := hid (And.intro (show RqAt w1 w.heap.size zeroQ from (hb.block _ (lt_of_blk H0.out.1)).trans H0.out.1) (And.intro (H0.out.2.1.trans (hb.mono H0.out.2.1.size)) (H0.out.2.2.keep hb))); clear hb))
     | (have := H1; refine wl_ldat rfl 41 _ rfl g 3 rfl _ (clC_op H1.out.2.2) _ Tryz.underlying41 rfl (by kernel_rfl) A HA.out ?_)
     | (have := H1; refine wl_store_rq rfl _ _ rfl w.heap.size rfl zeroQ c.op HA.out H1.out.1 ?_; intro w2 Hz))
   refine ret_pair (s := 2) (s2 := 3) (ad := ⟨w.heap.size, 0, none⟩) rfl rfl (load_rq _ _ c.op Hz.out.1) rfl rfl ?_
   exact ⟨rfl, Hz.out.2.below H1.out.2.1 (Nat.le_refl _)⟩
end
end
section
set_option maxRecDepth 100000
open Go.RowKit
def isW (ep mb : Int) (x : Wd) : Bool := decide (x.1 = ep) && decide (x.2.1 = mb)
def hasW (l : List Wd) (ep mb : Int) : Bool := l.any (isW ep mb)
def likeW (ep : Int) (t : ByteArray) (x : Wd) : Bool := decide (x.1 = ep) && decide (x.2.2 = t)
def cntW (l : List Wd) (ep : Int) (t : ByteArray) : Nat := l.countP (likeW ep t)
theorem hasW_take {l : List Wd} {ep mb : Int} {j : Nat} {x : Wd} (h : hasW (l.take j) ep mb = false) (hx : l[j]? = some x) (hf : isW ep mb x = false) : hasW (l.take (j + 1)) ep mb = false := by
 obtain ⟨hl, e⟩ := List.getElem?_eq_some_iff.1 hx
 unfold hasW at *
 rw [List.take_succ_eq_append_getElem hl, List.any_append, h, e]
 simp [hf]
theorem hasW_yes {l : List Wd} {ep mb : Int} {j : Nat} {x : Wd} (hx : l[j]? = some x) (hf : isW ep mb x = true) : hasW l ep mb = true := List.any_eq_true.2 ⟨x, List.mem_of_getElem? hx, hf⟩
theorem cntW_take {l : List Wd} {ep : Int} {t : ByteArray} {j : Nat} {x : Wd} (hx : l[j]? = some x) : cntW (l.take (j + 1)) ep t = cntW (l.take j) ep t + (if likeW ep t x then 1 else 0) := by
 obtain ⟨hl, e⟩ := List.getElem?_eq_some_iff.1 hx
 unfold cntW
 rw [List.take_succ_eq_append_getElem hl, List.countP_append, e]
 simp [List.countP_cons]
theorem cntW_le (l : List Wd) (ep : Int) (t : ByteArray) (j : Nat) : cntW (l.take j) ep t ≤ j := by
 unfold cntW
 refine Nat.le_trans List.countP_le_length ?_
 rw [List.length_take]; omega
def WdsIn (w : World) (v : Value) (l : List Wd) : Prop := ∃ ad cap, v = .slice ad l.length cap ∧ (0 < l.length → ∃ r, ad = some ⟨r, 0, none⟩ ∧ r < w.heap.size ∧ ∀ (j : Nat) (u : Value), (wdC l)[j]? = some u → w.cell? ⟨r, j, none⟩ = some u)
set_option maxHeartbeats 1600000 in
theorem kclos_any (x1 x2 : Int) (t : ByteArray) (ep mb : Int) (b1 b2 : Nat) (w : World) (h1 : w.cell? ⟨b1, 0, none⟩ = some (.int .i64 ep)) (h2 : w.cell? ⟨b2, 0, none⟩ = some (.int .i64 mb)) (hb1 : b1 < w.heap.size) (hb2 : b2 < w.heap.size) :
   Calls Tryz.prog 141 #[.agg #[.int .i64 x1, .int .i64 x2, .string t], .pointer (some ⟨b1, 0, none⟩), .pointer (some ⟨b2, 0, none⟩)] w fun e w' => e = .returned (.bool (isW ep mb (x1, x2, t))) ∧ Below w.heap.size w w' := by
 have H0 : Hid (Below w.heap.size w (w.alloc (.cells #[.int .i64 x1, .int .i64 x2, .string t] 148))) := hid ((Below.refl _ _).alloc (Nat.le_refl _) _)
 have k1 := (H0.out.cell (p := ⟨b1, 0, none⟩) hb1).trans h1
 have k2 := (H0.out.cell (p := ⟨b2, 0, none⟩) hb2).trans h2
 clear h1 h2 hb1 hb2
 have HV : Hid (isW ep mb (x1, x2, t) = (decide (x1 = ep) && decide (x2 = mb))) := hid rfl
 generalize isW ep mb (x1, x2, t) = V at HV ⊢
 cases e1 : decide (x1 = ep) with
 | false =>
   have q1 : (x1 == ep) = false := by rw [beq_eq_false_iff_ne]; exact of_decide_eq_false e1
   have hv : Hid (V = false) := hid (by rw [HV.out, e1]; rfl)
   clear e1
   go_enter Tryz.func141, Tryz.ntmps141
   go_wp2
   go_ret
   exact ⟨by rw [hv.out]; rfl, H0.out⟩
 | true =>
   have q1 : (x1 == ep) = true := by rw [beq_iff_eq]; exact of_decide_eq_true e1
   have hv : Hid (V = decide (x2 = mb)) := hid (by rw [HV.out, e1]; rfl)
   clear e1
   go_enter Tryz.func141, Tryz.ntmps141
   go_wp2
   go_ret
   exact ⟨by rw [hv.out]; simp; rw [Bool.eq_iff_iff]; simp, H0.out⟩
set_option maxHeartbeats 3200000 in
theorem kindex_any (v : Value) (l : List Wd) (hm : l.length ≤ maxLen) (ep mb : Int) (b1 b2 : Nat) (w : World) (hQ : WdsIn w v l) (h1 : w.cell? ⟨b1, 0, none⟩ = some (.int .i64 ep)) (h2 : w.cell? ⟨b2, 0, none⟩ = some (.int .i64 mb)) (hb1 : b1 < w.heap.size) (hb2 : b2 < w.heap.size) :
   Calls Tryz.prog 180 #[v, .func (.func 141) #[] #[.pointer (some ⟨b1, 0, none⟩), .pointer (some ⟨b2, 0, none⟩)]] w fun e w' => (∃ z : Int, e = .returned (.int .i64 z) ∧ decide (z ≥ 0) = hasW l ep mb) ∧ Below w.heap.size w w' := by
 obtain ⟨ad, cap, rfl, hc⟩ := hQ
 have HC := hid hc
 have HK := hid (And.intro (And.intro h1 hb1) (And.intro h2 hb2))
 obtain ⟨n, en⟩ : ∃ n, n = l.length := ⟨_, rfl⟩
 have hnI : (n : Int) ≤ 9223372036854775807 := by unfold maxLen at hm; omega
 have HN := hid en
 rw [← en]
 clear hc h1 h2 hb1 hb2 en hm
 go_enter Tryz.func180, Tryz.ntmps180
 go_wp2
 go_loopw [8] (fun i wr => ∃ j : Nat, j ≤ n ∧ i = .int .i64 (j : Int) ∧ hasW (l.take j) ep mb = false ∧ Below w.heap.size w wr)
   (fun i _ => ((n : Int) - intOf i).toNat)
 case atStart => exact ⟨0, by omega, rfl, rfl, Below.refl _ _⟩
 case round =>
   obtain ⟨j, hj, rfl, hok, hbel⟩ := hrel
   have HB := hid hbel
   have HOk := hid hok
   clear hbel hok
   have hj0 : (0 : Int) ≤ (j : Int) := Int.natCast_nonneg _
   by_cases hjn : j = n
   · have hj1 : ¬ ((j : Int) < (n : Int)) := by omega
     have HF : Hid (hasW l ep mb = false) := hid (by have := HOk.out; rwa [hjn, HN.out, List.take_length] at this)
     clear hj hjn
     go_wp2
     go_ret
     exact ⟨⟨-1, rfl, by rw [HF.out]; decide⟩, HB.out⟩
   · have hj1 : (j : Int) < (n : Int) := by omega
     have hjl : j < l.length := by have := HN.out; omega
     obtain ⟨x, hx⟩ : ∃ x, l[j]? = some x := ⟨_, List.getElem?_eq_getElem hjl⟩
     obtain ⟨r, rfl, hr, hcs⟩ := HC.out (by omega)
     have f0 : wr.cell? ⟨r, j * 3, none⟩ = some (.int .i64 x.1) := (HB.out.cell (p := ⟨r, j * 3, none⟩) hr).trans (hcs _ _ (wdC_at l j x hx 0 _ rfl))
     have f1 : wr.cell? ⟨r, j * 3 + 1, none⟩ = some (.int .i64 x.2.1) := (HB.out.cell (p := ⟨r, j * 3 + 1, none⟩) hr).trans (hcs _ _ (wdC_at l j x hx 1 _ rfl))
     have f2 : wr.cell? ⟨r, j * 3 + 2, none⟩ = some (.string x.2.2) := (HB.out.cell (p := ⟨r, j * 3 + 2, none⟩) hr).trans (hcs _ _ (wdC_at l j x hx 2 _ rfl))
     have HCl := hid (fun (u : World) (hu : Below wr.heap.size wr u) => kclos_any x.1 x.2.1 x.2.2 ep mb b1 b2 u (((HB.out.trans (hu.mono HB.out.size)).cell (p := ⟨b1, 0, none⟩) HK.out.1.2).trans HK.out.1.1) (((HB.out.trans (hu.mono HB.out.size)).cell (p := ⟨b2, 0, none⟩) HK.out.2.2).trans HK.out.2.1) (Nat.lt_of_lt_of_le HK.out.1.2 (HB.out.trans (hu.mono HB.out.size)).size) (Nat.lt_of_lt_of_le HK.out.2.2 (HB.out.trans (hu.mono HB.out.size)).size))
     have HX := hid (And.intro hx (And.intro hj hjn))
     obtain ⟨x1, x2, x3⟩ := x
     simp only at f0 f1 f2 HCl
     clear hj hjn hjl hcs hr
     cases hw : isW ep mb (x1, x2, x3) with
     | false =>
       rw [hw] at HCl
       have HT := hid (hasW_take HOk.out HX.out.1 hw)
       clear hw hx
       go_wp2_with (go_at_call 141; go_must (refine (HCl.out _ (Below.refl _ _)).mono ?_; rintro e w1 ⟨rfl, hb⟩; have H1 := hid (HB.out.trans (hb.mono HB.out.size)); clear hb))
       go_roundw
       case rel => exact ⟨j + 1, by have := HX.out.2; omega, by go_num, HT.out, H1.out⟩
       case measure => simp [intOf]; omega
     | true =>
       rw [hw] at HCl
       have HT := hid (hasW_yes HX.out.1 hw)
       clear hw hx
       go_wp2_with (go_at_call 141; go_must (refine (HCl.out _ (Below.refl _ _)).mono ?_; rintro e w1 ⟨rfl, hb⟩; have H1 := hid (HB.out.trans (hb.mono HB.out.size)); clear hb))
       go_ret
       exact ⟨⟨(j : Int), rfl, by rw [HT.out]; simp⟩, H1.out⟩
theorem kcontains_any (v : Value) (l : List Wd) (hm : l.length ≤ maxLen) (ep mb : Int) (b1 b2 : Nat) (w : World) (hQ : WdsIn w v l) (h1 : w.cell? ⟨b1, 0, none⟩ = some (.int .i64 ep)) (h2 : w.cell? ⟨b2, 0, none⟩ = some (.int .i64 mb)) (hb1 : b1 < w.heap.size) (hb2 : b2 < w.heap.size) :
   Calls Tryz.prog 140 #[v, .func (.func 141) #[] #[.pointer (some ⟨b1, 0, none⟩), .pointer (some ⟨b2, 0, none⟩)]] w fun e w' => e = .returned (.bool (hasW l ep mb)) ∧ Below w.heap.size w w' := by
 have HC := hid (kindex_any v l hm ep mb b1 b2 w hQ h1 h2 hb1 hb2)
 clear hQ h1 h2 hb1 hb2 hm
 go_enter Tryz.func140, Tryz.ntmps140
 go_wp2_with (go_at_call 180; go_must (refine (HC.out).mono ?_; rintro e w1 ⟨⟨z, rfl, hz⟩, hb1⟩; have H1 := hid (And.intro hz hb1); clear hz hb1))
 go_ret
 exact ⟨by rw [← H1.out.1]; rfl, H1.out.2⟩
section
variable {O P : Nat → Prop} {N g : Nat} {w : World} {v vt vc va : Value} {fm : List Int} {ls : List Lk} {c : Clt}
theorem ClM.wds (h : ClM O N w g vt vc va fm ls c) : WdsIn w vc c.cm := by
 obtain ⟨ad, cap, hv, _, hc⟩ := row_open h.cm
 exact ⟨ad, cap, hv, hc⟩
theorem WdsIn.keep {w w' : World} {v : Value} {l : List Wd} (h : WdsIn w v l) (hb : Below w.heap.size w w') : WdsIn w' v l := by
 obtain ⟨ad, cap, hv, hc⟩ := h
 refine ⟨ad, cap, hv, fun hl => ?_⟩
 obtain ⟨r, h1, h2, h3⟩ := hc hl
 exact ⟨r, h1, Nat.lt_of_lt_of_le h2 hb.size, fun j u hu => (hb.cell (p := ⟨r, j, none⟩) h2).trans (h3 j u hu)⟩
set_option maxHeartbeats 1600000 in
theorem khasWord_any (h : ClM O N w g vt vc va fm ls c) (hm : c.cm.length ≤ maxLen) (ep mb : Int) : Calls Tryz.prog 90 #[.pointer (some ⟨g, 0, none⟩), .int .i64 ep, .int .i64 mb] w fun e w' => e = .returned (.bool (hasW c.cm ep mb)) ∧ Below w.heap.size w w' := by
 obtain ⟨wa, ea⟩ : ∃ wa, wa = (w.alloc (.cells #[.int .i64 ep] 3)).alloc (.cells #[.int .i64 mb] 3) := ⟨_, rfl⟩
 have hb1 : Below w.heap.size w (w.alloc (.cells #[.int .i64 ep] 3)) := (Below.refl _ _).alloc (Nat.le_refl _) _
 have hb2 : Below (w.alloc (.cells #[.int .i64 ep] 3)).heap.size (w.alloc (.cells #[.int .i64 ep] 3)) wa := by rw [ea]; exact (Below.refl _ _).alloc (Nat.le_refl _) _
 have hb := hb1.trans (hb2.mono hb1.size)
 have g1 : wa.cell? ⟨w.heap.size, 0, none⟩ = some (.int .i64 ep) := (hb2.cell (p := ⟨w.heap.size, 0, none⟩) (by simp)).trans (cell_at (L := [.int .i64 ep]) (heap_alloc_last w _) 0 _ rfl)
 have g2 : wa.cell? ⟨w.heap.size + 1, 0, none⟩ = some (.int .i64 mb) := by
   rw [ea]
   simp
 have hz : wa.heap.size = w.heap.size + 2 := by rw [ea]; simp
 have HC := hid (kcontains_any vc c.cm hm ep mb w.heap.size (w.heap.size + 1) wa (h.wds.keep hb) g1 g2 (by omega) (by omega))
 have H0 := hid (And.intro hb (h.blk.keep hb))
 have HA := hid ea.symm
 have y9 := H0.out.2.cell 9 _ rfl
 clear h hm hb1 hb2 hb g1 g2 hz ea
 go_enter Tryz.func90, Tryz.ntmps90
 go_upto_region 1 with fail
 rw [HA.out]
 go_wp2_with (go_at_call 140; go_must (refine (HC.out).mono ?_; rintro e w1 ⟨rfl, hb⟩; have H1 := hid (H0.out.1.trans (hb.mono H0.out.1.size)); clear hb))
 go_ret
 exact ⟨rfl, H1.out⟩
end
end
end Go.Proofs.YtoepppkadpjonaaGreat
