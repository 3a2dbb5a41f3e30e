/- Texts laid together: DtB DtC DtD DtE DpZ DsI. -/
import Derived.Test.YtecidbdbdnnglaaGreatMx1
import Derived.Test.YtecidbdbdnnglaaGreatPwAM
import Derived.Test.YtecidbdbdnnglaaGreatBaC
import Derived.Deep.RegionLaw
/- The program's deeds: which operation is right, which request, which is the null one, which result. -/
namespace Go.Proofs.YtecidbdbdnnglaaGreat
open Go.RowKit

set_option maxRecDepth 100000 in
theorem dplain_any (r : Rq) (w : World) : Calls Tryz.prog 100 #[.agg #[.int .i64 r.k, .string r.key, .float .f64 r.b, .int .i64 r.id]] w fun e w' => e = .returned (.bool (plainB r)) ∧ Below w.heap.size w w' := by
  have HB : Hid (Below w.heap.size w (w.alloc (.cells #[.int .i64 r.k, .string r.key, .float .f64 r.b, .int .i64 r.id] 54))) := hid ((Below.refl _ _).alloc (Nat.le_refl _) _)
  obtain ⟨B, hB⟩ : ∃ B, plainB r = B := ⟨_, rfl⟩
  have HBe := hid hB
  rw [hB]
  clear hB
  go_enter Tryz.func100, Tryz.ntmps100
  go_wp2_with (go_at_call 97; refine (bits_any _ _).mono ?_; rintro e w1 ⟨rfl, rfl⟩)
  go_ret
  refine ⟨ret_bool ?_, HB.out⟩
  rw [← HBe.out, plainB, Bool.eq_iff_iff]
  simp
set_option maxRecDepth 100000 in
set_option maxHeartbeats 6400000 in
theorem dop_any (r : Rq) (w : World) : Calls Tryz.prog 99 #[.agg #[.int .i64 r.k, .string r.key, .float .f64 r.b, .int .i64 r.id]] w fun e w' => e = .returned (.bool (opB r)) ∧ Below w.heap.size w w' := by
  obtain ⟨c, st, k, key, b, id⟩ := r
  simp only
  have HP := fun (k : Int) (u : World) => dplain_any ⟨c, st, k, key, b, id⟩ u
  simp only at HP
  have HPk : ∀ k, plainB ⟨c, st, k, key, b, id⟩ = plainB ⟨c, st, 0, key, b, id⟩ := fun _ => rfl
  have HOp : Hid (∀ k, opB ⟨c, st, k, key, b, id⟩ = if k = 1 ∨ k = 2 ∨ k = 3 then ((decide (1 ≤ key.size) && decide (key.size ≤ 16)) && decide (id = 0)) else if k = 4 ∨ k = 5 then ((decide (1 ≤ key.size) && decide (key.size ≤ 16)) && decide (id = 0)) && plainB ⟨c, st, 0, key, b, id⟩ else if k = 6 ∨ k = 7 then ((decide (key.size = 0) && plainB ⟨c, st, 0, key, b, id⟩) && decide (0 ≤ id)) && decide (id < 16) else false) := hid (fun _ => rfl)
  simp only [HPk] at HP
  have HPh := hid HP
  obtain ⟨B, hB⟩ : ∃ B, B = opB ⟨c, st, k, key, b, id⟩ := ⟨_, rfl⟩
  rw [HOp.out] at hB
  rw [show opB ⟨c, st, k, key, b, id⟩ = B by rw [hB, HOp.out]]
  have HBe := hid hB
  have hz2 := none_size key
  clear HP HPk hB HOp
  generalize plainB ⟨c, st, 0, key, b, id⟩ = P at *
  by_cases h1 : k = 1
  · subst h1
    rw [if_pos (by decide)] at HBe
    go_enter Tryz.func99, Tryz.ntmps99
    go_wp2_with (go_at_call 100; refine (HPh.out _ _).mono ?_; rintro e w2 ⟨rfl, hb2⟩; have H1 := hid (And.intro ((hb2.block _ (by simp)).trans (heap_alloc_last w _)) (((Below.refl w.heap.size w).alloc (Nat.le_refl _) _).trans (hb2.mono (by simp)))); clear hb2; have z0 := cell_at (L := [.int .i64 1, .string key, .float .f64 b, .int .i64 id]) H1.out.1 0 _ rfl; have z1 := cell_at (L := [.int .i64 1, .string key, .float .f64 b, .int .i64 id]) H1.out.1 1 _ rfl; have z2 := cell_at (L := [.int .i64 1, .string key, .float .f64 b, .int .i64 id]) H1.out.1 2 _ rfl; have z3 := cell_at (L := [.int .i64 1, .string key, .float .f64 b, .int .i64 id]) H1.out.1 3 _ rfl)
    all_goals go_ret
    all_goals refine ⟨ret_bool ?_, by first | exact H1.out.2 | exact (Below.refl w.heap.size w).alloc (Nat.le_refl _) _⟩
    all_goals (first | exact HBe.out.symm | (rw [HBe.out, Bool.eq_iff_iff]; simp; done) | (rw [HBe.out, Bool.eq_iff_iff]; simp; omega))
  by_cases h2 : k = 2
  · subst h2
    rw [if_pos (by decide)] at HBe
    go_enter Tryz.func99, Tryz.ntmps99
    go_wp2_with (go_at_call 100; refine (HPh.out _ _).mono ?_; rintro e w2 ⟨rfl, hb2⟩; have H1 := hid (And.intro ((hb2.block _ (by simp)).trans (heap_alloc_last w _)) (((Below.refl w.heap.size w).alloc (Nat.le_refl _) _).trans (hb2.mono (by simp)))); clear hb2; have z0 := cell_at (L := [.int .i64 2, .string key, .float .f64 b, .int .i64 id]) H1.out.1 0 _ rfl; have z1 := cell_at (L := [.int .i64 2, .string key, .float .f64 b, .int .i64 id]) H1.out.1 1 _ rfl; have z2 := cell_at (L := [.int .i64 2, .string key, .float .f64 b, .int .i64 id]) H1.out.1 2 _ rfl; have z3 := cell_at (L := [.int .i64 2, .string key, .float .f64 b, .int .i64 id]) H1.out.1 3 _ rfl)
    all_goals go_ret
    all_goals refine ⟨ret_bool ?_, by first | exact H1.out.2 | exact (Below.refl w.heap.size w).alloc (Nat.le_refl _) _⟩
    all_goals (first | exact HBe.out.symm | (rw [HBe.out, Bool.eq_iff_iff]; simp; done) | (rw [HBe.out, Bool.eq_iff_iff]; simp; omega))
  by_cases h3 : k = 3
  · subst h3
    rw [if_pos (by decide)] at HBe
    go_enter Tryz.func99, Tryz.ntmps99
    go_wp2_with (go_at_call 100; refine (HPh.out _ _).mono ?_; rintro e w2 ⟨rfl, hb2⟩; have H1 := hid (And.intro ((hb2.block _ (by simp)).trans (heap_alloc_last w _)) (((Below.refl w.heap.size w).alloc (Nat.le_refl _) _).trans (hb2.mono (by simp)))); clear hb2; have z0 := cell_at (L := [.int .i64 3, .string key, .float .f64 b, .int .i64 id]) H1.out.1 0 _ rfl; have z1 := cell_at (L := [.int .i64 3, .string key, .float .f64 b, .int .i64 id]) H1.out.1 1 _ rfl; have z2 := cell_at (L := [.int .i64 3, .string key, .float .f64 b, .int .i64 id]) H1.out.1 2 _ rfl; have z3 := cell_at (L := [.int .i64 3, .string key, .float .f64 b, .int .i64 id]) H1.out.1 3 _ rfl)
    all_goals go_ret
    all_goals refine ⟨ret_bool ?_, by first | exact H1.out.2 | exact (Below.refl w.heap.size w).alloc (Nat.le_refl _) _⟩
    all_goals (first | exact HBe.out.symm | (rw [HBe.out, Bool.eq_iff_iff]; simp; done) | (rw [HBe.out, Bool.eq_iff_iff]; simp; omega))
  by_cases h4 : k = 4
  · subst h4
    rw [if_neg (by decide), if_pos (by decide)] at HBe
    cases P <;>
    · go_enter Tryz.func99, Tryz.ntmps99
      go_wp2_with (go_at_call 100; refine (HPh.out _ _).mono ?_; rintro e w2 ⟨rfl, hb2⟩; have H1 := hid (And.intro ((hb2.block _ (by simp)).trans (heap_alloc_last w _)) (((Below.refl w.heap.size w).alloc (Nat.le_refl _) _).trans (hb2.mono (by simp)))); clear hb2; have z0 := cell_at (L := [.int .i64 4, .string key, .float .f64 b, .int .i64 id]) H1.out.1 0 _ rfl; have z1 := cell_at (L := [.int .i64 4, .string key, .float .f64 b, .int .i64 id]) H1.out.1 1 _ rfl; have z2 := cell_at (L := [.int .i64 4, .string key, .float .f64 b, .int .i64 id]) H1.out.1 2 _ rfl; have z3 := cell_at (L := [.int .i64 4, .string key, .float .f64 b, .int .i64 id]) H1.out.1 3 _ rfl)
      all_goals go_ret
      all_goals refine ⟨ret_bool ?_, by first | exact H1.out.2 | exact (Below.refl w.heap.size w).alloc (Nat.le_refl _) _⟩
      all_goals (first | exact HBe.out.symm | (rw [HBe.out, Bool.eq_iff_iff]; simp; done) | (rw [HBe.out, Bool.eq_iff_iff]; simp; omega))
  by_cases h5 : k = 5
  · subst h5
    rw [if_neg (by decide), if_pos (by decide)] at HBe
    cases P <;>
    · go_enter Tryz.func99, Tryz.ntmps99
      go_wp2_with (go_at_call 100; refine (HPh.out _ _).mono ?_; rintro e w2 ⟨rfl, hb2⟩; have H1 := hid (And.intro ((hb2.block _ (by simp)).trans (heap_alloc_last w _)) (((Below.refl w.heap.size w).alloc (Nat.le_refl _) _).trans (hb2.mono (by simp)))); clear hb2; have z0 := cell_at (L := [.int .i64 5, .string key, .float .f64 b, .int .i64 id]) H1.out.1 0 _ rfl; have z1 := cell_at (L := [.int .i64 5, .string key, .float .f64 b, .int .i64 id]) H1.out.1 1 _ rfl; have z2 := cell_at (L := [.int .i64 5, .string key, .float .f64 b, .int .i64 id]) H1.out.1 2 _ rfl; have z3 := cell_at (L := [.int .i64 5, .string key, .float .f64 b, .int .i64 id]) H1.out.1 3 _ rfl)
      all_goals go_ret
      all_goals refine ⟨ret_bool ?_, by first | exact H1.out.2 | exact (Below.refl w.heap.size w).alloc (Nat.le_refl _) _⟩
      all_goals (first | exact HBe.out.symm | (rw [HBe.out, Bool.eq_iff_iff]; simp; done) | (rw [HBe.out, Bool.eq_iff_iff]; simp; omega))
  by_cases h6 : k = 6
  · subst h6
    rw [if_neg (by decide), if_neg (by decide), if_pos (by decide)] at HBe
    cases hd : decide (key.size = 0) <;> rw [hd] at HBe hz2 <;> cases P <;>
    · clear hd
      go_enter Tryz.func99, Tryz.ntmps99
      go_wp2_with (go_at_call 100; refine (HPh.out _ _).mono ?_; rintro e w2 ⟨rfl, hb2⟩; have H1 := hid (And.intro ((hb2.block _ (by simp)).trans (heap_alloc_last w _)) (((Below.refl w.heap.size w).alloc (Nat.le_refl _) _).trans (hb2.mono (by simp)))); clear hb2; have z0 := cell_at (L := [.int .i64 6, .string key, .float .f64 b, .int .i64 id]) H1.out.1 0 _ rfl; have z1 := cell_at (L := [.int .i64 6, .string key, .float .f64 b, .int .i64 id]) H1.out.1 1 _ rfl; have z2 := cell_at (L := [.int .i64 6, .string key, .float .f64 b, .int .i64 id]) H1.out.1 2 _ rfl; have z3 := cell_at (L := [.int .i64 6, .string key, .float .f64 b, .int .i64 id]) H1.out.1 3 _ rfl)
      all_goals go_ret
      all_goals refine ⟨ret_bool ?_, by first | exact H1.out.2 | exact (Below.refl w.heap.size w).alloc (Nat.le_refl _) _⟩
      all_goals (first | exact HBe.out.symm | (rw [HBe.out, Bool.eq_iff_iff]; simp; done) | (rw [HBe.out, Bool.eq_iff_iff]; simp; omega))
  by_cases h7 : k = 7
  · subst h7
    rw [if_neg (by decide), if_neg (by decide), if_pos (by decide)] at HBe
    cases hd : decide (key.size = 0) <;> rw [hd] at HBe hz2 <;> cases P <;>
    · clear hd
      go_enter Tryz.func99, Tryz.ntmps99
      go_wp2_with (go_at_call 100; refine (HPh.out _ _).mono ?_; rintro e w2 ⟨rfl, hb2⟩; have H1 := hid (And.intro ((hb2.block _ (by simp)).trans (heap_alloc_last w _)) (((Below.refl w.heap.size w).alloc (Nat.le_refl _) _).trans (hb2.mono (by simp)))); clear hb2; have z0 := cell_at (L := [.int .i64 7, .string key, .float .f64 b, .int .i64 id]) H1.out.1 0 _ rfl; have z1 := cell_at (L := [.int .i64 7, .string key, .float .f64 b, .int .i64 id]) H1.out.1 1 _ rfl; have z2 := cell_at (L := [.int .i64 7, .string key, .float .f64 b, .int .i64 id]) H1.out.1 2 _ rfl; have z3 := cell_at (L := [.int .i64 7, .string key, .float .f64 b, .int .i64 id]) H1.out.1 3 _ rfl)
      all_goals go_ret
      all_goals refine ⟨ret_bool ?_, by first | exact H1.out.2 | exact (Below.refl w.heap.size w).alloc (Nat.le_refl _) _⟩
      all_goals (first | exact HBe.out.symm | (rw [HBe.out, Bool.eq_iff_iff]; simp; done) | (rw [HBe.out, Bool.eq_iff_iff]; simp; omega))
  rw [if_neg (by omega), if_neg (by omega), if_neg (by omega)] at HBe
  go_enter Tryz.func99, Tryz.ntmps99
  go_wp2_with (go_at_call 100; refine (HPh.out _ _).mono ?_; rintro e w2 ⟨rfl, hb2⟩; have H1 := hid (And.intro ((hb2.block _ (by simp)).trans (heap_alloc_last w _)) (((Below.refl w.heap.size w).alloc (Nat.le_refl _) _).trans (hb2.mono (by simp)))); clear hb2; have z0 := cell_at (L := [.int .i64 k, .string key, .float .f64 b, .int .i64 id]) H1.out.1 0 _ rfl; have z1 := cell_at (L := [.int .i64 k, .string key, .float .f64 b, .int .i64 id]) H1.out.1 1 _ rfl; have z2 := cell_at (L := [.int .i64 k, .string key, .float .f64 b, .int .i64 id]) H1.out.1 2 _ rfl; have z3 := cell_at (L := [.int .i64 k, .string key, .float .f64 b, .int .i64 id]) H1.out.1 3 _ rfl)
  all_goals go_ret
  all_goals refine ⟨ret_bool ?_, by first | exact H1.out.2 | exact (Below.refl w.heap.size w).alloc (Nat.le_refl _) _⟩
  all_goals (first | exact HBe.out.symm | (rw [HBe.out, Bool.eq_iff_iff]; simp; done) | (rw [HBe.out, Bool.eq_iff_iff]; simp; omega))
set_option maxRecDepth 100000 in
set_option maxHeartbeats 6400000 in
theorem dright_any (r : Rq) (w : World) : Calls Tryz.prog 61 #[.agg #[.int .i64 r.c, .int .i64 r.st, .int .i64 r.k, .string r.key, .float .f64 r.b, .int .i64 r.id]] w fun e w' => e = .returned (.bool (rightB r)) ∧ Below w.heap.size w w' := by
  have H0 : Hid (RqAt (w.alloc (.cells #[.int .i64 r.c, .int .i64 r.st, .int .i64 r.k, .string r.key, .float .f64 r.b, .int .i64 r.id] 56)) w.heap.size r ∧ Below w.heap.size w (w.alloc (.cells #[.int .i64 r.c, .int .i64 r.st, .int .i64 r.k, .string r.key, .float .f64 r.b, .int .i64 r.id] 56))) := hid ⟨heap_alloc_last w _, (Below.refl w.heap.size w).alloc (Nat.le_refl _) _⟩
  obtain ⟨B, hB⟩ : ∃ B, rightB r = B := ⟨_, rfl⟩
  have HBe : Hid (B = rightB r) := hid hB.symm
  rw [hB]
  clear hB
  obtain ⟨O, hO⟩ : ∃ O, opB r = O := ⟨_, rfl⟩
  have HO := hid (fun u => hO ▸ dop_any r u)
  have HOe := hid hO
  clear hO
  go_enter Tryz.func61, Tryz.ntmps61
  go_wp2_with (go_at_call 99; refine (HO.out _).mono ?_; rintro e w1 ⟨rfl, hb1⟩; have H1 := hid (H0.out.2.trans (hb1.mono H0.out.2.size)); clear hb1)
  all_goals go_ret
  all_goals refine ⟨ret_bool ?_, by first | exact H1.out | exact H0.out.2⟩
  all_goals (rw [HBe.out, rightB, HOe.out, Bool.eq_iff_iff]; simp; try omega)
set_option maxRecDepth 100000 in
set_option maxHeartbeats 6400000 in
theorem dnull_any (r : Rq) (w : World) : Calls Tryz.prog 62 #[.agg #[.int .i64 r.c, .int .i64 r.st, .int .i64 r.k, .string r.key, .float .f64 r.b, .int .i64 r.id]] w fun e w' => e = .returned (.bool (nullB r)) ∧ Below w.heap.size w w' := by
  obtain ⟨c, st, k, key, b, id⟩ := r
  simp only
  have HP := fun (k id : Int) (u : World) => dplain_any ⟨c, st, k, key, b, id⟩ u
  simp only at HP
  have HPk : ∀ k id, plainB ⟨c, st, k, key, b, id⟩ = plainB ⟨c, st, 0, key, b, 0⟩ := fun _ _ => rfl
  simp only [HPk] at HP
  have HPh := hid HP
  obtain ⟨B, hB⟩ : ∃ B, nullB ⟨c, st, k, key, b, id⟩ = B := ⟨_, rfl⟩
  have HNe : Hid (B = (((((decide (c = 0) && decide (st = 0)) && decide (k = 0)) && decide (key.size = 0)) && plainB ⟨c, st, 0, key, b, 0⟩) && decide (id = 0))) := hid (by rw [← hB]; rfl)
  rw [hB]
  clear hB HP HPk
  generalize plainB ⟨c, st, 0, key, b, 0⟩ = P at *
  have hz2 := none_size key
  cases hd : decide (key.size = 0) <;> rw [hd] at HNe hz2 <;> cases P <;>
  · clear hd
    go_enter Tryz.func62, Tryz.ntmps62
    go_wp2_with (go_at_call 100; refine (HPh.out _ _ _).mono ?_; rintro e w1 ⟨rfl, hb1⟩; have H1 := hid (((Below.refl w.heap.size w).alloc (Nat.le_refl _) _).trans (hb1.mono (by simp))); clear hb1)
    all_goals go_ret
    all_goals refine ⟨ret_bool ?_, by first | exact H1.out | exact (Below.refl w.heap.size w).alloc (Nat.le_refl _) _⟩
    all_goals (rw [HNe.out]; first | (rw [Bool.eq_iff_iff]; simp_all; done) | (rw [Bool.eq_iff_iff]; simp_all; omega))
set_option maxRecDepth 100000 in
theorem dresult_any (c : Int) (f : Nat) (w : World) : Calls Tryz.prog 115 #[.agg #[.int .i64 c, .float .f64 f]] w fun e w' => e = .returned (.bool (rsB c)) ∧ Below w.heap.size w w' := by
  have HB : Hid (Below w.heap.size w (w.alloc (.cells #[.int .i64 c, .float .f64 f] 50))) := hid ((Below.refl _ _).alloc (Nat.le_refl _) _)
  obtain ⟨B, hB⟩ : ∃ B, rsB c = B := ⟨_, rfl⟩
  have HBe := hid hB
  rw [hB]
  clear hB
  go_enter Tryz.func115, Tryz.ntmps115
  go_wp2
  all_goals go_ret
  all_goals refine ⟨ret_bool ?_, HB.out⟩
  all_goals (rw [← HBe.out, rsB, Bool.eq_iff_iff]; simp; try omega)
end Go.Proofs.YtecidbdbdnnglaaGreat

/- The program's text of a request, of a result; are two requests the same. -/
namespace Go.Proofs.YtecidbdbdnnglaaGreat
open Go.RowKit

set_option maxRecDepth 100000 in
set_option maxHeartbeats 6400000 in
theorem dresultText_any (c : Int) (f : Nat) (hf : f < 18446744073709551616) (w : World) : Calls Tryz.prog 98 #[.agg #[.int .i64 c, .float .f64 f]] w fun e' w' => e' = .returned (.tuple #[.string (rsT c f), .int .i64 (rsE c)]) ∧ Below w.heap.size w w' := by
  have H0 : Hid (RsAt (w.alloc (.cells #[.int .i64 c, .float .f64 f] 50)) w.heap.size c f ∧ Below w.heap.size w (w.alloc (.cells #[.int .i64 c, .float .f64 f] 50))) := hid ⟨heap_alloc_last w _, (Below.refl w.heap.size w).alloc (Nat.le_refl _) _⟩
  have HR : Hid (∀ X, rsB c = X → ∀ u, Calls Tryz.prog 115 #[.agg #[.int .i64 c, .float .f64 f]] u fun e w' => e = .returned (.bool X) ∧ Below u.heap.size u w') := hid (fun X hX u => by rw [← hX]; exact dresult_any c f u)
  cases hR : rsB c with
  | false =>
    rw [show rsT c f = ⟨#[]⟩ by rw [rsT, hR]; rfl, show rsE c = 1 by rw [rsE, hR]; rfl]
    have HRb := hid (HR.out _ hR)
    clear hR hf
    go_enter Tryz.func98, Tryz.ntmps98
    go_wp2_with (go_at_call 115; refine (HRb.out _).mono ?_; rintro e w1 ⟨rfl, hb1⟩; have H1 := hid (H0.out.2.trans (hb1.mono H0.out.2.size)); clear hb1)
    go_ret2
    exact ⟨rfl, H1.out⟩
  | true =>
    have HRb := hid (HR.out _ hR)
    rw [show rsE c = 0 by rw [rsE, hR]; rfl]
    have hc : 0 ≤ c ∧ c ≤ 8 := by simpa [rsB] using hR
    obtain ⟨C, rfl⟩ : ∃ C : Nat, c = (C : Int) := ⟨c.toNat, by omega⟩
    have HT : Hid (rsT (C : Int) f = ⟨([] ++ be 1 C ++ be 8 (canW f)).toArray⟩) := hid (by rw [rsT, hR]; rfl)
    rw [HT.out]
    have HZ := hid (And.intro (show C < 256 by omega) (canW_lt hf))
    have HKB : Hid (∀ u, Calls Tryz.prog 97 #[.float .f64 f] u fun e w' => e = .returned (.int .u64 (canW f : Nat)) ∧ w' = u) := hid (fun u => bits_any f u)
    clear hR hc hf HT
    generalize canW f = W8 at HZ HKB ⊢
    go_enter Tryz.func98, Tryz.ntmps98
    go_wp2_with (first
      | (go_at_call 115; refine (HRb.out _).mono ?_; rintro e w1 ⟨rfl, hb1⟩; have H1 := hid (And.intro (H0.out.1.keep hb1) (H0.out.2.trans (hb1.mono H0.out.2.size))); clear hb1; obtain ⟨z0, z1⟩ := H1.out.1.cells)
      | (go_at_call 53; refine (pwnew 9 (by decide) _).mono ?_; rintro e w3 ⟨rfl, h3⟩; have T0 := hid h3; clear h3; have HQ0 : Hid (RsAt w3 w.heap.size (C : Int) f) := hid ((T0.out.2.block _ (lt_of_blk H1.out.1)).trans H1.out.1); clear z0 z1; obtain ⟨z0, z1⟩ := HQ0.out.cells)
      | (go_at_call 96; refine (pwbits 9 (by decide) (by decide) _ _ _ ([] ++ be 1 C) W8 HZ.out.2 (by simp only [List.length_append, List.length_nil, be_len]; decide) (by exact T1.out)).mono ?_; rintro e w5 ⟨rfl, h5⟩; have T2 := hid h5; clear h5)
      | (go_at_call 55; refine (pwbyte 9 (by decide) (by decide) _ _ _ [] C HZ.out.1 (by decide) (by exact T0.out)).mono ?_; rintro e w4 ⟨rfl, h4⟩; have T1 := hid h4; clear h4; have HQ1 : Hid (RsAt w4 w.heap.size (C : Int) f) := hid ((T1.out.2.block _ (lt_of_blk H1.out.1)).trans H1.out.1); clear z0 z1; obtain ⟨z0, z1⟩ := HQ1.out.cells)
      | (go_at_call 97; refine (HKB.out _).mono ?_; rintro e w9 ⟨rfl, rfl⟩)
      | (go_at_call 60; refine (pwdone 9 _ _ _ _ (by exact T2.out)).mono ?_; rintro e wd ⟨rfl, hd⟩; have HDn := hid (H1.out.2.trans (hd.mono H1.out.2.size)); clear hd))
    go_ret2
    exact ⟨rfl, HDn.out⟩
end Go.Proofs.YtecidbdbdnnglaaGreat

/- What the program reads any bytes as: a request, a result. -/
namespace Go.Proofs.YtecidbdbdnnglaaGreat
open Go.RowKit

theorem rq_c {w : World} {b : Nat} {r : Rq} (h : RqAt w b r) (v : Int) : RqAt (w.setCell ⟨b, 0, none⟩ (.int .i64 v)) b { r with c := v } := (blk_set h 0 _).trans (by simp)
/-- While bytes are read: the result's block, the program's reader at x. -/
structure QrSt (w0 w : World) (x : Rd) : Prop where
  res : RqAt w w0.heap.size zeroQ
  rd : RdAt w (w0.heap.size + 1) x.s x.sh
  bel : Below w0.heap.size w0 w
theorem QrSt.kept {w0 w w' : World} {x y : Rd} (h : QrSt w0 w x) (k : Kept (w0.heap.size + 1) none w w') (hr : RdAt w' (w0.heap.size + 1) y.s y.sh) : QrSt w0 w' y :=
  ⟨(k.block _ (lt_of_blk h.res) (by omega) (by simp)).trans h.res, hr, h.bel.trans (k.below (Nat.le_of_lt (lt_of_blk h.res)) (by omega) (fun g hg => by cases hg))⟩
theorem QrSt.keep {w0 w w' : World} {x : Rd} (h : QrSt w0 w x) (hb : Below w.heap.size w w') : QrSt w0 w' x :=
  ⟨h.res.keep hb, (hb.block _ (lt_of_blk h.rd)).trans h.rd, h.bel.trans (hb.mono h.bel.size)⟩
theorem QrSt.put {w0 w : World} {x : Rd} (h : QrSt w0 w x) {b : Nat} (hb : w0.heap.size + 2 ≤ b) (o : Nat) (v : Value) : QrSt w0 (w.setCell ⟨b, o, none⟩ v) x :=
  ⟨(Below.heap_setCell _ _ _ _ (by simp; omega)).trans h.res, (Below.heap_setCell _ _ _ _ (by simp; omega)).trans h.rd, h.bel.setCell (p := ⟨b, o, none⟩) (by simp; omega) v⟩
/-- .. and what is read so far, at block b. -/
structure QxSt (w0 w : World) (x : Rd) (b : Nat) (r : Rq) : Prop where
  st : QrSt w0 w x
  rq : RqAt w b r
  hb : w0.heap.size + 2 ≤ b
theorem QxSt.st0 {w0 w : World} {x : Rd} {b : Nat} {r : Rq} (h : QxSt w0 w x b r) (v : Int) : QxSt w0 (w.setCell ⟨b, 0, none⟩ (.int .i64 v)) x b { r with c := v } := ⟨h.st.put h.hb 0 _, rq_c h.rq v, h.hb⟩
theorem QxSt.st1 {w0 w : World} {x : Rd} {b : Nat} {r : Rq} (h : QxSt w0 w x b r) (v : Int) : QxSt w0 (w.setCell ⟨b, 1, none⟩ (.int .i64 v)) x b { r with st := v } := ⟨h.st.put h.hb 1 _, rq_st h.rq v, h.hb⟩
theorem QxSt.st2 {w0 w : World} {x : Rd} {b : Nat} {r : Rq} (h : QxSt w0 w x b r) (v : Int) : QxSt w0 (w.setCell ⟨b, 2, none⟩ (.int .i64 v)) x b { r with k := v } := ⟨h.st.put h.hb 2 _, rq_k h.rq v, h.hb⟩
theorem QxSt.st3 {w0 w : World} {x : Rd} {b : Nat} {r : Rq} (h : QxSt w0 w x b r) (v : ByteArray) : QxSt w0 (w.setCell ⟨b, 3, none⟩ (.string v)) x b { r with key := v } := ⟨h.st.put h.hb 3 _, rq_key h.rq v, h.hb⟩
theorem QxSt.st4 {w0 w : World} {x : Rd} {b : Nat} {r : Rq} (h : QxSt w0 w x b r) (v : Nat) : QxSt w0 (w.setCell ⟨b, 4, none⟩ (.float .f64 v)) x b { r with b := v } := ⟨h.st.put h.hb 4 _, rq_b h.rq v, h.hb⟩
theorem QxSt.st5 {w0 w : World} {x : Rd} {b : Nat} {r : Rq} (h : QxSt w0 w x b r) (v : Int) : QxSt w0 (w.setCell ⟨b, 5, none⟩ (.int .i64 v)) x b { r with id := v } := ⟨h.st.put h.hb 5 _, rq_id h.rq v, h.hb⟩
theorem QxSt.kept {w0 w w' : World} {x y : Rd} {b : Nat} {r : Rq} (h : QxSt w0 w x b r) (k : Kept (w0.heap.size + 1) none w w') (hr : RdAt w' (w0.heap.size + 1) y.s y.sh) : QxSt w0 w' y b r :=
  ⟨h.st.kept k hr, (k.block _ (lt_of_blk h.rq) (by have := h.hb; omega) (by simp)).trans h.rq, h.hb⟩
theorem QxSt.keep {w0 w w' : World} {x : Rd} {b : Nat} {r : Rq} (h : QxSt w0 w x b r) (hb : Below w.heap.size w w') : QxSt w0 w' x b r := ⟨h.st.keep hb, h.rq.keep hb, h.hb⟩
/-- While bytes are read as a result. -/
structure ZrSt (w0 w : World) (x : Rd) : Prop where
  res : RsAt w w0.heap.size 0 0
  rd : RdAt w (w0.heap.size + 1) x.s x.sh
  bel : Below w0.heap.size w0 w
theorem ZrSt.kept {w0 w w' : World} {x y : Rd} (h : ZrSt w0 w x) (k : Kept (w0.heap.size + 1) none w w') (hr : RdAt w' (w0.heap.size + 1) y.s y.sh) : ZrSt w0 w' y :=
  ⟨(k.block _ (lt_of_blk h.res) (by omega) (by simp)).trans h.res, hr, h.bel.trans (k.below (Nat.le_of_lt (lt_of_blk h.res)) (by omega) (fun g hg => by cases hg))⟩
theorem ZrSt.keep {w0 w w' : World} {x : Rd} (h : ZrSt w0 w x) (hb : Below w.heap.size w w') : ZrSt w0 w' x :=
  ⟨h.res.keep hb, (hb.block _ (lt_of_blk h.rd)).trans h.rd, h.bel.trans (hb.mono h.bel.size)⟩
theorem ZrSt.one {w0 w w' : World} {x : Rd} (h : ZrSt w0 w x) {b : Nat} (hb : w0.heap.size + 2 ≤ b) (ho : One b w w') : ZrSt w0 w' x :=
  ⟨(ho.block _ (by omega)).trans h.res, (ho.block _ (by omega)).trans h.rd, ho.below h.bel (by omega)⟩
structure ZxSt (w0 w : World) (x : Rd) (b : Nat) (c : Int) (f : Nat) : Prop where
  st : ZrSt w0 w x
  rs : RsAt w b c f
  hb : w0.heap.size + 2 ≤ b
theorem ZxSt.keep {w0 w w' : World} {x : Rd} {b : Nat} {c : Int} {f : Nat} (h : ZxSt w0 w x b c f) (hb : Below w.heap.size w w') : ZxSt w0 w' x b c f := ⟨h.st.keep hb, h.rs.keep hb, h.hb⟩
set_option maxRecDepth 100000 in
set_option maxHeartbeats 12800000 in
theorem dreadResult_any (t : ByteArray) (w : World) : Calls Tryz.prog 88 #[.string t] w fun e w' => e = .returned (.tuple #[.agg #[.int .i64 (rsC t), .float .f64 (rsF t)], .int .i64 (rsR t)]) ∧ Below w.heap.size w w' := by
  have H0 : Hid (RsAt (w.alloc (.cells #[.int .i64 0, .float .f64 0] 50)) w.heap.size 0 0 ∧ Below w.heap.size w (w.alloc (.cells #[.int .i64 0, .float .f64 0] 50))) := hid ⟨heap_alloc_last w _, (Below.refl _ _).alloc (Nat.le_refl _) _⟩
  have hbx := (Below.refl (w.alloc (.cells #[.int .i64 0, .float .f64 0] 50)).heap.size (w.alloc (.cells #[.int .i64 0, .float .f64 0] 50))).alloc (Nat.le_refl _) (.cells #[.string t, .bool false] 121)
  have H1 : Hid (ZrSt w ((w.alloc (.cells #[.int .i64 0, .float .f64 0] 50)).alloc (.cells #[.string t, .bool false] 121)) ⟨t, false⟩) := hid ⟨H0.out.1.keep hbx, snd_alloc w _ _, H0.out.2.trans (hbx.mono (by simp))⟩
  have HFr : Hid (∀ (X : Bool), (canW (rsBits t) == rsBits t) = X → ∀ u, Calls Tryz.prog 86 #[.int .u64 ((rsBits t : Nat) : Int)] u fun e w' => e = .returned (.tuple #[.float .f64 (fromW (rsBits t)), .bool X]) ∧ w' = u) := hid (fun X hX u => by rw [← hX]; exact from_any (rsBits t) u)
  have HR : Hid (∀ (X : Bool), rsB (rN t false 1 : Int) = X → ∀ u, Calls Tryz.prog 115 #[.agg #[.int .i64 (rN t false 1 : Int), .float .f64 (fromW (rsBits t))]] u fun e w' => e = .returned (.bool X) ∧ Below u.heap.size u w') := hid (fun X hX u => by rw [← hX]; exact dresult_any (rN t false 1 : Int) (fromW (rsBits t)) u)
  have HOk : Hid (okRs t = (((canW (rsBits t) == rsBits t) && decide (endOf (rsEnd t).s (rsEnd t).sh = 0)) && rsB (rN t false 1 : Int))) := hid (by
    have h : decide (rsCode t ≤ 8) = rsB (rN t false 1 : Int) := by
      rw [rsB, Bool.eq_iff_iff]
      show decide (rN t false 1 ≤ 8) = true ↔ _
      simp only [Bool.and_eq_true, decide_eq_true_eq]
      omega
    rw [okRs, h])
  clear hbx
  by_cases he : endOf (rsEnd t).s (rsEnd t).sh = 0
  · have heb : (endOf (rsEnd t).s (rsEnd t).sh != 0) = false := by rw [he]; rfl
    cases hD : (canW (rsBits t) == rsBits t) with
    | false =>
      have HFb := hid (HFr.out _ hD)
      have HV : Hid (rsC t = 0 ∧ rsF t = 0 ∧ rsR t = 5) := hid (by have h : okRs t = false := (by rw [HOk.out, hD]; simp); rw [rsC, rsF, rsR, h]; simp)
      clear hD HFr HR HOk he
      go_enter Tryz.func88, Tryz.ntmps88
      go_wp2_with (first
        | (have := HRs; refine wl_store_rs rfl _ _ rfl w.heap.size rfl 0 0 0 0 rfl HRs.out.1 ?_; intro wz Hz)
        | (go_at_call 115; refine (HRb.out _).mono ?_; rintro e w10 ⟨rfl, hb10⟩; have H10 := hid (H4.out.keep hb10); clear hb10; (try clear z0 z1); obtain ⟨z0, z1⟩ := H10.out.rs.cells; have HRs : Hid (RsAt w10 w.heap.size 0 0 ∧ Below w.heap.size w w10) := hid ⟨H10.out.st.res, H10.out.st.bel⟩)
        | (go_at_call 44; refine (end_any _ _ _ _ H4.out.st.rd).mono ?_; rintro e w11 ⟨rfl, rfl⟩; have HRs : Hid (RsAt w11 w.heap.size 0 0 ∧ Below w.heap.size w w11) := hid ⟨H4.out.st.res, H4.out.st.bel⟩)
        | (have := H3; refine wl_store_rs rfl _ _ rfl w12.heap.size rfl 0 (rN t false 1 : Int) 0 (fromW (rsBits t)) rfl (heap_alloc_last w12 _) ?_; intro w4 Hq; have hax := (Below.refl w12.heap.size w12).alloc (Nat.le_refl _) (.cells #[.int .i64 0, .float .f64 0] 50); have H4 : Hid (ZxSt w w4 (rsEnd t) w12.heap.size (rN t false 1 : Int) (fromW (rsBits t))) := hid ⟨(H3.out.keep hax).one (lt_of_blk H3.out.rd) Hq.out.2, Hq.out.1, lt_of_blk H3.out.rd⟩; clear hax; obtain ⟨z0, z1⟩ := H4.out.rs.cells)
        | (go_at_call 86; refine (HFb.out _).mono ?_; rintro e w12 ⟨rfl, rfl⟩; have H3 : Hid (ZrSt w w12 (rsEnd t)) := H3p)
        | (go_at_call 87; refine (rbits_any _ _ _ _ H2.out.rd).mono ?_; rintro e w3 ⟨rfl, hr, hk⟩; have H3p := hid (H2.out.kept (y := rsEnd t) hk hr); clear hr hk)
        | (go_at_call 36; refine (rbyte_any _ _ _ _ H1.out.rd).mono ?_; rintro e w2 ⟨rfl, hr, hk⟩; have H2 := hid (H1.out.kept (y := rd1 t) hk hr); clear hr hk)
        | (go_at_call 35; refine (read_any _ _).mono ?_; rintro e w1 ⟨rfl, rfl⟩))
      refine ret_pair (s := 2) (s2 := 3) (ad := ⟨w.heap.size, 0, none⟩) rfl rfl (load_rs _ _ 0 0 Hz.out.1) rfl rfl ?_
      refine ⟨?_, Hz.out.2.below HRs.out.2 (Nat.le_refl _)⟩
      rw [HV.out.1, HV.out.2.1, HV.out.2.2]
      rfl
    | true =>
      have HFb := hid (HFr.out _ hD)
      cases hX : rsB (rN t false 1 : Int) with
      | false =>
        have HRb := hid (HR.out _ hX)
        have HV : Hid (rsC t = 0 ∧ rsF t = 0 ∧ rsR t = 5) := hid (by have h : okRs t = false := (by rw [HOk.out, hX]; simp); rw [rsC, rsF, rsR, h]; simp)
        clear hD HFr HR HOk he hX
        go_enter Tryz.func88, Tryz.ntmps88
        go_wp2_with (first
          | (have := HRs; refine wl_store_rs rfl _ _ rfl w.heap.size rfl 0 0 0 0 rfl HRs.out.1 ?_; intro wz Hz)
          | (go_at_call 115; refine (HRb.out _).mono ?_; rintro e w10 ⟨rfl, hb10⟩; have H10 := hid (H4.out.keep hb10); clear hb10; (try clear z0 z1); obtain ⟨z0, z1⟩ := H10.out.rs.cells; have HRs : Hid (RsAt w10 w.heap.size 0 0 ∧ Below w.heap.size w w10) := hid ⟨H10.out.st.res, H10.out.st.bel⟩)
          | (go_at_call 44; refine (end_any _ _ _ _ H4.out.st.rd).mono ?_; rintro e w11 ⟨rfl, rfl⟩; have HRs : Hid (RsAt w11 w.heap.size 0 0 ∧ Below w.heap.size w w11) := hid ⟨H4.out.st.res, H4.out.st.bel⟩)
          | (have := H3; refine wl_store_rs rfl _ _ rfl w12.heap.size rfl 0 (rN t false 1 : Int) 0 (fromW (rsBits t)) rfl (heap_alloc_last w12 _) ?_; intro w4 Hq; have hax := (Below.refl w12.heap.size w12).alloc (Nat.le_refl _) (.cells #[.int .i64 0, .float .f64 0] 50); have H4 : Hid (ZxSt w w4 (rsEnd t) w12.heap.size (rN t false 1 : Int) (fromW (rsBits t))) := hid ⟨(H3.out.keep hax).one (lt_of_blk H3.out.rd) Hq.out.2, Hq.out.1, lt_of_blk H3.out.rd⟩; clear hax; obtain ⟨z0, z1⟩ := H4.out.rs.cells)
          | (go_at_call 86; refine (HFb.out _).mono ?_; rintro e w12 ⟨rfl, rfl⟩; have H3 : Hid (ZrSt w w12 (rsEnd t)) := H3p)
          | (go_at_call 87; refine (rbits_any _ _ _ _ H2.out.rd).mono ?_; rintro e w3 ⟨rfl, hr, hk⟩; have H3p := hid (H2.out.kept (y := rsEnd t) hk hr); clear hr hk)
          | (go_at_call 36; refine (rbyte_any _ _ _ _ H1.out.rd).mono ?_; rintro e w2 ⟨rfl, hr, hk⟩; have H2 := hid (H1.out.kept (y := rd1 t) hk hr); clear hr hk)
          | (go_at_call 35; refine (read_any _ _).mono ?_; rintro e w1 ⟨rfl, rfl⟩))
        refine ret_pair (s := 2) (s2 := 3) (ad := ⟨w.heap.size, 0, none⟩) rfl rfl (load_rs _ _ 0 0 Hz.out.1) rfl rfl ?_
        refine ⟨?_, Hz.out.2.below HRs.out.2 (Nat.le_refl _)⟩
        rw [HV.out.1, HV.out.2.1, HV.out.2.2]
        rfl
      | true =>
        have HRb := hid (HR.out _ hX)
        have HV : Hid (rsC t = rsCode t ∧ rsF t = fromW (rsBits t) ∧ rsR t = 0) := hid (by have h : okRs t = true := (by rw [HOk.out, hX, hD, he]; simp); rw [rsC, rsF, rsR, h]; simp)
        clear hD HFr HR HOk he hX
        go_enter Tryz.func88, Tryz.ntmps88
        go_wp2_with (first
          | (have := HRs; refine wl_store_rs rfl _ _ rfl w.heap.size rfl 0 (rN t false 1 : Int) 0 (fromW (rsBits t)) rfl HRs.out.1 ?_; intro wz Hz)
          | (go_at_call 115; refine (HRb.out _).mono ?_; rintro e w10 ⟨rfl, hb10⟩; have H10 := hid (H4.out.keep hb10); clear hb10; (try clear z0 z1); obtain ⟨z0, z1⟩ := H10.out.rs.cells; have HRs : Hid (RsAt w10 w.heap.size 0 0 ∧ Below w.heap.size w w10) := hid ⟨H10.out.st.res, H10.out.st.bel⟩)
          | (go_at_call 44; refine (end_any _ _ _ _ H4.out.st.rd).mono ?_; rintro e w11 ⟨rfl, rfl⟩; have HRs : Hid (RsAt w11 w.heap.size 0 0 ∧ Below w.heap.size w w11) := hid ⟨H4.out.st.res, H4.out.st.bel⟩)
          | (have := H3; refine wl_store_rs rfl _ _ rfl w12.heap.size rfl 0 (rN t false 1 : Int) 0 (fromW (rsBits t)) rfl (heap_alloc_last w12 _) ?_; intro w4 Hq; have hax := (Below.refl w12.heap.size w12).alloc (Nat.le_refl _) (.cells #[.int .i64 0, .float .f64 0] 50); have H4 : Hid (ZxSt w w4 (rsEnd t) w12.heap.size (rN t false 1 : Int) (fromW (rsBits t))) := hid ⟨(H3.out.keep hax).one (lt_of_blk H3.out.rd) Hq.out.2, Hq.out.1, lt_of_blk H3.out.rd⟩; clear hax; obtain ⟨z0, z1⟩ := H4.out.rs.cells)
          | (go_at_call 86; refine (HFb.out _).mono ?_; rintro e w12 ⟨rfl, rfl⟩; have H3 : Hid (ZrSt w w12 (rsEnd t)) := H3p)
          | (go_at_call 87; refine (rbits_any _ _ _ _ H2.out.rd).mono ?_; rintro e w3 ⟨rfl, hr, hk⟩; have H3p := hid (H2.out.kept (y := rsEnd t) hk hr); clear hr hk)
          | (go_at_call 36; refine (rbyte_any _ _ _ _ H1.out.rd).mono ?_; rintro e w2 ⟨rfl, hr, hk⟩; have H2 := hid (H1.out.kept (y := rd1 t) hk hr); clear hr hk)
          | (go_at_call 35; refine (read_any _ _).mono ?_; rintro e w1 ⟨rfl, rfl⟩))
        refine ret_pair (s := 2) (s2 := 3) (ad := ⟨w.heap.size, 0, none⟩) rfl rfl (load_rs _ _ (rN t false 1 : Int) (fromW (rsBits t)) Hz.out.1) rfl rfl ?_
        refine ⟨?_, Hz.out.2.below HRs.out.2 (Nat.le_refl _)⟩
        rw [HV.out.1, HV.out.2.1, HV.out.2.2]
        rfl
  · have heb : (endOf (rsEnd t).s (rsEnd t).sh != 0) = true := by simpa using he
    have HFb := hid (HFr.out _ rfl)
    have HV : Hid (rsC t = 0 ∧ rsF t = 0 ∧ rsR t = 5) := hid (by have h : okRs t = false := (by rw [HOk.out]; simp [he]); rw [rsC, rsF, rsR, h]; simp)
    clear HFr HR HOk he
    go_enter Tryz.func88, Tryz.ntmps88
    go_wp2_with (first
      | (have := HRs; refine wl_store_rs rfl _ _ rfl w.heap.size rfl 0 0 0 0 rfl HRs.out.1 ?_; intro wz Hz)
      | (go_at_call 115; refine (HRb.out _).mono ?_; rintro e w10 ⟨rfl, hb10⟩; have H10 := hid (H4.out.keep hb10); clear hb10; (try clear z0 z1); obtain ⟨z0, z1⟩ := H10.out.rs.cells; have HRs : Hid (RsAt w10 w.heap.size 0 0 ∧ Below w.heap.size w w10) := hid ⟨H10.out.st.res, H10.out.st.bel⟩)
      | (go_at_call 44; refine (end_any _ _ _ _ H4.out.st.rd).mono ?_; rintro e w11 ⟨rfl, rfl⟩; have HRs : Hid (RsAt w11 w.heap.size 0 0 ∧ Below w.heap.size w w11) := hid ⟨H4.out.st.res, H4.out.st.bel⟩)
      | (have := H3; refine wl_store_rs rfl _ _ rfl w12.heap.size rfl 0 (rN t false 1 : Int) 0 (fromW (rsBits t)) rfl (heap_alloc_last w12 _) ?_; intro w4 Hq; have hax := (Below.refl w12.heap.size w12).alloc (Nat.le_refl _) (.cells #[.int .i64 0, .float .f64 0] 50); have H4 : Hid (ZxSt w w4 (rsEnd t) w12.heap.size (rN t false 1 : Int) (fromW (rsBits t))) := hid ⟨(H3.out.keep hax).one (lt_of_blk H3.out.rd) Hq.out.2, Hq.out.1, lt_of_blk H3.out.rd⟩; clear hax; obtain ⟨z0, z1⟩ := H4.out.rs.cells)
      | (go_at_call 86; refine (HFb.out _).mono ?_; rintro e w12 ⟨rfl, rfl⟩; have H3 : Hid (ZrSt w w12 (rsEnd t)) := H3p)
      | (go_at_call 87; refine (rbits_any _ _ _ _ H2.out.rd).mono ?_; rintro e w3 ⟨rfl, hr, hk⟩; have H3p := hid (H2.out.kept (y := rsEnd t) hk hr); clear hr hk)
      | (go_at_call 36; refine (rbyte_any _ _ _ _ H1.out.rd).mono ?_; rintro e w2 ⟨rfl, hr, hk⟩; have H2 := hid (H1.out.kept (y := rd1 t) hk hr); clear hr hk)
      | (go_at_call 35; refine (read_any _ _).mono ?_; rintro e w1 ⟨rfl, rfl⟩))
    refine ret_pair (s := 2) (s2 := 3) (ad := ⟨w.heap.size, 0, none⟩) rfl rfl (load_rs _ _ 0 0 Hz.out.1) rfl rfl ?_
    refine ⟨?_, Hz.out.2.below HRs.out.2 (Nat.le_refl _)⟩
    rw [HV.out.1, HV.out.2.1, HV.out.2.2]
    rfl
end Go.Proofs.YtecidbdbdnnglaaGreat

/- The program's texts of what is signed: of what is prepared, of a state. -/
namespace Go.Proofs.YtecidbdbdnnglaaGreat
open Go.RowKit

/-- Are all numbers Longs? Their bytes, one behind the other. -/
def sgB (l : List Int) : Bool := l.all (inR 4 ·)
def sgL (l : List Int) : List UInt8 := l.flatMap (fun x => be 4 x.toNat)
def sgT (m : Nat) (l : List Int) (x : ByteArray) : ByteArray := if sgB l then ⟨(be 1 m ++ sgL l).toArray⟩ ++ x else ⟨#[]⟩
def sgE (l : List Int) : Int := if sgB l then 0 else 1
theorem sg_get {l : List Int} {j : Nat} (h : j < l.length) : l[j]? = some (l.getD j 0) := by simp [h]
theorem sgL_snoc (l : List Int) (j : Nat) (hj : j < l.length) : sgL (l.take (j + 1)) = sgL (l.take j) ++ be 4 (l.getD j 0).toNat := by
  rw [List.take_add_one, sg_get hj, sgL, List.flatMap_append]
  simp [sgL]
theorem sgB_snoc (l : List Int) (j : Nat) (hj : j < l.length) : sgB (l.take (j + 1)) = (sgB (l.take j) && inR 4 (l.getD j 0)) := by
  rw [List.take_add_one, sg_get hj, sgB, List.all_append]
  simp [sgB]
theorem sgB_at {l : List Int} (h : sgB l = true) (j : Nat) (hj : j < l.length) : inR 4 (l.getD j 0) = true := by
  rw [sgB, List.all_eq_true] at h
  exact h _ (List.mem_of_getElem? (sg_get hj))
theorem sgL_len (l : List Int) : (sgL l).length = 4 * l.length := by
  induction l with
  | nil => rfl
  | cons x l ih =>
    rw [sgL, List.flatMap_cons, List.length_append, be_len, List.length_cons]
    rw [sgL] at ih
    omega
theorem wl_len (lim : Int) (l : List UInt8) (er n : Int) : (wL lim l er 4 n).length ≤ l.length + 4 := by
  rw [wL]
  split
  · rw [List.length_append, be_len]
    omega
  · omega
theorem we_er (lim : Int) (l : List UInt8) (er n : Int) (h : er ≠ 0 ∨ inR 4 n = false) : wE lim l er 4 n ≠ 0 := by
  rw [wE]
  unfold adm
  split
  · next h1 =>
    rcases h with h | h
    · exact absurd h1 h
    · rw [h]
      simp
  · next h1 => exact h1
theorem ints_new (w : World) (l : List Int) (t : TypeId) : IntsIn (w.alloc (.cells (l.map (Value.int .i64)).toArray t)) (some ⟨w.heap.size, 0, none⟩) l :=
  .inr ⟨w.heap.size, 0, rfl, by simp, fun j z hz => by
    rw [Nat.zero_add]
    exact cell_at (heap_alloc_last w _) j _ (by rw [List.getElem?_map, hz]; rfl)⟩
theorem sg_three (e v s : Int) : sgB [e, v, s] = spB e v s := by simp [sgB, spB, Bool.and_assoc]
end Go.Proofs.YtecidbdbdnnglaaGreat

/- Which text holds the contracts of deeds: here the trial's (DtA). For landed code: change this import. -/

/- Of an Ask the request; the laws' own sign of life. -/
namespace Go.Proofs.YtecidbdbdnnglaaGreat
open Go.RowKit

section
variable {P : Program} {ops : Array Oper} {o : Oper} {a : Act} {w : World} {Q : Exit → Act → World → Prop} {K : Act → World → Prop}
theorem ret_oneD {f : Func} {a : Act} {w : World} {Q : Ending → World → Prop} {s : Nat} {t : TypeId} {ad : Addr} {v : Value} (hr : f.results = #[.cell s t]) (hs : a.tmps.getD s undef = .pointer (some ad)) (hl : (loadVar t ad).run Tryz.prog w = .ok v w) (hd : a.defers = [])
    (h : Q (.returned v) w) : bodyPost Tryz.prog f Q .ret a w := by
  refine bodyPost_ret (v := v) ?_ hd h
  have h1 : a.tmps.getD s undef = .pointer (some ad) := hs
  simp [results, hr, -Array.getD_eq_getD_getElem?, h1, asAddr, hl]
theorem wpOp_d {i : Nat} (hi : ops[i]? = some o) (hw : Region.wanted o (yielded ops a.tmps) = true) (h : ∀ K' : Act → World → Prop, (∀ a w, K a w → K' a w) → o.wp P a w K' Q) : wpOp P ops Q i K a w := by
  unfold Go.wpOp
  simp only [hi, hw, if_true]
  exact .inl (h _ (fun _ _ h => h))
theorem owp_store_rq (p x : Operand) (ho : o.op = .store 56 p x) (b : Nat) (hp : a.eval p = .pointer (some ⟨b, 0, none⟩)) (r0 r : Rq) (hx : a.eval x = .agg #[.int .i64 r.c, .int .i64 r.st, .int .i64 r.k, .string r.key, .float .f64 r.b, .int .i64 r.id]) (hR : RqAt w b r0)
    (h : ∀ w', Hid (RqAt w' b r ∧ One b w w') → K (a.put o.dst undef) w') : o.wp Tryz.prog a w K Q :=
  wp_store_mid (P := Tryz.prog) 56 p x ho b 0 #[.int .i64 r.c, .int .i64 r.st, .int .i64 r.k, .string r.key, .float .f64 r.b, .int .i64 r.id] hp hx (rq_there hR) (by kernel_rfl) (by simp [Value.oneCell']) (h _ ⟨rq_all hR, one_cells b _ 0 w⟩)
end
/-- An Ask in a variable. -/
def AkAt (w : World) (b : Nat) (a : Rq) : Prop := w.heap[b]? = some (.cells #[.int .i64 a.c, .int .i64 a.st, .int .i64 a.k, .string a.key, .int .u64 (a.b : Int), .int .i64 a.id] 37 (0, 0))
theorem AkAt.cells {w : World} {b : Nat} {a : Rq} (h : AkAt w b a) : (w.cell? ⟨b, 0, none⟩ = some (.int .i64 a.c) ∧ w.cell? ⟨b, 1, none⟩ = some (.int .i64 a.st)) ∧ w.cell? ⟨b, 2, none⟩ = some (.int .i64 a.k) ∧ w.cell? ⟨b, 3, none⟩ = some (.string a.key) ∧ w.cell? ⟨b, 4, none⟩ = some (.int .u64 (a.b : Int)) ∧ w.cell? ⟨b, 5, none⟩ = some (.int .i64 a.id) :=
  ⟨⟨cell_at h 0 _ rfl, cell_at h 1 _ rfl⟩, cell_at h 2 _ rfl, cell_at h 3 _ rfl, cell_at h 4 _ rfl, cell_at h 5 _ rfl⟩
theorem AkAt.keep {w w' : World} {b : Nat} {a : Rq} (h : AkAt w b a) (hb : Below w.heap.size w w') : AkAt w' b a := (hb.block b (lt_of_blk h)).trans h
set_option maxRecDepth 100000 in
set_option maxHeartbeats 3200000 in
theorem drequest_any (a : Rq) (w : World) : Calls Tryz.prog 17 #[.agg #[.int .i64 a.c, .int .i64 a.st, .int .i64 a.k, .string a.key, .int .u64 (a.b : Int), .int .i64 a.id]] w fun e w' => e = .returned (.agg #[.int .i64 a.c, .int .i64 a.st, .int .i64 a.k, .string a.key, .float .f64 a.b, .int .i64 a.id]) ∧ Below w.heap.size w w' := by
  have H0 : Hid (AkAt ((w.alloc (.cells #[.int .i64 a.c, .int .i64 a.st, .int .i64 a.k, .string a.key, .int .u64 (a.b : Int), .int .i64 a.id] 37)).alloc (.cells #[.int .i64 0, .int .i64 0, .int .i64 0, .string ⟨#[]⟩, .float .f64 0, .int .i64 0] 56)) w.heap.size a ∧ RqAt ((w.alloc (.cells #[.int .i64 a.c, .int .i64 a.st, .int .i64 a.k, .string a.key, .int .u64 (a.b : Int), .int .i64 a.id] 37)).alloc (.cells #[.int .i64 0, .int .i64 0, .int .i64 0, .string ⟨#[]⟩, .float .f64 0, .int .i64 0] 56)) (w.heap.size + 1) zeroQ ∧ Below w.heap.size w ((w.alloc (.cells #[.int .i64 a.c, .int .i64 a.st, .int .i64 a.k, .string a.key, .int .u64 (a.b : Int), .int .i64 a.id] 37)).alloc (.cells #[.int .i64 0, .int .i64 0, .int .i64 0, .string ⟨#[]⟩, .float .f64 0, .int .i64 0] 56))) := hid
    ⟨(Below.heap_alloc _ _ _ (by simp)).trans (heap_alloc_last w _), snd_alloc w _ _, ((Below.refl _ _).alloc (Nat.le_refl _) _).alloc (by simp) _⟩
  go_enter Tryz.func17, Tryz.ntmps17
  go_wp2
  obtain ⟨w1, ew⟩ : ∃ w1, w1 = (w.alloc (.cells #[.int .i64 a.c, .int .i64 a.st, .int .i64 a.k, .string a.key, .int .u64 (a.b : Int), .int .i64 a.id] 37)).alloc (.cells #[.int .i64 0, .int .i64 0, .int .i64 0, .string ⟨#[]⟩, .float .f64 0, .int .i64 0] 56) := ⟨_, rfl⟩
  rw [← ew] at H0 ⊢
  clear ew
  have H1 : Hid (AkAt w1.drew w.heap.size a ∧ RqAt w1.drew (w.heap.size + 1) zeroQ ∧ Below w.heap.size w w1.drew) := hid ⟨H0.out.1.keep (Below.refl _ _).drew, H0.out.2.1.keep (Below.refl _ _).drew, H0.out.2.2.drew⟩
  have HS := hid H1.out.1
  refine wp_region_held (S := fun ww => AkAt ww w.heap.size a) (by kernel_rfl) ?_
  try (change wpAnyH _ _ _ _ _ _ _ _ (World.drew _))
  refine wpAnyH_take (i := 0) (v := ?v1) rfl (by kernel_rfl) (by kernel_rfl) (by kernel_rfl) (fun _ _ _ h => h) (Or.inl ⟨by rfl, ?hy1⟩) HS.out ?rest1
  case hy1 => (intro ww _; go_simp; try with_reducible rfl)
  go_simp
  refine wpAnyH_take (i := 1) (v := ?v2) rfl (by kernel_rfl) (by kernel_rfl) (by kernel_rfl) (fun _ _ _ h => h) (Or.inl ⟨by rfl, ?hy2⟩) HS.out ?rest2
  case hy2 => (intro ww hS; obtain ⟨⟨y0, y1⟩, y2, y3, y4, y5⟩ := hS.cells; go_simp; try with_reducible rfl)
  go_simp
  refine wpAnyH_take (i := 2) (v := ?v3) rfl (by kernel_rfl) (by kernel_rfl) (by kernel_rfl) (fun _ _ _ h => h) (Or.inl ⟨by rfl, ?hy3⟩) HS.out ?rest3
  case hy3 => (intro ww _; go_simp; try with_reducible rfl)
  go_simp
  refine wpAnyH_take (i := 3) (v := ?v4) rfl (by kernel_rfl) (by kernel_rfl) (by kernel_rfl) (fun _ _ _ h => h) (Or.inl ⟨by rfl, ?hy4⟩) HS.out ?rest4
  case hy4 => (intro ww hS; obtain ⟨⟨y0, y1⟩, y2, y3, y4, y5⟩ := hS.cells; go_simp; try with_reducible rfl)
  go_simp
  refine wpAnyH_take (i := 4) (v := ?v5) rfl (by kernel_rfl) (by kernel_rfl) (by kernel_rfl) (fun _ _ _ h => h) (Or.inl ⟨by rfl, ?hy5⟩) HS.out ?rest5
  case hy5 => (intro ww _; go_simp; try with_reducible rfl)
  go_simp
  refine wpAnyH_take (i := 5) (v := ?v6) rfl (by kernel_rfl) (by kernel_rfl) (by kernel_rfl) (fun _ _ _ h => h) (Or.inl ⟨by rfl, ?hy6⟩) HS.out ?rest6
  case hy6 => (intro ww hS; obtain ⟨⟨y0, y1⟩, y2, y3, y4, y5⟩ := hS.cells; go_simp; try with_reducible rfl)
  go_simp
  refine wpAnyH_take (i := 6) (v := ?v7) rfl (by kernel_rfl) (by kernel_rfl) (by kernel_rfl) (fun _ _ _ h => h) (Or.inl ⟨by rfl, ?hy7⟩) HS.out ?rest7
  case hy7 => (intro ww _; go_simp; try with_reducible rfl)
  go_simp
  refine wpAnyH_take (i := 7) (v := ?v8) rfl (by kernel_rfl) (by kernel_rfl) (by kernel_rfl) (fun _ _ _ h => h) (Or.inl ⟨by rfl, ?hy8⟩) HS.out ?rest8
  case hy8 => (intro ww hS; obtain ⟨⟨y0, y1⟩, y2, y3, y4, y5⟩ := hS.cells; go_simp; try with_reducible rfl)
  go_simp
  refine wpAnyH_take (i := 8) (v := ?v9) rfl (by kernel_rfl) (by kernel_rfl) (by kernel_rfl) (fun _ _ _ h => h) (Or.inl ⟨by rfl, ?hy9⟩) HS.out ?rest9
  case hy9 => (intro ww _; go_simp; try with_reducible rfl)
  go_simp
  refine wpAnyH_take (i := 9) (v := ?v10) rfl (by kernel_rfl) (by kernel_rfl) (by kernel_rfl) (fun _ _ _ h => h) (Or.inl ⟨by rfl, ?hy10⟩) HS.out ?rest10
  case hy10 => (intro ww hS; obtain ⟨⟨y0, y1⟩, y2, y3, y4, y5⟩ := hS.cells; go_simp; try with_reducible rfl)
  go_simp
  refine wpAnyH_take (i := 11) (v := ?v11) rfl (by kernel_rfl) (by kernel_rfl) (by kernel_rfl) (fun _ _ _ h => h) (Or.inl ⟨by rfl, ?hy11⟩) HS.out ?rest11
  case hy11 => (intro ww _; go_simp; try with_reducible rfl)
  go_simp
  refine wpAnyH_take (i := 12) (v := ?v12) rfl (by kernel_rfl) (by kernel_rfl) (by kernel_rfl) (fun _ _ _ h => h) (Or.inl ⟨by rfl, ?hy12⟩) HS.out ?rest12
  case hy12 => (intro ww hS; obtain ⟨⟨y0, y1⟩, y2, y3, y4, y5⟩ := hS.cells; go_simp; try with_reducible rfl)
  go_simp
  refine wpAnyH_all (rs := [10]) (by kernel_rfl) (by simp) ?_
  intro i hi
  obtain rfl := List.mem_singleton.1 hi
  clear hi
  refine wpOp_d rfl (by rfl) (fun K hK => ?_)
  go_simp
  rw [ff_run]
  go_simp
  refine hK _ _ ⟨HS.out, ?_⟩
  clear hK K
  go_simp
  refine wpAnyH_take (i := 13) (v := ?v13) rfl (by kernel_rfl) (by kernel_rfl) (by kernel_rfl) (fun _ _ _ h => h) (Or.inl ⟨by rfl, ?hy13⟩) HS.out ?rest13
  case hy13 => (intro ww _; go_simp; try with_reducible rfl)
  go_simp
  refine wpAnyH_take (i := 14) (v := ?v14) rfl (by kernel_rfl) (by kernel_rfl) (by kernel_rfl) (fun _ _ _ h => h) (Or.inl ⟨by rfl, ?hy14⟩) HS.out ?rest14
  case hy14 => (intro ww _; go_simp; try with_reducible rfl)
  go_simp
  refine wpAnyH_all (rs := [15]) (by kernel_rfl) (by simp) ?_
  intro i hi
  obtain rfl := List.mem_singleton.1 hi
  clear hi
  refine wpOp_d rfl (by rfl) (fun K hK => ?_)
  refine owp_store_rq _ _ rfl (w.heap.size + 1) rfl zeroQ a rfl H1.out.2.1 ?_
  intro wz Hz
  refine hK _ _ ⟨(Hz.out.2.block _ (by omega)).trans H1.out.1, ?_⟩
  clear hK K
  go_simp
  refine wpAnyH_done (by kernel_rfl) ?_ _
  go_simp
  go_wp2
  refine ret_oneD (s := 2) (ad := ⟨w.heap.size + 1, 0, none⟩) rfl rfl (load_rq _ _ a Hz.out.1) rfl ?_
  exact ⟨rfl, Hz.out.2.below H1.out.2.2 (by omega)⟩
/-- The request that the laws tell and read first. -/
def liveQ : Rq := ⟨2, 3, 5, ⟨#[107]⟩, 0, 0⟩
theorem can_zero : canW 0 = 0 := by decide
theorem live_right : rightB liveQ = true := by decide
theorem live_facts : rqE liveQ = 0 ∧ (rqT liveQ).size = 19 ∧ rdE (rqT liveQ) = 0 ∧ wholeB liveQ (rdR (rqT liveQ)) = true := by
  obtain ⟨h1, h2, h3⟩ := read_back live_right (by decide)
  refine ⟨(rqE_iff _).2 (Or.inr live_right), ?_, ?_, ?_⟩
  · have : (rqL liveQ).length = 19 := rqL_len liveQ
    rw [rqT, right_null live_right, live_right]
    show (rqL liveQ).toArray.size = 19
    simpa using this
  · rw [rdE, h3, h1]
    rfl
  · rw [rdR, h3, h1]
    show wholeB liveQ (rdq (rqT liveQ)) = true
    rw [h2]
    decide
end Go.Proofs.YtecidbdbdnnglaaGreat
