/- Texts laid together: DtB PwA DtC DtD DtE DpZ CoM CoN CoV HlA. -/
import Derived.Test.YtfjcpghepkmbfaaGa4
import Derived.Test.YtfjcpghepkmbfaaGa2
import Derived.Deep.QuietTactic
import Derived.Test.YtfjcpghepkmbfaaGa1
import Derived.OrdersHeld
/- The program's deeds: which operation is right, which request, which is the null one, which result. -/
namespace Go.Proofs.Ytfjcpghepkmbfaa
open Go.RowKit

set_option maxRecDepth 100000 in
theorem dplain_any (r : Rq) (w : World) : Calls Try.prog 81 #[.agg #[.int .i64 r.k, .string r.key, .float .f64 r.b, .int .i64 r.id]] w fun e w' => e = .returned (.bool (plainB r)) ∧ Below w.heap.size w w' := by
  have HB : Hid (Below w.heap.size w (w.alloc (.cells #[.int .i64 r.k, .string r.key, .float .f64 r.b, .int .i64 r.id] 24))) := hid ((Below.refl _ _).alloc (Nat.le_refl _) _)
  obtain ⟨B, hB⟩ : ∃ B, plainB r = B := ⟨_, rfl⟩
  have HBe := hid hB
  rw [hB]
  clear hB
  go_enter Try.func81, Try.ntmps81
  go_wp2_with (go_at_call 55; refine (bits_any _ _).mono ?_; rintro e w1 ⟨rfl, rfl⟩)
  go_ret
  refine ⟨ret_bool ?_, HB.out⟩
  rw [← HBe.out, plainB, Bool.eq_iff_iff]
  simp
set_option maxRecDepth 100000 in
set_option maxHeartbeats 6400000 in
theorem dop_any (r : Rq) (w : World) : Calls Try.prog 56 #[.agg #[.int .i64 r.k, .string r.key, .float .f64 r.b, .int .i64 r.id]] w fun e w' => e = .returned (.bool (opB r)) ∧ Below w.heap.size w w' := by
  obtain ⟨c, st, k, key, b, id⟩ := r
  simp only
  have HP := fun (k : Int) (u : World) => dplain_any ⟨c, st, k, key, b, id⟩ u
  simp only at HP
  have HPk : ∀ k, plainB ⟨c, st, k, key, b, id⟩ = plainB ⟨c, st, 0, key, b, id⟩ := fun _ => rfl
  have HOp : Hid (∀ k, opB ⟨c, st, k, key, b, id⟩ = if k = 1 ∨ k = 2 ∨ k = 3 then ((decide (1 ≤ key.size) && decide (key.size ≤ 16)) && decide (id = 0)) else if k = 4 ∨ k = 5 then ((decide (1 ≤ key.size) && decide (key.size ≤ 16)) && decide (id = 0)) && plainB ⟨c, st, 0, key, b, id⟩ else if k = 6 ∨ k = 7 then ((decide (key.size = 0) && plainB ⟨c, st, 0, key, b, id⟩) && decide (0 ≤ id)) && decide (id < 16) else false) := hid (fun _ => rfl)
  simp only [HPk] at HP
  have HPh := hid HP
  obtain ⟨B, hB⟩ : ∃ B, B = opB ⟨c, st, k, key, b, id⟩ := ⟨_, rfl⟩
  rw [HOp.out] at hB
  rw [show opB ⟨c, st, k, key, b, id⟩ = B by rw [hB, HOp.out]]
  have HBe := hid hB
  have hz2 := none_size key
  clear HP HPk hB HOp
  generalize plainB ⟨c, st, 0, key, b, id⟩ = P at *
  by_cases h1 : k = 1
  · subst h1
    rw [if_pos (by decide)] at HBe
    go_enter Try.func56, Try.ntmps56
    go_wp2_with (go_at_call 81; refine (HPh.out _ _).mono ?_; rintro e w2 ⟨rfl, hb2⟩; have H1 := hid (And.intro ((hb2.block _ (by simp)).trans (heap_alloc_last w _)) (((Below.refl w.heap.size w).alloc (Nat.le_refl _) _).trans (hb2.mono (by simp)))); clear hb2; have z0 := cell_at (L := [.int .i64 1, .string key, .float .f64 b, .int .i64 id]) H1.out.1 0 _ rfl; have z1 := cell_at (L := [.int .i64 1, .string key, .float .f64 b, .int .i64 id]) H1.out.1 1 _ rfl; have z2 := cell_at (L := [.int .i64 1, .string key, .float .f64 b, .int .i64 id]) H1.out.1 2 _ rfl; have z3 := cell_at (L := [.int .i64 1, .string key, .float .f64 b, .int .i64 id]) H1.out.1 3 _ rfl)
    all_goals go_ret
    all_goals refine ⟨ret_bool ?_, by first | exact H1.out.2 | exact (Below.refl w.heap.size w).alloc (Nat.le_refl _) _⟩
    all_goals (first | exact HBe.out.symm | (rw [HBe.out, Bool.eq_iff_iff]; simp; done) | (rw [HBe.out, Bool.eq_iff_iff]; simp; omega))
  by_cases h2 : k = 2
  · subst h2
    rw [if_pos (by decide)] at HBe
    go_enter Try.func56, Try.ntmps56
    go_wp2_with (go_at_call 81; refine (HPh.out _ _).mono ?_; rintro e w2 ⟨rfl, hb2⟩; have H1 := hid (And.intro ((hb2.block _ (by simp)).trans (heap_alloc_last w _)) (((Below.refl w.heap.size w).alloc (Nat.le_refl _) _).trans (hb2.mono (by simp)))); clear hb2; have z0 := cell_at (L := [.int .i64 2, .string key, .float .f64 b, .int .i64 id]) H1.out.1 0 _ rfl; have z1 := cell_at (L := [.int .i64 2, .string key, .float .f64 b, .int .i64 id]) H1.out.1 1 _ rfl; have z2 := cell_at (L := [.int .i64 2, .string key, .float .f64 b, .int .i64 id]) H1.out.1 2 _ rfl; have z3 := cell_at (L := [.int .i64 2, .string key, .float .f64 b, .int .i64 id]) H1.out.1 3 _ rfl)
    all_goals go_ret
    all_goals refine ⟨ret_bool ?_, by first | exact H1.out.2 | exact (Below.refl w.heap.size w).alloc (Nat.le_refl _) _⟩
    all_goals (first | exact HBe.out.symm | (rw [HBe.out, Bool.eq_iff_iff]; simp; done) | (rw [HBe.out, Bool.eq_iff_iff]; simp; omega))
  by_cases h3 : k = 3
  · subst h3
    rw [if_pos (by decide)] at HBe
    go_enter Try.func56, Try.ntmps56
    go_wp2_with (go_at_call 81; refine (HPh.out _ _).mono ?_; rintro e w2 ⟨rfl, hb2⟩; have H1 := hid (And.intro ((hb2.block _ (by simp)).trans (heap_alloc_last w _)) (((Below.refl w.heap.size w).alloc (Nat.le_refl _) _).trans (hb2.mono (by simp)))); clear hb2; have z0 := cell_at (L := [.int .i64 3, .string key, .float .f64 b, .int .i64 id]) H1.out.1 0 _ rfl; have z1 := cell_at (L := [.int .i64 3, .string key, .float .f64 b, .int .i64 id]) H1.out.1 1 _ rfl; have z2 := cell_at (L := [.int .i64 3, .string key, .float .f64 b, .int .i64 id]) H1.out.1 2 _ rfl; have z3 := cell_at (L := [.int .i64 3, .string key, .float .f64 b, .int .i64 id]) H1.out.1 3 _ rfl)
    all_goals go_ret
    all_goals refine ⟨ret_bool ?_, by first | exact H1.out.2 | exact (Below.refl w.heap.size w).alloc (Nat.le_refl _) _⟩
    all_goals (first | exact HBe.out.symm | (rw [HBe.out, Bool.eq_iff_iff]; simp; done) | (rw [HBe.out, Bool.eq_iff_iff]; simp; omega))
  by_cases h4 : k = 4
  · subst h4
    rw [if_neg (by decide), if_pos (by decide)] at HBe
    cases P <;>
    · go_enter Try.func56, Try.ntmps56
      go_wp2_with (go_at_call 81; refine (HPh.out _ _).mono ?_; rintro e w2 ⟨rfl, hb2⟩; have H1 := hid (And.intro ((hb2.block _ (by simp)).trans (heap_alloc_last w _)) (((Below.refl w.heap.size w).alloc (Nat.le_refl _) _).trans (hb2.mono (by simp)))); clear hb2; have z0 := cell_at (L := [.int .i64 4, .string key, .float .f64 b, .int .i64 id]) H1.out.1 0 _ rfl; have z1 := cell_at (L := [.int .i64 4, .string key, .float .f64 b, .int .i64 id]) H1.out.1 1 _ rfl; have z2 := cell_at (L := [.int .i64 4, .string key, .float .f64 b, .int .i64 id]) H1.out.1 2 _ rfl; have z3 := cell_at (L := [.int .i64 4, .string key, .float .f64 b, .int .i64 id]) H1.out.1 3 _ rfl)
      all_goals go_ret
      all_goals refine ⟨ret_bool ?_, by first | exact H1.out.2 | exact (Below.refl w.heap.size w).alloc (Nat.le_refl _) _⟩
      all_goals (first | exact HBe.out.symm | (rw [HBe.out, Bool.eq_iff_iff]; simp; done) | (rw [HBe.out, Bool.eq_iff_iff]; simp; omega))
  by_cases h5 : k = 5
  · subst h5
    rw [if_neg (by decide), if_pos (by decide)] at HBe
    cases P <;>
    · go_enter Try.func56, Try.ntmps56
      go_wp2_with (go_at_call 81; refine (HPh.out _ _).mono ?_; rintro e w2 ⟨rfl, hb2⟩; have H1 := hid (And.intro ((hb2.block _ (by simp)).trans (heap_alloc_last w _)) (((Below.refl w.heap.size w).alloc (Nat.le_refl _) _).trans (hb2.mono (by simp)))); clear hb2; have z0 := cell_at (L := [.int .i64 5, .string key, .float .f64 b, .int .i64 id]) H1.out.1 0 _ rfl; have z1 := cell_at (L := [.int .i64 5, .string key, .float .f64 b, .int .i64 id]) H1.out.1 1 _ rfl; have z2 := cell_at (L := [.int .i64 5, .string key, .float .f64 b, .int .i64 id]) H1.out.1 2 _ rfl; have z3 := cell_at (L := [.int .i64 5, .string key, .float .f64 b, .int .i64 id]) H1.out.1 3 _ rfl)
      all_goals go_ret
      all_goals refine ⟨ret_bool ?_, by first | exact H1.out.2 | exact (Below.refl w.heap.size w).alloc (Nat.le_refl _) _⟩
      all_goals (first | exact HBe.out.symm | (rw [HBe.out, Bool.eq_iff_iff]; simp; done) | (rw [HBe.out, Bool.eq_iff_iff]; simp; omega))
  by_cases h6 : k = 6
  · subst h6
    rw [if_neg (by decide), if_neg (by decide), if_pos (by decide)] at HBe
    cases hd : decide (key.size = 0) <;> rw [hd] at HBe hz2 <;> cases P <;>
    · clear hd
      go_enter Try.func56, Try.ntmps56
      go_wp2_with (go_at_call 81; refine (HPh.out _ _).mono ?_; rintro e w2 ⟨rfl, hb2⟩; have H1 := hid (And.intro ((hb2.block _ (by simp)).trans (heap_alloc_last w _)) (((Below.refl w.heap.size w).alloc (Nat.le_refl _) _).trans (hb2.mono (by simp)))); clear hb2; have z0 := cell_at (L := [.int .i64 6, .string key, .float .f64 b, .int .i64 id]) H1.out.1 0 _ rfl; have z1 := cell_at (L := [.int .i64 6, .string key, .float .f64 b, .int .i64 id]) H1.out.1 1 _ rfl; have z2 := cell_at (L := [.int .i64 6, .string key, .float .f64 b, .int .i64 id]) H1.out.1 2 _ rfl; have z3 := cell_at (L := [.int .i64 6, .string key, .float .f64 b, .int .i64 id]) H1.out.1 3 _ rfl)
      all_goals go_ret
      all_goals refine ⟨ret_bool ?_, by first | exact H1.out.2 | exact (Below.refl w.heap.size w).alloc (Nat.le_refl _) _⟩
      all_goals (first | exact HBe.out.symm | (rw [HBe.out, Bool.eq_iff_iff]; simp; done) | (rw [HBe.out, Bool.eq_iff_iff]; simp; omega))
  by_cases h7 : k = 7
  · subst h7
    rw [if_neg (by decide), if_neg (by decide), if_pos (by decide)] at HBe
    cases hd : decide (key.size = 0) <;> rw [hd] at HBe hz2 <;> cases P <;>
    · clear hd
      go_enter Try.func56, Try.ntmps56
      go_wp2_with (go_at_call 81; refine (HPh.out _ _).mono ?_; rintro e w2 ⟨rfl, hb2⟩; have H1 := hid (And.intro ((hb2.block _ (by simp)).trans (heap_alloc_last w _)) (((Below.refl w.heap.size w).alloc (Nat.le_refl _) _).trans (hb2.mono (by simp)))); clear hb2; have z0 := cell_at (L := [.int .i64 7, .string key, .float .f64 b, .int .i64 id]) H1.out.1 0 _ rfl; have z1 := cell_at (L := [.int .i64 7, .string key, .float .f64 b, .int .i64 id]) H1.out.1 1 _ rfl; have z2 := cell_at (L := [.int .i64 7, .string key, .float .f64 b, .int .i64 id]) H1.out.1 2 _ rfl; have z3 := cell_at (L := [.int .i64 7, .string key, .float .f64 b, .int .i64 id]) H1.out.1 3 _ rfl)
      all_goals go_ret
      all_goals refine ⟨ret_bool ?_, by first | exact H1.out.2 | exact (Below.refl w.heap.size w).alloc (Nat.le_refl _) _⟩
      all_goals (first | exact HBe.out.symm | (rw [HBe.out, Bool.eq_iff_iff]; simp; done) | (rw [HBe.out, Bool.eq_iff_iff]; simp; omega))
  rw [if_neg (by omega), if_neg (by omega), if_neg (by omega)] at HBe
  go_enter Try.func56, Try.ntmps56
  go_wp2_with (go_at_call 81; refine (HPh.out _ _).mono ?_; rintro e w2 ⟨rfl, hb2⟩; have H1 := hid (And.intro ((hb2.block _ (by simp)).trans (heap_alloc_last w _)) (((Below.refl w.heap.size w).alloc (Nat.le_refl _) _).trans (hb2.mono (by simp)))); clear hb2; have z0 := cell_at (L := [.int .i64 k, .string key, .float .f64 b, .int .i64 id]) H1.out.1 0 _ rfl; have z1 := cell_at (L := [.int .i64 k, .string key, .float .f64 b, .int .i64 id]) H1.out.1 1 _ rfl; have z2 := cell_at (L := [.int .i64 k, .string key, .float .f64 b, .int .i64 id]) H1.out.1 2 _ rfl; have z3 := cell_at (L := [.int .i64 k, .string key, .float .f64 b, .int .i64 id]) H1.out.1 3 _ rfl)
  all_goals go_ret
  all_goals refine ⟨ret_bool ?_, by first | exact H1.out.2 | exact (Below.refl w.heap.size w).alloc (Nat.le_refl _) _⟩
  all_goals (first | exact HBe.out.symm | (rw [HBe.out, Bool.eq_iff_iff]; simp; done) | (rw [HBe.out, Bool.eq_iff_iff]; simp; omega))
set_option maxRecDepth 100000 in
set_option maxHeartbeats 6400000 in
theorem dright_any (r : Rq) (w : World) : Calls Try.prog 28 #[.agg #[.int .i64 r.c, .int .i64 r.st, .int .i64 r.k, .string r.key, .float .f64 r.b, .int .i64 r.id]] w fun e w' => e = .returned (.bool (rightB r)) ∧ Below w.heap.size w w' := by
  have H0 : Hid (RqAt (w.alloc (.cells #[.int .i64 r.c, .int .i64 r.st, .int .i64 r.k, .string r.key, .float .f64 r.b, .int .i64 r.id] 26)) w.heap.size r ∧ Below w.heap.size w (w.alloc (.cells #[.int .i64 r.c, .int .i64 r.st, .int .i64 r.k, .string r.key, .float .f64 r.b, .int .i64 r.id] 26))) := hid ⟨heap_alloc_last w _, (Below.refl w.heap.size w).alloc (Nat.le_refl _) _⟩
  obtain ⟨B, hB⟩ : ∃ B, rightB r = B := ⟨_, rfl⟩
  have HBe : Hid (B = rightB r) := hid hB.symm
  rw [hB]
  clear hB
  obtain ⟨O, hO⟩ : ∃ O, opB r = O := ⟨_, rfl⟩
  have HO := hid (fun u => hO ▸ dop_any r u)
  have HOe := hid hO
  clear hO
  go_enter Try.func28, Try.ntmps28
  go_wp2_with (go_at_call 56; refine (HO.out _).mono ?_; rintro e w1 ⟨rfl, hb1⟩; have H1 := hid (H0.out.2.trans (hb1.mono H0.out.2.size)); clear hb1)
  all_goals go_ret
  all_goals refine ⟨ret_bool ?_, by first | exact H1.out | exact H0.out.2⟩
  all_goals (rw [HBe.out, rightB, HOe.out, Bool.eq_iff_iff]; simp; try omega)
set_option maxRecDepth 100000 in
set_option maxHeartbeats 6400000 in
theorem dnull_any (r : Rq) (w : World) : Calls Try.prog 54 #[.agg #[.int .i64 r.c, .int .i64 r.st, .int .i64 r.k, .string r.key, .float .f64 r.b, .int .i64 r.id]] w fun e w' => e = .returned (.bool (nullB r)) ∧ Below w.heap.size w w' := by
  obtain ⟨c, st, k, key, b, id⟩ := r
  simp only
  have HP := fun (k id : Int) (u : World) => dplain_any ⟨c, st, k, key, b, id⟩ u
  simp only at HP
  have HPk : ∀ k id, plainB ⟨c, st, k, key, b, id⟩ = plainB ⟨c, st, 0, key, b, 0⟩ := fun _ _ => rfl
  simp only [HPk] at HP
  have HPh := hid HP
  obtain ⟨B, hB⟩ : ∃ B, nullB ⟨c, st, k, key, b, id⟩ = B := ⟨_, rfl⟩
  have HNe : Hid (B = (((((decide (c = 0) && decide (st = 0)) && decide (k = 0)) && decide (key.size = 0)) && plainB ⟨c, st, 0, key, b, 0⟩) && decide (id = 0))) := hid (by rw [← hB]; rfl)
  rw [hB]
  clear hB HP HPk
  generalize plainB ⟨c, st, 0, key, b, 0⟩ = P at *
  have hz2 := none_size key
  cases hd : decide (key.size = 0) <;> rw [hd] at HNe hz2 <;> cases P <;>
  · clear hd
    go_enter Try.func54, Try.ntmps54
    go_wp2_with (go_at_call 81; refine (HPh.out _ _ _).mono ?_; rintro e w1 ⟨rfl, hb1⟩; have H1 := hid (((Below.refl w.heap.size w).alloc (Nat.le_refl _) _).trans (hb1.mono (by simp))); clear hb1)
    all_goals go_ret
    all_goals refine ⟨ret_bool ?_, by first | exact H1.out | exact (Below.refl w.heap.size w).alloc (Nat.le_refl _) _⟩
    all_goals (rw [HNe.out]; first | (rw [Bool.eq_iff_iff]; simp_all; done) | (rw [Bool.eq_iff_iff]; simp_all; omega))
set_option maxRecDepth 100000 in
theorem dresult_any (c : Int) (f : Nat) (w : World) : Calls Try.prog 62 #[.agg #[.int .i64 c, .float .f64 f]] w fun e w' => e = .returned (.bool (rsB c)) ∧ Below w.heap.size w w' := by
  have HB : Hid (Below w.heap.size w (w.alloc (.cells #[.int .i64 c, .float .f64 f] 28))) := hid ((Below.refl _ _).alloc (Nat.le_refl _) _)
  obtain ⟨B, hB⟩ : ∃ B, rsB c = B := ⟨_, rfl⟩
  have HBe := hid hB
  rw [hB]
  clear hB
  go_enter Try.func62, Try.ntmps62
  go_wp2
  all_goals go_ret
  all_goals refine ⟨ret_bool ?_, HB.out⟩
  all_goals (rw [← HBe.out, rsB, Bool.eq_iff_iff]; simp; try omega)
end Go.Proofs.Ytfjcpghepkmbfaa

/- The program's writer, as the walks of its users see it: what lies in it, numbers, bits, texts put to it, its end. -/
namespace Go.Proofs.Ytfjcpghepkmbfaa
open Go.RowKit

/-- The program's writer at block c, with room for lim, l in it, its error er; nothing below c has turned since w0. -/
def PeAt (lim : Int) (c : Nat) (w0 w : World) (l : List UInt8) (er : Int) : Prop := (∃ v, WrAt w c v lim l er) ∧ Below c w0 w
/-- .. with no error. -/
def PwAt (lim : Int) (c : Nat) (w0 w : World) (l : List UInt8) : Prop := (∃ v, WrAt w c v lim l 0) ∧ Below c w0 w
theorem PwAt.pe {lim : Int} {c : Nat} {w0 w : World} {l : List UInt8} (h : PwAt lim c w0 w l) : PeAt lim c w0 w l 0 := h
theorem pwnew (lim : Int) (h0 : 0 ≤ lim) (w : World) : Calls Try.prog 16 #[.int .i64 lim] w fun e w' => e = .returned (.pointer (some ⟨w.heap.size, 0, none⟩)) ∧ PwAt lim w.heap.size w w' [] := by
  refine (new_any lim w).mono ?_
  rintro e w' ⟨rfl, rfl⟩
  rw [show max lim 0 = lim by omega]
  exact ⟨rfl, ⟨_, ⟨heap_alloc_last w _, ⟨rfl, .inl ⟨rfl, rfl⟩⟩⟩⟩, (Below.refl _ _).alloc (Nat.le_refl _) _⟩
theorem pwbyte (lim : Int) (h0 : 0 ≤ lim) (h1 : lim ≤ 4294967296) (c : Nat) (w0 w : World) (l : List UInt8) (n : Nat) (hn : n < 256) (hl : (l.length : Int) + 1 ≤ lim) (h : PwAt lim c w0 w l) :
    Calls Try.prog 40 #[.pointer (some ⟨c, 0, none⟩), .int .i64 (n : Int)] w fun e w' => e = .returned (.tuple #[]) ∧ PwAt lim c w0 w' (l ++ be 1 n) := by
  obtain ⟨⟨v, hv⟩, hb⟩ := h
  refine (wbyte_any c v lim l 0 n w hv h0 (by omega) (by omega) (by omega)).mono ?_
  rintro e w' ⟨rfl, v', h', hk, _⟩
  rw [(wLx lim l 1 n (by omega) hl).1, (wLx lim l 1 n (by omega) hl).2] at h'
  exact ⟨rfl, ⟨v', h'⟩, hb.trans (hk.below (Nat.le_of_lt hv.lt) (Nat.le_refl _) (fun g hg => by have := (hv.own.lt g hg).1; omega))⟩
theorem pwlong (lim : Int) (h0 : 0 ≤ lim) (h1 : lim ≤ 4294967296) (c : Nat) (w0 w : World) (l : List UInt8) (n : Nat) (hn : n < 4294967296) (hl : (l.length : Int) + 4 ≤ lim) (h : PwAt lim c w0 w l) :
    Calls Try.prog 85 #[.pointer (some ⟨c, 0, none⟩), .int .i64 (n : Int)] w fun e w' => e = .returned (.tuple #[]) ∧ PwAt lim c w0 w' (l ++ be 4 n) := by
  obtain ⟨⟨v, hv⟩, hb⟩ := h
  refine (wlong_any c v lim l 0 n w hv h0 (by omega) (by omega) (by omega)).mono ?_
  rintro e w' ⟨rfl, v', h', hk, _⟩
  rw [(wLx lim l 4 n (by omega) hl).1, (wLx lim l 4 n (by omega) hl).2] at h'
  exact ⟨rfl, ⟨v', h'⟩, hb.trans (hk.below (Nat.le_of_lt hv.lt) (Nat.le_refl _) (fun g hg => by have := (hv.own.lt g hg).1; omega))⟩
theorem pelong (lim : Int) (h0 : 0 ≤ lim) (h1 : lim ≤ 4294967296) (c : Nat) (w0 w : World) (l : List UInt8) (er n : Int) (hn : n ≤ 9223372036854775807) (hl : l.length ≤ 4294967296) (h : PeAt lim c w0 w l er) :
    Calls Try.prog 85 #[.pointer (some ⟨c, 0, none⟩), .int .i64 n] w fun e w' => e = .returned (.tuple #[]) ∧ PeAt lim c w0 w' (wL lim l er 4 n) (wE lim l er 4 n) := by
  obtain ⟨⟨v, hv⟩, hb⟩ := h
  refine (wlong_any c v lim l er n w hv h0 (by omega) (by omega) hn).mono ?_
  rintro e w' ⟨rfl, v', h', hk, _⟩
  exact ⟨rfl, ⟨v', h'⟩, hb.trans (hk.below (Nat.le_of_lt hv.lt) (Nat.le_refl _) (fun g hg => by have := (hv.own.lt g hg).1; omega))⟩
theorem pwtext (lim : Int) (h0 : 0 ≤ lim) (h1 : lim ≤ 4294967296) (c : Nat) (w0 w : World) (l : List UInt8) (s : ByteArray) (hs : s.size ≤ 65535) (hl : (l.length : Int) + (2 + s.size) ≤ lim) (h : PwAt lim c w0 w l) :
    Calls Try.prog 43 #[.pointer (some ⟨c, 0, none⟩), .string s] w fun e w' => e = .returned (.tuple #[]) ∧ PwAt lim c w0 w' (l ++ (be 2 s.size ++ s.data.toList)) := by
  obtain ⟨⟨v, hv⟩, hb⟩ := h
  refine (wtext_any c v lim l 0 s w hv h0 (by omega) (by omega) (by omega) (fun _ => by omega)).mono ?_
  rintro e w' ⟨rfl, v', h', hk, _⟩
  rw [(xLx lim l s hs hl).1, (xLx lim l s hs hl).2] at h'
  exact ⟨rfl, ⟨v', h'⟩, hb.trans (hk.below (Nat.le_of_lt hv.lt) (Nat.le_refl _) (fun g hg => by have := (hv.own.lt g hg).1; omega))⟩
theorem pwbits (lim : Int) (h0 : 0 ≤ lim) (h1 : lim ≤ 4294967296) (c : Nat) (w0 w : World) (l : List UInt8) (n : Nat) (hn : n < 18446744073709551616) (hl : (l.length : Int) + 8 ≤ lim) (h : PwAt lim c w0 w l) :
    Calls Try.prog 63 #[.pointer (some ⟨c, 0, none⟩), .int .u64 (n : Int)] w fun e w' => e = .returned (.tuple #[]) ∧ PwAt lim c w0 w' (l ++ be 8 n) := by
  obtain ⟨⟨v, hv⟩, hb⟩ := h
  refine (wbits_any c v lim l 0 n w hv h0 (by omega) (by omega) hn).mono ?_
  rintro e w' ⟨rfl, v', h', hk, _⟩
  rw [(bLx lim l n hl).1, (bLx lim l n hl).2] at h'
  exact ⟨rfl, ⟨v', h'⟩, hb.trans (hk.below (Nat.le_of_lt hv.lt) (Nat.le_refl _) (fun g hg => by have := (hv.own.lt g hg).1; omega))⟩
theorem pwdone (lim : Int) (c : Nat) (w0 w : World) (l : List UInt8) (h : PwAt lim c w0 w l) :
    Calls Try.prog 18 #[.pointer (some ⟨c, 0, none⟩)] w fun e w' => e = .returned (.tuple #[.string ⟨l.toArray⟩, .int .i64 0]) ∧ Below c w0 w' := by
  obtain ⟨⟨v, hv⟩, hb⟩ := h
  refine (done_ok c v lim l w hv).mono ?_
  rintro e w' ⟨rfl, rfl⟩
  exact ⟨rfl, hb⟩
theorem pedone (lim : Int) (c : Nat) (w0 w : World) (l : List UInt8) (er : Int) (he : er ≠ 0) (h : PeAt lim c w0 w l er) :
    Calls Try.prog 18 #[.pointer (some ⟨c, 0, none⟩)] w fun e w' => e = .returned (.tuple #[.string ⟨#[]⟩, .int .i64 er]) ∧ Below c w0 w' := by
  obtain ⟨⟨v, hv⟩, hb⟩ := h
  refine (done_err c v lim l er w hv (by simpa using he)).mono ?_
  rintro e w' ⟨rfl, rfl⟩
  exact ⟨rfl, hb.drew⟩
end Go.Proofs.Ytfjcpghepkmbfaa

/- The program's text of a request, of a result; are two requests the same. -/
namespace Go.Proofs.Ytfjcpghepkmbfaa
open Go.RowKit

set_option maxRecDepth 100000 in
set_option maxHeartbeats 6400000 in
theorem dtext_any (r : Rq) (hb : r.b < 18446744073709551616) (w : World) : Calls Try.prog 65 #[.agg #[.int .i64 r.c, .int .i64 r.st, .int .i64 r.k, .string r.key, .float .f64 r.b, .int .i64 r.id]] w fun e' w' => e' = .returned (.tuple #[.string (rqT r), .int .i64 (rqE r)]) ∧ Below w.heap.size w w' := by
  have H0 : Hid (RqAt (w.alloc (.cells #[.int .i64 r.c, .int .i64 r.st, .int .i64 r.k, .string r.key, .float .f64 r.b, .int .i64 r.id] 26)) w.heap.size r ∧ Below w.heap.size w (w.alloc (.cells #[.int .i64 r.c, .int .i64 r.st, .int .i64 r.k, .string r.key, .float .f64 r.b, .int .i64 r.id] 26))) := hid ⟨heap_alloc_last w _, (Below.refl w.heap.size w).alloc (Nat.le_refl _) _⟩
  have HN : Hid (∀ X, nullB r = X → ∀ u, Calls Try.prog 54 #[.agg #[.int .i64 r.c, .int .i64 r.st, .int .i64 r.k, .string r.key, .float .f64 r.b, .int .i64 r.id]] u fun e w' => e = .returned (.bool X) ∧ Below u.heap.size u w') := hid (fun X hX u => by rw [← hX]; exact dnull_any r u)
  have HR : Hid (∀ X, rightB r = X → ∀ u, Calls Try.prog 28 #[.agg #[.int .i64 r.c, .int .i64 r.st, .int .i64 r.k, .string r.key, .float .f64 r.b, .int .i64 r.id]] u fun e w' => e = .returned (.bool X) ∧ Below u.heap.size u w') := hid (fun X hX u => by rw [← hX]; exact dright_any r u)
  cases hN : nullB r with
  | true =>
    rw [show rqT r = ⟨#[0]⟩ by rw [rqT, if_pos hN], show rqE r = 0 by rw [rqE, if_pos hN]]
    have HNb := hid (HN.out _ hN)
    clear hN hb
    go_enter Try.func65, Try.ntmps65
    go_wp2_with (go_at_call 54; refine (HNb.out _).mono ?_; rintro e w1 ⟨rfl, hb1⟩; have H1 := hid (And.intro (H0.out.1.keep hb1) (H0.out.2.trans (hb1.mono H0.out.2.size))); clear hb1; obtain ⟨⟨z0, z1⟩, z2, z3, z4, z5⟩ := H1.out.1.cells)
    go_ret2
    exact ⟨rfl, H1.out.2⟩
  | false =>
    have HNb := hid (HN.out _ hN)
    cases hR : rightB r with
    | false =>
      rw [show rqT r = ⟨#[]⟩ by rw [rqT, hN, hR]; rfl, show rqE r = 1 by rw [rqE, hN, hR]; rfl]
      have HRb := hid (HR.out _ hR)
      clear hN hR hb
      go_enter Try.func65, Try.ntmps65
      go_wp2_with (first
        | (go_at_call 54; refine (HNb.out _).mono ?_; rintro e w1 ⟨rfl, hb1⟩; have H1 := hid (And.intro (H0.out.1.keep hb1) (H0.out.2.trans (hb1.mono H0.out.2.size))); clear hb1; obtain ⟨⟨z0, z1⟩, z2, z3, z4, z5⟩ := H1.out.1.cells)
        | (go_at_call 28; refine (HRb.out _).mono ?_; rintro e w2 ⟨rfl, hb2⟩; have H2 := hid (And.intro (H1.out.1.keep hb2) (H1.out.2.trans (hb2.mono H1.out.2.size))); clear hb2 z0 z1 z2 z3 z4 z5; obtain ⟨⟨z0, z1⟩, z2, z3, z4, z5⟩ := H2.out.1.cells))
      go_ret2
      exact ⟨rfl, H2.out.2⟩
    | true =>
      rw [show rqT r = ⟨(rqL r).toArray⟩ by rw [rqT, hN, hR]; rfl, show rqE r = 0 by rw [rqE, hN, hR]; rfl]
      have HRb := hid (HR.out _ hR)
      obtain ⟨⟨c1, c2⟩, ⟨s1, s2⟩, ⟨k1, k2⟩, hk, i1, i2⟩ := right_fields hR
      have HZ := hid (And.intro hk (canW_lt hb))
      obtain ⟨C, eC⟩ : ∃ C : Nat, r.c = (C : Int) := ⟨r.c.toNat, by omega⟩
      obtain ⟨S, eS⟩ : ∃ S : Nat, r.st = (S : Int) := ⟨r.st.toNat, by omega⟩
      obtain ⟨N, eN⟩ : ∃ N : Nat, r.k = (N : Int) := ⟨r.k.toNat, by omega⟩
      obtain ⟨I, eI⟩ : ∃ I : Nat, r.id = (I : Int) := ⟨r.id.toNat, by omega⟩
      have HF : Hid ((C < 256 ∧ S < 4294967296 ∧ N < 256 ∧ I < 256) ∧ rqL r = be 1 1 ++ (be 1 C ++ (be 4 S ++ (be 1 N ++ (be 2 r.key.size ++ (r.key.data.toList ++ (be 8 (canW r.b) ++ be 1 I))))))) := hid ⟨by omega, by rw [rqL, eC, eS, eN, eI]; rfl⟩
      clear c1 c2 s1 s2 k1 k2 hk i1 i2 hN hR hb
      obtain ⟨c, st, k, key, b, id⟩ := r
      simp only at eC eS eN eI HF HZ H0 HN HR HNb HRb ⊢
      subst eC eS eN eI
      have HKB : Hid (∀ u, Calls Try.prog 55 #[.float .f64 b] u fun e w' => e = .returned (.int .u64 (canW b : Nat)) ∧ w' = u) := hid (fun u => bits_any b u)
      generalize canW b = W8 at HF HZ HKB
      go_enter Try.func65, Try.ntmps65
      go_wp2_with (first
        | (go_at_call 54; refine (HNb.out _).mono ?_; rintro e w1 ⟨rfl, hb1⟩; have H1 := hid (And.intro (H0.out.1.keep hb1) (H0.out.2.trans (hb1.mono H0.out.2.size))); clear hb1; obtain ⟨⟨z0, z1⟩, z2, z3, z4, z5⟩ := H1.out.1.cells)
        | (go_at_call 28; refine (HRb.out _).mono ?_; rintro e w2 ⟨rfl, hb2⟩; have H2 := hid (And.intro (H1.out.1.keep hb2) (H1.out.2.trans (hb2.mono H1.out.2.size))); clear hb2 z0 z1 z2 z3 z4 z5; obtain ⟨⟨z0, z1⟩, z2, z3, z4, z5⟩ := H2.out.1.cells)
        | (go_at_call 16; refine (pwnew 34 (by decide) _).mono ?_; rintro e w3 ⟨rfl, h3⟩; have T0 := hid h3; clear h3; have HQT0 : Hid (RqAt w3 w.heap.size ⟨C, S, N, key, b, I⟩) := hid (((T0.out.2).block _ (lt_of_blk H2.out.1)).trans H2.out.1); (try clear z0 z1 z2 z3 z4 z5); obtain ⟨⟨z0, z1⟩, z2, z3, z4, z5⟩ := HQT0.out.cells)
        | (go_at_call 40; have := T6; refine (pwbyte 34 (by decide) (by decide) _ _ _ ([] ++ be 1 1 ++ be 1 C ++ be 4 S ++ be 1 N ++ (be 2 key.size ++ key.data.toList) ++ be 8 W8) I (by have := HF.out.1.2.2.2; omega) (by have := HZ.out.1; simp only [List.length_append, List.length_nil, be_len]; (try rw [data_len]); omega) (by exact T6.out)).mono ?_; rintro e v6 ⟨rfl, h6⟩; have T7 := hid h6; clear h6; have HQT7 : Hid (RqAt v6 w.heap.size ⟨C, S, N, key, b, I⟩) := hid (((T7.out.2).block _ (lt_of_blk H2.out.1)).trans H2.out.1); (try clear z0 z1 z2 z3 z4 z5); obtain ⟨⟨z0, z1⟩, z2, z3, z4, z5⟩ := HQT7.out.cells)
        | (go_at_call 63; have := T5; refine (pwbits 34 (by decide) (by decide) _ _ _ ([] ++ be 1 1 ++ be 1 C ++ be 4 S ++ be 1 N ++ (be 2 key.size ++ key.data.toList)) W8 HZ.out.2 (by have := HZ.out.1; simp only [List.length_append, List.length_nil, be_len]; (try rw [data_len]); omega) (by exact T5.out)).mono ?_; rintro e v5 ⟨rfl, h5⟩; have T6 := hid h5; clear h5; have HQT6 : Hid (RqAt v5 w.heap.size ⟨C, S, N, key, b, I⟩) := hid (((T6.out.2).block _ (lt_of_blk H2.out.1)).trans H2.out.1); (try clear z0 z1 z2 z3 z4 z5); obtain ⟨⟨z0, z1⟩, z2, z3, z4, z5⟩ := HQT6.out.cells)
        | (go_at_call 43; have := T4; refine (pwtext 34 (by decide) (by decide) _ _ _ ([] ++ be 1 1 ++ be 1 C ++ be 4 S ++ be 1 N) key (by have := HZ.out.1; omega) (by have := HZ.out.1; simp only [List.length_append, List.length_nil, be_len]; (try rw [data_len]); omega) (by exact T4.out)).mono ?_; rintro e v4 ⟨rfl, h4⟩; have T5 := hid h4; clear h4; have HQT5 : Hid (RqAt v4 w.heap.size ⟨C, S, N, key, b, I⟩) := hid (((T5.out.2).block _ (lt_of_blk H2.out.1)).trans H2.out.1); (try clear z0 z1 z2 z3 z4 z5); obtain ⟨⟨z0, z1⟩, z2, z3, z4, z5⟩ := HQT5.out.cells)
        | (go_at_call 40; have := T3; refine (pwbyte 34 (by decide) (by decide) _ _ _ ([] ++ be 1 1 ++ be 1 C ++ be 4 S) N (by have := HF.out.1.2.2.1; omega) (by have := HZ.out.1; simp only [List.length_append, List.length_nil, be_len]; (try rw [data_len]); omega) (by exact T3.out)).mono ?_; rintro e v3 ⟨rfl, h3⟩; have T4 := hid h3; clear h3; have HQT4 : Hid (RqAt v3 w.heap.size ⟨C, S, N, key, b, I⟩) := hid (((T4.out.2).block _ (lt_of_blk H2.out.1)).trans H2.out.1); (try clear z0 z1 z2 z3 z4 z5); obtain ⟨⟨z0, z1⟩, z2, z3, z4, z5⟩ := HQT4.out.cells)
        | (go_at_call 85; have := T2; refine (pwlong 34 (by decide) (by decide) _ _ _ ([] ++ be 1 1 ++ be 1 C) S (by have := HF.out.1.2.1; omega) (by have := HZ.out.1; simp only [List.length_append, List.length_nil, be_len]; (try rw [data_len]); omega) (by exact T2.out)).mono ?_; rintro e v2 ⟨rfl, h2⟩; have T3 := hid h2; clear h2; have HQT3 : Hid (RqAt v2 w.heap.size ⟨C, S, N, key, b, I⟩) := hid (((T3.out.2).block _ (lt_of_blk H2.out.1)).trans H2.out.1); (try clear z0 z1 z2 z3 z4 z5); obtain ⟨⟨z0, z1⟩, z2, z3, z4, z5⟩ := HQT3.out.cells)
        | (go_at_call 40; have := T1; refine (pwbyte 34 (by decide) (by decide) _ _ _ ([] ++ be 1 1) C (by have := HF.out.1.1; omega) (by have := HZ.out.1; simp only [List.length_append, List.length_nil, be_len]; (try rw [data_len]); omega) (by exact T1.out)).mono ?_; rintro e v1 ⟨rfl, h1⟩; have T2 := hid h1; clear h1; have HQT2 : Hid (RqAt v1 w.heap.size ⟨C, S, N, key, b, I⟩) := hid (((T2.out.2).block _ (lt_of_blk H2.out.1)).trans H2.out.1); (try clear z0 z1 z2 z3 z4 z5); obtain ⟨⟨z0, z1⟩, z2, z3, z4, z5⟩ := HQT2.out.cells)
        | (go_at_call 40; have := T0; refine (pwbyte 34 (by decide) (by decide) _ _ _ [] 1 (by decide) (by decide) (by exact T0.out)).mono ?_; rintro e v0 ⟨rfl, h0⟩; have T1 := hid h0; clear h0; have HQT1 : Hid (RqAt v0 w.heap.size ⟨C, S, N, key, b, I⟩) := hid (((T1.out.2).block _ (lt_of_blk H2.out.1)).trans H2.out.1); (try clear z0 z1 z2 z3 z4 z5); obtain ⟨⟨z0, z1⟩, z2, z3, z4, z5⟩ := HQT1.out.cells)
        | (go_at_call 55; refine (HKB.out _).mono ?_; rintro e w9 ⟨rfl, rfl⟩)
        | (go_at_call 18; refine (pwdone 34 _ _ _ _ (by exact T7.out)).mono ?_; rintro e wd ⟨rfl, hd⟩; have HDn := hid (H2.out.2.trans (hd.mono H2.out.2.size)); clear hd))
      go_ret2
      refine ⟨?_, HDn.out⟩
      rw [HF.out.2]
      rfl
set_option maxRecDepth 100000 in
set_option maxHeartbeats 6400000 in
theorem dresultText_any (c : Int) (f : Nat) (hf : f < 18446744073709551616) (w : World) : Calls Try.prog 39 #[.agg #[.int .i64 c, .float .f64 f]] w fun e' w' => e' = .returned (.tuple #[.string (rsT c f), .int .i64 (rsE c)]) ∧ Below w.heap.size w w' := by
  have H0 : Hid (RsAt (w.alloc (.cells #[.int .i64 c, .float .f64 f] 28)) w.heap.size c f ∧ Below w.heap.size w (w.alloc (.cells #[.int .i64 c, .float .f64 f] 28))) := hid ⟨heap_alloc_last w _, (Below.refl w.heap.size w).alloc (Nat.le_refl _) _⟩
  have HR : Hid (∀ X, rsB c = X → ∀ u, Calls Try.prog 62 #[.agg #[.int .i64 c, .float .f64 f]] u fun e w' => e = .returned (.bool X) ∧ Below u.heap.size u w') := hid (fun X hX u => by rw [← hX]; exact dresult_any c f u)
  cases hR : rsB c with
  | false =>
    rw [show rsT c f = ⟨#[]⟩ by rw [rsT, hR]; rfl, show rsE c = 1 by rw [rsE, hR]; rfl]
    have HRb := hid (HR.out _ hR)
    clear hR hf
    go_enter Try.func39, Try.ntmps39
    go_wp2_with (go_at_call 62; refine (HRb.out _).mono ?_; rintro e w1 ⟨rfl, hb1⟩; have H1 := hid (H0.out.2.trans (hb1.mono H0.out.2.size)); clear hb1)
    go_ret2
    exact ⟨rfl, H1.out⟩
  | true =>
    have HRb := hid (HR.out _ hR)
    rw [show rsE c = 0 by rw [rsE, hR]; rfl]
    have hc : 0 ≤ c ∧ c ≤ 8 := by simpa [rsB] using hR
    obtain ⟨C, rfl⟩ : ∃ C : Nat, c = (C : Int) := ⟨c.toNat, by omega⟩
    have HT : Hid (rsT (C : Int) f = ⟨([] ++ be 1 C ++ be 8 (canW f)).toArray⟩) := hid (by rw [rsT, hR]; rfl)
    rw [HT.out]
    have HZ := hid (And.intro (show C < 256 by omega) (canW_lt hf))
    have HKB : Hid (∀ u, Calls Try.prog 55 #[.float .f64 f] u fun e w' => e = .returned (.int .u64 (canW f : Nat)) ∧ w' = u) := hid (fun u => bits_any f u)
    clear hR hc hf HT
    generalize canW f = W8 at HZ HKB ⊢
    go_enter Try.func39, Try.ntmps39
    go_wp2_with (first
      | (go_at_call 62; refine (HRb.out _).mono ?_; rintro e w1 ⟨rfl, hb1⟩; have H1 := hid (And.intro (H0.out.1.keep hb1) (H0.out.2.trans (hb1.mono H0.out.2.size))); clear hb1; obtain ⟨z0, z1⟩ := H1.out.1.cells)
      | (go_at_call 16; refine (pwnew 9 (by decide) _).mono ?_; rintro e w3 ⟨rfl, h3⟩; have T0 := hid h3; clear h3; have HQ0 : Hid (RsAt w3 w.heap.size (C : Int) f) := hid ((T0.out.2.block _ (lt_of_blk H1.out.1)).trans H1.out.1); clear z0 z1; obtain ⟨z0, z1⟩ := HQ0.out.cells)
      | (go_at_call 63; refine (pwbits 9 (by decide) (by decide) _ _ _ ([] ++ be 1 C) W8 HZ.out.2 (by simp only [List.length_append, List.length_nil, be_len]; decide) (by exact T1.out)).mono ?_; rintro e w5 ⟨rfl, h5⟩; have T2 := hid h5; clear h5)
      | (go_at_call 40; refine (pwbyte 9 (by decide) (by decide) _ _ _ [] C HZ.out.1 (by decide) (by exact T0.out)).mono ?_; rintro e w4 ⟨rfl, h4⟩; have T1 := hid h4; clear h4; have HQ1 : Hid (RsAt w4 w.heap.size (C : Int) f) := hid ((T1.out.2.block _ (lt_of_blk H1.out.1)).trans H1.out.1); clear z0 z1; obtain ⟨z0, z1⟩ := HQ1.out.cells)
      | (go_at_call 55; refine (HKB.out _).mono ?_; rintro e w9 ⟨rfl, rfl⟩)
      | (go_at_call 18; refine (pwdone 9 _ _ _ _ (by exact T2.out)).mono ?_; rintro e wd ⟨rfl, hd⟩; have HDn := hid (H1.out.2.trans (hd.mono H1.out.2.size)); clear hd))
    go_ret2
    exact ⟨rfl, HDn.out⟩
end Go.Proofs.Ytfjcpghepkmbfaa

/- What the program reads any bytes as: a request, a result. -/
namespace Go.Proofs.Ytfjcpghepkmbfaa
open Go.RowKit

theorem rq_c {w : World} {b : Nat} {r : Rq} (h : RqAt w b r) (v : Int) : RqAt (w.setCell ⟨b, 0, none⟩ (.int .i64 v)) b { r with c := v } := (blk_set h 0 _).trans (by simp)
/-- While bytes are read: the result's block, the program's reader at x. -/
structure QrSt (w0 w : World) (x : Rd) : Prop where
  res : RqAt w w0.heap.size zeroQ
  rd : RdAt w (w0.heap.size + 1) x.s x.sh
  bel : Below w0.heap.size w0 w
theorem QrSt.kept {w0 w w' : World} {x y : Rd} (h : QrSt w0 w x) (k : Kept (w0.heap.size + 1) none w w') (hr : RdAt w' (w0.heap.size + 1) y.s y.sh) : QrSt w0 w' y :=
  ⟨(k.block _ (lt_of_blk h.res) (by omega) (by simp)).trans h.res, hr, h.bel.trans (k.below (Nat.le_of_lt (lt_of_blk h.res)) (by omega) (fun g hg => by cases hg))⟩
theorem QrSt.keep {w0 w w' : World} {x : Rd} (h : QrSt w0 w x) (hb : Below w.heap.size w w') : QrSt w0 w' x :=
  ⟨h.res.keep hb, (hb.block _ (lt_of_blk h.rd)).trans h.rd, h.bel.trans (hb.mono h.bel.size)⟩
theorem QrSt.put {w0 w : World} {x : Rd} (h : QrSt w0 w x) {b : Nat} (hb : w0.heap.size + 2 ≤ b) (o : Nat) (v : Value) : QrSt w0 (w.setCell ⟨b, o, none⟩ v) x :=
  ⟨(Below.heap_setCell _ _ _ _ (by simp; omega)).trans h.res, (Below.heap_setCell _ _ _ _ (by simp; omega)).trans h.rd, h.bel.setCell (p := ⟨b, o, none⟩) (by simp; omega) v⟩
/-- .. and what is read so far, at block b. -/
structure QxSt (w0 w : World) (x : Rd) (b : Nat) (r : Rq) : Prop where
  st : QrSt w0 w x
  rq : RqAt w b r
  hb : w0.heap.size + 2 ≤ b
theorem QxSt.st0 {w0 w : World} {x : Rd} {b : Nat} {r : Rq} (h : QxSt w0 w x b r) (v : Int) : QxSt w0 (w.setCell ⟨b, 0, none⟩ (.int .i64 v)) x b { r with c := v } := ⟨h.st.put h.hb 0 _, rq_c h.rq v, h.hb⟩
theorem QxSt.st1 {w0 w : World} {x : Rd} {b : Nat} {r : Rq} (h : QxSt w0 w x b r) (v : Int) : QxSt w0 (w.setCell ⟨b, 1, none⟩ (.int .i64 v)) x b { r with st := v } := ⟨h.st.put h.hb 1 _, rq_st h.rq v, h.hb⟩
theorem QxSt.st2 {w0 w : World} {x : Rd} {b : Nat} {r : Rq} (h : QxSt w0 w x b r) (v : Int) : QxSt w0 (w.setCell ⟨b, 2, none⟩ (.int .i64 v)) x b { r with k := v } := ⟨h.st.put h.hb 2 _, rq_k h.rq v, h.hb⟩
theorem QxSt.st3 {w0 w : World} {x : Rd} {b : Nat} {r : Rq} (h : QxSt w0 w x b r) (v : ByteArray) : QxSt w0 (w.setCell ⟨b, 3, none⟩ (.string v)) x b { r with key := v } := ⟨h.st.put h.hb 3 _, rq_key h.rq v, h.hb⟩
theorem QxSt.st4 {w0 w : World} {x : Rd} {b : Nat} {r : Rq} (h : QxSt w0 w x b r) (v : Nat) : QxSt w0 (w.setCell ⟨b, 4, none⟩ (.float .f64 v)) x b { r with b := v } := ⟨h.st.put h.hb 4 _, rq_b h.rq v, h.hb⟩
theorem QxSt.st5 {w0 w : World} {x : Rd} {b : Nat} {r : Rq} (h : QxSt w0 w x b r) (v : Int) : QxSt w0 (w.setCell ⟨b, 5, none⟩ (.int .i64 v)) x b { r with id := v } := ⟨h.st.put h.hb 5 _, rq_id h.rq v, h.hb⟩
theorem QxSt.kept {w0 w w' : World} {x y : Rd} {b : Nat} {r : Rq} (h : QxSt w0 w x b r) (k : Kept (w0.heap.size + 1) none w w') (hr : RdAt w' (w0.heap.size + 1) y.s y.sh) : QxSt w0 w' y b r :=
  ⟨h.st.kept k hr, (k.block _ (lt_of_blk h.rq) (by have := h.hb; omega) (by simp)).trans h.rq, h.hb⟩
theorem QxSt.keep {w0 w w' : World} {x : Rd} {b : Nat} {r : Rq} (h : QxSt w0 w x b r) (hb : Below w.heap.size w w') : QxSt w0 w' x b r := ⟨h.st.keep hb, h.rq.keep hb, h.hb⟩
set_option maxRecDepth 100000 in
set_option maxHeartbeats 12800000 in
theorem dread_any (t : ByteArray) (_ht : t.size ≤ 9223372036854775807) (w : World) : Calls Try.prog 89 #[.string t] w fun e w' => e = .returned (.tuple #[.agg #[.int .i64 (rdR t).c, .int .i64 (rdR t).st, .int .i64 (rdR t).k, .string (rdR t).key, .float .f64 (rdR t).b, .int .i64 (rdR t).id], .int .i64 (rdE t)]) ∧ Below w.heap.size w w' := by
  have H0 : Hid (RqAt (w.alloc (.cells #[.int .i64 0, .int .i64 0, .int .i64 0, .string ⟨#[]⟩, .float .f64 0, .int .i64 0] 26)) w.heap.size zeroQ ∧ Below w.heap.size w (w.alloc (.cells #[.int .i64 0, .int .i64 0, .int .i64 0, .string ⟨#[]⟩, .float .f64 0, .int .i64 0] 26))) := hid ⟨heap_alloc_last w _, (Below.refl _ _).alloc (Nat.le_refl _) _⟩
  cases hn : isNul t with
  | true =>
    have hn2 : (t.toList == [0]) = true := by rw [ByteArray.toList_eq]; simpa [isNul] using hn
    rw [show rdR t = zeroQ by rw [rdR, if_pos hn], show rdE t = 0 by rw [rdE, if_pos hn]]
    clear hn
    go_enter Try.func89, Try.ntmps89
    go_wp2_with (refine wl_store_rq rfl _ _ rfl w.heap.size rfl zeroQ zeroQ rfl H0.out.1 ?_; intro w1 H1)
    refine ret_pair (s := 2) (s2 := 3) (ad := ⟨w.heap.size, 0, none⟩) rfl rfl (load_rq _ _ zeroQ H1.out.1) rfl rfl ?_
    exact ⟨rfl, H1.out.2.below H0.out.2 (Nat.le_refl _)⟩
  | false =>
    have hn2 : (t.toList == [0]) = false := by rw [ByteArray.toList_eq]; simpa [isNul] using hn
    have HRd : Hid (rdR t = (if okq t then rdq t else zeroQ) ∧ rdE t = (if okq t then 0 else 5)) := hid ⟨by rw [rdR, hn]; rfl, by rw [rdE, hn]; rfl⟩
    have HOk : Hid (okq t = (((decide (rdHead t = 1) && (canW (rdBits t) == rdBits t)) && decide (endOf (rd7 t).s (rd7 t).sh = 0)) && rightB (rdq t))) := hid rfl
    have HR : Hid (∀ (X : Bool), rightB (rdq t) = X → ∀ u, Calls Try.prog 28 #[.agg #[.int .i64 (rdq t).c, .int .i64 (rdq t).st, .int .i64 (rdq t).k, .string (rdq t).key, .float .f64 (rdq t).b, .int .i64 (rdq t).id]] u fun e w' => e = .returned (.bool X) ∧ Below u.heap.size u w') := hid (fun X hX u => by rw [← hX]; exact dright_any (rdq t) u)
    have HFr : Hid (∀ (X : Bool), (canW (rdBits t) == rdBits t) = X → ∀ u, Calls Try.prog 99 #[.int .u64 ((rdBits t : Nat) : Int)] u fun e w' => e = .returned (.tuple #[.float .f64 (fromW (rdBits t)), .bool X]) ∧ w' = u) := hid (fun X hX u => by rw [← hX]; exact from_any (rdBits t) u)
    have hbx := (Below.refl (w.alloc (.cells #[.int .i64 0, .int .i64 0, .int .i64 0, .string ⟨#[]⟩, .float .f64 0, .int .i64 0] 26)).heap.size (w.alloc (.cells #[.int .i64 0, .int .i64 0, .int .i64 0, .string ⟨#[]⟩, .float .f64 0, .int .i64 0] 26))).alloc (Nat.le_refl _) (.cells #[.string t, .bool false] 118)
    have H1 : Hid (QrSt w ((w.alloc (.cells #[.int .i64 0, .int .i64 0, .int .i64 0, .string ⟨#[]⟩, .float .f64 0, .int .i64 0] 26)).alloc (.cells #[.string t, .bool false] 118)) ⟨t, false⟩) := hid ⟨H0.out.1.keep hbx, snd_alloc w _ _, H0.out.2.trans (hbx.mono (by simp))⟩
    clear hn hbx
    by_cases he : endOf (rd7 t).s (rd7 t).sh = 0
    · have heb : (endOf (rd7 t).s (rd7 t).sh != 0) = false := by rw [he]; rfl
      by_cases hh : rdHead t = 1
      · have hhb : ((rN t false 1 : Int) != 1) = false := by have : rN t false 1 = 1 := hh; rw [this]; rfl
        cases hD : (canW (rdBits t) == rdBits t) with
        | false =>
          have HFb := hid (HFr.out _ hD)
          have HV : Hid (rdR t = zeroQ ∧ rdE t = 5) := hid (by rw [HRd.out.1, HRd.out.2, HOk.out, hD]; simp)
          clear hD hh HFr HR HRd HOk he
          go_enter Try.func89, Try.ntmps89
          go_wp2_with (first
            | (have := HRs; refine wl_store_rq rfl _ _ rfl w.heap.size rfl zeroQ zeroQ rfl HRs.out.1 ?_; intro wz Hz)
            | (go_at_call 28; refine (HRb.out _).mono ?_; rintro e w10 ⟨rfl, hb10⟩; have H10 := hid (H9s.out.keep hb10); clear hb10; (try clear z0 z1 z2 z3 z4 z5); obtain ⟨⟨z0, z1⟩, z2, z3, z4, z5⟩ := H10.out.rq.cells; have HRs : Hid (RqAt w10 w.heap.size zeroQ ∧ Below w.heap.size w w10) := hid ⟨H10.out.st.res, H10.out.st.bel⟩)
            | (go_at_call 50; refine (end_any _ _ _ _ H9s.out.st.rd).mono ?_; rintro e w11 ⟨rfl, rfl⟩)
            | (go_at_call 86; have := H8s; refine (rbyte_any _ _ _ _ H8s.out.st.rd).mono ?_; rintro e w9 ⟨rfl, hr, hk⟩; have H9 := hid (H8s.out.kept (y := rd7 t) hk hr); have H9s := hid (H9.out.st5 (rN (rd6 t).s (rd6 t).sh 1 : Int)); clear hr hk; (try clear z0 z1 z2 z3 z4 z5); obtain ⟨⟨z0, z1⟩, z2, z3, z4, z5⟩ := H9.out.rq.cells; have f5 := free_at H9.out.rq 5; have HRs : Hid (RqAt (w9.setCell ⟨w2.heap.size, 5, none⟩ (.int .i64 (rN (rd6 t).s (rd6 t).sh 1 : Int))) w.heap.size zeroQ ∧ Below w.heap.size w (w9.setCell ⟨w2.heap.size, 5, none⟩ (.int .i64 (rN (rd6 t).s (rd6 t).sh 1 : Int)))) := hid ⟨H9s.out.st.res, H9s.out.st.bel⟩)
            | (have := H8; refine wl_store_f rfl _ _ rfl w2.heap.size 4 rfl (fromW (rdBits t)) rfl _ z4 f4 ?_; have H8s := hid (H8.out.st4 (fromW (rdBits t))))
            | (go_at_call 99; refine (HFb.out _).mono ?_; rintro e w12 ⟨rfl, rfl⟩)
            | (go_at_call 100; have := H7s; refine (rbits_any _ _ _ _ H7s.out.st.rd).mono ?_; rintro e w8 ⟨rfl, hr, hk⟩; have H8 := hid (H7s.out.kept (y := rd6 t) hk hr); clear hr hk; (try clear z0 z1 z2 z3 z4 z5); obtain ⟨⟨z0, z1⟩, z2, z3, z4, z5⟩ := H8.out.rq.cells; have f4 := free_at H8.out.rq 4; clear z0 z1 z2 z3 z5)
            | (go_at_call 91; have := H6s; refine (rtext_any _ _ _ _ H6s.out.st.rd).mono ?_; rintro e w7 ⟨rfl, hr, hk⟩; have H7 := hid (H6s.out.kept (y := rd5 t) hk hr); have H7s := hid (H7.out.st3 (tT (rd4 t).s (rd4 t).sh)); clear hr hk; (try clear z0 z1 z2 z3 z4 z5); obtain ⟨⟨z0, z1⟩, z2, z3, z4, z5⟩ := H7.out.rq.cells; have f3 := free_at H7.out.rq 3; clear z0 z1 z2 z4 z5)
            | (go_at_call 86; have := H5s; refine (rbyte_any _ _ _ _ H5s.out.st.rd).mono ?_; rintro e w6 ⟨rfl, hr, hk⟩; have H6 := hid (H5s.out.kept (y := rd4 t) hk hr); have H6s := hid (H6.out.st2 (rN (rd3 t).s (rd3 t).sh 1 : Int)); clear hr hk; (try clear z0 z1 z2 z3 z4 z5); obtain ⟨⟨z0, z1⟩, z2, z3, z4, z5⟩ := H6.out.rq.cells; have f2 := free_at H6.out.rq 2; clear z0 z1 z3 z4 z5)
            | (go_at_call 98; have := H4s; refine (rlong_any _ _ _ _ H4s.out.st.rd).mono ?_; rintro e w5 ⟨rfl, hr, hk⟩; have H5 := hid (H4s.out.kept (y := rd3 t) hk hr); have H5s := hid (H5.out.st1 (rN (rd2 t).s (rd2 t).sh 4 : Int)); clear hr hk; (try clear z0 z1 z2 z3 z4 z5); obtain ⟨⟨z0, z1⟩, z2, z3, z4, z5⟩ := H5.out.rq.cells; have f1 := free_at H5.out.rq 1; clear z0 z2 z3 z4 z5)
            | (go_at_call 86; have := H3; refine (rbyte_any _ _ _ _ H3.out.st.rd).mono ?_; rintro e w4 ⟨rfl, hr, hk⟩; have H4 := hid (H3.out.kept (y := rd2 t) hk hr); have H4s := hid (H4.out.st0 (rN (rd1 t).s (rd1 t).sh 1 : Int)); clear hr hk; (try clear z0 z1 z2 z3 z4 z5); obtain ⟨⟨z0, z1⟩, z2, z3, z4, z5⟩ := H4.out.rq.cells; have f0 := free_at H4.out.rq 0; clear z1 z2 z3 z4 z5)
            | (go_at_call 86; refine (rbyte_any _ _ _ _ H1.out.rd).mono ?_; rintro e w2 ⟨rfl, hr, hk⟩; have H2 := hid (H1.out.kept (y := rd1 t) hk hr); clear hr hk; have hax := (Below.refl w2.heap.size w2).alloc (Nat.le_refl _) (.cells #[.int .i64 0, .int .i64 0, .int .i64 0, .string ⟨#[]⟩, .float .f64 0, .int .i64 0] 26); have H3 : Hid (QxSt w (w2.alloc (.cells #[.int .i64 0, .int .i64 0, .int .i64 0, .string ⟨#[]⟩, .float .f64 0, .int .i64 0] 26)) (rd1 t) w2.heap.size zeroQ) := hid ⟨H2.out.keep hax, heap_alloc_last w2 _, lt_of_blk H2.out.rd⟩; clear hax)
            | (go_at_call 47; refine (read_any _ _).mono ?_; rintro e w1 ⟨rfl, rfl⟩))
          refine ret_pair (s := 2) (s2 := 3) (ad := ⟨w.heap.size, 0, none⟩) rfl rfl (load_rq _ _ zeroQ Hz.out.1) rfl rfl ?_
          refine ⟨?_, Hz.out.2.below HRs.out.2 (Nat.le_refl _)⟩
          rw [HV.out.1, HV.out.2]
          rfl
        | true =>
          have HFb := hid (HFr.out _ hD)
          cases hX : rightB (rdq t) with
          | false =>
            have HRb := hid (HR.out _ hX)
            have HV : Hid (rdR t = zeroQ ∧ rdE t = 5) := hid (by rw [HRd.out.1, HRd.out.2, HOk.out, hX]; simp)
            clear hD hh HFr HR HRd HOk hX he
            go_enter Try.func89, Try.ntmps89
            go_wp2_with (first
              | (have := HRs; refine wl_store_rq rfl _ _ rfl w.heap.size rfl zeroQ zeroQ rfl HRs.out.1 ?_; intro wz Hz)
              | (go_at_call 28; refine (HRb.out _).mono ?_; rintro e w10 ⟨rfl, hb10⟩; have H10 := hid (H9s.out.keep hb10); clear hb10; (try clear z0 z1 z2 z3 z4 z5); obtain ⟨⟨z0, z1⟩, z2, z3, z4, z5⟩ := H10.out.rq.cells; have HRs : Hid (RqAt w10 w.heap.size zeroQ ∧ Below w.heap.size w w10) := hid ⟨H10.out.st.res, H10.out.st.bel⟩)
              | (go_at_call 50; refine (end_any _ _ _ _ H9s.out.st.rd).mono ?_; rintro e w11 ⟨rfl, rfl⟩)
              | (go_at_call 86; have := H8s; refine (rbyte_any _ _ _ _ H8s.out.st.rd).mono ?_; rintro e w9 ⟨rfl, hr, hk⟩; have H9 := hid (H8s.out.kept (y := rd7 t) hk hr); have H9s := hid (H9.out.st5 (rN (rd6 t).s (rd6 t).sh 1 : Int)); clear hr hk; (try clear z0 z1 z2 z3 z4 z5); obtain ⟨⟨z0, z1⟩, z2, z3, z4, z5⟩ := H9.out.rq.cells; have f5 := free_at H9.out.rq 5; have HRs : Hid (RqAt (w9.setCell ⟨w2.heap.size, 5, none⟩ (.int .i64 (rN (rd6 t).s (rd6 t).sh 1 : Int))) w.heap.size zeroQ ∧ Below w.heap.size w (w9.setCell ⟨w2.heap.size, 5, none⟩ (.int .i64 (rN (rd6 t).s (rd6 t).sh 1 : Int)))) := hid ⟨H9s.out.st.res, H9s.out.st.bel⟩)
              | (have := H8; refine wl_store_f rfl _ _ rfl w2.heap.size 4 rfl (fromW (rdBits t)) rfl _ z4 f4 ?_; have H8s := hid (H8.out.st4 (fromW (rdBits t))))
              | (go_at_call 99; refine (HFb.out _).mono ?_; rintro e w12 ⟨rfl, rfl⟩)
              | (go_at_call 100; have := H7s; refine (rbits_any _ _ _ _ H7s.out.st.rd).mono ?_; rintro e w8 ⟨rfl, hr, hk⟩; have H8 := hid (H7s.out.kept (y := rd6 t) hk hr); clear hr hk; (try clear z0 z1 z2 z3 z4 z5); obtain ⟨⟨z0, z1⟩, z2, z3, z4, z5⟩ := H8.out.rq.cells; have f4 := free_at H8.out.rq 4; clear z0 z1 z2 z3 z5)
              | (go_at_call 91; have := H6s; refine (rtext_any _ _ _ _ H6s.out.st.rd).mono ?_; rintro e w7 ⟨rfl, hr, hk⟩; have H7 := hid (H6s.out.kept (y := rd5 t) hk hr); have H7s := hid (H7.out.st3 (tT (rd4 t).s (rd4 t).sh)); clear hr hk; (try clear z0 z1 z2 z3 z4 z5); obtain ⟨⟨z0, z1⟩, z2, z3, z4, z5⟩ := H7.out.rq.cells; have f3 := free_at H7.out.rq 3; clear z0 z1 z2 z4 z5)
              | (go_at_call 86; have := H5s; refine (rbyte_any _ _ _ _ H5s.out.st.rd).mono ?_; rintro e w6 ⟨rfl, hr, hk⟩; have H6 := hid (H5s.out.kept (y := rd4 t) hk hr); have H6s := hid (H6.out.st2 (rN (rd3 t).s (rd3 t).sh 1 : Int)); clear hr hk; (try clear z0 z1 z2 z3 z4 z5); obtain ⟨⟨z0, z1⟩, z2, z3, z4, z5⟩ := H6.out.rq.cells; have f2 := free_at H6.out.rq 2; clear z0 z1 z3 z4 z5)
              | (go_at_call 98; have := H4s; refine (rlong_any _ _ _ _ H4s.out.st.rd).mono ?_; rintro e w5 ⟨rfl, hr, hk⟩; have H5 := hid (H4s.out.kept (y := rd3 t) hk hr); have H5s := hid (H5.out.st1 (rN (rd2 t).s (rd2 t).sh 4 : Int)); clear hr hk; (try clear z0 z1 z2 z3 z4 z5); obtain ⟨⟨z0, z1⟩, z2, z3, z4, z5⟩ := H5.out.rq.cells; have f1 := free_at H5.out.rq 1; clear z0 z2 z3 z4 z5)
              | (go_at_call 86; have := H3; refine (rbyte_any _ _ _ _ H3.out.st.rd).mono ?_; rintro e w4 ⟨rfl, hr, hk⟩; have H4 := hid (H3.out.kept (y := rd2 t) hk hr); have H4s := hid (H4.out.st0 (rN (rd1 t).s (rd1 t).sh 1 : Int)); clear hr hk; (try clear z0 z1 z2 z3 z4 z5); obtain ⟨⟨z0, z1⟩, z2, z3, z4, z5⟩ := H4.out.rq.cells; have f0 := free_at H4.out.rq 0; clear z1 z2 z3 z4 z5)
              | (go_at_call 86; refine (rbyte_any _ _ _ _ H1.out.rd).mono ?_; rintro e w2 ⟨rfl, hr, hk⟩; have H2 := hid (H1.out.kept (y := rd1 t) hk hr); clear hr hk; have hax := (Below.refl w2.heap.size w2).alloc (Nat.le_refl _) (.cells #[.int .i64 0, .int .i64 0, .int .i64 0, .string ⟨#[]⟩, .float .f64 0, .int .i64 0] 26); have H3 : Hid (QxSt w (w2.alloc (.cells #[.int .i64 0, .int .i64 0, .int .i64 0, .string ⟨#[]⟩, .float .f64 0, .int .i64 0] 26)) (rd1 t) w2.heap.size zeroQ) := hid ⟨H2.out.keep hax, heap_alloc_last w2 _, lt_of_blk H2.out.rd⟩; clear hax)
              | (go_at_call 47; refine (read_any _ _).mono ?_; rintro e w1 ⟨rfl, rfl⟩))
            refine ret_pair (s := 2) (s2 := 3) (ad := ⟨w.heap.size, 0, none⟩) rfl rfl (load_rq _ _ zeroQ Hz.out.1) rfl rfl ?_
            refine ⟨?_, Hz.out.2.below HRs.out.2 (Nat.le_refl _)⟩
            rw [HV.out.1, HV.out.2]
            rfl
          | true =>
            have HRb := hid (HR.out _ hX)
            have HV : Hid (rdR t = rdq t ∧ rdE t = 0) := hid (by rw [HRd.out.1, HRd.out.2, HOk.out, hX, hD, hh, he]; simp)
            clear hD hh HFr HR HRd HOk hX he
            go_enter Try.func89, Try.ntmps89
            go_wp2_with (first
              | (have := HRs; refine wl_store_rq rfl _ _ rfl w.heap.size rfl zeroQ (rdq t) rfl HRs.out.1 ?_; intro wz Hz)
              | (go_at_call 28; refine (HRb.out _).mono ?_; rintro e w10 ⟨rfl, hb10⟩; have H10 := hid (H9s.out.keep hb10); clear hb10; (try clear z0 z1 z2 z3 z4 z5); obtain ⟨⟨z0, z1⟩, z2, z3, z4, z5⟩ := H10.out.rq.cells; have HRs : Hid (RqAt w10 w.heap.size zeroQ ∧ Below w.heap.size w w10) := hid ⟨H10.out.st.res, H10.out.st.bel⟩)
              | (go_at_call 50; refine (end_any _ _ _ _ H9s.out.st.rd).mono ?_; rintro e w11 ⟨rfl, rfl⟩)
              | (go_at_call 86; have := H8s; refine (rbyte_any _ _ _ _ H8s.out.st.rd).mono ?_; rintro e w9 ⟨rfl, hr, hk⟩; have H9 := hid (H8s.out.kept (y := rd7 t) hk hr); have H9s := hid (H9.out.st5 (rN (rd6 t).s (rd6 t).sh 1 : Int)); clear hr hk; (try clear z0 z1 z2 z3 z4 z5); obtain ⟨⟨z0, z1⟩, z2, z3, z4, z5⟩ := H9.out.rq.cells; have f5 := free_at H9.out.rq 5; have HRs : Hid (RqAt (w9.setCell ⟨w2.heap.size, 5, none⟩ (.int .i64 (rN (rd6 t).s (rd6 t).sh 1 : Int))) w.heap.size zeroQ ∧ Below w.heap.size w (w9.setCell ⟨w2.heap.size, 5, none⟩ (.int .i64 (rN (rd6 t).s (rd6 t).sh 1 : Int)))) := hid ⟨H9s.out.st.res, H9s.out.st.bel⟩)
              | (have := H8; refine wl_store_f rfl _ _ rfl w2.heap.size 4 rfl (fromW (rdBits t)) rfl _ z4 f4 ?_; have H8s := hid (H8.out.st4 (fromW (rdBits t))))
              | (go_at_call 99; refine (HFb.out _).mono ?_; rintro e w12 ⟨rfl, rfl⟩)
              | (go_at_call 100; have := H7s; refine (rbits_any _ _ _ _ H7s.out.st.rd).mono ?_; rintro e w8 ⟨rfl, hr, hk⟩; have H8 := hid (H7s.out.kept (y := rd6 t) hk hr); clear hr hk; (try clear z0 z1 z2 z3 z4 z5); obtain ⟨⟨z0, z1⟩, z2, z3, z4, z5⟩ := H8.out.rq.cells; have f4 := free_at H8.out.rq 4; clear z0 z1 z2 z3 z5)
              | (go_at_call 91; have := H6s; refine (rtext_any _ _ _ _ H6s.out.st.rd).mono ?_; rintro e w7 ⟨rfl, hr, hk⟩; have H7 := hid (H6s.out.kept (y := rd5 t) hk hr); have H7s := hid (H7.out.st3 (tT (rd4 t).s (rd4 t).sh)); clear hr hk; (try clear z0 z1 z2 z3 z4 z5); obtain ⟨⟨z0, z1⟩, z2, z3, z4, z5⟩ := H7.out.rq.cells; have f3 := free_at H7.out.rq 3; clear z0 z1 z2 z4 z5)
              | (go_at_call 86; have := H5s; refine (rbyte_any _ _ _ _ H5s.out.st.rd).mono ?_; rintro e w6 ⟨rfl, hr, hk⟩; have H6 := hid (H5s.out.kept (y := rd4 t) hk hr); have H6s := hid (H6.out.st2 (rN (rd3 t).s (rd3 t).sh 1 : Int)); clear hr hk; (try clear z0 z1 z2 z3 z4 z5); obtain ⟨⟨z0, z1⟩, z2, z3, z4, z5⟩ := H6.out.rq.cells; have f2 := free_at H6.out.rq 2; clear z0 z1 z3 z4 z5)
              | (go_at_call 98; have := H4s; refine (rlong_any _ _ _ _ H4s.out.st.rd).mono ?_; rintro e w5 ⟨rfl, hr, hk⟩; have H5 := hid (H4s.out.kept (y := rd3 t) hk hr); have H5s := hid (H5.out.st1 (rN (rd2 t).s (rd2 t).sh 4 : Int)); clear hr hk; (try clear z0 z1 z2 z3 z4 z5); obtain ⟨⟨z0, z1⟩, z2, z3, z4, z5⟩ := H5.out.rq.cells; have f1 := free_at H5.out.rq 1; clear z0 z2 z3 z4 z5)
              | (go_at_call 86; have := H3; refine (rbyte_any _ _ _ _ H3.out.st.rd).mono ?_; rintro e w4 ⟨rfl, hr, hk⟩; have H4 := hid (H3.out.kept (y := rd2 t) hk hr); have H4s := hid (H4.out.st0 (rN (rd1 t).s (rd1 t).sh 1 : Int)); clear hr hk; (try clear z0 z1 z2 z3 z4 z5); obtain ⟨⟨z0, z1⟩, z2, z3, z4, z5⟩ := H4.out.rq.cells; have f0 := free_at H4.out.rq 0; clear z1 z2 z3 z4 z5)
              | (go_at_call 86; refine (rbyte_any _ _ _ _ H1.out.rd).mono ?_; rintro e w2 ⟨rfl, hr, hk⟩; have H2 := hid (H1.out.kept (y := rd1 t) hk hr); clear hr hk; have hax := (Below.refl w2.heap.size w2).alloc (Nat.le_refl _) (.cells #[.int .i64 0, .int .i64 0, .int .i64 0, .string ⟨#[]⟩, .float .f64 0, .int .i64 0] 26); have H3 : Hid (QxSt w (w2.alloc (.cells #[.int .i64 0, .int .i64 0, .int .i64 0, .string ⟨#[]⟩, .float .f64 0, .int .i64 0] 26)) (rd1 t) w2.heap.size zeroQ) := hid ⟨H2.out.keep hax, heap_alloc_last w2 _, lt_of_blk H2.out.rd⟩; clear hax)
              | (go_at_call 47; refine (read_any _ _).mono ?_; rintro e w1 ⟨rfl, rfl⟩))
            refine ret_pair (s := 2) (s2 := 3) (ad := ⟨w.heap.size, 0, none⟩) rfl rfl (load_rq _ _ (rdq t) Hz.out.1) rfl rfl ?_
            refine ⟨?_, Hz.out.2.below HRs.out.2 (Nat.le_refl _)⟩
            rw [HV.out.1, HV.out.2]
            rfl
      · have hhb : ((rN t false 1 : Int) != 1) = true := by
          have : rN t false 1 ≠ 1 := hh
          simp
          omega
        have HFb := hid (HFr.out _ rfl)
        have HV : Hid (rdR t = zeroQ ∧ rdE t = 5) := hid (by rw [HRd.out.1, HRd.out.2, HOk.out]; simp [hh])
        clear hh HFr HR HRd HOk he
        go_enter Try.func89, Try.ntmps89
        go_wp2_with (first
          | (have := HRs; refine wl_store_rq rfl _ _ rfl w.heap.size rfl zeroQ zeroQ rfl HRs.out.1 ?_; intro wz Hz)
          | (go_at_call 28; refine (HRb.out _).mono ?_; rintro e w10 ⟨rfl, hb10⟩; have H10 := hid (H9s.out.keep hb10); clear hb10; (try clear z0 z1 z2 z3 z4 z5); obtain ⟨⟨z0, z1⟩, z2, z3, z4, z5⟩ := H10.out.rq.cells; have HRs : Hid (RqAt w10 w.heap.size zeroQ ∧ Below w.heap.size w w10) := hid ⟨H10.out.st.res, H10.out.st.bel⟩)
          | (go_at_call 50; refine (end_any _ _ _ _ H9s.out.st.rd).mono ?_; rintro e w11 ⟨rfl, rfl⟩)
          | (go_at_call 86; have := H8s; refine (rbyte_any _ _ _ _ H8s.out.st.rd).mono ?_; rintro e w9 ⟨rfl, hr, hk⟩; have H9 := hid (H8s.out.kept (y := rd7 t) hk hr); have H9s := hid (H9.out.st5 (rN (rd6 t).s (rd6 t).sh 1 : Int)); clear hr hk; (try clear z0 z1 z2 z3 z4 z5); obtain ⟨⟨z0, z1⟩, z2, z3, z4, z5⟩ := H9.out.rq.cells; have f5 := free_at H9.out.rq 5; have HRs : Hid (RqAt (w9.setCell ⟨w2.heap.size, 5, none⟩ (.int .i64 (rN (rd6 t).s (rd6 t).sh 1 : Int))) w.heap.size zeroQ ∧ Below w.heap.size w (w9.setCell ⟨w2.heap.size, 5, none⟩ (.int .i64 (rN (rd6 t).s (rd6 t).sh 1 : Int)))) := hid ⟨H9s.out.st.res, H9s.out.st.bel⟩)
          | (have := H8; refine wl_store_f rfl _ _ rfl w2.heap.size 4 rfl (fromW (rdBits t)) rfl _ z4 f4 ?_; have H8s := hid (H8.out.st4 (fromW (rdBits t))))
          | (go_at_call 99; refine (HFb.out _).mono ?_; rintro e w12 ⟨rfl, rfl⟩)
          | (go_at_call 100; have := H7s; refine (rbits_any _ _ _ _ H7s.out.st.rd).mono ?_; rintro e w8 ⟨rfl, hr, hk⟩; have H8 := hid (H7s.out.kept (y := rd6 t) hk hr); clear hr hk; (try clear z0 z1 z2 z3 z4 z5); obtain ⟨⟨z0, z1⟩, z2, z3, z4, z5⟩ := H8.out.rq.cells; have f4 := free_at H8.out.rq 4; clear z0 z1 z2 z3 z5)
          | (go_at_call 91; have := H6s; refine (rtext_any _ _ _ _ H6s.out.st.rd).mono ?_; rintro e w7 ⟨rfl, hr, hk⟩; have H7 := hid (H6s.out.kept (y := rd5 t) hk hr); have H7s := hid (H7.out.st3 (tT (rd4 t).s (rd4 t).sh)); clear hr hk; (try clear z0 z1 z2 z3 z4 z5); obtain ⟨⟨z0, z1⟩, z2, z3, z4, z5⟩ := H7.out.rq.cells; have f3 := free_at H7.out.rq 3; clear z0 z1 z2 z4 z5)
          | (go_at_call 86; have := H5s; refine (rbyte_any _ _ _ _ H5s.out.st.rd).mono ?_; rintro e w6 ⟨rfl, hr, hk⟩; have H6 := hid (H5s.out.kept (y := rd4 t) hk hr); have H6s := hid (H6.out.st2 (rN (rd3 t).s (rd3 t).sh 1 : Int)); clear hr hk; (try clear z0 z1 z2 z3 z4 z5); obtain ⟨⟨z0, z1⟩, z2, z3, z4, z5⟩ := H6.out.rq.cells; have f2 := free_at H6.out.rq 2; clear z0 z1 z3 z4 z5)
          | (go_at_call 98; have := H4s; refine (rlong_any _ _ _ _ H4s.out.st.rd).mono ?_; rintro e w5 ⟨rfl, hr, hk⟩; have H5 := hid (H4s.out.kept (y := rd3 t) hk hr); have H5s := hid (H5.out.st1 (rN (rd2 t).s (rd2 t).sh 4 : Int)); clear hr hk; (try clear z0 z1 z2 z3 z4 z5); obtain ⟨⟨z0, z1⟩, z2, z3, z4, z5⟩ := H5.out.rq.cells; have f1 := free_at H5.out.rq 1; clear z0 z2 z3 z4 z5)
          | (go_at_call 86; have := H3; refine (rbyte_any _ _ _ _ H3.out.st.rd).mono ?_; rintro e w4 ⟨rfl, hr, hk⟩; have H4 := hid (H3.out.kept (y := rd2 t) hk hr); have H4s := hid (H4.out.st0 (rN (rd1 t).s (rd1 t).sh 1 : Int)); clear hr hk; (try clear z0 z1 z2 z3 z4 z5); obtain ⟨⟨z0, z1⟩, z2, z3, z4, z5⟩ := H4.out.rq.cells; have f0 := free_at H4.out.rq 0; clear z1 z2 z3 z4 z5)
          | (go_at_call 86; refine (rbyte_any _ _ _ _ H1.out.rd).mono ?_; rintro e w2 ⟨rfl, hr, hk⟩; have H2 := hid (H1.out.kept (y := rd1 t) hk hr); clear hr hk; have hax := (Below.refl w2.heap.size w2).alloc (Nat.le_refl _) (.cells #[.int .i64 0, .int .i64 0, .int .i64 0, .string ⟨#[]⟩, .float .f64 0, .int .i64 0] 26); have H3 : Hid (QxSt w (w2.alloc (.cells #[.int .i64 0, .int .i64 0, .int .i64 0, .string ⟨#[]⟩, .float .f64 0, .int .i64 0] 26)) (rd1 t) w2.heap.size zeroQ) := hid ⟨H2.out.keep hax, heap_alloc_last w2 _, lt_of_blk H2.out.rd⟩; clear hax)
          | (go_at_call 47; refine (read_any _ _).mono ?_; rintro e w1 ⟨rfl, rfl⟩))
        refine ret_pair (s := 2) (s2 := 3) (ad := ⟨w.heap.size, 0, none⟩) rfl rfl (load_rq _ _ zeroQ Hz.out.1) rfl rfl ?_
        refine ⟨?_, Hz.out.2.below HRs.out.2 (Nat.le_refl _)⟩
        rw [HV.out.1, HV.out.2]
        rfl
    · have heb : (endOf (rd7 t).s (rd7 t).sh != 0) = true := by simpa using he
      have HFb := hid (HFr.out _ rfl)
      have HV : Hid (rdR t = zeroQ ∧ rdE t = 5) := hid (by rw [HRd.out.1, HRd.out.2, HOk.out]; simp [he])
      clear HFr HR HRd HOk he
      go_enter Try.func89, Try.ntmps89
      go_wp2_with (first
        | (have := HRs; refine wl_store_rq rfl _ _ rfl w.heap.size rfl zeroQ zeroQ rfl HRs.out.1 ?_; intro wz Hz)
        | (go_at_call 28; refine (HRb.out _).mono ?_; rintro e w10 ⟨rfl, hb10⟩; have H10 := hid (H9s.out.keep hb10); clear hb10; (try clear z0 z1 z2 z3 z4 z5); obtain ⟨⟨z0, z1⟩, z2, z3, z4, z5⟩ := H10.out.rq.cells; have HRs : Hid (RqAt w10 w.heap.size zeroQ ∧ Below w.heap.size w w10) := hid ⟨H10.out.st.res, H10.out.st.bel⟩)
        | (go_at_call 50; refine (end_any _ _ _ _ H9s.out.st.rd).mono ?_; rintro e w11 ⟨rfl, rfl⟩)
        | (go_at_call 86; have := H8s; refine (rbyte_any _ _ _ _ H8s.out.st.rd).mono ?_; rintro e w9 ⟨rfl, hr, hk⟩; have H9 := hid (H8s.out.kept (y := rd7 t) hk hr); have H9s := hid (H9.out.st5 (rN (rd6 t).s (rd6 t).sh 1 : Int)); clear hr hk; (try clear z0 z1 z2 z3 z4 z5); obtain ⟨⟨z0, z1⟩, z2, z3, z4, z5⟩ := H9.out.rq.cells; have f5 := free_at H9.out.rq 5; have HRs : Hid (RqAt (w9.setCell ⟨w2.heap.size, 5, none⟩ (.int .i64 (rN (rd6 t).s (rd6 t).sh 1 : Int))) w.heap.size zeroQ ∧ Below w.heap.size w (w9.setCell ⟨w2.heap.size, 5, none⟩ (.int .i64 (rN (rd6 t).s (rd6 t).sh 1 : Int)))) := hid ⟨H9s.out.st.res, H9s.out.st.bel⟩)
        | (have := H8; refine wl_store_f rfl _ _ rfl w2.heap.size 4 rfl (fromW (rdBits t)) rfl _ z4 f4 ?_; have H8s := hid (H8.out.st4 (fromW (rdBits t))))
        | (go_at_call 99; refine (HFb.out _).mono ?_; rintro e w12 ⟨rfl, rfl⟩)
        | (go_at_call 100; have := H7s; refine (rbits_any _ _ _ _ H7s.out.st.rd).mono ?_; rintro e w8 ⟨rfl, hr, hk⟩; have H8 := hid (H7s.out.kept (y := rd6 t) hk hr); clear hr hk; (try clear z0 z1 z2 z3 z4 z5); obtain ⟨⟨z0, z1⟩, z2, z3, z4, z5⟩ := H8.out.rq.cells; have f4 := free_at H8.out.rq 4; clear z0 z1 z2 z3 z5)
        | (go_at_call 91; have := H6s; refine (rtext_any _ _ _ _ H6s.out.st.rd).mono ?_; rintro e w7 ⟨rfl, hr, hk⟩; have H7 := hid (H6s.out.kept (y := rd5 t) hk hr); have H7s := hid (H7.out.st3 (tT (rd4 t).s (rd4 t).sh)); clear hr hk; (try clear z0 z1 z2 z3 z4 z5); obtain ⟨⟨z0, z1⟩, z2, z3, z4, z5⟩ := H7.out.rq.cells; have f3 := free_at H7.out.rq 3; clear z0 z1 z2 z4 z5)
        | (go_at_call 86; have := H5s; refine (rbyte_any _ _ _ _ H5s.out.st.rd).mono ?_; rintro e w6 ⟨rfl, hr, hk⟩; have H6 := hid (H5s.out.kept (y := rd4 t) hk hr); have H6s := hid (H6.out.st2 (rN (rd3 t).s (rd3 t).sh 1 : Int)); clear hr hk; (try clear z0 z1 z2 z3 z4 z5); obtain ⟨⟨z0, z1⟩, z2, z3, z4, z5⟩ := H6.out.rq.cells; have f2 := free_at H6.out.rq 2; clear z0 z1 z3 z4 z5)
        | (go_at_call 98; have := H4s; refine (rlong_any _ _ _ _ H4s.out.st.rd).mono ?_; rintro e w5 ⟨rfl, hr, hk⟩; have H5 := hid (H4s.out.kept (y := rd3 t) hk hr); have H5s := hid (H5.out.st1 (rN (rd2 t).s (rd2 t).sh 4 : Int)); clear hr hk; (try clear z0 z1 z2 z3 z4 z5); obtain ⟨⟨z0, z1⟩, z2, z3, z4, z5⟩ := H5.out.rq.cells; have f1 := free_at H5.out.rq 1; clear z0 z2 z3 z4 z5)
        | (go_at_call 86; have := H3; refine (rbyte_any _ _ _ _ H3.out.st.rd).mono ?_; rintro e w4 ⟨rfl, hr, hk⟩; have H4 := hid (H3.out.kept (y := rd2 t) hk hr); have H4s := hid (H4.out.st0 (rN (rd1 t).s (rd1 t).sh 1 : Int)); clear hr hk; (try clear z0 z1 z2 z3 z4 z5); obtain ⟨⟨z0, z1⟩, z2, z3, z4, z5⟩ := H4.out.rq.cells; have f0 := free_at H4.out.rq 0; clear z1 z2 z3 z4 z5)
        | (go_at_call 86; refine (rbyte_any _ _ _ _ H1.out.rd).mono ?_; rintro e w2 ⟨rfl, hr, hk⟩; have H2 := hid (H1.out.kept (y := rd1 t) hk hr); clear hr hk; have hax := (Below.refl w2.heap.size w2).alloc (Nat.le_refl _) (.cells #[.int .i64 0, .int .i64 0, .int .i64 0, .string ⟨#[]⟩, .float .f64 0, .int .i64 0] 26); have H3 : Hid (QxSt w (w2.alloc (.cells #[.int .i64 0, .int .i64 0, .int .i64 0, .string ⟨#[]⟩, .float .f64 0, .int .i64 0] 26)) (rd1 t) w2.heap.size zeroQ) := hid ⟨H2.out.keep hax, heap_alloc_last w2 _, lt_of_blk H2.out.rd⟩; clear hax)
        | (go_at_call 47; refine (read_any _ _).mono ?_; rintro e w1 ⟨rfl, rfl⟩))
      refine ret_pair (s := 2) (s2 := 3) (ad := ⟨w.heap.size, 0, none⟩) rfl rfl (load_rq _ _ zeroQ Hz.out.1) rfl rfl ?_
      refine ⟨?_, Hz.out.2.below HRs.out.2 (Nat.le_refl _)⟩
      rw [HV.out.1, HV.out.2]
      rfl
/-- While bytes are read as a result. -/
structure ZrSt (w0 w : World) (x : Rd) : Prop where
  res : RsAt w w0.heap.size 0 0
  rd : RdAt w (w0.heap.size + 1) x.s x.sh
  bel : Below w0.heap.size w0 w
theorem ZrSt.kept {w0 w w' : World} {x y : Rd} (h : ZrSt w0 w x) (k : Kept (w0.heap.size + 1) none w w') (hr : RdAt w' (w0.heap.size + 1) y.s y.sh) : ZrSt w0 w' y :=
  ⟨(k.block _ (lt_of_blk h.res) (by omega) (by simp)).trans h.res, hr, h.bel.trans (k.below (Nat.le_of_lt (lt_of_blk h.res)) (by omega) (fun g hg => by cases hg))⟩
theorem ZrSt.keep {w0 w w' : World} {x : Rd} (h : ZrSt w0 w x) (hb : Below w.heap.size w w') : ZrSt w0 w' x :=
  ⟨h.res.keep hb, (hb.block _ (lt_of_blk h.rd)).trans h.rd, h.bel.trans (hb.mono h.bel.size)⟩
theorem ZrSt.one {w0 w w' : World} {x : Rd} (h : ZrSt w0 w x) {b : Nat} (hb : w0.heap.size + 2 ≤ b) (ho : One b w w') : ZrSt w0 w' x :=
  ⟨(ho.block _ (by omega)).trans h.res, (ho.block _ (by omega)).trans h.rd, ho.below h.bel (by omega)⟩
structure ZxSt (w0 w : World) (x : Rd) (b : Nat) (c : Int) (f : Nat) : Prop where
  st : ZrSt w0 w x
  rs : RsAt w b c f
  hb : w0.heap.size + 2 ≤ b
theorem ZxSt.keep {w0 w w' : World} {x : Rd} {b : Nat} {c : Int} {f : Nat} (h : ZxSt w0 w x b c f) (hb : Below w.heap.size w w') : ZxSt w0 w' x b c f := ⟨h.st.keep hb, h.rs.keep hb, h.hb⟩
set_option maxRecDepth 100000 in
set_option maxHeartbeats 12800000 in
theorem dreadResult_any (t : ByteArray) (w : World) : Calls Try.prog 90 #[.string t] w fun e w' => e = .returned (.tuple #[.agg #[.int .i64 (rsC t), .float .f64 (rsF t)], .int .i64 (rsR t)]) ∧ Below w.heap.size w w' := by
  have H0 : Hid (RsAt (w.alloc (.cells #[.int .i64 0, .float .f64 0] 28)) w.heap.size 0 0 ∧ Below w.heap.size w (w.alloc (.cells #[.int .i64 0, .float .f64 0] 28))) := hid ⟨heap_alloc_last w _, (Below.refl _ _).alloc (Nat.le_refl _) _⟩
  have hbx := (Below.refl (w.alloc (.cells #[.int .i64 0, .float .f64 0] 28)).heap.size (w.alloc (.cells #[.int .i64 0, .float .f64 0] 28))).alloc (Nat.le_refl _) (.cells #[.string t, .bool false] 118)
  have H1 : Hid (ZrSt w ((w.alloc (.cells #[.int .i64 0, .float .f64 0] 28)).alloc (.cells #[.string t, .bool false] 118)) ⟨t, false⟩) := hid ⟨H0.out.1.keep hbx, snd_alloc w _ _, H0.out.2.trans (hbx.mono (by simp))⟩
  have HFr : Hid (∀ (X : Bool), (canW (rsBits t) == rsBits t) = X → ∀ u, Calls Try.prog 99 #[.int .u64 ((rsBits t : Nat) : Int)] u fun e w' => e = .returned (.tuple #[.float .f64 (fromW (rsBits t)), .bool X]) ∧ w' = u) := hid (fun X hX u => by rw [← hX]; exact from_any (rsBits t) u)
  have HR : Hid (∀ (X : Bool), rsB (rN t false 1 : Int) = X → ∀ u, Calls Try.prog 62 #[.agg #[.int .i64 (rN t false 1 : Int), .float .f64 (fromW (rsBits t))]] u fun e w' => e = .returned (.bool X) ∧ Below u.heap.size u w') := hid (fun X hX u => by rw [← hX]; exact dresult_any (rN t false 1 : Int) (fromW (rsBits t)) u)
  have HOk : Hid (okRs t = (((canW (rsBits t) == rsBits t) && decide (endOf (rsEnd t).s (rsEnd t).sh = 0)) && rsB (rN t false 1 : Int))) := hid (by
    have h : decide (rsCode t ≤ 8) = rsB (rN t false 1 : Int) := by
      rw [rsB, Bool.eq_iff_iff]
      show decide (rN t false 1 ≤ 8) = true ↔ _
      simp only [Bool.and_eq_true, decide_eq_true_eq]
      omega
    rw [okRs, h])
  clear hbx
  by_cases he : endOf (rsEnd t).s (rsEnd t).sh = 0
  · have heb : (endOf (rsEnd t).s (rsEnd t).sh != 0) = false := by rw [he]; rfl
    cases hD : (canW (rsBits t) == rsBits t) with
    | false =>
      have HFb := hid (HFr.out _ hD)
      have HV : Hid (rsC t = 0 ∧ rsF t = 0 ∧ rsR t = 5) := hid (by have h : okRs t = false := (by rw [HOk.out, hD]; simp); rw [rsC, rsF, rsR, h]; simp)
      clear hD HFr HR HOk he
      go_enter Try.func90, Try.ntmps90
      go_wp2_with (first
        | (have := HRs; refine wl_store_rs rfl _ _ rfl w.heap.size rfl 0 0 0 0 rfl HRs.out.1 ?_; intro wz Hz)
        | (go_at_call 62; refine (HRb.out _).mono ?_; rintro e w10 ⟨rfl, hb10⟩; have H10 := hid (H4.out.keep hb10); clear hb10; (try clear z0 z1); obtain ⟨z0, z1⟩ := H10.out.rs.cells; have HRs : Hid (RsAt w10 w.heap.size 0 0 ∧ Below w.heap.size w w10) := hid ⟨H10.out.st.res, H10.out.st.bel⟩)
        | (go_at_call 50; refine (end_any _ _ _ _ H4.out.st.rd).mono ?_; rintro e w11 ⟨rfl, rfl⟩; have HRs : Hid (RsAt w11 w.heap.size 0 0 ∧ Below w.heap.size w w11) := hid ⟨H4.out.st.res, H4.out.st.bel⟩)
        | (have := H3; refine wl_store_rs rfl _ _ rfl w12.heap.size rfl 0 (rN t false 1 : Int) 0 (fromW (rsBits t)) rfl (heap_alloc_last w12 _) ?_; intro w4 Hq; have hax := (Below.refl w12.heap.size w12).alloc (Nat.le_refl _) (.cells #[.int .i64 0, .float .f64 0] 28); have H4 : Hid (ZxSt w w4 (rsEnd t) w12.heap.size (rN t false 1 : Int) (fromW (rsBits t))) := hid ⟨(H3.out.keep hax).one (lt_of_blk H3.out.rd) Hq.out.2, Hq.out.1, lt_of_blk H3.out.rd⟩; clear hax; obtain ⟨z0, z1⟩ := H4.out.rs.cells)
        | (go_at_call 99; refine (HFb.out _).mono ?_; rintro e w12 ⟨rfl, rfl⟩; have H3 : Hid (ZrSt w w12 (rsEnd t)) := H3p)
        | (go_at_call 100; refine (rbits_any _ _ _ _ H2.out.rd).mono ?_; rintro e w3 ⟨rfl, hr, hk⟩; have H3p := hid (H2.out.kept (y := rsEnd t) hk hr); clear hr hk)
        | (go_at_call 86; refine (rbyte_any _ _ _ _ H1.out.rd).mono ?_; rintro e w2 ⟨rfl, hr, hk⟩; have H2 := hid (H1.out.kept (y := rd1 t) hk hr); clear hr hk)
        | (go_at_call 47; refine (read_any _ _).mono ?_; rintro e w1 ⟨rfl, rfl⟩))
      refine ret_pair (s := 2) (s2 := 3) (ad := ⟨w.heap.size, 0, none⟩) rfl rfl (load_rs _ _ 0 0 Hz.out.1) rfl rfl ?_
      refine ⟨?_, Hz.out.2.below HRs.out.2 (Nat.le_refl _)⟩
      rw [HV.out.1, HV.out.2.1, HV.out.2.2]
      rfl
    | true =>
      have HFb := hid (HFr.out _ hD)
      cases hX : rsB (rN t false 1 : Int) with
      | false =>
        have HRb := hid (HR.out _ hX)
        have HV : Hid (rsC t = 0 ∧ rsF t = 0 ∧ rsR t = 5) := hid (by have h : okRs t = false := (by rw [HOk.out, hX]; simp); rw [rsC, rsF, rsR, h]; simp)
        clear hD HFr HR HOk he hX
        go_enter Try.func90, Try.ntmps90
        go_wp2_with (first
          | (have := HRs; refine wl_store_rs rfl _ _ rfl w.heap.size rfl 0 0 0 0 rfl HRs.out.1 ?_; intro wz Hz)
          | (go_at_call 62; refine (HRb.out _).mono ?_; rintro e w10 ⟨rfl, hb10⟩; have H10 := hid (H4.out.keep hb10); clear hb10; (try clear z0 z1); obtain ⟨z0, z1⟩ := H10.out.rs.cells; have HRs : Hid (RsAt w10 w.heap.size 0 0 ∧ Below w.heap.size w w10) := hid ⟨H10.out.st.res, H10.out.st.bel⟩)
          | (go_at_call 50; refine (end_any _ _ _ _ H4.out.st.rd).mono ?_; rintro e w11 ⟨rfl, rfl⟩; have HRs : Hid (RsAt w11 w.heap.size 0 0 ∧ Below w.heap.size w w11) := hid ⟨H4.out.st.res, H4.out.st.bel⟩)
          | (have := H3; refine wl_store_rs rfl _ _ rfl w12.heap.size rfl 0 (rN t false 1 : Int) 0 (fromW (rsBits t)) rfl (heap_alloc_last w12 _) ?_; intro w4 Hq; have hax := (Below.refl w12.heap.size w12).alloc (Nat.le_refl _) (.cells #[.int .i64 0, .float .f64 0] 28); have H4 : Hid (ZxSt w w4 (rsEnd t) w12.heap.size (rN t false 1 : Int) (fromW (rsBits t))) := hid ⟨(H3.out.keep hax).one (lt_of_blk H3.out.rd) Hq.out.2, Hq.out.1, lt_of_blk H3.out.rd⟩; clear hax; obtain ⟨z0, z1⟩ := H4.out.rs.cells)
          | (go_at_call 99; refine (HFb.out _).mono ?_; rintro e w12 ⟨rfl, rfl⟩; have H3 : Hid (ZrSt w w12 (rsEnd t)) := H3p)
          | (go_at_call 100; refine (rbits_any _ _ _ _ H2.out.rd).mono ?_; rintro e w3 ⟨rfl, hr, hk⟩; have H3p := hid (H2.out.kept (y := rsEnd t) hk hr); clear hr hk)
          | (go_at_call 86; refine (rbyte_any _ _ _ _ H1.out.rd).mono ?_; rintro e w2 ⟨rfl, hr, hk⟩; have H2 := hid (H1.out.kept (y := rd1 t) hk hr); clear hr hk)
          | (go_at_call 47; refine (read_any _ _).mono ?_; rintro e w1 ⟨rfl, rfl⟩))
        refine ret_pair (s := 2) (s2 := 3) (ad := ⟨w.heap.size, 0, none⟩) rfl rfl (load_rs _ _ 0 0 Hz.out.1) rfl rfl ?_
        refine ⟨?_, Hz.out.2.below HRs.out.2 (Nat.le_refl _)⟩
        rw [HV.out.1, HV.out.2.1, HV.out.2.2]
        rfl
      | true =>
        have HRb := hid (HR.out _ hX)
        have HV : Hid (rsC t = rsCode t ∧ rsF t = fromW (rsBits t) ∧ rsR t = 0) := hid (by have h : okRs t = true := (by rw [HOk.out, hX, hD, he]; simp); rw [rsC, rsF, rsR, h]; simp)
        clear hD HFr HR HOk he hX
        go_enter Try.func90, Try.ntmps90
        go_wp2_with (first
          | (have := HRs; refine wl_store_rs rfl _ _ rfl w.heap.size rfl 0 (rN t false 1 : Int) 0 (fromW (rsBits t)) rfl HRs.out.1 ?_; intro wz Hz)
          | (go_at_call 62; refine (HRb.out _).mono ?_; rintro e w10 ⟨rfl, hb10⟩; have H10 := hid (H4.out.keep hb10); clear hb10; (try clear z0 z1); obtain ⟨z0, z1⟩ := H10.out.rs.cells; have HRs : Hid (RsAt w10 w.heap.size 0 0 ∧ Below w.heap.size w w10) := hid ⟨H10.out.st.res, H10.out.st.bel⟩)
          | (go_at_call 50; refine (end_any _ _ _ _ H4.out.st.rd).mono ?_; rintro e w11 ⟨rfl, rfl⟩; have HRs : Hid (RsAt w11 w.heap.size 0 0 ∧ Below w.heap.size w w11) := hid ⟨H4.out.st.res, H4.out.st.bel⟩)
          | (have := H3; refine wl_store_rs rfl _ _ rfl w12.heap.size rfl 0 (rN t false 1 : Int) 0 (fromW (rsBits t)) rfl (heap_alloc_last w12 _) ?_; intro w4 Hq; have hax := (Below.refl w12.heap.size w12).alloc (Nat.le_refl _) (.cells #[.int .i64 0, .float .f64 0] 28); have H4 : Hid (ZxSt w w4 (rsEnd t) w12.heap.size (rN t false 1 : Int) (fromW (rsBits t))) := hid ⟨(H3.out.keep hax).one (lt_of_blk H3.out.rd) Hq.out.2, Hq.out.1, lt_of_blk H3.out.rd⟩; clear hax; obtain ⟨z0, z1⟩ := H4.out.rs.cells)
          | (go_at_call 99; refine (HFb.out _).mono ?_; rintro e w12 ⟨rfl, rfl⟩; have H3 : Hid (ZrSt w w12 (rsEnd t)) := H3p)
          | (go_at_call 100; refine (rbits_any _ _ _ _ H2.out.rd).mono ?_; rintro e w3 ⟨rfl, hr, hk⟩; have H3p := hid (H2.out.kept (y := rsEnd t) hk hr); clear hr hk)
          | (go_at_call 86; refine (rbyte_any _ _ _ _ H1.out.rd).mono ?_; rintro e w2 ⟨rfl, hr, hk⟩; have H2 := hid (H1.out.kept (y := rd1 t) hk hr); clear hr hk)
          | (go_at_call 47; refine (read_any _ _).mono ?_; rintro e w1 ⟨rfl, rfl⟩))
        refine ret_pair (s := 2) (s2 := 3) (ad := ⟨w.heap.size, 0, none⟩) rfl rfl (load_rs _ _ (rN t false 1 : Int) (fromW (rsBits t)) Hz.out.1) rfl rfl ?_
        refine ⟨?_, Hz.out.2.below HRs.out.2 (Nat.le_refl _)⟩
        rw [HV.out.1, HV.out.2.1, HV.out.2.2]
        rfl
  · have heb : (endOf (rsEnd t).s (rsEnd t).sh != 0) = true := by simpa using he
    have HFb := hid (HFr.out _ rfl)
    have HV : Hid (rsC t = 0 ∧ rsF t = 0 ∧ rsR t = 5) := hid (by have h : okRs t = false := (by rw [HOk.out]; simp [he]); rw [rsC, rsF, rsR, h]; simp)
    clear HFr HR HOk he
    go_enter Try.func90, Try.ntmps90
    go_wp2_with (first
      | (have := HRs; refine wl_store_rs rfl _ _ rfl w.heap.size rfl 0 0 0 0 rfl HRs.out.1 ?_; intro wz Hz)
      | (go_at_call 62; refine (HRb.out _).mono ?_; rintro e w10 ⟨rfl, hb10⟩; have H10 := hid (H4.out.keep hb10); clear hb10; (try clear z0 z1); obtain ⟨z0, z1⟩ := H10.out.rs.cells; have HRs : Hid (RsAt w10 w.heap.size 0 0 ∧ Below w.heap.size w w10) := hid ⟨H10.out.st.res, H10.out.st.bel⟩)
      | (go_at_call 50; refine (end_any _ _ _ _ H4.out.st.rd).mono ?_; rintro e w11 ⟨rfl, rfl⟩; have HRs : Hid (RsAt w11 w.heap.size 0 0 ∧ Below w.heap.size w w11) := hid ⟨H4.out.st.res, H4.out.st.bel⟩)
      | (have := H3; refine wl_store_rs rfl _ _ rfl w12.heap.size rfl 0 (rN t false 1 : Int) 0 (fromW (rsBits t)) rfl (heap_alloc_last w12 _) ?_; intro w4 Hq; have hax := (Below.refl w12.heap.size w12).alloc (Nat.le_refl _) (.cells #[.int .i64 0, .float .f64 0] 28); have H4 : Hid (ZxSt w w4 (rsEnd t) w12.heap.size (rN t false 1 : Int) (fromW (rsBits t))) := hid ⟨(H3.out.keep hax).one (lt_of_blk H3.out.rd) Hq.out.2, Hq.out.1, lt_of_blk H3.out.rd⟩; clear hax; obtain ⟨z0, z1⟩ := H4.out.rs.cells)
      | (go_at_call 99; refine (HFb.out _).mono ?_; rintro e w12 ⟨rfl, rfl⟩; have H3 : Hid (ZrSt w w12 (rsEnd t)) := H3p)
      | (go_at_call 100; refine (rbits_any _ _ _ _ H2.out.rd).mono ?_; rintro e w3 ⟨rfl, hr, hk⟩; have H3p := hid (H2.out.kept (y := rsEnd t) hk hr); clear hr hk)
      | (go_at_call 86; refine (rbyte_any _ _ _ _ H1.out.rd).mono ?_; rintro e w2 ⟨rfl, hr, hk⟩; have H2 := hid (H1.out.kept (y := rd1 t) hk hr); clear hr hk)
      | (go_at_call 47; refine (read_any _ _).mono ?_; rintro e w1 ⟨rfl, rfl⟩))
    refine ret_pair (s := 2) (s2 := 3) (ad := ⟨w.heap.size, 0, none⟩) rfl rfl (load_rs _ _ 0 0 Hz.out.1) rfl rfl ?_
    refine ⟨?_, Hz.out.2.below HRs.out.2 (Nat.le_refl _)⟩
    rw [HV.out.1, HV.out.2.1, HV.out.2.2]
    rfl
end Go.Proofs.Ytfjcpghepkmbfaa

/- The program's texts of what is signed: of what is prepared, of a state. -/
namespace Go.Proofs.Ytfjcpghepkmbfaa
open Go.RowKit

/-- Are all numbers Longs? Their bytes, one behind the other. -/
def sgB (l : List Int) : Bool := l.all (inR 4 ·)
def sgL (l : List Int) : List UInt8 := l.flatMap (fun x => be 4 x.toNat)
def sgT (m : Nat) (l : List Int) (x : ByteArray) : ByteArray := if sgB l then ⟨(be 1 m ++ sgL l).toArray⟩ ++ x else ⟨#[]⟩
def sgE (l : List Int) : Int := if sgB l then 0 else 1
theorem sg_get {l : List Int} {j : Nat} (h : j < l.length) : l[j]? = some (l.getD j 0) := by simp [h]
theorem sgL_snoc (l : List Int) (j : Nat) (hj : j < l.length) : sgL (l.take (j + 1)) = sgL (l.take j) ++ be 4 (l.getD j 0).toNat := by
  rw [List.take_add_one, sg_get hj, sgL, List.flatMap_append]
  simp [sgL]
theorem sgB_snoc (l : List Int) (j : Nat) (hj : j < l.length) : sgB (l.take (j + 1)) = (sgB (l.take j) && inR 4 (l.getD j 0)) := by
  rw [List.take_add_one, sg_get hj, sgB, List.all_append]
  simp [sgB]
theorem sgB_at {l : List Int} (h : sgB l = true) (j : Nat) (hj : j < l.length) : inR 4 (l.getD j 0) = true := by
  rw [sgB, List.all_eq_true] at h
  exact h _ (List.mem_of_getElem? (sg_get hj))
theorem sgL_len (l : List Int) : (sgL l).length = 4 * l.length := by
  induction l with
  | nil => rfl
  | cons x l ih =>
    rw [sgL, List.flatMap_cons, List.length_append, be_len, List.length_cons]
    rw [sgL] at ih
    omega
theorem wl_len (lim : Int) (l : List UInt8) (er n : Int) : (wL lim l er 4 n).length ≤ l.length + 4 := by
  rw [wL]
  split
  · rw [List.length_append, be_len]
    omega
  · omega
theorem we_er (lim : Int) (l : List UInt8) (er n : Int) (h : er ≠ 0 ∨ inR 4 n = false) : wE lim l er 4 n ≠ 0 := by
  rw [wE]
  unfold adm
  split
  · next h1 =>
    rcases h with h | h
    · exact absurd h1 h
    · rw [h]
      simp
  · next h1 => exact h1
theorem ints_new (w : World) (l : List Int) (t : TypeId) : IntsIn (w.alloc (.cells (l.map (Value.int .i64)).toArray t)) (some ⟨w.heap.size, 0, none⟩) l :=
  .inr ⟨w.heap.size, 0, rfl, by simp, fun j z hz => by
    rw [Nat.zero_add]
    exact cell_at (heap_alloc_last w _) j _ (by rw [List.getElem?_map, hz]; rfl)⟩
theorem sg_three (e v s : Int) : sgB [e, v, s] = spB e v s := by simp [sgB, spB, Bool.and_assoc]
end Go.Proofs.Ytfjcpghepkmbfaa

/- Which text holds the contracts of deeds: here the trial's (DtA). For landed code: change this import. -/

/- The program's: who may be a member, which members are right. -/
namespace Go.Proofs.Ytfjcpghepkmbfaa
open Go.RowKit

def isIdB (id : Int) : Bool := decide (0 ≤ id ∧ id < 16)
theorem cisID_any (id : Int) (w : World) : Calls Try.prog 95 #[.int .i64 id] w fun e w' => e = .returned (.bool (isIdB id)) ∧ w' = w := by
  by_cases h0 : 0 ≤ id
  · by_cases h1 : id < 16
    · have HF : Hid (isIdB id = true) := hid (decide_eq_true ⟨h0, h1⟩)
      rw [HF.out]
      go_enter Try.func95, Try.ntmps95
      go_wp2
      go_ret
      exact ⟨rfl, rfl⟩
    · have HF : Hid (isIdB id = false) := hid (decide_eq_false (fun h => h1 h.2))
      rw [HF.out]
      go_enter Try.func95, Try.ntmps95
      go_wp2
      go_ret
      exact ⟨rfl, rfl⟩
  · have HF : Hid (isIdB id = false) := hid (decide_eq_false (fun h => h0 h.1))
    rw [HF.out]
    go_enter Try.func95, Try.ntmps95
    go_wp2
    go_ret
    exact ⟨rfl, rfl⟩
set_option maxRecDepth 100000 in
set_option maxHeartbeats 3200000 in
theorem careRight_any (a : Option Addr) (n cap : Nat) (l : List Int) (hn : l.length = n) (hm : n ≤ maxLen) (w : World) (hI : IntsIn w a l) :
    Calls Try.prog 83 #[.slice a n cap] w fun e w' => e = .returned (.bool (memB l)) ∧ Below w.heap.size w w' := by
  have hm2 : (n : Int) ≤ 9223372036854775807 := by unfold maxLen at hm; omega
  have HI := hid hI
  have HN := hid hn
  clear hI hm hn
  by_cases h4 : n < 4
  · have k4 : (n : Int) < 4 := by omega
    have HF : Hid (memB l = false) := hid (by rw [memB, HN.out, decide_eq_false (fun h => by omega)]; simp)
    rw [HF.out]
    go_enter Try.func83, Try.ntmps83
    go_wp2
    go_ret
    exact ⟨rfl, Below.refl _ _⟩
  by_cases h10 : 10 < n
  · have k4 : ¬ ((n : Int) < 4) := by omega
    have k10 : (10 : Int) < (n : Int) := by omega
    have HF : Hid (memB l = false) := hid (by rw [memB, HN.out, decide_eq_false (fun h => by omega)]; simp)
    rw [HF.out]
    go_enter Try.func83, Try.ntmps83
    go_wp2
    go_ret
    exact ⟨rfl, Below.refl _ _⟩
  have k4 : ¬ ((n : Int) < 4) := by omega
  have k10 : ¬ ((10 : Int) < (n : Int)) := by omega
  have HQ := hid (And.intro h4 h10)
  clear h4 h10
  go_enter Try.func83, Try.ntmps83
  go_wp2
  go_loopw [15] (fun i wr => ∃ j : Nat, j ≤ n ∧ i = .int .i64 (j : Int) ∧ okTo l j = true ∧ wr = w)
    (fun i _ => ((n : Int) - intOf i).toNat)
  case atStart => exact ⟨0, by omega, rfl, rfl, rfl⟩
  case round =>
    obtain ⟨j, hj, rfl, hok, rfl⟩ := hrel
    by_cases hjn : j = n
    · have hj1 : ¬ ((j : Int) < (n : Int)) := by omega
      rw [hjn] at hok
      have HF : Hid (memB l = true) := hid (by have hq := HQ.out; rw [memB, HN.out, hok, decide_eq_true (And.intro (by omega) (by omega))]; rfl)
      clear hok hj hjn
      go_wp2
      go_ret
      exact ⟨by rw [HF.out]; rfl, Below.refl _ _⟩
    · have hj1 : (j : Int) < (n : Int) := by omega
      have hj0 : (0 : Int) ≤ (j : Int) := Int.natCast_nonneg _
      have hget : l[j]? = some (l.getD j 0) := by rw [List.getD_eq_getElem?_getD, List.getElem?_eq_getElem (by rw [HN.out]; omega)]; rfl
      obtain ⟨g, off, rfl, hg, hcell⟩ := HI.out.at j _ hget
      obtain ⟨x, ex⟩ : ∃ x, x = l.getD j 0 := ⟨_, rfl⟩
      rw [← ex] at hcell
      clear hget
      cases hx : isIdB x with
      | false =>
        have hx2 := of_decide_eq_false hx
        have HC : Hid (∀ u : World, Calls Try.prog 95 #[.int .i64 x] u fun e w' => e = .returned (.bool false) ∧ w' = u) := hid (fun u => by rw [← hx]; exact cisID_any x u)
        have HF : Hid (okTo l n = false) := hid (okTo_false l (j + 1) n (by rw [okTo_succ, okAt_no1 l j (by rw [← ex]; exact hx2)]; simp) (by omega))
        clear hok hj hjn ex hx hx2 hg
        go_wp2_with (go_at_call 95; refine (HC.out _).mono ?_; rintro e wx ⟨rfl, rfl⟩)
        go_ret
        exact ⟨by rw [memB, HN.out, HF.out]; rfl, Below.refl _ _⟩
      | true =>
        have hx2 := of_decide_eq_true hx
        have HC : Hid (∀ u : World, Calls Try.prog 95 #[.int .i64 x] u fun e w' => e = .returned (.bool true) ∧ w' = u) := hid (fun u => by rw [← hx]; exact cisID_any x u)
        by_cases hz : j = 0
        · have d4 : ¬ ((0 : Int) < (j : Int)) := by omega
          have HF : Hid (okTo l (j + 1) = true) := hid (by rw [okTo_succ, hok, show okAt l j = true by (have hx : l.getD 0 0 = x := by rw [ex, hz]); rw [hz]; exact okAt_yes0 l (by rw [hx]; exact hx2)]; rfl)
          have HJ := hid (And.intro hj hjn)
          clear hok hj hjn ex hz hx hx2 hg
          go_wp2_with (go_at_call 95; refine (HC.out _).mono ?_; rintro e wx ⟨rfl, rfl⟩)
          go_roundw
          case rel => exact ⟨j + 1, by have := HJ.out; omega, by go_num, HF.out, by first | exact rfl | exact trivial⟩
          case measure => simp [intOf]; omega
        · obtain ⟨i, rfl⟩ : ∃ i, j = i + 1 := ⟨j - 1, by omega⟩
          have hgetp : l[i]? = some (l.getD i 0) := by rw [List.getD_eq_getElem?_getD, List.getElem?_eq_getElem (by rw [HN.out]; omega)]; rfl
          obtain ⟨g', off', eg, hg', hcellp⟩ := HI.out.at i _ hgetp
          obtain ⟨rfl, rfl⟩ : g = g' ∧ off = off' := by simp at eg; exact eg
          obtain ⟨y, ey⟩ : ∃ y, y = l.getD i 0 := ⟨_, rfl⟩
          rw [← ey] at hcellp
          have hi0 : (0 : Int) < ((i + 1 : Nat) : Int) := by omega
          have hi1 : (i : Int) < (n : Int) := by omega
          have hi2 : (0 : Int) ≤ (i : Int) := by omega
          clear hgetp eg hz hg hg' hx
          by_cases hxy : x ≤ y
          · have HF : Hid (okTo l n = false) := hid (okTo_false l (i + 1 + 1) n (by rw [okTo_succ, okAt_no2 l (i + 1) (by omega) (by rw [← ex, show i + 1 - 1 = i from rfl, ← ey]; omega)]; simp) (by omega))
            clear hok hj hjn ex ey hx2
            go_wp2_with (go_at_call 95; refine (HC.out _).mono ?_; rintro e wx ⟨rfl, rfl⟩)
            go_ret
            exact ⟨by rw [memB, HN.out, HF.out]; rfl, Below.refl _ _⟩
          · have HF : Hid (okTo l (i + 1 + 1) = true) := hid (by rw [okTo_succ, hok, okAt_yes l (i + 1) (by rw [← ex]; exact hx2) (by rw [← ex, show i + 1 - 1 = i from rfl, ← ey]; omega)]; rfl)
            have HJ := hid (And.intro hj hjn)
            clear hok hj hjn ex ey hx2
            go_wp2_with (go_at_call 95; refine (HC.out _).mono ?_; rintro e wx ⟨rfl, rfl⟩)
            go_roundw
            case rel => exact ⟨i + 1 + 1, by have := HJ.out; omega, by go_num, HF.out, by first | exact rfl | exact trivial⟩
            case measure => simp [intOf]; omega
end Go.Proofs.Ytfjcpghepkmbfaa

/- The program's counts. -/
namespace Go.Proofs.Ytfjcpghepkmbfaa
open Go.RowKit

end Go.Proofs.Ytfjcpghepkmbfaa

/- The program's council: which configurations are right. -/
namespace Go.Proofs.Ytfjcpghepkmbfaa
open Go.RowKit

set_option maxRecDepth 100000 in
set_option maxHeartbeats 1600000 in
theorem cright_any (ep : Int) (a : Option Addr) (n cap : Nat) (l : List Int) (hn : l.length = n) (hm : n ≤ maxLen) (w : World) (hI : IntsIn w a l) :
    Calls Try.prog 59 #[.agg #[.int .i64 ep, .slice a n cap]] w fun e w' => e = .returned (.bool (rightC ep l)) ∧ Below w.heap.size w w' := by
  by_cases h0 : 0 ≤ ep
  · by_cases h60 : ep ≤ 60
    · have HM : Hid (∀ u : World, IntsIn u a l → Calls Try.prog 83 #[.slice a n cap] u fun e w' => e = .returned (.bool (memB l)) ∧ Below u.heap.size u w') := hid (fun u hu => careRight_any a n cap l hn hm u hu)
      have HR : Hid (rightC ep l = memB l) := hid (by rw [rightC, decide_eq_true (And.intro h0 h60)]; rfl)
      have HI := hid hI
      rw [HR.out]
      generalize memB l = b at HM
      clear hI hn hm
      go_enter Try.func59, Try.ntmps59
      go_wp2_with (go_at_call 83; refine (HM.out _ (by exact HI.out.alloc _)).mono ?_; rintro e w1 ⟨rfl, hb1⟩; have H1 := hid (((Below.refl w.heap.size w).alloc (Nat.le_refl _) _).trans (hb1.mono (by simp))); clear hb1)
      go_ret
      exact ⟨rfl, H1.out⟩
    · have HR : Hid (rightC ep l = false) := hid (by rw [rightC, decide_eq_false (fun h => h60 h.2)]; rfl)
      rw [HR.out]
      clear hI hn hm
      go_enter Try.func59, Try.ntmps59
      go_wp2
      go_ret
      exact ⟨rfl, (Below.refl _ _).alloc (Nat.le_refl _) _⟩
  · have HR : Hid (rightC ep l = false) := hid (by rw [rightC, decide_eq_false (fun h => h0 h.1)]; rfl)
    rw [HR.out]
    clear hI hn hm
    go_enter Try.func59, Try.ntmps59
    go_wp2
    go_ret
    exact ⟨rfl, (Below.refl _ _).alloc (Nat.le_refl _) _⟩
end Go.Proofs.Ytfjcpghepkmbfaa

/- Regions that draw, reads taken first, where what stands at their end writes what was read: behind the operations named (they wait for all that is taken) the condition need not hold. -/
namespace Go.Proofs.Ytfjcpghepkmbfaa
open Go.RowKit

section
variable {P : Program} {ops : Array Oper} {Q : Exit → Act → World → Prop} {md : Region.Mode} {S : World → Prop} {ex : List Nat}
/-- k waits for i. -/
def reachB (md : Region.Mode) (ops : Array Oper) : Nat → Nat → Nat → Bool
  | 0, _, _ => false
  | n + 1, k, i => match ops[k]? with
    | none => false
    | some o => o.after.any fun e => Region.binds md e && (e.on == i || reachB md ops n e.on i)
def Closed (md : Region.Mode) (ops : Array Oper) (listed : Array Bool) : Prop := ∀ (j : Nat) (o : Oper), ops[j]? = some o → listed.getD j false = true → ∀ e ∈ o.after, Region.binds md e = true → listed.getD e.on false = true
def closedB (md : Region.Mode) (ops : Array Oper) (listed : Array Bool) : Bool := (List.range ops.size).all fun j => !(listed.getD j false) || match ops[j]? with
  | none => true
  | some o => o.after.all fun e => !(Region.binds md e) || listed.getD e.on false
theorem closed_of {listed : Array Bool} (h : closedB md ops listed = true) : Closed md ops listed := fun j o ho hl e he hb => by
  have hj : j < ops.size := (Array.getElem?_eq_some_iff.1 ho).1
  have h1 := List.all_eq_true.1 h j (List.mem_range.2 hj)
  simp only [hl, ho, Bool.not_true, Bool.false_or] at h1
  have h2 := Array.all_eq_true_iff_forall_mem.1 h1 e he
  simpa [hb] using h2
theorem reach_listed {listed : Array Bool} (hc : Closed md ops listed) {i : Nat} : ∀ (n k : Nat), reachB md ops n k i = true → (∀ o, ops[k]? = some o → ∀ e ∈ o.after, Region.binds md e = true → listed.getD e.on false = true) → listed.getD i false = true
  | 0, _, h, _ => by simp [reachB] at h
  | n + 1, k, h, hk => by
    rw [reachB] at h
    cases ho : ops[k]? with
    | none => rw [ho] at h; cases h
    | some o =>
      rw [ho] at h
      obtain ⟨q, hq, h1⟩ := Array.any_eq_true.1 h
      have he := Array.getElem_mem hq
      generalize o.after[q] = e at he h1
      rw [Bool.and_eq_true, Bool.or_eq_true] at h1
      have hl := hk o ho e he h1.1
      rcases h1.2 with h2 | h2
      · rw [beq_iff_eq] at h2
        rw [← h2]
        exact hl
      · exact reach_listed hc n e.on h2 (fun o' ho' e' he' hb' => hc e.on o' ho' hl e' he' hb')
theorem closed_step {listed : Array Bool} (hc : Closed md ops listed) {j : Nat} (hj : j ∈ Region.ready md ops listed) : Closed md ops (listed.setIfInBounds j true) := fun k o ho hl e he hb => by
  by_cases hkj : j = k
  · subst hkj
    obtain ⟨_, o', ho', hall⟩ := mem_ready.1 hj
    rw [ho] at ho'
    cases ho'
    exact getD_set_true (hall e he hb)
  · rw [getD_set_ne false hkj] at hl
    exact getD_set_true (hc k o ho hl e he hb)
def wpAnyG (P : Program) (md : Region.Mode) (ops : Array Oper) (Q : Exit → Act → World → Prop) (S : World → Prop) (ex : List Nat) : Nat → Array Bool → Act → World → Prop
  | 0, listed, a, w => Region.ready md ops listed = [] ∧ Q .normal a w
  | fuel + 1, listed, a, w =>
    (Region.ready md ops listed = [] → Q .normal a w) ∧
    ∀ i ∈ Region.ready md ops listed, wpOp P ops Q i (fun a' w' => (i ∉ ex → S w') ∧ wpAnyG P md ops Q S ex fuel (listed.setIfInBounds i true) a' w') a w
theorem wpAny_of_G : ∀ (fuel : Nat) (listed : Array Bool) (a : Act) (w : World), wpAnyG P md ops Q S ex fuel listed a w → wpAny P md ops Q fuel listed a w
  | 0, _, _, _, h => h
  | fuel + 1, _, _, _, h => ⟨h.1, fun i hi => wpOp_mono (fun a' w' h' => wpAny_of_G fuel _ a' w' h'.2) (h.2 i hi)⟩
theorem wpAnyG_first {i : Nat} {oi : Oper} {v : Value} (hi : ops[i]? = some oi) (hsel : ∀ (j : Nat) (o : Oper) cs b, ops[j]? = some o → o.op ≠ .select cs b)
    (hQ : ∀ c a w, Q (.panic c) (a.put oi.dst v) w → Q (.panic c) a w) (N : Nat) (hex : ∀ k, k ∈ ex → reachB md ops N k i = true) :
    ∀ (fuel : Nat) (listed : Array Bool) (a : Act) (w : World), Closed md ops listed →
      (∀ j oj, ops[j]? = some oj → j ≠ i → listed.getD j true = false → (∀ e ∈ oj.after, Region.binds md e = true → e.on ≠ i) → oi.apart ops oj = true) →
      i ∈ Region.ready md ops listed → YieldsIf P ops S oi v a → S w →
      wpAnyG P md ops Q S ex fuel (listed.setIfInBounds i true) (a.put oi.dst v) w → wpAnyG P md ops Q S ex (fuel + 1) listed a w := by
  intro fuel
  induction fuel with
  | zero =>
    intro listed a w _ _ hr hy hS H
    refine ⟨fun h => (by rw [h] at hr; cases hr), fun j hj => ?_⟩
    by_cases hji : j = i
    · subst hji; exact hy.wpOp hi hS ⟨fun _ => hS, H⟩
    · have := ready_mono hj hji
      rw [H.1] at this
      cases this
  | succ fuel ih =>
    intro listed a w hcl hfree hr hy hS H
    refine ⟨fun h => (by rw [h] at hr; cases hr), fun j hj => ?_⟩
    by_cases hji : j = i
    · subst hji; exact hy.wpOp hi hS ⟨fun _ => hS, H⟩
    · have h1 := H.2 j (ready_mono hj hji)
      obtain ⟨hjun, oj, hoj, hall⟩ := mem_ready.1 hj
      have hun := (mem_ready.1 hr).1
      have hnex : j ∉ ex := fun hje => by
        have hl := reach_listed hcl N j (hex j hje) (fun o ho e he hb => by rw [hoj] at ho; cases ho; exact hall e he hb)
        rcases Nat.lt_or_ge i listed.size with h' | h'
        · simp [h'] at hun hl; rw [hun] at hl; cases hl
        · simp [Array.getElem?_eq_none h'] at hl
      have hnot : ∀ e ∈ oj.after, Region.binds md e = true → e.on ≠ i := fun e he hb heq => by
        have h1 := hall e he hb
        rw [heq] at h1
        rcases Nat.lt_or_ge i listed.size with h' | h'
        · simp [h'] at hun h1; rw [hun] at h1; cases h1
        · simp [Array.getElem?_eq_none h'] at h1
      have h2 := wpOp_putIf hoj (hfree j oj hoj hji hjun hnot) (fun cs b => hsel i oi cs b hi) (fun cs b => hsel j oj cs b hoj) hQ hy h1
      have hfree' : ∀ k ok, ops[k]? = some ok → k ≠ i → (listed.setIfInBounds j true).getD k true = false →
          (∀ e ∈ ok.after, Region.binds md e = true → e.on ≠ i) → oi.apart ops ok = true := fun k ok hk hki hun hno => by
        refine hfree k ok hk hki ?_ hno
        by_cases hjk : j = k
        · subst hjk; exact hjun
        · rw [getD_set_ne true hjk] at hun; exact hun
      refine wpOp_mono (fun a' w' h3 => ⟨h3.2.1, ih (listed.setIfInBounds j true) a' w' (closed_step hcl hj) hfree' (ready_mono hr (Ne.symm hji)) h3.1 (h3.2.1 hnex) ?_⟩) h2
      rw [Array.setIfInBounds_comm _ _ hji]
      exact h3.2.2
theorem wpAnyG_take {i : Nat} {oi : Oper} {v : Value} {fuel : Nat} {listed : Array Bool} {a : Act} {w : World} (hi : ops[i]? = some oi)
    (hb : (Region.noSelect ops && (Region.free md ops listed i && ((Region.ready md ops listed).contains i && (closedB md ops listed && ex.all fun k => reachB md ops ops.size k i)))) = true)
    (hQ : ∀ c a w, Q (.panic c) (a.put oi.dst v) w → Q (.panic c) a w) (hy : YieldsIf P ops S oi v a) (hS : S w)
    (h : wpAnyG P md ops Q S ex fuel (listed.setIfInBounds i true) (a.put oi.dst v) w) : wpAnyG P md ops Q S ex (fuel + 1) listed a w := by
  simp only [Bool.and_eq_true] at hb
  obtain ⟨hs, hf, hr, hc, he⟩ := hb
  exact wpAnyG_first hi (Region.noSelect_spec hs) hQ ops.size (fun k hk => List.all_eq_true.1 he k hk) fuel listed a w (closed_of hc) (Region.free_spec hi hf) (by simpa using hr) hy hS h
theorem wpAnyG_all {rs : List Nat} {fuel : Nat} {listed : Array Bool} {a : Act} {w : World} (hr : Region.ready md ops listed = rs) (hne : rs ≠ [])
    (h : ∀ i ∈ rs, wpOp P ops Q i (fun a' w' => (i ∉ ex → S w') ∧ wpAnyG P md ops Q S ex fuel (listed.setIfInBounds i true) a' w') a w) : wpAnyG P md ops Q S ex (fuel + 1) listed a w :=
  ⟨fun h0 => absurd (hr ▸ h0) hne, hr ▸ h⟩
theorem wpAnyG_done {listed : Array Bool} {a : Act} {w : World} (hr : Region.ready md ops listed = []) (h : Q .normal a w) :
    ∀ fuel, wpAnyG P md ops Q S ex fuel listed a w
  | 0 => ⟨hr, h⟩
  | _ + 1 => ⟨fun _ => h, by rw [hr]; simp⟩
theorem wp_region_G {id : Nat} {a : Act} {w : World} (hm : P.follows .mixedOrders = true)
    (h : wpAnyG P .any ops Q S ex ops.size (Array.replicate ops.size false) a { w with drawn := w.drawn + 1 }) : (Code.region id ops true).wp P Q a w :=
  wp_region_any hm (wpAny_of_G _ _ _ _ h)
end
end Go.Proofs.Ytfjcpghepkmbfaa
