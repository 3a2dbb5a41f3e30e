/- Texts laid together: DsG DsH. -/
import Derived.Test.YthjgnfeadagmeaaGreatDsFM
/- The document's: what any bytes are read as, as a result; what is prepared, a state. -/
namespace Go.Proofs.YthjgnfeadagmeaaGreat
open Go.RowKit

theorem load_rs (w : World) (b : Nat) (c : Int) (f : Nat) (h : RsAt w b c f) : (loadVar 43 ⟨b, 0, none⟩).run Tryz.prog w = .ok (.agg #[.int .i64 c, .float .f64 f]) w := by
  obtain ⟨z0, z1⟩ := h.cells
  clear h
  go_simp
theorem adm_zero' {lim : Int} {n : Nat} {er : Int} {r : Bool} {size : Int} (h : adm lim n er r size = 0) : er = 0 ∧ r = true := by
  unfold adm at h
  split at h
  · next h1 =>
    split at h
    · next h2 => exact ⟨h1, h2⟩
    · cases h
  · next h1 => exact absurd h h1
theorem add_texts (a b : ByteArray) : (a ++ b).data.toList = a.data.toList ++ b.data.toList := by simp [ByteArray.data_append]
end Go.Proofs.YthjgnfeadagmeaaGreat

/- The document's: are two results one; what is prepared. -/
namespace Go.Proofs.YthjgnfeadagmeaaGreat
open Go.RowKit

set_option maxRecDepth 100000 in
set_option maxHeartbeats 6400000 in
theorem qsameResult_any (c : Int) (f : Nat) (c' : Int) (f' : Nat) (w : World) : Calls Tryz.prog 82 #[.agg #[.int .i64 c, .float .f64 f], .agg #[.int .i64 c', .float .f64 f']] w fun e w' => e = .returned (.bool (sameS c f c' f')) ∧ Below w.heap.size w w' := by
  obtain ⟨W, eW⟩ : ∃ W, W = (w.alloc (.cells #[.int .i64 c, .float .f64 f] 43)).alloc (.cells #[.int .i64 c', .float .f64 f'] 43) := ⟨_, rfl⟩
  have H0 : Hid (RsAt W w.heap.size c f ∧ RsAt W (w.heap.size + 1) c' f' ∧ Below w.heap.size w W) := hid (by
    rw [eW]
    exact ⟨(Below.heap_alloc _ _ _ (by simp)).trans (heap_alloc_last w _), snd_alloc w _ _, ((Below.refl _ _).alloc (Nat.le_refl _) _).alloc (by simp) _⟩)
  have HKB : Hid (∀ (b : Nat) (u : World), Calls Tryz.prog 89 #[.float .f64 b] u fun e w' => e = .returned (.int .u64 (canW b : Nat)) ∧ Below u.heap.size u w') := hid (fun b u => (kbits_any b u).mono fun e w' ⟨h1, h2⟩ => ⟨h1, by rw [h2]; exact Below.refl _ _⟩)
  obtain ⟨B, hB⟩ : ∃ B, sameS c f c' f' = B := ⟨_, rfl⟩
  rw [hB]
  have HBe : Hid (B = (decide (c = c') && decide (canW f = canW f'))) := hid hB.symm
  clear hB
  have q0 : ∀ u : Cls W, u.1.cell? ⟨w.heap.size, 0, none⟩ = some (.int .i64 c) := fun u => (H0.out.1.keep u.2).cells.1
  have q1 : ∀ u : Cls W, u.1.cell? ⟨w.heap.size, 1, none⟩ = some (.float .f64 f) := fun u => (H0.out.1.keep u.2).cells.2
  have p0 : ∀ u : Cls W, u.1.cell? ⟨w.heap.size + 1, 0, none⟩ = some (.int .i64 c') := fun u => (H0.out.2.1.keep u.2).cells.1
  have p1 : ∀ u : Cls W, u.1.cell? ⟨w.heap.size + 1, 1, none⟩ = some (.float .f64 f') := fun u => (H0.out.2.1.keep u.2).cells.2
  by_cases h0 : c = c'
  · have t0 : (c == c') = true := by simp [h0]
    have HH0 := hid h0
    clear h0
    by_cases h1 : canW f = canW f'
    · have t1 : (((canW f : Nat) : Int) == ((canW f' : Nat) : Int)) = true := by simp [h1]
      have HH1 := hid h1
      clear h1
      go_enter Tryz.func82, Tryz.ntmps82
      go_wp2
      rw [← eW]
      clear eW
      haveI := Cls.ne W
      refine wp_region_cls W (by kernel_rfl) (by kernel_rfl) ?_
      repeat (go_big_quiet_step ((first | (go_at_call 89; exact Cls.of _ (fun u _ => HKB.out _ u)))))
      rintro w' ⟨u, rfl⟩
      go_wp2
      go_ret
      exact ⟨ret_bool (by rw [HBe.out]; simp [HH0.out, HH1.out]), H0.out.2.2.trans (u.2.mono H0.out.2.2.size)⟩
    · have t1 : (((canW f : Nat) : Int) == ((canW f' : Nat) : Int)) = false := by simp; omega
      have HH1 := hid h1
      clear h1
      go_enter Tryz.func82, Tryz.ntmps82
      go_wp2
      rw [← eW]
      clear eW
      haveI := Cls.ne W
      refine wp_region_cls W (by kernel_rfl) (by kernel_rfl) ?_
      repeat (go_big_quiet_step ((first | (go_at_call 89; exact Cls.of _ (fun u _ => HKB.out _ u)))))
      rintro w' ⟨u, rfl⟩
      go_wp2
      go_ret
      exact ⟨ret_bool (by rw [HBe.out]; simp [HH1.out]), H0.out.2.2.trans (u.2.mono H0.out.2.2.size)⟩
  · have t0 : (c == c') = false := by simpa using h0
    have HH0 := hid h0
    clear h0
    go_enter Tryz.func82, Tryz.ntmps82
    go_wp2
    rw [← eW]
    clear eW
    haveI := Cls.ne W
    refine wp_region_cls W (by kernel_rfl) (by kernel_rfl) ?_
    repeat (go_big_quiet_step ((first | (go_at_call 89; exact Cls.of _ (fun u _ => HKB.out _ u)))))
    rintro w' ⟨u, rfl⟩
    go_wp2
    go_ret
    exact ⟨ret_bool (by rw [HBe.out]; simp [HH0.out]), H0.out.2.2.trans (u.2.mono H0.out.2.2.size)⟩
/-- The bytes ahead of a request that is prepared. -/
theorem pr_head {e v s : Int} (h : spB e v s = true) : ∃ E V S : Nat, e = (E : Int) ∧ v = (V : Int) ∧ s = (S : Int) ∧ E < 256 ^ 4 ∧ V < 256 ^ 4 ∧ S < 256 ^ 4 := by
  rw [spB, Bool.and_eq_true_iff, Bool.and_eq_true_iff] at h
  have h1 := inR4 h.1.1
  have h2 := inR4 h.1.2
  have h3 := inR4 h.2
  exact ⟨e.toNat, v.toNat, s.toNat, by omega, by omega, by omega, by omega, by omega, by omega⟩
theorem rqT_size (r : Rq) : (rqT r).size ≤ 34 := by
  unfold rqT
  split
  · decide
  · split
    · next h =>
      have h1 := (right_fields h).2.2.2.1
      have h2 := rqL_len r
      show (rqL r).toArray.size ≤ 34
      simp
      omega
    · decide
end Go.Proofs.YthjgnfeadagmeaaGreat
