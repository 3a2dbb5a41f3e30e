/- The words of a block: the walk. -/
import Derived.Test.YtebhkifjommpjaaShD
namespace Go.Proofs.Ytebhkifjommpjaa
open Go.RowKit

theorem third (w : World) (A B C : Obj) : (((w.alloc A).alloc B).alloc C).heap[w.heap.size]? = some A := by
  rw [Below.heap_alloc _ _ _ (by simp; omega), Below.heap_alloc _ _ _ (by simp), heap_alloc_last]

theorem third1 (w : World) (A B C : Obj) : (((w.alloc A).alloc B).alloc C).heap[w.heap.size + 1]? = some B := by
  rw [Below.heap_alloc _ _ _ (by simp)]
  have := heap_alloc_last (w.alloc A) B
  simpa using this
theorem third2 (w : World) (A B C : Obj) : (((w.alloc A).alloc B).alloc C).heap[w.heap.size + 1 + 1]? = some C := by
  have := heap_alloc_last ((w.alloc A).alloc B) C
  simpa using this
theorem third_below (w : World) (A B C : Obj) : Below w.heap.size w (((w.alloc A).alloc B).alloc C) :=
  (((Below.refl _ _).alloc (Nat.le_refl _) _).alloc (by simp) _).alloc (by simp; omega) _

set_option maxRecDepth 100000 in
set_option maxHeartbeats 1600000 in
theorem schedule_any (L : List UInt8) (hL : L.length = 64) (w : World) :
    Calls Try.prog 65 #[.agg (bC L).toArray] w fun e w' => e = .returned (.agg (uC (sched L)).toArray) ∧ Below w.heap.size w w' := by
  have HL := hid hL
  clear hL
  go_enter Try.func65, Try.ntmps65
  go_wp2_with (first
    | refine wl_box_row rfl 83 _ rfl _ rfl ?_
    | refine wl_alloc_row rfl 92 rfl _ _ Try.info92 ?_
    | refine wl_load_row rfl 83 _ rfl w.heap.size 0 rfl (bC L) _ Try.underlying83 rfl 64 (by rw [bC_len]; exact HL.out) Try.size83 (heap_cells (t := 83) (fr := (0, 0)) (third w _ _ _)) ?_)
  go_loopw [12] (fun i wr => ∃ k : Nat, k ≤ 64 ∧ i = .int .i64 (k : Int) ∧ wr.heap[w.heap.size + 1 + 1]? = some (.cells (uC (pw L k)).toArray 92 (0, 0)) ∧ wr.heap[w.heap.size + 1]? = some (.cells (uC z64).toArray 92 (0, 0)) ∧ Below w.heap.size w wr)
    (fun i _ => (64 - intOf i).toNat)
  case atStart => exact ⟨0, by omega, rfl, third2 w _ _ _, third1 w _ _ _, third_below w _ _ _⟩
  case round =>
    obtain ⟨k, hk, rfl, hblk, hz, hbel⟩ := hrel
    have HR := hid (And.intro hblk (And.intro hz hbel))
    clear hblk hz hbel
    by_cases hk64 : k = 64
    · have HW : Hid (wr.heap[w.heap.size + 1 + 1]? = some (.cells (uC (words16 16 L ++ List.replicate 48 0)).toArray 92 (0, 0)) ∧ wr.heap[w.heap.size + 1]? = some (.cells (uC z64).toArray 92 (0, 0)) ∧ Below w.heap.size w wr) := hid (by
        rw [← pw_all L HL.out]
        rw [hk64] at HR
        exact HR.out)
      have hk1 : ¬ ((k : Int) < 64) := by omega
      clear HR hk hk64
      go_wp2
      go_loopw [6] (fun i wr => ∃ (l : List (BitVec 32)) (m : Nat), l.length = m + 16 ∧ m ≤ 48 ∧ i = .int .i64 ((m : Int) + 16) ∧ moreW (48 - m) l = sched L ∧ wr.heap[w.heap.size + 1 + 1]? = some (.cells (uC (l ++ List.replicate (48 - m) 0)).toArray 92 (0, 0)) ∧ wr.heap[w.heap.size + 1]? = some (.cells (uC z64).toArray 92 (0, 0)) ∧ Below w.heap.size w wr)
        (fun i _ => (64 - intOf i).toNat)
      case atStart => exact ⟨words16 16 L, 0, by rw [words16_len 16 L (by rw [HL.out])], by omega, rfl, rfl, HW.out.1, HW.out.2.1, HW.out.2.2⟩
      case round =>
        clear HW
        obtain ⟨l, m, hl, hm, rfl, hs, hblk, hz, hbel⟩ := hrel
        have HR := hid (And.intro hl (And.intro hs (And.intro hblk (And.intro hz hbel))))
        clear hl hs hblk hz hbel
        by_cases hm48 : m = 48
        · subst hm48
          have el : l = sched L := HR.out.2.1
          have HE := hid el
          clear el
          have hB : wr.heap[w.heap.size + 1 + 1]? = some (.cells (uC l).toArray 92 (0, 0)) := by
            have := HR.out.2.2.1
            rwa [List.replicate_zero, List.append_nil] at this
          have HB := hid hB
          have hS : (uC l).length = 64 := by rw [uC_len, HR.out.1]
          have HS := hid hS
          clear hB hS
          go_wp2_with (first
            | refine wl_load_row rfl 92 _ rfl (w.heap.size + 1 + 1) 0 rfl (uC l) _ Try.underlying92 rfl 64 HS.out Try.size92 (heap_cells (t := 92) (fr := (0, 0)) HB.out) ?_
            | (refine wl_store_row rfl 92 _ _ rfl (w.heap.size + 1) 0 rfl 92 (uC z64) (uC l) rfl HR.out.2.2.2.1 64 HS.out Try.size92 (by rw [z64_len]; decide) (uC_one _) ?_; intro w2 h2 e2))
          have hl : (loadVar 92 ⟨w.heap.size + 1, 0, none⟩).run Try.prog w2 = .ok (.agg (uC l).toArray) w2 := by
            refine run_load_row (w := w2) 92 (w.heap.size + 1) 0 (uC l) _ Try.underlying92 rfl 64 HS.out Try.size92 (heap_cells (t := 92) (fr := (0, 0)) ?_)
            have := h2.out
            rwa [splice_all _ _ (by rw [HS.out, z64_len])] at this
          refine ret_row rfl rfl hl rfl ⟨by rw [HE.out], ?_⟩
          rw [e2.out]
          exact Below.setRow HR.out.2.2.2.2 (by omega) _
        · have hm1 : (m : Int) < 48 := by omega
          have hm0 : (0 : Int) ≤ (m : Int) := Int.natCast_nonneg _
          have cell : ∀ j, j < m + 16 → wr.cell? ⟨w.heap.size + 1 + 1, j, none⟩ = some (.int .u32 (u (l.getD j 0))) := fun j hj => by
            have := heap_cells HR.out.2.2.1 j _ (uC_get _ j (by rw [List.length_append, HR.out.1]; omega))
            rw [getD_app_left _ _ _ _ (by rw [HR.out.1]; exact hj)] at this
            rwa [Nat.zero_add] at this
          obtain ⟨x1, e1⟩ : ∃ x, x = l.getD (m + 1) 0 := ⟨_, rfl⟩
          obtain ⟨x2, e2⟩ : ∃ x, x = l.getD (m + 14) 0 := ⟨_, rfl⟩
          obtain ⟨x3, e3⟩ : ∃ x, x = l.getD (m + 9) 0 := ⟨_, rfl⟩
          obtain ⟨x4, e4⟩ : ∃ x, x = l.getD m 0 := ⟨_, rfl⟩
          have c1 := cell (m + 1) (by omega)
          have c2 := cell (m + 14) (by omega)
          have c3 := cell (m + 9) (by omega)
          have c4 := cell m (by omega)
          rw [← e1] at c1
          rw [← e2] at c2
          rw [← e3] at c3
          rw [← e4] at c4
          have HX := hid (And.intro e1 (And.intro e2 (And.intro e3 e4)))
          clear e1 e2 e3 e4
          have c5 : ∃ v, wr.cell? ⟨w.heap.size + 1 + 1, m + 16, none⟩ = some v := ⟨_, by
            have := heap_cells HR.out.2.2.1 (m + 16) _ (uC_get _ (m + 16) (by rw [List.length_append, HR.out.1, List.length_replicate]; omega))
            rwa [Nat.zero_add] at this⟩
          obtain ⟨v5, c5⟩ := c5
          have f5 : wr.frozen? ⟨w.heap.size + 1 + 1, m + 16, none⟩ = false := by simp [World.frozen?, HR.out.2.2.1]
          clear cell
          go_wp2
          go_region
          all_goals (try go_wp2_with (go_at_call 68; refine (turned_any _ _ _ (by decide)).mono ?_; rintro e w1 ⟨rfl, rfl⟩))
          all_goals (try go_region)
          all_goals (try go_wp2)
          go_roundw
          case rel =>
            have en : nextW l = sg1 x2 + x3 + sg0 x1 + x4 := by
              rw [nextW, HR.out.1, HX.out.1, HX.out.2.1, HX.out.2.2.1, HX.out.2.2.2, show m + 16 - 2 = m + 14 by omega, show m + 16 - 7 = m + 9 by omega, show m + 16 - 15 = m + 1 by omega, show m + 16 - 16 = m by omega]
            have e48 : 48 - m = 48 - (m + 1) + 1 := by omega
            refine ⟨l ++ [nextW l], m + 1, by rw [List.length_append, HR.out.1]; rfl, by omega, by rw [show ((m + 1 : Nat) : Int) + 16 = (m : Int) + 16 + 1 by omega], ?_, ?_, ?_, ?_⟩
            · have := HR.out.2.1
              rw [e48, moreW] at this
              exact this
            · refine (blk_set HR.out.2.2.1 _ _).trans ?_
              rw [uC_set _ _ _ (nextW l) ?_, e48, set_mid _ _ _ _ HR.out.1]
              rw [en, sg1_val, sg0_val, sum4]
            · exact (Below.heap_setCell _ _ _ _ (by show w.heap.size + 1 ≠ w.heap.size + 1 + 1; omega)).trans HR.out.2.2.2.1
            · exact Below.same (Below.setCell (p := ⟨w.heap.size + 1 + 1, m + 16, none⟩) HR.out.2.2.2.2 (by show w.heap.size ≤ w.heap.size + 1 + 1; omega) _) rfl rfl rfl rfl
          case measure => simp [intOf]; omega
    · have hk1 : (k : Int) < 64 := by omega
      have hk0 : (0 : Int) ≤ (k : Int) := Int.natCast_nonneg _
      have hq0 : (0 : Int) ≤ (k : Int) / 4 := by omega
      have hq1 : (k : Int) / 4 < 64 := by omega
      have hqn : ((k : Int) / 4).toNat = k / 4 := by omega
      obtain ⟨z, ez⟩ : ∃ x, x = (pw L k).getD (k / 4) 0 := ⟨_, rfl⟩
      obtain ⟨b, eb⟩ : ∃ x, x = L.getD k 0 := ⟨_, rfl⟩
      have cG : wr.cell? ⟨w.heap.size + 1 + 1, k / 4, none⟩ = some (.int .u32 (u z)) := by
        rw [ez]
        have := heap_cells HR.out.1 (k / 4) _ (uC_get (pw L k) (k / 4) (by rw [pw_len]; omega))
        rwa [Nat.zero_add] at this
      have fG : wr.frozen? ⟨w.heap.size + 1 + 1, k / 4, none⟩ = false := by
        simp [World.frozen?, HR.out.1]
      have hv : (bC L).toArray[(k : Int).toNat]? = some (.int .u8 (b.toNat : Int)) := by
        rw [eb, Int.toNat_natCast, List.getElem?_toArray]
        exact bC_get L k (by rw [HL.out]; omega)
      have HV := hid hv
      have HE := hid (And.intro ez eb)
      clear hv ez eb
      go_wp2_with (refine wl_index_row rfl 83 _ _ rfl _ rfl _ _ rfl 64 5 Try.underlying83 _ Try.underlying5 rfl (by kernel_rfl) hk0 hk1 _ HV.out ?_)
      go_roundw
      case rel =>
        refine ⟨k + 1, by omega, rfl, ?_, ?_, ?_⟩
        · refine (blk_set HR.out.1 _ _).trans ?_
          rw [uC_set _ _ _ ((z <<< 8) ||| bW b) ?_, pw, HE.out.1, HE.out.2]
          rw [show (256 : Int) = ((2 ^ 8 : Nat) : Int) from rfl, u_shl, Int.emod_eq_of_lt (Int.natCast_nonneg _) (by have := b.toNat_lt; omega), u_bW, u_or]
        · exact (Below.heap_setCell _ _ _ _ (by show w.heap.size + 1 ≠ w.heap.size + 1 + 1; omega)).trans HR.out.2.1
        · exact HR.out.2.2.setCell (by show w.heap.size ≤ w.heap.size + 1 + 1; omega) _
      case measure => simp [intOf]; omega
end Go.Proofs.Ytebhkifjommpjaa
