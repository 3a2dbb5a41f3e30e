/- A block masked; the MAC. -/
import Derived.Test.YtnlmjclloaholaaMaB
namespace Go.Proofs.Ytnlmjclloaholaa
open Go.RowKit

theorem row_text (w : World) (g cap : Nat) (l : List UInt8) (hc : ∀ j v, (bC l)[j]? = some v → w.cell? ⟨g, j, none⟩ = some v) (n : Nat) (hn : l.length = n) :
    (convert 41 9 (.slice (some ⟨g, 0, none⟩) n cap)).run Try.prog w = .ok (.string ⟨l.toArray⟩) w := by
  subst hn
  exact run_convert_bytes_back (P := Try.prog) w 41 9 5 ⟨g, 0, none⟩ cap l Try.underlying41 Try.underlying5 Try.underlying9 (fun j hj => by
    rw [Addr.add_lit, Nat.zero_add]
    exact hc j _ (by simp [bC, hj]))

set_option maxRecDepth 100000 in
set_option maxHeartbeats 1600000 in
theorem masked_any (L : List UInt8) (hL : L.length = 64) (m : UInt8) (mi : Int) (hm : mi = (m.toNat : Int)) (w : World) :
    Calls Try.prog 23 #[.agg (bC L).toArray, .int .u8 mi] w fun e w' => e = .returned (.string ⟨(maskB m L).toArray⟩) ∧ Below w.heap.size w w' := by
  have HL := hid (And.intro hL hm)
  clear hL hm
  go_enter Try.func23, Try.ntmps23
  go_wp2_with (refine wl_box_row rfl 43 _ rfl _ rfl ?_)
  go_loopw [6] (fun i wr => ∃ k : Nat, k ≤ 64 ∧ i = .int .i64 (k : Int) ∧ wr.heap[w.heap.size]? = some (.cells (bC (maskK m L k)).toArray 43 (0, 0)) ∧ Below w.heap.size w wr)
    (fun i _ => (64 - intOf i).toNat)
  case atStart => exact ⟨0, by omega, rfl, heap_alloc_last w _, (Below.refl _ _).alloc (Nat.le_refl _) _⟩
  case round =>
    obtain ⟨k, hk, rfl, hblk, hbel⟩ := hrel
    have HR := hid (And.intro hblk hbel)
    clear hblk hbel
    by_cases hk64 : k = 64
    · have hk1 : ¬ ((k : Int) < 64) := by omega
      have HC := hid (row_text wr w.heap.size 64 (maskB m L) (fun j v hv => cell_at (L := bC (maskB m L)) (t := 43) (fr := (0, 0)) (by
        have := HR.out.1
        rwa [maskK_all _ _ _ (by rw [HL.out.1, hk64]; exact Nat.le_refl _)] at this) j v hv) 64 (by rw [maskB_len]; exact HL.out.1))
      clear hk hk64
      go_wp2_with rw [HC.out]
      go_ret
      exact ⟨rfl, HR.out.2⟩
    · have hk1 : (k : Int) < 64 := by omega
      have hk0 : (0 : Int) ≤ (k : Int) := Int.natCast_nonneg _
      obtain ⟨x, ex⟩ : ∃ x, x = L.getD k 0 := ⟨_, rfl⟩
      have cG : wr.cell? ⟨w.heap.size, k, none⟩ = some (.int .u8 (x.toNat : Int)) := by
        have := cell_at HR.out.1 k _ (bC_get (maskK m L k) k (by rw [maskK_len, HL.out.1]; omega))
        rwa [maskK_get _ _ _ (by rw [HL.out.1]; omega), ← ex] at this
      have fG : wr.frozen? ⟨w.heap.size, k, none⟩ = false := free_at HR.out.1 k
      have HX := hid ex
      clear ex
      go_wp2
      go_roundw
      case rel =>
        refine ⟨k + 1, by omega, rfl, ?_, ?_⟩
        · refine (blk_set HR.out.1 _ _).trans ?_
          rw [bC_set _ _ _ (L.getD k 0 ^^^ m) ?_, maskK_set _ _ _ (by rw [HL.out.1]; omega)]
          rw [HL.out.2, b_xor, HX.out]
        · exact HR.out.2.setCell (Nat.le_refl _) _
      case measure => simp [intOf]; omega
end Go.Proofs.Ytnlmjclloaholaa
