/- The document's writer (layer 1's reference): a number as bytes. -/
import Derived.Test.YtecidbdbdnnglaaGreatPkNM
import Derived.Laws.MakeOwn
namespace Go.Proofs.YtecidbdbdnnglaaGreat
open Go.RowKit

theorem made_zero (n : Nat) : madeCells #[Value.int .u8 0] n = (List.replicate n (Value.int .u8 0)).toArray := by
  apply Array.ext'
  simp [madeCells]
  apply List.ext_getElem?
  intro i
  by_cases h : i < n
  · simp [h, Nat.mod_one]
  · simp [h]

/-- The cells of a number that is being written from its end. -/
def bigCells (k : Nat) (T : List UInt8) : Array Value := (List.replicate k (Value.int .u8 0) ++ bC T).toArray
theorem bigCells_set (j : Nat) (T : List UInt8) (c : UInt8) : (bigCells (j + 1) T).setIfInBounds j (.int .u8 (c.toNat : Int)) = bigCells j (c :: T) := by
  apply Array.ext'
  simp only [bigCells, Array.toList_setIfInBounds]
  rw [List.replicate_succ', List.append_assoc, List.set_append_right _ _ (by simp)]
  simp [bC]

set_option maxRecDepth 100000 in
set_option maxHeartbeats 1600000 in
theorem big_any (n s : Nat) (w : World) (hs : s ≤ 8) (hn : n < 18446744073709551616) :
    Calls Tryz.prog 114 #[.int .u64 n, .int .i64 s] w fun e w' => e = .returned (.slice (some ⟨w.heap.size, 0, none⟩) s s) ∧ w'.heap[w.heap.size]? = some (.cells (bC (be s n)).toArray 5 (0, 0)) ∧ Below w.heap.size w w' := by
  obtain ⟨i0, hi0, hz0, hz1, hz2⟩ := info_parts Tryz.info5
  have hmk : ∀ u : World, (Instr.makeSlice 124 (.int .i64 (s : Int)) (.int .i64 (s : Int))).run Tryz.prog u = .ok (.slice (some ⟨u.heap.size, 0, none⟩) s s) (u.alloc (.cells (bigCells s []) 5)) := fun u => by
    have h := run_make (P := Tryz.prog) u 124 5 i0 (.int .u8 0) Tryz.underlying124 hi0 hz0 .i64 .i64 (s : Int) (s : Int) (by omega) (Int.le_refl _) (by rw [hz2]; omega) (by omega)
    rw [hz1] at h
    simp only [Int.toNat_natCast, Nat.mul_one] at h
    rw [h]
    simp [Value.cells, made_zero, bigCells, bC]
  clear hi0 hz0 hz1 hz2
  have HN := hid hn
  clear hn
  go_enter Tryz.func114, Tryz.ntmps114
  go_wp2
  go_loopw [0, 6] (fun v i wr => ∃ (k m : Nat) (T : List UInt8), k ≤ s ∧ i = .int .i64 ((k : Int) - 1) ∧ v = .int .u64 (m : Int) ∧ m < 18446744073709551616 ∧ be k m ++ T = be s n ∧ wr.heap[w.heap.size]? = some (.cells (bigCells k T) 5 (0, 0)) ∧ Below w.heap.size w wr)
    (fun _ i _ => (intOf i + 1).toNat)
  case atStart => exact ⟨s, n, [], Nat.le_refl _, rfl, rfl, HN.out, by simp, heap_alloc_new w _, (Below.refl _ _).alloc (Nat.le_refl _) _⟩
  case round =>
    obtain ⟨k, m, T, hk, rfl, rfl, hm, hT, hblk, hbel⟩ := hrel
    have HT := hid hT
    have HR := hid (And.intro hblk hbel)
    clear hT hblk hbel
    cases k with
    | zero =>
      go_wp2
      go_ret
      refine ⟨rfl, ?_, HR.out.2⟩
      have e : T = be s n := by simpa [be] using HT.out
      rw [← e]
      simpa [bigCells] using HR.out.1
    | succ j =>
      have ej : (((j + 1 : Nat) : Int) - 1) = (j : Int) := by omega
      rw [ej]
      clear ej
      have hj0 : (0 : Int) ≤ (j : Int) := Int.natCast_nonneg _
      have hjs : (j : Int) < (s : Int) := by omega
      have hm0 : (0 : Int) ≤ (m : Int) := Int.natCast_nonneg _
      have cG : wr.cell? ⟨w.heap.size, j, none⟩ = some (.int .u8 0) := by
        have := cell_of_blk HR.out.1 j (by simp [bigCells]; omega)
        rw [this]
        simp [bigCells]
      have fG := free_of_blk HR.out.1 j
      go_wp2
      go_roundw
      case rel =>
        have hmod : (m : Int) % 256 = ((UInt8.ofNat m).toNat : Int) := by
          have e : (UInt8.ofNat m).toNat = m % 256 := by simp
          rw [e]; omega
        refine ⟨j, m / 256, UInt8.ofNat m :: T, by omega, rfl, ?_, by omega, ?_, ?_, ?_⟩
        · have e : (m : Int) / 256 = ((m / 256 : Nat) : Int) := by omega
          rw [e]
        · have := HT.out
          rw [be_snoc, List.append_assoc] at this
          exact this
        · have := HR.out.1
          simp [World.setCell, Array.getElem?_modify, this]
          rw [hmod, bigCells_set]
        · exact HR.out.2.setCell (Nat.le_refl _) _
      case measure => simp [intOf]

end Go.Proofs.YtecidbdbdnnglaaGreat
