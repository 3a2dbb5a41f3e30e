/- Lists of numbers that are made; a row of one's own by its block. -/
import Derived.Test.YtepcdbmdfpaomaaGa3
import Derived.Laws.CopyOwn
namespace Go.Proofs.Ytepcdbmdfpaomaa
open Go.RowKit
set_option maxRecDepth 100000 in
theorem run_makeI (n m : Nat) (hnm : n ≤ m) (hm : m ≤ 1000) (u : World) : (Instr.makeSlice 29 (.int .i64 (n : Int)) (.int .i64 (m : Int))).run Try.prog u = .ok (.slice (some ⟨u.heap.size, 0, none⟩) n m) (u.alloc (.cells (iC (List.replicate m 0)).toArray 3)) := by
  obtain ⟨i0, hi0, hz0, hz1, hz2⟩ := info_parts Try.info3
  have h := run_make (P := Try.prog) u 29 3 i0 (.int .i64 0) Try.underlying29 hi0 hz0 .i64 .i64 n m (by omega) (by omega) (by rw [hz2]; omega) (by omega)
  rw [hz1, Int.toNat_natCast, Int.toNat_natCast, Nat.mul_one] at h
  rw [h]
  congr 4
  apply Array.ext'
  have h2 : (Value.int .i64 0).cells = #[.int .i64 0] := rfl
  rw [h2, toList_madeCells_one]
  show _ = iC _
  rw [iC, List.map_replicate]
theorem own_of_blk {B : Nat} {w0 w : World} {g cap n : Nat} {zs : List Int} {rest : List Value} (h : w.heap[g]? = some (.cells (iC zs ++ rest).toArray 3 (0, 0))) (hB : B ≤ g) (hc : zs.length + rest.length = cap) (hm : cap ≤ maxLen) (hn : n = zs.length) (hb : Below B w0 w) : OwnedI B w0 w (.slice (some ⟨g, 0, none⟩) n cap) zs := by
  subst hn
  refine ⟨⟨by rw [iC_len, Nat.mul_one], .inr ⟨g, cap, _, rfl, hB, h, by omega, hm, by simp [iC]; omega, ?_⟩⟩, hb, by have := lt_of_blk h; omega⟩
  rw [Nat.mul_one]
  simp [iC]
end Go.Proofs.Ytepcdbmdfpaomaa
