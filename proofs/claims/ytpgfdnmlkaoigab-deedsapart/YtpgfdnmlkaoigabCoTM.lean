/- The program's: members in new memory. -/
import Derived.Test.YtpgfdnmlkaoigabCoSM
import Derived.Laws.CopyOwn
namespace Go.Proofs.Ytpgfdnmlkaoigab
open Go.RowKit

/-- The row g, new since w0, holds the numbers l and room for one more. -/
structure Copied (w0 w : World) (g : Nat) (l : List Int) : Prop where
  blk : w.heap[g]? = some (.cells (iC (l ++ [0])).toArray 3 (0, 0))
  lo : w0.heap.size ≤ g
  bel : Below w0.heap.size w0 w
theorem OwnedI.low {B : Nat} {w0 w1 w : World} {v : Value} {zs : List Int} (h : OwnedI w1.heap.size w1 w v zs) (hb : Below B w0 w1) (hB : B ≤ w1.heap.size) : OwnedI B w0 w v zs := by
  refine ⟨⟨h.own.1, ?_⟩, hb.trans (h.bel.mono hB), Nat.le_trans hB h.le⟩
  rcases h.own.2 with hn | ⟨g, cap, cur, hv, hg, hr⟩
  · exact .inl hn
  · exact .inr ⟨g, cap, cur, hv, Nat.le_trans hB hg, hr⟩
theorem Try.size3 : (Try.prog.info? 3).map (·.size) = some 1 := by kernel_rfl
theorem run_makeI (n m : Nat) (hnm : n ≤ m) (hm : m ≤ 1000) (u : World) : (Instr.makeSlice 29 (.int .i64 (n : Int)) (.int .i64 (m : Int))).run Try.prog u = .ok (.slice (some ⟨u.heap.size, 0, none⟩) n m) (u.alloc (.cells (iC (List.replicate m 0)).toArray 3)) := by
  obtain ⟨i0, hi0, hz0, hz1, hz2⟩ := info_parts Try.info3
  have h := run_make (P := Try.prog) u 29 3 i0 (.int .i64 0) Try.underlying29 hi0 hz0 .i64 .i64 n m (by omega) (by omega) (by rw [hz2]; omega) (by omega)
  rw [hz1, Int.toNat_natCast, Int.toNat_natCast, Nat.mul_one] at h
  rw [h]
  congr 4
  apply Array.ext'
  have h2 : (Value.int .i64 0).cells = #[.int .i64 0] := rfl
  rw [h2, toList_madeCells_one]
  show _ = iC _
  rw [iC, List.map_replicate]
theorem splice_copied (l : List Int) : splice (iC (List.replicate (l.length + 1) 0)) 0 (iC l) = iC (l ++ [0]) := by
  rw [splice, iC_len, iC_app]
  simp [iC]
theorem src_ints {w : World} {a : Option Addr} {l : List Int} {X : List Value} (h : IntsIn w a l) (h0 : 0 < l.length) (hX : X = iC l) : ∃ ad, a = some ad ∧ ∀ j v, X[j]? = some v → w.cell? (ad.add j) = some v := by
  subst hX
  rcases h with h | ⟨g, off, rfl, hg, hc⟩
  · rw [h] at h0; simp at h0
  · refine ⟨_, rfl, fun j v hv => ?_⟩
    obtain ⟨z, hz, rfl⟩ := iC_back l j v hv
    rw [Addr.add_lit]
    exact hc j z hz
theorem own_of_blk {B : Nat} {w0 w : World} {g cap n : Nat} {zs : List Int} {rest : List Value} (h : w.heap[g]? = some (.cells (iC zs ++ rest).toArray 3 (0, 0))) (hB : B ≤ g) (hc : zs.length + rest.length = cap) (hm : cap ≤ maxLen) (hn : n = zs.length) (hb : Below B w0 w) : OwnedI B w0 w (.slice (some ⟨g, 0, none⟩) n cap) zs := by
  subst hn
  refine ⟨⟨by rw [iC_len, Nat.mul_one], .inr ⟨g, cap, _, rfl, hB, h, by omega, hm, by simp [iC]; omega, ?_⟩⟩, hb, by have := lt_of_blk h; omega⟩
  rw [Nat.mul_one]
  simp [iC]
theorem below_drew (B : Nat) (w : World) : Below B w w.drew := ⟨rfl, rfl, rfl, Nat.le_refl _, fun _ _ => rfl⟩
theorem below_sets {B b : Nat} {a : World} (hb : B ≤ b) : ∀ (vs : List Value) (o : Nat) (w : World), Below B a w → Below B a (w.setCells b o vs)
  | [], _, _, h => h
  | v :: vs, o, _, h => below_sets hb vs (o + 1) _ (h.setCell (p := ⟨b, o, none⟩) hb v)
theorem shift_cells (A D : List Value) (z v : Value) (p : Nat) (hA : A.length = p) :
    (((A ++ (D ++ [z])).take (p + 1) ++ D ++ (A ++ (D ++ [z])).drop (p + 1 + D.length)).take p ++ [v] ++ ((A ++ (D ++ [z])).take (p + 1) ++ D ++ (A ++ (D ++ [z])).drop (p + 1 + D.length)).drop (p + 1)) = A ++ [v] ++ D := by
  have e1 : (A ++ (D ++ [z])).drop (p + 1 + D.length) = [] := List.drop_eq_nil_of_le (by simp; omega)
  have l1 : ((A ++ (D ++ [z])).take (p + 1)).length = p + 1 := by rw [List.length_take]; simp; omega
  rw [e1, List.append_nil, List.take_append_of_le_length (by omega), List.take_take, Nat.min_eq_left (by omega), List.take_left' hA, List.drop_left' l1]
end Go.Proofs.Ytpgfdnmlkaoigab
