/- What the document reads any bytes as: a request. -/
import Derived.Test.YtpgfdnmlkaoigabDsD
import Derived.Test.YtpgfdnmlkaoigabDsS
import Derived.Test.YtpgfdnmlkaoigabMrR
import Derived.Test.YtpgfdnmlkaoigabBaE
namespace Go.Proofs.Ytpgfdnmlkaoigab
open Go.RowKit

theorem rq_st {w : World} {b : Nat} {r : Rq} (h : RqAt w b r) (v : Int) : RqAt (w.setCell ⟨b, 1, none⟩ (.int .i64 v)) b { r with st := v } := (blk_set h 1 _).trans (by simp)
theorem rq_k {w : World} {b : Nat} {r : Rq} (h : RqAt w b r) (v : Int) : RqAt (w.setCell ⟨b, 2, none⟩ (.int .i64 v)) b { r with k := v } := (blk_set h 2 _).trans (by simp)
theorem rq_key {w : World} {b : Nat} {r : Rq} (h : RqAt w b r) (v : ByteArray) : RqAt (w.setCell ⟨b, 3, none⟩ (.string v)) b { r with key := v } := (blk_set h 3 _).trans (by simp)
theorem rq_b {w : World} {b : Nat} {r : Rq} (h : RqAt w b r) (v : Nat) : RqAt (w.setCell ⟨b, 4, none⟩ (.float .f64 v)) b { r with b := v } := (blk_set h 4 _).trans (by simp)
theorem rq_id {w : World} {b : Nat} {r : Rq} (h : RqAt w b r) (v : Int) : RqAt (w.setCell ⟨b, 5, none⟩ (.int .i64 v)) b { r with id := v } := (blk_set h 5 _).trans (by simp)
theorem load_rq (w : World) (b : Nat) (r : Rq) (h : RqAt w b r) : (loadVar 37 ⟨b, 0, none⟩).run Try.prog w = .ok (.agg #[.int .i64 r.c, .int .i64 r.st, .int .i64 r.k, .string r.key, .float .f64 r.b, .int .i64 r.id]) w := by
  obtain ⟨⟨z0, z1⟩, z2, z3, z4, z5⟩ := h.cells
  clear h
  go_simp
theorem rd_sizes (s : ByteArray) (sh : Bool) (n : Nat) : (rS s sh n).size ≤ s.size := by
  rw [rS]
  split
  · rw [← data_len, ext_data, List.length_drop, List.length_take, data_len]
    omega
  · exact Nat.le_refl _
end Go.Proofs.Ytpgfdnmlkaoigab
