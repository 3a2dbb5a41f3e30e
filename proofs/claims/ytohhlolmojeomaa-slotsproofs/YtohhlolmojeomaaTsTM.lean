/- Numbers of one's own: kept, read; texts unlike. No walk here. -/
import Derived.Test.YtohhlolmojeomaaKg1
namespace Go.Proofs.Ytohhlolmojeomaa
open Go.RowKit

theorem OwnedI.keep {B : Nat} {w0 w w' : World} {v : Value} {l : List Int} (h : OwnedI B w0 w v l) (hb : Below w.heap.size w w') : OwnedI B w0 w' v l := by
  refine ⟨⟨h.own.1, ?_⟩, h.bel.trans (hb.mono h.le), Nat.le_trans h.le hb.size⟩
  rcases h.own.2 with hn | ⟨g, cap, cur, hv, hB, hh, hr⟩
  · exact .inl hn
  · exact .inr ⟨g, cap, cur, hv, hB, (hb.block g (lt_of_blk hh)).trans hh, hr⟩
theorem OwnedI.ints {B : Nat} {w0 w : World} {v : Value} {l : List Int} (h : OwnedI B w0 w v l) : ∃ a cap, v = .slice a l.length cap ∧ IntsIn w a l := by
  by_cases h0 : 0 < l.length
  · obtain ⟨g, cap, hv, _, _, hg, _, hc⟩ := h.form h0
    exact ⟨_, cap, hv, .inr ⟨g, 0, rfl, hg, fun j s hj => by rw [Nat.zero_add]; exact hc j s hj⟩⟩
  · obtain rfl : l = [] := List.eq_nil_of_length_eq_zero (by omega)
    rcases h.own.2 with ⟨hv, _⟩ | ⟨g, cap, cur, hv, _⟩
    · exact ⟨none, 0, hv, .inl rfl⟩
    · exact ⟨_, cap, hv, .inl rfl⟩
theorem text_no {r t : ByteArray} (h : r.data.toList ≠ t.data.toList) : (r.toList == t.toList) = false := by
  rw [data_list, data_list]
  simpa using h
end Go.Proofs.Ytohhlolmojeomaa
