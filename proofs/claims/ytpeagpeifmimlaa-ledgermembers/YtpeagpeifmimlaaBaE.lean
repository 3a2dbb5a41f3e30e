/- What all families of texts share: results that live in a variable; rows of one's own beside a store elsewhere. -/
import Derived.Test.YtpeagpeifmimlaaBaD
namespace Go.Proofs.Ytpeagpeifmimlaa
open Go.RowKit

theorem ret_pair {f : Func} {a : Act} {w : World} {Q : Ending → World → Prop} {s s2 : Nat} {t : TypeId} {ad : Addr} {v v2 : Value} (hr : f.results = #[.cell s t, .tmp s2]) (hs : a.tmps.getD s undef = .pointer (some ad)) (hl : (loadVar t ad).run Try.prog w = .ok v w) (h2 : a.tmps.getD s2 undef = v2) (hd : a.defers = [])
    (h : Q (.returned (.tuple #[v, v2])) w) : bodyPost Try.prog f Q .ret a w := by
  refine bodyPost_ret (v := .tuple #[v, v2]) ?_ hd h
  have h1 : a.tmps.getD s undef = .pointer (some ad) := hs
  simp [results, hr, -Array.getD_eq_getD_getElem?, h1, h2, asAddr, hl]
theorem ret_three {f : Func} {a : Act} {w : World} {Q : Ending → World → Prop} {s s2 s3 : Nat} {t : TypeId} {ad : Addr} {v v2 v3 : Value} (hr : f.results = #[.cell s t, .tmp s2, .tmp s3]) (hs : a.tmps.getD s undef = .pointer (some ad)) (hl : (loadVar t ad).run Try.prog w = .ok v w) (h2 : a.tmps.getD s2 undef = v2) (h3 : a.tmps.getD s3 undef = v3) (hd : a.defers = [])
    (h : Q (.returned (.tuple #[v, v2, v3])) w) : bodyPost Try.prog f Q .ret a w := by
  refine bodyPost_ret (v := .tuple #[v, v2, v3]) ?_ hd h
  have h1 : a.tmps.getD s undef = .pointer (some ad) := hs
  simp [results, hr, -Array.getD_eq_getD_getElem?, h1, h2, h3, asAddr, hl]
theorem ret_four {f : Func} {a : Act} {w : World} {Q : Ending → World → Prop} {s s2 s3 s4 : Nat} {t : TypeId} {ad : Addr} {v v2 v3 v4 : Value} (hr : f.results = #[.cell s t, .tmp s2, .tmp s3, .tmp s4]) (hs : a.tmps.getD s undef = .pointer (some ad)) (hl : (loadVar t ad).run Try.prog w = .ok v w) (h2 : a.tmps.getD s2 undef = v2) (h3 : a.tmps.getD s3 undef = v3) (h4 : a.tmps.getD s4 undef = v4) (hd : a.defers = [])
    (h : Q (.returned (.tuple #[v, v2, v3, v4])) w) : bodyPost Try.prog f Q .ret a w := by
  refine bodyPost_ret (v := .tuple #[v, v2, v3, v4]) ?_ hd h
  have h1 : a.tmps.getD s undef = .pointer (some ad) := hs
  simp [results, hr, -Array.getD_eq_getD_getElem?, h1, h2, h3, h4, asAddr, hl]
theorem res_put {w : World} {b : Nat} {p q x y : Value} {T : TypeId} (h : w.heap[b]? = some (.cells #[p, q] T (0, 0))) : ((w.setCell ⟨b, 0, none⟩ x).setCell ⟨b, 1, none⟩ y).heap[b]? = some (.cells #[x, y] T (0, 0)) := by
  have h1 : (w.setCell ⟨b, 0, none⟩ x).heap[b]? = some (.cells #[x, q] T (0, 0)) := (blk_set h 0 x).trans (by simp)
  exact (blk_set h1 1 y).trans (by simp)
theorem own_put {w : World} {B z : Nat} {v : Value} {n : Nat} {xs : List Value} {e : TypeId} (h : w.ownsRow B e z v n xs) (r o : Nat) (x : Value) (hr : r < B) : (w.setCell ⟨r, o, none⟩ x).ownsRow B e z v n xs := by
  refine ⟨h.1, ?_⟩
  rcases h.2 with hn | ⟨g, cap, cur, hv, hB, hh, hx⟩
  · exact .inl hn
  · exact .inr ⟨g, cap, cur, hv, hB, (Below.heap_setCell _ _ _ _ (by show ¬ g = r; omega)).trans hh, hx⟩
theorem cell_two {w : World} {b : Nat} {x y : Value} {T : TypeId} {fr : Nat × Nat} (h : w.heap[b]? = some (.cells #[x, y] T fr)) : w.cell? ⟨b, 0, none⟩ = some x ∧ w.cell? ⟨b, 1, none⟩ = some y :=
  ⟨cell_at (L := [x, y]) h 0 _ rfl, cell_at (L := [x, y]) h 1 _ rfl⟩
end Go.Proofs.Ytpeagpeifmimlaa
