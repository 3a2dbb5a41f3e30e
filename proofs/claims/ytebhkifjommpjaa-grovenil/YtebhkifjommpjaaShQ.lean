/- Sum of parts that were laid last. -/
import Derived.Test.YtebhkifjommpjaaShK
namespace Go.Proofs.Ytebhkifjommpjaa
open Go.RowKit

theorem two_cells (w : World) (s t : ByteArray) (j : Nat) (x : ByteArray) (h : [s, t][j]? = some x) : (w.alloc (.cells #[.string s, .string t] 9)).cell? ⟨w.heap.size, j, none⟩ = some (.string x) := by
  refine cell_at (L := [.string s, .string t]) (t := 9) (fr := (0, 0)) (heap_alloc_last w _) j _ ?_
  have : j < 2 := (List.getElem?_eq_some_iff.1 h).1
  obtain rfl | rfl : j = 0 ∨ j = 1 := by omega
  · simpa using h
  · simpa using h

theorem one_cell (w : World) (s : ByteArray) (j : Nat) (x : ByteArray) (h : [s][j]? = some x) : (w.alloc (.cells #[.string s] 9)).cell? ⟨w.heap.size, j, none⟩ = some (.string x) := by
  refine cell_at (L := [.string s]) (t := 9) (fr := (0, 0)) (heap_alloc_last w _) j _ ?_
  have : j < 1 := (List.getElem?_eq_some_iff.1 h).1
  obtain rfl : j = 0 := by omega
  simpa using h
/-- Sum of parts that were laid last. -/
theorem ssum_new (ss : List ByteArray) (cells : Array Value) (n cap : Nat) (u : World) (hn : ss.length = n) (hc : cells = (ss.map Value.string).toArray) (hsz : (joinB ss).length < 1152921504606840000) (h63 : n ≤ 9223372036854775807) :
    Calls Try.prog 41 #[.slice (some ⟨u.heap.size, 0, none⟩) n cap] (u.alloc (.cells cells 9)) fun e w' => e = .returned (.string ⟨(shaB (joinB ss)).toArray⟩) ∧ Below u.heap.size u w' := by
  subst hn
  have := ssum_any u.heap.size cap ss (u.alloc (.cells cells 9)) (by simp) (fun j s hj => by
    subst hc
    exact cell_at (L := ss.map Value.string) (t := 9) (fr := (0, 0)) (heap_alloc_last u _) j _ (by simp [hj])) hsz h63
  refine this.mono ?_
  rintro e w' ⟨rfl, hb⟩
  exact ⟨rfl, ((Below.refl _ _).alloc (Nat.le_refl _) _).trans (hb.mono (by simp))⟩

theorem joinB_one (s : ByteArray) : joinB [s] = s.data.toList := by simp [joinB]
end Go.Proofs.Ytebhkifjommpjaa
