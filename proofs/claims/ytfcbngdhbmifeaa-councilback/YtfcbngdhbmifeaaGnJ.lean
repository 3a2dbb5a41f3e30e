/- Lists of numbers held against each other, whatever they are. -/
import Derived.Test.YtfcbngdhbmifeaaGnI
namespace Go.Proofs.Ytfcbngdhbmifeaa
open Go.RowKit

theorem take_next {a b : List Int} {j : Nat} (ha : j < a.length) (hb : j < b.length) (h : a.take j = b.take j) (hx : a.getD j 0 = b.getD j 0) : a.take (j + 1) = b.take (j + 1) := by
  rw [List.take_add_one, List.take_add_one, h]
  rw [List.getD_eq_getElem?_getD, List.getD_eq_getElem?_getD, List.getElem?_eq_getElem ha, List.getElem?_eq_getElem hb] at hx
  rw [List.getElem?_eq_getElem ha, List.getElem?_eq_getElem hb]
  simp at hx
  rw [hx]
set_option maxRecDepth 100000 in
set_option maxHeartbeats 1600000 in
theorem sameInts_no (a1 a2 : Option Addr) (n c1 c2 : Nat) (s1 s2 : List Int) (hn : s1.length = n) (hn2 : s2.length = n) (hm : n ≤ maxLen) (hne : s1 ≠ s2) (w : World) (h1 : IntsIn w a1 s1) (h2 : IntsIn w a2 s2) :
    Calls Try.prog 27 #[.slice a1 n c1, .slice a2 n c2] w fun e w' => e = .returned (.bool false) ∧ Below w.heap.size w w' := by
  have hm2 : (n : Int) ≤ 9223372036854775807 := by unfold maxLen at hm; omega
  have HZ := hid (And.intro h1 h2)
  have HN := hid (And.intro hn (And.intro hn2 hne))
  clear h1 h2 hn hn2 hm hne
  go_enter Try.func27, Try.ntmps27
  go_wp2
  go_loopw [5] (fun i wr => ∃ j : Nat, j ≤ n ∧ i = .int .i64 (j : Int) ∧ s1.take j = s2.take j ∧ Below w.heap.size w wr)
    (fun i _ => ((n : Int) - intOf i).toNat)
  case atStart => exact ⟨0, by omega, rfl, rfl, Below.refl _ _⟩
  case round =>
    obtain ⟨j, hj, rfl, ht, hbel⟩ := hrel
    have HB := hid hbel
    have HT := hid ht
    clear hbel ht
    by_cases hjn : j = n
    · exfalso
      have := HT.out
      rw [List.take_of_length_le (by rw [HN.out.1]; omega), List.take_of_length_le (by rw [HN.out.2.1]; omega)] at this
      exact HN.out.2.2 this
    · have hj1 : (j : Int) < (n : Int) := by omega
      have hj0 : (0 : Int) ≤ (j : Int) := Int.natCast_nonneg _
      obtain ⟨x, ex⟩ : ∃ x, x = s1.getD j 0 := ⟨_, rfl⟩
      obtain ⟨y, ey⟩ : ∃ y, y = s2.getD j 0 := ⟨_, rfl⟩
      have es : s1[j]? = some x := by rw [ex, List.getD_eq_getElem?_getD, List.getElem?_eq_getElem (by rw [HN.out.1]; omega)]; rfl
      have es2 : s2[j]? = some y := by rw [ey, List.getD_eq_getElem?_getD, List.getElem?_eq_getElem (by rw [HN.out.2.1]; omega)]; rfl
      obtain ⟨g1, off1, rfl, hg1, hcell1⟩ := HZ.out.1.at j x es
      obtain ⟨g2, off2, rfl, hg2, hcell2⟩ := HZ.out.2.at j y es2
      have cz1 : wr.cell? ⟨g1, off1 + j, none⟩ = some (.int .i64 x) := (HB.out.cell (p := ⟨g1, off1 + j, none⟩) hg1).trans hcell1
      have cz2 : wr.cell? ⟨g2, off2 + j, none⟩ = some (.int .i64 y) := (HB.out.cell (p := ⟨g2, off2 + j, none⟩) hg2).trans hcell2
      have HX := hid (And.intro ex ey)
      clear es es2 hg1 hg2 hcell1 hcell2 ex ey
      by_cases hxy : x = y
      · subst hxy
        go_wp2
        go_quiet (fail)
        go_wp2
        go_roundw
        case rel => exact ⟨j + 1, by omega, rfl, take_next (by rw [HN.out.1]; omega) (by rw [HN.out.2.1]; omega) HT.out (HX.out.1.symm.trans HX.out.2), ⟨HB.out.os, HB.out.tape, HB.out.output, HB.out.size, HB.out.block⟩⟩
        case measure => simp [intOf]; omega
      · go_wp2
        go_quiet (fail)
        go_wp2
        go_ret
        exact ⟨rfl, ⟨HB.out.os, HB.out.tape, HB.out.output, HB.out.size, HB.out.block⟩⟩
set_option maxRecDepth 100000 in
set_option maxHeartbeats 1600000 in
/-- Of any two lists. -/
theorem sameInts_all (a1 a2 : Option Addr) (n m c1 c2 : Nat) (s1 s2 : List Int) (hn : s1.length = n) (hn2 : s2.length = m) (hm : n ≤ maxLen) (w : World) (h1 : IntsIn w a1 s1) (h2 : IntsIn w a2 s2) :
    Calls Try.prog 27 #[.slice a1 n c1, .slice a2 m c2] w fun e w' => e = .returned (.bool (decide (s1 = s2))) ∧ Below w.heap.size w w' := by
  by_cases he : s1 = s2
  · obtain rfl : n = m := by rw [← hn, ← hn2, he]
    subst he
    rw [decide_eq_true rfl]
    exact sameInts_any a1 a2 n c1 c2 s1 hn hm w h1 h2
  · rw [decide_eq_false he]
    by_cases hnm : n = m
    · subst hnm
      exact sameInts_no a1 a2 n c1 c2 s1 s2 hn hn2 hm he w h1 h2
    · have hnm2 : ¬ ((n : Int) = (m : Int)) := by omega
      clear h1 h2 hn hn2 hm he
      go_enter Try.func27, Try.ntmps27
      go_wp2
      go_ret
      exact ⟨rfl, Below.refl _ _⟩
end Go.Proofs.Ytfcbngdhbmifeaa
