/- Lists of numbers held against each other. -/
import Derived.Test.YtecidbdbdnnglaaGreatBaC
namespace Go.Proofs.YtecidbdbdnnglaaGreat
open Go.RowKit

set_option maxRecDepth 100000 in
set_option maxHeartbeats 1600000 in
theorem sameInts_any (a1 a2 : Option Addr) (n c1 c2 : Nat) (ss : List Int) (hn : ss.length = n) (hm : n ≤ maxLen) (w : World) (h1 : IntsIn w a1 ss) (h2 : IntsIn w a2 ss) :
    Calls Tryz.prog 28 #[.slice a1 n c1, .slice a2 n c2] w fun e w' => e = .returned (.bool true) ∧ Below w.heap.size w w' := by
  have hm2 : (n : Int) ≤ 9223372036854775807 := by unfold maxLen at hm; omega
  have HZ := hid (And.intro h1 (And.intro h2 hn))
  clear h1 h2 hn hm
  go_enter Tryz.func28, Tryz.ntmps28
  go_wp2
  go_loopw [5] (fun i wr => ∃ j : Nat, j ≤ n ∧ i = .int .i64 (j : Int) ∧ Below w.heap.size w wr)
    (fun i _ => ((n : Int) - intOf i).toNat)
  case atStart => exact ⟨0, by omega, rfl, Below.refl _ _⟩
  case round =>
    obtain ⟨j, hj, rfl, hbel⟩ := hrel
    have HB := hid hbel
    clear hbel
    by_cases hjn : j = n
    · have hj1 : ¬ ((j : Int) < (n : Int)) := by omega
      clear hj hjn
      go_wp2
      go_ret
      exact ⟨rfl, HB.out⟩
    · have hj1 : (j : Int) < (n : Int) := by omega
      have hj0 : (0 : Int) ≤ (j : Int) := Int.natCast_nonneg _
      obtain ⟨s, es⟩ : ∃ s, ss[j]? = some s := ⟨_, List.getElem?_eq_getElem (by rw [HZ.out.2.2]; omega)⟩
      obtain ⟨g1, off1, rfl, hg1, hcell1⟩ := HZ.out.1.at j s es
      obtain ⟨g2, off2, rfl, hg2, hcell2⟩ := HZ.out.2.1.at j s es
      have cz1 : wr.cell? ⟨g1, off1 + j, none⟩ = some (.int .i64 s) := (HB.out.cell (p := ⟨g1, off1 + j, none⟩) hg1).trans hcell1
      have cz2 : wr.cell? ⟨g2, off2 + j, none⟩ = some (.int .i64 s) := (HB.out.cell (p := ⟨g2, off2 + j, none⟩) hg2).trans hcell2
      clear es hg1 hg2 hcell1 hcell2
      go_wp2
      go_quiet (fail)
      go_wp2
      go_roundw
      case rel => exact ⟨j + 1, by omega, rfl, ⟨HB.out.os, HB.out.tape, HB.out.output, HB.out.size, HB.out.block⟩⟩
      case measure => simp [intOf]; omega
end Go.Proofs.YtecidbdbdnnglaaGreat
