/- The document's members. -/
import Derived.Test.YtpeagpeifmimlaaGreatCoB
import Derived.Deep.QuietTactic
namespace Go.Proofs.YtpeagpeifmimlaaGreat
open Go.RowKit

set_option maxRecDepth 100000 in
set_option maxHeartbeats 3200000 in
theorem vmembers_any (a : Option Addr) (n cap : Nat) (l : List Int) (hn : l.length = n) (hm : n ≤ maxLen) (w : World) (hI : IntsIn w a l) :
    Calls Tryz.prog 70 #[.slice a n cap] w fun e w' => e = .returned (.bool (memB l)) ∧ Below w.heap.size w w' := by
  have hm2 : (n : Int) ≤ 9223372036854775807 := by unfold maxLen at hm; omega
  have HI := hid hI
  have HN := hid hn
  clear hI hm hn
  go_enter Tryz.func70, Tryz.ntmps70
  go_wp2
  go_loopw [3] (fun i wr => ∃ j : Nat, j ≤ n ∧ i = .int .i64 (j : Int) ∧ okTo l j = true ∧ Below w.heap.size w wr)
    (fun i _ => ((n : Int) - intOf i).toNat)
  case atStart => exact ⟨0, by omega, rfl, rfl, Below.refl _ _⟩
  case round =>
    obtain ⟨j, hj, rfl, hok, hbel⟩ := hrel
    have HB := hid hbel
    clear hbel
    by_cases hjn : j = n
    · have hj1 : ¬ ((j : Int) < (n : Int)) := by omega
      rw [hjn] at hok
      by_cases h4 : 4 ≤ n
      · by_cases h10 : n ≤ 10
        · have k4 : (4 : Int) ≤ (n : Int) := by omega
          have k10 : (n : Int) ≤ 10 := by omega
          have HF : Hid (memB l = true) := hid (by rw [memB, HN.out, hok, decide_eq_true (And.intro h4 h10)]; rfl)
          clear hok hj hjn h4 h10
          go_wp2
          go_ret
          exact ⟨by rw [HF.out]; rfl, HB.out⟩
        · have k4 : (4 : Int) ≤ (n : Int) := by omega
          have k10 : ¬ ((n : Int) ≤ 10) := by omega
          have HF : Hid (memB l = false) := hid (by rw [memB, HN.out, decide_eq_false (fun h => h10 h.2)]; simp)
          clear hok hj hjn h4 h10
          go_wp2
          go_ret
          exact ⟨by rw [HF.out]; rfl, HB.out⟩
      · have k4 : ¬ ((4 : Int) ≤ (n : Int)) := by omega
        have HF : Hid (memB l = false) := hid (by rw [memB, HN.out, decide_eq_false (fun h => h4 h.1)]; simp)
        clear hok hj hjn h4
        go_wp2
        go_ret
        exact ⟨by rw [HF.out]; rfl, HB.out⟩
    · have hj1 : (j : Int) < (n : Int) := by omega
      have hj0 : (0 : Int) ≤ (j : Int) := Int.natCast_nonneg _
      have hget : l[j]? = some (l.getD j 0) := by rw [List.getD_eq_getElem?_getD, List.getElem?_eq_getElem (by rw [HN.out]; omega)]; rfl
      obtain ⟨g, off, rfl, hg, hcell⟩ := HI.out.at j _ hget
      obtain ⟨x, ex⟩ : ∃ x, x = l.getD j 0 := ⟨_, rfl⟩
      rw [← ex] at hcell
      have cz : ∀ q : Cls wr, q.1.cell? ⟨g, off + j, none⟩ = some (.int .i64 x) := fun q => (q.2.cell (p := ⟨g, off + j, none⟩) (Nat.lt_of_lt_of_le hg HB.out.size)).trans ((HB.out.cell (p := ⟨g, off + j, none⟩) hg).trans hcell)
      clear hcell hget
      by_cases hx0 : x < 0
      · have d1 : decide (x < 0) = true := decide_eq_true hx0
        have HF : Hid (okTo l n = false) := hid (okTo_false l (j + 1) n (by rw [okTo_succ, okAt_no1 l j (by rw [← ex]; omega)]; simp) (by omega))
        clear hok hj hjn ex
        go_wp2
        haveI := Cls.ne wr
        refine wp_region_cls wr (by kernel_rfl) (by kernel_rfl) ?_
        repeat (go_big_quiet_step ((fail)))
        refine wpQuiet_nil ?_
        rintro _ ⟨q, rfl⟩
        go_wp2
        go_ret
        exact ⟨by rw [memB, HN.out, HF.out]; rfl, HB.out.trans (q.2.mono HB.out.size)⟩
      by_cases hx16 : 16 ≤ x
      · have d1 : decide (x < 0) = false := decide_eq_false hx0
        have d2 : decide ((16 : Int) ≤ x) = true := decide_eq_true hx16
        have HF : Hid (okTo l n = false) := hid (okTo_false l (j + 1) n (by rw [okTo_succ, okAt_no1 l j (by rw [← ex]; omega)]; simp) (by omega))
        clear hok hj hjn ex
        go_wp2
        haveI := Cls.ne wr
        refine wp_region_cls wr (by kernel_rfl) (by kernel_rfl) ?_
        repeat (go_big_quiet_step ((fail)))
        refine wpQuiet_nil ?_
        rintro _ ⟨q, rfl⟩
        go_wp2
        go_ret
        exact ⟨by rw [memB, HN.out, HF.out]; rfl, HB.out.trans (q.2.mono HB.out.size)⟩
      have d1 : decide (x < 0) = false := decide_eq_false hx0
      have d2 : decide ((16 : Int) ≤ x) = false := decide_eq_false hx16
      by_cases hz : j = 0
      · have d4 : decide (0 < j) = false := decide_eq_false (by omega)
        have HF : Hid (okTo l (j + 1) = true) := hid (by rw [okTo_succ, hok, show okAt l j = true by (have hx : l.getD 0 0 = x := by rw [ex, hz]); rw [hz]; exact okAt_yes0 l (by rw [hx]; omega)]; rfl)
        have HJ := hid (And.intro hj hjn)
        clear hok hj hjn ex hz
        go_wp2
        haveI := Cls.ne wr
        refine wp_region_cls wr (by kernel_rfl) (by kernel_rfl) ?_
        repeat (go_big_quiet_step ((fail)))
        refine wpQuiet_nil ?_
        rintro _ ⟨q, rfl⟩
        go_wp2
        go_roundw
        case rel => exact ⟨j + 1, by have := HJ.out; omega, by go_num, HF.out, HB.out.trans (q.2.mono HB.out.size)⟩
        case measure => simp [intOf]; omega
      · obtain ⟨i, rfl⟩ : ∃ i, j = i + 1 := ⟨j - 1, by omega⟩
        have hgetp : l[i]? = some (l.getD i 0) := by rw [List.getD_eq_getElem?_getD, List.getElem?_eq_getElem (by rw [HN.out]; omega)]; rfl
        obtain ⟨g', off', eg, hg', hcellp⟩ := HI.out.at i _ hgetp
        obtain ⟨rfl, rfl⟩ : g = g' ∧ off = off' := by simp at eg; exact eg
        obtain ⟨y, ey⟩ : ∃ y, y = l.getD i 0 := ⟨_, rfl⟩
        rw [← ey] at hcellp
        have cy : ∀ q : Cls wr, q.1.cell? ⟨g, off + i, none⟩ = some (.int .i64 y) := fun q => (q.2.cell (p := ⟨g, off + i, none⟩) (Nat.lt_of_lt_of_le hg' HB.out.size)).trans ((HB.out.cell (p := ⟨g, off + i, none⟩) hg').trans hcellp)
        have hi0 : (0 : Int) < ((i + 1 : Nat) : Int) := by omega
        have hi1 : (i : Int) < (n : Int) := by omega
        have hi2 : (0 : Int) ≤ (i : Int) := by omega
        have d4 : decide ((0 : Int) < (i : Int) + 1) = true := decide_eq_true (by omega)
        clear hcellp hgetp eg hz
        by_cases hxy : x ≤ y
        · have d3 : decide (x ≤ y) = true := decide_eq_true hxy
          have HF : Hid (okTo l n = false) := hid (okTo_false l (i + 1 + 1) n (by rw [okTo_succ, okAt_no2 l (i + 1) (by omega) (by rw [← ex, show i + 1 - 1 = i from rfl, ← ey]; omega)]; simp) (by omega))
          clear hok hj hjn ex ey
          go_wp2
          haveI := Cls.ne wr
          refine wp_region_cls wr (by kernel_rfl) (by kernel_rfl) ?_
          repeat (go_big_quiet_step ((fail)))
          refine wpQuiet_nil ?_
          rintro _ ⟨q, rfl⟩
          go_wp2
          go_ret
          exact ⟨by rw [memB, HN.out, HF.out]; rfl, HB.out.trans (q.2.mono HB.out.size)⟩
        · have d3 : decide (x ≤ y) = false := decide_eq_false hxy
          have HF : Hid (okTo l (i + 1 + 1) = true) := hid (by rw [okTo_succ, hok, okAt_yes l (i + 1) (by rw [← ex]; omega) (by rw [← ex, show i + 1 - 1 = i from rfl, ← ey]; omega)]; rfl)
          have HJ := hid (And.intro hj hjn)
          clear hok hj hjn ex ey
          go_wp2
          haveI := Cls.ne wr
          refine wp_region_cls wr (by kernel_rfl) (by kernel_rfl) ?_
          repeat (go_big_quiet_step ((fail)))
          refine wpQuiet_nil ?_
          rintro _ ⟨q, rfl⟩
          go_wp2
          go_roundw
          case rel => exact ⟨i + 1 + 1, by have := HJ.out; omega, by go_num, HF.out, HB.out.trans (q.2.mono HB.out.size)⟩
          case measure => simp [intOf]; omega
end Go.Proofs.YtpeagpeifmimlaaGreat
