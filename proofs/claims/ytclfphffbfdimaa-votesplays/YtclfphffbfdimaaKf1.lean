/- Texts laid together: SiA WsA CoW ScA EqS CoS CoT CoU CoP VoI. -/
import Derived.Test.YtclfphffbfdimaaKb1
import Derived.BigQuiet
import Derived.Laws.CopyOwn
import Derived.Test.YtclfphffbfdimaaKa1
import Derived.Shelf.Strconv.Clone
import Derived.Shelf.Slices.SearchI
import Derived.Shelf.Slices.Delete
import Derived.Shelf.Spec.SlicesInsert
import Derived.Lib.RowBridge
import Derived.Test.YtclfphffbfdimaaKd1
import Derived.Test.YtclfphffbfdimaaKe1
import Derived.WideKeyEntry
/- The document's SameInts, of any two lists. -/
namespace Go.Proofs.Ytclfphffbfdimaa
open Go.RowKit

theorem take_grow {α : Type} {l1 l2 : List α} {j : Nat} {s : α} (h : l1.take j = l2.take j) (h1 : l1[j]? = some s) (h2 : l2[j]? = some s) : l1.take (j + 1) = l2.take (j + 1) := by
  obtain ⟨hj1, e1⟩ := List.getElem?_eq_some_iff.1 h1
  obtain ⟨hj2, e2⟩ := List.getElem?_eq_some_iff.1 h2
  rw [List.take_succ_eq_append_getElem hj1, List.take_succ_eq_append_getElem hj2, h, e1, e2]
theorem ne_of_at {α : Type} {l1 l2 : List α} {j : Nat} {s t : α} (h1 : l1[j]? = some s) (h2 : l2[j]? = some t) (h : s ≠ t) : l1 ≠ l2 := fun e => by
  rw [e, h2] at h1
  cases h1
  exact h rfl
set_option maxRecDepth 100000 in
set_option maxHeartbeats 3200000 in
theorem sameInts_dec (a1 a2 : Option Addr) (n1 n2 c1 c2 : Nat) (l1 l2 : List Int) (hn1 : l1.length = n1) (hn2 : l2.length = n2) (hm1 : n1 ≤ maxLen) (hm2 : n2 ≤ maxLen) (w : World) (h1 : IntsIn w a1 l1) (h2 : IntsIn w a2 l2) :
    Calls Try.prog 46 #[.slice a1 n1 c1, .slice a2 n2 c2] w fun e w' => e = .returned (.bool (decide (l1 = l2))) ∧ Below w.heap.size w w' := by
  by_cases hne : n1 = n2
  · subst hne
    have hm3 : (n1 : Int) ≤ 9223372036854775807 := by unfold maxLen at hm1; omega
    have HZ := hid (And.intro h1 (And.intro h2 (And.intro hn1 hn2)))
    clear h1 h2 hn1 hn2 hm1 hm2
    go_enter Try.func46, Try.ntmps46
    go_wp2
    go_loopw [5] (fun i wr => ∃ j : Nat, j ≤ n1 ∧ i = .int .i64 (j : Int) ∧ Below w.heap.size w wr ∧ l1.take j = l2.take j)
      (fun i _ => ((n1 : Int) - intOf i).toNat)
    case atStart => exact ⟨0, by omega, rfl, Below.refl _ _, rfl⟩
    case round =>
      obtain ⟨j, hj, rfl, hbel, htk⟩ := hrel
      have HB := hid (And.intro hbel htk)
      clear hbel htk
      by_cases hjn : j = n1
      · have hj1 : ¬ ((j : Int) < (n1 : Int)) := by omega
        have HE : Hid (l1 = l2) := hid (by
          have := HB.out.2
          rw [List.take_of_length_le (by have := HZ.out.2.2.1; omega), List.take_of_length_le (by have := HZ.out.2.2.2; omega)] at this
          exact this)
        clear hj hjn
        go_wp2
        go_ret
        exact ⟨(congrArg (fun b => Ending.returned (.bool b)) (decide_eq_true HE.out)).symm, HB.out.1⟩
      · have hj1 : (j : Int) < (n1 : Int) := by omega
        have hj0 : (0 : Int) ≤ (j : Int) := Int.natCast_nonneg _
        obtain ⟨s, es⟩ : ∃ s, l1[j]? = some s := ⟨_, List.getElem?_eq_getElem (by rw [HZ.out.2.2.1]; omega)⟩
        obtain ⟨t, et⟩ : ∃ t, l2[j]? = some t := ⟨_, List.getElem?_eq_getElem (by rw [HZ.out.2.2.2]; omega)⟩
        obtain ⟨g1, off1, rfl, hg1, hcell1⟩ := HZ.out.1.at j s es
        obtain ⟨g2, off2, rfl, hg2, hcell2⟩ := HZ.out.2.1.at j t et
        have cz1 : wr.cell? ⟨g1, off1 + j, none⟩ = some (.int .i64 s) := (HB.out.1.cell (p := ⟨g1, off1 + j, none⟩) hg1).trans hcell1
        have cz2 : wr.cell? ⟨g2, off2 + j, none⟩ = some (.int .i64 t) := (HB.out.1.cell (p := ⟨g2, off2 + j, none⟩) hg2).trans hcell2
        have HS := hid (And.intro es et)
        clear es et hg1 hg2 hcell1 hcell2
        by_cases hst : s = t
        · subst hst
          go_wp2
          go_quiet (fail)
          go_wp2
          go_roundw
          case rel => exact ⟨j + 1, by omega, rfl, ⟨HB.out.1.os, HB.out.1.tape, HB.out.1.output, HB.out.1.size, HB.out.1.block⟩, take_grow HB.out.2 HS.out.1 HS.out.2⟩
          case measure => simp [intOf]; omega
        · have hstb : (s != t) = true := by simpa using hst
          have HN : Hid (l1 ≠ l2) := hid (ne_of_at HS.out.1 HS.out.2 hst)
          go_wp2
          go_quiet (fail)
          go_wp2
          go_ret
          exact ⟨(congrArg (fun b => Ending.returned (.bool b)) (decide_eq_false HN.out)).symm, ⟨HB.out.1.os, HB.out.1.tape, HB.out.1.output, HB.out.1.size, HB.out.1.block⟩⟩
  · have hz : ¬ ((n1 : Int) = (n2 : Int)) := by omega
    have HN : Hid (l1 ≠ l2) := hid (fun e => hne (by rw [← hn1, ← hn2, e]))
    clear hne hn1 hn2 h1 h2 hm1 hm2
    go_enter Try.func46, Try.ntmps46
    go_wp2
    go_ret
    exact ⟨(congrArg (fun b => Ending.returned (.bool b)) (decide_eq_false HN.out)).symm, Below.refl _ _⟩
end Go.Proofs.Ytclfphffbfdimaa

/- The document's test of two lists of signatures, whatever they are. -/
namespace Go.Proofs.Ytclfphffbfdimaa
open Go.RowKit

theorem text_neS {x y : ByteArray} (h : ¬ x = y) : (x.toList == y.toList) = false := by
  rw [beq_eq_false_iff_ne, ByteArray.toList_eq, ByteArray.toList_eq]
  intro he
  exact h (ByteArray.ext (Array.toList_inj.1 he))
theorem pairs_at {w : World} {a : Option Addr} {ps : List (Int × ByteArray)} (h : PairsIn w a ps) (j : Nat) (p : Int × ByteArray) (hp : ps[j]? = some p) : ∃ g off, a = some ⟨g, off, none⟩ ∧ g < w.heap.size ∧ w.cell? ⟨g, off + j * 2, none⟩ = some (.int .i64 p.1) ∧ w.cell? ⟨g, off + j * 2 + 1, none⟩ = some (.string p.2) := by
  rcases h with e | ⟨g, off, ha, hg, hc⟩
  · rw [e] at hp; cases hp
  · obtain ⟨k1, k2⟩ := hc j p hp
    exact ⟨g, off, ha, hg, k1, k2⟩
set_option maxRecDepth 100000 in
set_option maxHeartbeats 3200000 in
theorem wsame_dec (a1 a2 : Option Addr) (n1 n2 c1 c2 : Nat) (l1 l2 : List (Int × ByteArray)) (hn1 : l1.length = n1) (hn2 : l2.length = n2) (hm1 : n1 ≤ maxLen) (hm2 : n2 ≤ maxLen) (w : World) (h1 : PairsIn w a1 l1) (h2 : PairsIn w a2 l2) :
    Calls Try.prog 40 #[.slice a1 n1 c1, .slice a2 n2 c2] w fun e w' => e = .returned (.bool (decide (l1 = l2))) ∧ Below w.heap.size w w' := by
  by_cases hne : n1 = n2
  · subst hne
    have hm3 : (n1 : Int) ≤ 9223372036854775807 := by unfold maxLen at hm1; omega
    have HZ := hid (And.intro h1 (And.intro h2 (And.intro hn1 hn2)))
    clear h1 h2 hn1 hn2 hm1 hm2
    go_enter Try.func40, Try.ntmps40
    go_wp2
    go_loopw [5] (fun i wr => ∃ j : Nat, j ≤ n1 ∧ i = .int .i64 (j : Int) ∧ Below w.heap.size w wr ∧ l1.take j = l2.take j)
      (fun i _ => ((n1 : Int) - intOf i).toNat)
    case atStart => exact ⟨0, by omega, rfl, Below.refl _ _, rfl⟩
    case round =>
      obtain ⟨j, hj, rfl, hbel, htk⟩ := hrel
      have HB := hid (And.intro hbel htk)
      clear hbel htk
      by_cases hjn : j = n1
      · have hj1 : ¬ ((j : Int) < (n1 : Int)) := by omega
        have HE : Hid (l1 = l2) := hid (by
          have := HB.out.2
          rw [List.take_of_length_le (by have := HZ.out.2.2.1; omega), List.take_of_length_le (by have := HZ.out.2.2.2; omega)] at this
          exact this)
        clear hj hjn
        go_wp2
        go_ret
        exact ⟨(congrArg (fun b => Ending.returned (.bool b)) (decide_eq_true HE.out)).symm, HB.out.1⟩
      · have hj1 : (j : Int) < (n1 : Int) := by omega
        have hj0 : (0 : Int) ≤ (j : Int) := Int.natCast_nonneg _
        obtain ⟨s, es⟩ : ∃ s, l1[j]? = some s := ⟨_, List.getElem?_eq_getElem (by rw [HZ.out.2.2.1]; omega)⟩
        obtain ⟨t, et⟩ : ∃ t, l2[j]? = some t := ⟨_, List.getElem?_eq_getElem (by rw [HZ.out.2.2.2]; omega)⟩
        obtain ⟨g1, off1, rfl, hg1, hx1, hy1⟩ := pairs_at HZ.out.1 j s es
        obtain ⟨g2, off2, rfl, hg2, hx2, hy2⟩ := pairs_at HZ.out.2.1 j t et
        have cx1 : wr.cell? ⟨g1, off1 + j * 2, none⟩ = some (.int .i64 s.1) := (HB.out.1.cell (p := ⟨g1, off1 + j * 2, none⟩) hg1).trans hx1
        have cy1 : wr.cell? ⟨g1, off1 + j * 2 + 1, none⟩ = some (.string s.2) := (HB.out.1.cell (p := ⟨g1, off1 + j * 2 + 1, none⟩) hg1).trans hy1
        have cx2 : wr.cell? ⟨g2, off2 + j * 2, none⟩ = some (.int .i64 t.1) := (HB.out.1.cell (p := ⟨g2, off2 + j * 2, none⟩) hg2).trans hx2
        have cy2 : wr.cell? ⟨g2, off2 + j * 2 + 1, none⟩ = some (.string t.2) := (HB.out.1.cell (p := ⟨g2, off2 + j * 2 + 1, none⟩) hg2).trans hy2
        have HS := hid (And.intro es et)
        clear es et hg1 hg2 hx1 hy1 hx2 hy2
        by_cases hst : s = t
        · subst hst
          go_wp2
          go_quiet (fail)
          go_wp2
          go_roundw
          case rel => exact ⟨j + 1, by omega, rfl, ⟨HB.out.1.os, HB.out.1.tape, HB.out.1.output, HB.out.1.size, HB.out.1.block⟩, take_grow HB.out.2 HS.out.1 HS.out.2⟩
          case measure => simp [intOf]; omega
        · have HN : Hid (l1 ≠ l2) := hid (ne_of_at HS.out.1 HS.out.2 hst)
          by_cases hs1 : s.1 = t.1
          · have hs2 : ¬ s.2 = t.2 := fun e => hst (Prod.ext hs1 e)
            have hb1 : (s.1 == t.1) = true := by simpa using hs1
            have hb2 : (s.2.toList == t.2.toList) = false := text_neS hs2
            clear hs1 hst
            go_wp2
            go_quiet (fail)
            go_wp2
            go_ret
            exact ⟨(congrArg (fun b => Ending.returned (.bool b)) (decide_eq_false HN.out)).symm, ⟨HB.out.1.os, HB.out.1.tape, HB.out.1.output, HB.out.1.size, HB.out.1.block⟩⟩
          · have hb1 : (s.1 == t.1) = false := by simpa using hs1
            have hb3 : (s.1 != t.1) = true := by simpa using hs1
            clear hst
            go_wp2
            go_quiet (fail)
            go_wp2
            go_ret
            exact ⟨(congrArg (fun b => Ending.returned (.bool b)) (decide_eq_false HN.out)).symm, ⟨HB.out.1.os, HB.out.1.tape, HB.out.1.output, HB.out.1.size, HB.out.1.block⟩⟩
  · have hz : ¬ ((n1 : Int) = (n2 : Int)) := by omega
    have HN : Hid (l1 ≠ l2) := hid (fun e => hne (by rw [← hn1, ← hn2, e]))
    clear hne hn1 hn2 h1 h2 hm1 hm2
    go_enter Try.func40, Try.ntmps40
    go_wp2
    go_ret
    exact ⟨(congrArg (fun b => Ending.returned (.bool b)) (decide_eq_false HN.out)).symm, Below.refl _ _⟩
end Go.Proofs.Ytclfphffbfdimaa

/- Lists of numbers that are made; a row of one's own by its block. -/
namespace Go.Proofs.Ytclfphffbfdimaa
open Go.RowKit
set_option maxRecDepth 100000 in
theorem run_makeI (n m : Nat) (hnm : n ≤ m) (hm : m ≤ 1000) (u : World) : (Instr.makeSlice 22 (.int .i64 (n : Int)) (.int .i64 (m : Int))).run Try.prog u = .ok (.slice (some ⟨u.heap.size, 0, none⟩) n m) (u.alloc (.cells (iC (List.replicate m 0)).toArray 3)) := by
  obtain ⟨i0, hi0, hz0, hz1, hz2⟩ := info_parts Try.info3
  have h := run_make (P := Try.prog) u 22 3 i0 (.int .i64 0) Try.underlying22 hi0 hz0 .i64 .i64 n m (by omega) (by omega) (by rw [hz2]; omega) (by omega)
  rw [hz1, Int.toNat_natCast, Int.toNat_natCast, Nat.mul_one] at h
  rw [h]
  congr 4
  apply Array.ext'
  have h2 : (Value.int .i64 0).cells = #[.int .i64 0] := rfl
  rw [h2, toList_madeCells_one]
  show _ = iC _
  rw [iC, List.map_replicate]
theorem own_of_blk {B : Nat} {w0 w : World} {g cap n : Nat} {zs : List Int} {rest : List Value} (h : w.heap[g]? = some (.cells (iC zs ++ rest).toArray 3 (0, 0))) (hB : B ≤ g) (hc : zs.length + rest.length = cap) (hm : cap ≤ maxLen) (hn : n = zs.length) (hb : Below B w0 w) : OwnedI B w0 w (.slice (some ⟨g, 0, none⟩) n cap) zs := by
  subst hn
  refine ⟨⟨by rw [iC_len, Nat.mul_one], .inr ⟨g, cap, _, rfl, hB, h, by omega, hm, by simp [iC]; omega, ?_⟩⟩, hb, by have := lt_of_blk h; omega⟩
  rw [Nat.mul_one]
  simp [iC]
end Go.Proofs.Ytclfphffbfdimaa

/- strings.Clone, as the library has it. -/
namespace Go.Proofs.Ytclfphffbfdimaa
open Go.RowKit

def renLMn316 : Go.Shelf.Ren := ⟨fun | 316 => 58 | n => n, fun | 0 => 0 | 3 => 3 | 4 => 4 | 5 => 5 | 9 => 9 | 37 => 105 | 127 => 113 | n => n, fun | n => n⟩
theorem layLMn316 : Go.Proofs.LaysM.n316 Try.prog renLMn316 := {
  mixed := by kernel_rfl
  f316 := Try.func58.trans (congrArg some (by kernel_rfl))
  t0 := Try.underlying0
  a0 := Try.isAgg0
  z0 := Try.sizeOf0
  v0 := Try.zeroValue0
  t3 := Try.underlying3
  a3 := Try.isAgg3
  z3 := Try.sizeOf3
  v3 := Try.zeroValue3
  t4 := Try.underlying4
  a4 := Try.isAgg4
  z4 := Try.sizeOf4
  v4 := Try.zeroValue4
  t9 := Try.underlying9
  a9 := Try.isAgg9
  z9 := Try.sizeOf9
  v9 := Try.zeroValue9
  t37 := Try.underlying105
  a37 := Try.isAgg105
  z37 := Try.sizeOf105
  v37 := Try.zeroValue105
  t127 := Try.underlying113
  a127 := Try.isAgg113
  z127 := Try.sizeOf113
  v127 := Try.zeroValue113
  t5 := Try.underlying5
  a5 := Try.isAgg5
  z5 := Try.sizeOf5
  v5 := Try.zeroValue5
  i0 := by kernel_rfl
  i3 := by kernel_rfl
  i4 := by kernel_rfl
  i5 := by kernel_rfl
  i9 := by kernel_rfl
  i37 := by kernel_rfl
  i127 := by kernel_rfl }
set_option maxRecDepth 100000 in
theorem sclone_any (t : ByteArray) (ht : t.size ≤ 281474976710656) (w : World) : Calls Try.prog 39 #[.string t] w fun e w' => e = .returned (.string t) ∧ Below w.heap.size w w' := by
  have hc := fun u : World => Any.stringslite_Clone layLMn316 t u ht
  go_enter Try.func39, Try.ntmps39
  go_wp2_with (go_at_call 58; refine (hc _).mono ?_; rintro e w1 ⟨rfl, hb⟩; have H1 := hid hb; clear hb)
  go_ret
  exact ⟨rfl, H1.out⟩
end Go.Proofs.Ytclfphffbfdimaa

/- slices.Equal, of any two lists of signatures. -/
namespace Go.Proofs.Ytclfphffbfdimaa
open Go.RowKit

set_option maxRecDepth 100000 in
set_option maxHeartbeats 3200000 in
theorem eqSigs_dec (a1 a2 : Option Addr) (n1 n2 c1 c2 : Nat) (l1 l2 : List (Int × ByteArray)) (hn1 : l1.length = n1) (hn2 : l2.length = n2) (hm1 : n1 ≤ maxLen) (hm2 : n2 ≤ maxLen) (w : World) (h1 : PairsIn w a1 l1) (h2 : PairsIn w a2 l2) :
    Calls Try.prog 37 #[.slice a1 n1 c1, .slice a2 n2 c2] w fun e w' => e = .returned (.bool (decide (l1 = l2))) ∧ Below w.heap.size w w' := by
  by_cases hne : n1 = n2
  · subst hne
    have hm3 : (n1 : Int) ≤ 9223372036854775807 := by unfold maxLen at hm1; omega
    have HZ := hid (And.intro h1 (And.intro h2 (And.intro hn1 hn2)))
    clear h1 h2 hn1 hn2 hm1 hm2
    go_enter Try.func37, Try.ntmps37
    go_wp2
    go_loopw [13] (fun i wr => ∃ j : Nat, j ≤ n1 ∧ i = .int .i64 (j : Int) ∧ Below w.heap.size w wr ∧ l1.take j = l2.take j)
      (fun i _ => ((n1 : Int) - intOf i).toNat)
    case atStart => exact ⟨0, by omega, rfl, Below.refl _ _, rfl⟩
    case round =>
      obtain ⟨j, hj, rfl, hbel, htk⟩ := hrel
      have HB := hid (And.intro hbel htk)
      clear hbel htk
      by_cases hjn : j = n1
      · have hj1 : ¬ ((j : Int) < (n1 : Int)) := by omega
        have HE : Hid (l1 = l2) := hid (by
          have := HB.out.2
          rw [List.take_of_length_le (by have := HZ.out.2.2.1; omega), List.take_of_length_le (by have := HZ.out.2.2.2; omega)] at this
          exact this)
        clear hj hjn
        go_wp2
        go_ret
        exact ⟨(congrArg (fun b => Ending.returned (.bool b)) (decide_eq_true HE.out)).symm, HB.out.1⟩
      · have hj1 : (j : Int) < (n1 : Int) := by omega
        have hj0 : (0 : Int) ≤ (j : Int) := Int.natCast_nonneg _
        obtain ⟨s, es⟩ : ∃ s, l1[j]? = some s := ⟨_, List.getElem?_eq_getElem (by rw [HZ.out.2.2.1]; omega)⟩
        obtain ⟨t, et⟩ : ∃ t, l2[j]? = some t := ⟨_, List.getElem?_eq_getElem (by rw [HZ.out.2.2.2]; omega)⟩
        obtain ⟨g1, off1, rfl, hg1, hx1, hy1⟩ := pairs_at HZ.out.1 j s es
        obtain ⟨g2, off2, rfl, hg2, hx2, hy2⟩ := pairs_at HZ.out.2.1 j t et
        have cx1 : wr.cell? ⟨g1, off1 + j * 2, none⟩ = some (.int .i64 s.1) := (HB.out.1.cell (p := ⟨g1, off1 + j * 2, none⟩) hg1).trans hx1
        have cy1 : wr.cell? ⟨g1, off1 + j * 2 + 1, none⟩ = some (.string s.2) := (HB.out.1.cell (p := ⟨g1, off1 + j * 2 + 1, none⟩) hg1).trans hy1
        have cx2 : wr.cell? ⟨g2, off2 + j * 2, none⟩ = some (.int .i64 t.1) := (HB.out.1.cell (p := ⟨g2, off2 + j * 2, none⟩) hg2).trans hx2
        have cy2 : wr.cell? ⟨g2, off2 + j * 2 + 1, none⟩ = some (.string t.2) := (HB.out.1.cell (p := ⟨g2, off2 + j * 2 + 1, none⟩) hg2).trans hy2
        have HS := hid (And.intro es et)
        clear es et hg1 hg2 hx1 hy1 hx2 hy2
        by_cases hst : s = t
        · subst hst
          go_wp2
          go_quiet (fail)
          go_wp2
          go_roundw
          case rel => exact ⟨j + 1, by omega, rfl, ⟨HB.out.1.os, HB.out.1.tape, HB.out.1.output, HB.out.1.size, HB.out.1.block⟩, take_grow HB.out.2 HS.out.1 HS.out.2⟩
          case measure => simp [intOf]; omega
        · have HN : Hid (l1 ≠ l2) := hid (ne_of_at HS.out.1 HS.out.2 hst)
          by_cases hs1 : s.1 = t.1
          · have hs2 : ¬ s.2 = t.2 := fun e => hst (Prod.ext hs1 e)
            have hb1 : (s.1 == t.1) = true := by simpa using hs1
            have hb2 : (s.2.toList == t.2.toList) = false := text_neS hs2
            clear hs1 hst
            go_wp2
            go_quiet (fail)
            go_wp2
            go_ret
            exact ⟨(congrArg (fun b => Ending.returned (.bool b)) (decide_eq_false HN.out)).symm, ⟨HB.out.1.os, HB.out.1.tape, HB.out.1.output, HB.out.1.size, HB.out.1.block⟩⟩
          · have hb1 : (s.1 == t.1) = false := by simpa using hs1
            have hb3 : (s.1 != t.1) = true := by simpa using hs1
            clear hst
            go_wp2
            go_quiet (fail)
            go_wp2
            go_ret
            exact ⟨(congrArg (fun b => Ending.returned (.bool b)) (decide_eq_false HN.out)).symm, ⟨HB.out.1.os, HB.out.1.tape, HB.out.1.output, HB.out.1.size, HB.out.1.block⟩⟩
  · have hz : ¬ ((n1 : Int) = (n2 : Int)) := by omega
    have HN : Hid (l1 ≠ l2) := hid (fun e => hne (by rw [← hn1, ← hn2, e]))
    clear hne hn1 hn2 h1 h2 hm1 hm2
    go_enter Try.func37, Try.ntmps37
    go_wp2
    go_ret
    exact ⟨(congrArg (fun b => Ending.returned (.bool b)) (decide_eq_false HN.out)).symm, Below.refl _ _⟩
end Go.Proofs.Ytclfphffbfdimaa

/- The library's calls that the council makes: Contains, BinarySearch, Insert, Delete, at lists of numbers. -/
namespace Go.Proofs.Ytclfphffbfdimaa
open Go.RowKit

set_option maxRecDepth 100000 in
set_option maxHeartbeats 1600000 in
theorem index_any (a : Option Addr) (n cap : Nat) (l : List Int) (hn : l.length = n) (hm : n ≤ maxLen) (id : Int) (w : World) (hI : IntsIn w a l) :
    Calls Try.prog 69 #[.slice a n cap, .int .i64 id] w fun e w' => ∃ k : Int, e = .returned (.int .i64 k) ∧ decide (0 ≤ k) = hasM l id ∧ w' = w := by
  have hm2 : (n : Int) ≤ 9223372036854775807 := by unfold maxLen at hm; omega
  have HI := hid hI
  have HN := hid hn
  clear hI hm hn
  go_enter Try.func69, Try.ntmps69
  go_wp2
  go_loopw [8] (fun i wr => ∃ j : Nat, j ≤ n ∧ i = .int .i64 (j : Int) ∧ id ∉ l.take j ∧ wr = w)
    (fun i _ => ((n : Int) - intOf i).toNat)
  case atStart => exact ⟨0, by omega, rfl, by simp, rfl⟩
  case round =>
    obtain ⟨j, hj, rfl, hno, rfl⟩ := hrel
    by_cases hjn : j = n
    · have hj1 : ¬ ((j : Int) < (n : Int)) := by omega
      have HF : Hid (hasM l id = false) := hid (decide_eq_false (by rwa [List.take_of_length_le (by rw [HN.out]; omega)] at hno))
      clear hno hj hjn
      go_wp2
      go_ret
      exact ⟨-1, rfl, by rw [HF.out]; rfl, rfl⟩
    · have hj1 : (j : Int) < (n : Int) := by omega
      have hj0 : (0 : Int) ≤ (j : Int) := Int.natCast_nonneg _
      have hjl : j < l.length := by rw [HN.out]; omega
      obtain ⟨g, off, rfl, hg, cz⟩ := HI.out.at j _ (getD_some hjl)
      by_cases hx : l.getD j 0 = id
      · have HF : Hid (hasM l id = true) := hid (decide_eq_true (mem_of_get hx hjl))
        rw [hx] at cz
        clear hno hj hjn hx hjl hg
        go_wp2
        go_ret
        exact ⟨(j : Int), rfl, by rw [HF.out, decide_eq_true hj0], rfl⟩
      · have HF : Hid (id ∉ l.take (j + 1)) := hid (not_mem_snoc hno hx hjl)
        obtain ⟨x, ex⟩ : ∃ x, x = l.getD j 0 := ⟨_, rfl⟩
        rw [← ex] at cz hx
        have hx' : ¬ (id = x) := fun h => hx h.symm
        have HJ := hid (And.intro hj hjn)
        clear hno hj hjn hjl hg ex
        go_wp2
        go_roundw
        case rel => exact ⟨j + 1, by have := HJ.out; omega, by go_num, HF.out, by first | exact rfl | exact trivial⟩
        case measure => simp [intOf]; omega
theorem contains_any (a : Option Addr) (n cap : Nat) (l : List Int) (hn : l.length = n) (hm : n ≤ maxLen) (id : Int) (w : World) (hI : IntsIn w a l) :
    Calls Try.prog 57 #[.slice a n cap, .int .i64 id] w fun e w' => e = .returned (.bool (hasM l id)) ∧ w' = w := by
  have HC := hid (index_any a n cap l hn hm id w hI)
  clear hI hn hm
  go_enter Try.func57, Try.ntmps57
  go_wp2_with (go_at_call 69; refine (HC.out).mono ?_; rintro e wx ⟨k, rfl, hk, rfl⟩; have HK := hid hk; clear hk)
  go_ret
  exact ⟨by rw [← HK.out]; rfl, rfl⟩

/-- How many of the members stand ahead of id. -/
def placeN (l : List Int) (id : Int) : Nat := l.countP (· < id)
theorem place_cut (id : Int) : ∀ {l : List Int}, Inc l → (∀ x ∈ l.take (placeN l id), x < id) ∧ (∀ x ∈ l.drop (placeN l id), id ≤ x)
  | [], _ => by simp
  | y :: l, h => by
    obtain ⟨hy, hl⟩ := List.pairwise_cons.1 h
    by_cases e : y < id
    · have hp : placeN (y :: l) id = placeN l id + 1 := by rw [placeN, List.countP_cons_of_pos (by simpa using e)]; rfl
      obtain ⟨h1, h2⟩ := place_cut id hl
      rw [hp, List.take_succ_cons, List.drop_succ_cons]
      refine ⟨fun x hx => ?_, h2⟩
      rcases List.mem_cons.1 hx with rfl | hx
      · exact e
      · exact h1 x hx
    · have hp : placeN (y :: l) id = 0 := by
        rw [placeN, List.countP_eq_zero]
        intro x hx
        rcases List.mem_cons.1 hx with rfl | hx
        · simpa using e
        · have := hy x hx
          simp
          omega
      rw [hp]
      refine ⟨by simp, fun x hx => ?_⟩
      rcases List.mem_cons.1 (by simpa using hx) with rfl | hx
      · omega
      · have := hy x hx
        omega
theorem place_le (l : List Int) (id : Int) : placeN l id ≤ l.length := List.countP_le_length
/-- Who joins stands at his place. -/
theorem join_put {l : List Int} {id : Int} (hb : memB l = true) (h0 : 0 ≤ id ∧ id < 16) (hh : hasM l id = false) : joinTo l id 16 = l.take (placeN l id) ++ [id] ++ l.drop (placeN l id) := by
  have hi := mem_inc hb
  obtain ⟨h1, h2⟩ := place_cut id hi
  have hno := of_decide_eq_false hh
  refine inc_eq _ _ (joinTo_inc l id 16) ?_ (fun x => ?_)
  · rw [List.append_assoc]
    refine List.pairwise_append.2 ⟨hi.sublist (List.take_sublist _ _), List.pairwise_append.2 ⟨by simp, hi.sublist (List.drop_sublist _ _), fun x hx y hy => ?_⟩, fun x hx y hy => ?_⟩
    · obtain rfl := List.mem_singleton.1 hx
      have := h2 y hy
      have hne : y ≠ x := fun e => hno (e ▸ List.mem_of_mem_drop hy)
      omega
    · have h3 := h1 x hx
      rcases List.mem_append.1 hy with hy | hy
      · obtain rfl := List.mem_singleton.1 hy
        exact h3
      · have := h2 y hy
        omega
  · rw [join_mem hb h0 x]
    have hs : x ∈ l ↔ x ∈ l.take (placeN l id) ∨ x ∈ l.drop (placeN l id) := by rw [← List.mem_append, List.take_append_drop]
    rw [hs]
    simp only [List.mem_append, List.mem_singleton]
    constructor
    · rintro (h | h | h)
      · exact .inl (.inr h)
      · exact .inl (.inl h)
      · exact .inr h
    · rintro ((h | h) | h)
      · exact .inr (.inl h)
      · exact .inl h
      · exact .inr (.inr h)
theorem leave_cut (id : Int) : ∀ {l : List Int}, Inc l → id ∈ l → placeN l id < l.length ∧ leaveF l id = l.take (placeN l id) ++ l.drop (placeN l id + 1)
  | [], _, h => by simp at h
  | y :: l, h, hm => by
    obtain ⟨hy, hl⟩ := List.pairwise_cons.1 h
    by_cases e : y < id
    · have hp : placeN (y :: l) id = placeN l id + 1 := by rw [placeN, List.countP_cons_of_pos (by simpa using e)]; rfl
      have hm2 : id ∈ l := by
        rcases List.mem_cons.1 hm with rfl | h
        · omega
        · exact h
      obtain ⟨h1, h2⟩ := leave_cut id hl hm2
      rw [hp, List.take_succ_cons, List.drop_succ_cons]
      refine ⟨by simp; omega, ?_⟩
      rw [leaveF, List.filter_cons, if_pos (by simp; omega)]
      rw [leaveF] at h2
      rw [h2]
      rfl
    · have hye : y = id := by
        rcases List.mem_cons.1 hm with rfl | h
        · rfl
        · have := hy id h
          omega
      subst hye
      have hp : placeN (y :: l) y = 0 := by
        rw [placeN, List.countP_eq_zero]
        intro x hx
        rcases List.mem_cons.1 hx with rfl | hx
        · simp
        · have := hy x hx
          simp
          omega
      rw [hp]
      refine ⟨by simp, ?_⟩
      rw [leaveF, List.filter_cons, if_neg (by simp), List.filter_eq_self.2 (fun x hx => by have := hy x hx; simp; omega)]
      simp
theorem sets_blk {g : Nat} {t : TypeId} : ∀ (vs : List Value) (o : Nat) (w : World) (L : List Value), w.heap[g]? = some (.cells L.toArray t (0, 0)) → o + vs.length ≤ L.length → (w.setCells g o vs).heap[g]? = some (.cells (L.take o ++ vs ++ L.drop (o + vs.length)).toArray t (0, 0))
  | [], o, w, L, h, _ => by rw [List.append_nil, List.length_nil, Nat.add_zero, List.take_append_drop]; exact h
  | v :: vs, o, w, L, h, hl => by
    rw [List.length_cons] at hl
    have h1 := blk_set h o v
    rw [List.setIfInBounds_toArray] at h1
    have h2 := sets_blk vs (o + 1) (w.setCell ⟨g, o, none⟩ v) (L.set o v) h1 (by rw [List.length_set]; omega)
    refine h2.trans ?_
    congr 3
    have hlen : (L.take o).length = o := by rw [List.length_take]; omega
    have e1 : (L.set o v).take (o + 1) = L.take o ++ [v] := by
      rw [List.set_eq_take_append_cons_drop, if_pos (by omega), List.take_append, hlen, List.take_of_length_le (by omega), show o + 1 - o = 1 by omega]
      rfl
    have e2 : (L.set o v).drop (o + 1 + vs.length) = L.drop (o + (vs.length + 1)) := by
      rw [List.drop_set_of_lt (by omega), show o + 1 + vs.length = o + (vs.length + 1) by omega]
    rw [e1, e2, List.length_cons]
    simp
end Go.Proofs.Ytclfphffbfdimaa

/- The program's: members in new memory. -/
namespace Go.Proofs.Ytclfphffbfdimaa
open Go.RowKit

/-- The row g, new since w0, holds the numbers l and room for one more. -/
structure Copied (w0 w : World) (g : Nat) (l : List Int) : Prop where
  blk : w.heap[g]? = some (.cells (iC (l ++ [0])).toArray 3 (0, 0))
  lo : w0.heap.size ≤ g
  bel : Below w0.heap.size w0 w
theorem OwnedI.low {B : Nat} {w0 w1 w : World} {v : Value} {zs : List Int} (h : OwnedI w1.heap.size w1 w v zs) (hb : Below B w0 w1) (hB : B ≤ w1.heap.size) : OwnedI B w0 w v zs := by
  refine ⟨⟨h.own.1, ?_⟩, hb.trans (h.bel.mono hB), Nat.le_trans hB h.le⟩
  rcases h.own.2 with hn | ⟨g, cap, cur, hv, hg, hr⟩
  · exact .inl hn
  · exact .inr ⟨g, cap, cur, hv, Nat.le_trans hB hg, hr⟩
theorem Try.size3 : (Try.prog.info? 3).map (·.size) = some 1 := by kernel_rfl
set_option maxRecDepth 100000 in
theorem splice_copied (l : List Int) : splice (iC (List.replicate (l.length + 1) 0)) 0 (iC l) = iC (l ++ [0]) := by
  rw [splice, iC_len, iC_app]
  simp [iC]
theorem src_ints {w : World} {a : Option Addr} {l : List Int} {X : List Value} (h : IntsIn w a l) (h0 : 0 < l.length) (hX : X = iC l) : ∃ ad, a = some ad ∧ ∀ j v, X[j]? = some v → w.cell? (ad.add j) = some v := by
  subst hX
  rcases h with h | ⟨g, off, rfl, hg, hc⟩
  · rw [h] at h0; simp at h0
  · refine ⟨_, rfl, fun j v hv => ?_⟩
    obtain ⟨z, hz, rfl⟩ := iC_back l j v hv
    rw [Addr.add_lit]
    exact hc j z hz
theorem below_drew (B : Nat) (w : World) : Below B w w.drew := ⟨rfl, rfl, rfl, Nat.le_refl _, fun _ _ => rfl⟩
theorem below_sets {B b : Nat} {a : World} (hb : B ≤ b) : ∀ (vs : List Value) (o : Nat) (w : World), Below B a w → Below B a (w.setCells b o vs)
  | [], _, _, h => h
  | v :: vs, o, _, h => below_sets hb vs (o + 1) _ (h.setCell (p := ⟨b, o, none⟩) hb v)
theorem shift_cells (A D : List Value) (z v : Value) (p : Nat) (hA : A.length = p) :
    (((A ++ (D ++ [z])).take (p + 1) ++ D ++ (A ++ (D ++ [z])).drop (p + 1 + D.length)).take p ++ [v] ++ ((A ++ (D ++ [z])).take (p + 1) ++ D ++ (A ++ (D ++ [z])).drop (p + 1 + D.length)).drop (p + 1)) = A ++ [v] ++ D := by
  have e1 : (A ++ (D ++ [z])).drop (p + 1 + D.length) = [] := List.drop_eq_nil_of_le (by simp; omega)
  have l1 : ((A ++ (D ++ [z])).take (p + 1)).length = p + 1 := by rw [List.length_take]; simp; omega
  rw [e1, List.append_nil, List.take_append_of_le_length (by omega), List.take_take, Nat.min_eq_left (by omega), List.take_left' hA, List.drop_left' l1]
end Go.Proofs.Ytclfphffbfdimaa

/- The program's: who joins, who leaves. -/
namespace Go.Proofs.Ytclfphffbfdimaa
open Go.RowKit

end Go.Proofs.Ytclfphffbfdimaa

/- The program's council: what each call answers. -/
namespace Go.Proofs.Ytclfphffbfdimaa
open Go.RowKit

theorem chas_any (ep : Int) (a : Option Addr) (n cap : Nat) (l : List Int) (hn : l.length = n) (hm : n ≤ maxLen) (id : Int) (w : World) (hI : IntsIn w a l) :
    Calls Try.prog 36 #[.agg #[.int .i64 ep, .slice a n cap], .int .i64 id] w fun e w' => e = .returned (.bool (hasM l id)) ∧ Below w.heap.size w w' := by
  have HC := hid (fun u (hu : IntsIn u a l) => contains_any a n cap l hn hm id u hu)
  have HI := hid hI
  clear hI hn hm
  go_enter Try.func36, Try.ntmps36
  go_wp2_with (go_at_call 57; refine (HC.out _ (by first | exact HI.out.alloc _ | exact HI.out)).mono ?_; rintro e w1 ⟨rfl, rfl⟩)
  go_ret
  exact ⟨rfl, by first | exact Below.refl _ _ | exact ((Below.refl w.heap.size w).alloc (Nat.le_refl _) _)⟩
end Go.Proofs.Ytclfphffbfdimaa

/- The program's tally: a vote is counted. -/
namespace Go.Proofs.Ytclfphffbfdimaa
open Go.RowKit Go.Maps Go.MapKept Go.ChangeMaps

theorem bl_law : Go.WideMaps.KeyLaw Try.prog 76 := deep_law_laid (by kernel_rfl) (m := 4) (by decide) (of_decide_eq_true (by kernel_rfl)) (by kernel_rfl) (by kernel_rfl)
/-- 'm[b]++': the entry is found or made, then written. -/
theorem MpAt.entry {w : World} {m : Nat} {vs : List Vo} (h : MpAt w m vs) (hl : vs.length ≤ 1000) (f : Int) (b : Bl) (hb : fitB b) :
    ∃ v0 st w1, (Instr.mapEntry 74 (.map (some m)) (.agg #[.string b.1, .string b.2])).run Try.prog w = .ok (.tuple #[v0, goInt st]) w1 ∧ ∃ w2, (Instr.entryStore 74 (.map (some m)) (goInt st) (.int .i64 ((cntB vs b : Int) + 1))).run Try.prog w1 = .ok () w2 ∧ MpAt w2 m (vs ++ [(f, b)]) ∧ One m w w2 := by
  obtain ⟨w', r1, r2, r3⟩ := h.put hl f b hb
  obtain ⟨D, ⟨es, clock, hbk, F, hs, hD⟩, hc⟩ := h
  obtain ⟨v0, st, es1, clock1, e1, _, e3⟩ := Go.WideElems.entry_then_store bl_law mapV_type (z := .int .i64 0) intV_zero hbk F (bl_key b hb)
  obtain ⟨es', clock', e4, e5⟩ := e3 (setBlock w m (.map es1 clock1)) (.int .i64 ((cntB vs b : Int) + 1)) (heap_setBlock_same hbk _)
  rw [r1] at e5
  obtain ⟨_, rfl⟩ := Result.ok.inj e5
  refine ⟨v0, st, _, e1, _, e4, r2.keep ?_, ?_⟩
  · rw [heap_setBlock_same (heap_setBlock_same hbk _), heap_setBlock_same hbk]
  · exact ⟨rfl, rfl, rfl, by simp [setBlock], fun k hk => by rw [heap_setBlock_other (heap_setBlock_same hbk _) _ hk, heap_setBlock_other hbk _ hk]⟩
/-- Behind the entry's finding or making a look-up answers as ahead of it. -/
theorem MpAt.still {w : World} {m : Nat} {vs : List Vo} (h : MpAt w m vs) (hl : vs.length ≤ 1000) (b : Bl) (hb : fitB b) {v1 : Value} {w1 : World}
    (hr : (Instr.mapEntry 74 (.map (some m)) (.agg #[.string b.1, .string b.2])).run Try.prog w = .ok v1 w1) :
    (Instr.lookup 74 (.map (some m)) (.agg #[.string b.1, .string b.2]) false).run Try.prog w1 = .ok (.int .i64 (cntB vs b : Int)) w1 ∧ One m w w1 := by
  have hlook := h.look b hb
  have hM := h
  obtain ⟨D, hown, hc⟩ := h
  have hsz := hc.size
  have hw0 : (Lit.int .i64 0).wf = true := by decide
  obtain ⟨w', u1, u2, _⟩ := hown.update bl_keyed mapV_type (by unfold maxLen; omega) (bl_key b hb) (plainElem_int Try.underlying3 hw0)
  obtain ⟨es, clock, hbk, F, hs, hD⟩ := hown
  rcases bl_law.find w (bl_key b hb) es.toList F.keys with ⟨h1, h2⟩ | ⟨j, e0, h1, h2, h3⟩
  · have e1 : (Instr.mapEntry 74 (.map (some m)) (.agg #[.string b.1, .string b.2])).run Try.prog w = .ok (.tuple #[.int .i64 0, goInt clock]) (setBlock w m (.map (es.push ⟨.agg #[.string b.1, .string b.2], .int .i64 0, clock⟩) (clock + 1))) := by
      simp [Instr.mapEntry, run_underlying mapV_type, MapKept.run_getObj_map hbk, bl_law.check w false (bl_key b hb), h1, MapKept.run_setObj_map _ hbk, Result.andThen, setBlock]
    have e2 : (Instr.mapUpdate 74 (.map (some m)) (.agg #[.string b.1, .string b.2]) (.int .i64 0)).run Try.prog w = .ok () (setBlock w m (.map (es.push ⟨.agg #[.string b.1, .string b.2], .int .i64 0, clock⟩) (clock + 1))) := by
      simp [Instr.mapUpdate, run_underlying mapV_type, MapKept.run_getObj_map hbk, bl_law.check w false (bl_key b hb), h1, MapKept.run_setObj_map _ hbk, Result.andThen, setBlock]
    have e3 : (Instr.lookup 74 (.map (some m)) (.agg #[.string b.1, .string b.2]) false).run Try.prog w = .ok (.int .i64 0) w := by
      simp [Instr.lookup, run_underlying mapV_type, MapKept.run_getObj_map hbk, bl_law.check w _ (bl_key b hb), h1, Result.andThen]
    rw [e1] at hr
    obtain ⟨_, rfl⟩ := Result.ok.inj hr
    rw [u1] at e2
    obtain ⟨_, rfl⟩ := Result.ok.inj e2
    rw [hlook] at e3
    have hz : (cntB vs b : Int) = 0 := by simpa using e3
    obtain ⟨c, hrun, hat, _⟩ := u2.lookup_int bl_keyed mapV_type Try.underlying3 (intV_zero _) (bl_key b hb)
    rw [atKey_put_same hc.tidy.isMap (kB_key hb)] at hat
    have hc0 : c = 0 := by simpa using hat.symm
    rw [hz, hrun, hc0]
    exact ⟨rfl, rfl, rfl, rfl, by simp [setBlock], fun k hk => heap_setBlock_other hbk _ hk⟩
  · have hj : es[j]? = some e0 := by simpa using h2
    have hsame : es.modify j (fun e => { e with key := .agg #[.string b.1, .string b.2] }) = es := by
      apply Array.ext'
      rw [Array.toList_modify, modify_eq_set _ _ _ _ h2]
      have : ({ e0 with key := .agg #[.string b.1, .string b.2] } : MapEntry) = e0 := by rw [← h3]
      rw [this]
      exact Go.WideElems.set_self _ _ _ h2
    have e1 : (Instr.mapEntry 74 (.map (some m)) (.agg #[.string b.1, .string b.2])).run Try.prog w = .ok (.tuple #[e0.val, goInt e0.born]) (setBlock w m (.map es clock)) := by
      simp [Instr.mapEntry, run_underlying mapV_type, MapKept.run_getObj_map hbk, bl_law.check w false (bl_key b hb), h1, hj, h3, bl_law.stays w (bl_key b hb), hsame, MapKept.run_setObj_map _ hbk, Result.andThen, setBlock]
    rw [e1] at hr
    obtain ⟨_, rfl⟩ := Result.ok.inj hr
    exact ⟨(hM.keep ((heap_setBlock_same hbk _).trans hbk.symm)).look b hb, rfl, rfl, rfl, by simp [setBlock], fun k hk => heap_setBlock_other hbk _ hk⟩
set_option maxRecDepth 100000 in
set_option maxHeartbeats 1600000 in
theorem vadd_nil (f : Int) (t : ByteArray) (b : Option Addr) (k cp : Nat) (a2 : Option Addr) (n2 c2 : Nat) (w : World) : Calls Try.prog 15 #[.pointer none, .int .i64 f, .string t, .slice b k cp, .slice a2 n2 c2] w fun e w' => e = .returned (.int .i64 1) ∧ Below w.heap.size w w' := by
  go_enter Try.func15, Try.ntmps15
  go_wp2
  go_ret
  exact ⟨rfl, Below.refl _ _⟩
theorem two_pairs (w : World) (f : Int) (x y : ByteArray) : PairsIn (w.alloc (.cells #[.int .i64 f, .string x, .int .i64 f, .string y] 47)) (some ⟨w.heap.size, 0, none⟩) (twoS f x y) := by
  have hb := heap_alloc_last w (.cells #[.int .i64 f, .string x, .int .i64 f, .string y] 47)
  refine .inr ⟨w.heap.size, 0, rfl, by simp, fun j p hp => ?_⟩
  match j, hp with
  | 0, hp => cases hp; exact ⟨cell_at (L := [_, _, _, _]) hb 0 _ rfl, cell_at (L := [_, _, _, _]) hb 1 _ rfl⟩
  | 1, hp => cases hp; exact ⟨cell_at (L := [_, _, _, _]) hb 2 _ rfl, cell_at (L := [_, _, _, _]) hb 3 _ rfl⟩
  | j + 2, hp => simp [twoS] at hp
set_option maxRecDepth 100000 in
set_option maxHeartbeats 3200000 in
theorem vadd_arg (g m : Nat) (am : Option Addr) (cm : Nat) (s : Ta) (f : Int) (t : ByteArray) (ht : t.size ≤ 140737488355328) (b : Option Addr) (k cp : Nat) (nx : List Int) (hk : nx.length = k) (hkm : k ≤ maxLen) (a2 : Option Addr) (n2 c2 : Nat) (sg : List (Int × ByteArray)) (hn2 : sg.length = n2) (hm2 : n2 ≤ maxLen) (w : World) (h : TlA w g m am cm s) (hN : IntsIn w b nx) (hP : PairsIn w a2 sg) (h1 : voB s.ep s.mem t nx = false) :
    Calls Try.prog 15 #[.pointer (some ⟨g, 0, none⟩), .int .i64 f, .string t, .slice b k cp, .slice a2 n2 c2] w fun e w' => e = .returned (.int .i64 1) ∧ Below w.heap.size w w' := by
  have hml := h.ok.mlen
  have c0 := h.c0
  have c1 := h.c1
  have HT := hid h
  have HN := hid hN
  have HP := hid hP
  have HX : Hid (∀ u : World, Below w.heap.size w u → Calls Try.prog 10 #[.agg #[.int .i64 s.ep, .slice am s.mem.length cm], .string t, .slice b k cp] u fun e w' => e = .returned (.tuple #[.string (voS s.ep s.mem t nx), .string (voC s.ep s.mem t nx), .int .i64 (voE s.ep s.mem t nx)]) ∧ Below w.heap.size w w') := hid (fun u hu => (vtexts_any s.ep am _ cm s.mem rfl (by unfold maxLen; omega) t ht b k cp nx hk hkm u (HT.out.keep hu).im (HN.out.keep hu (Nat.le_refl _))).mono fun e w' ⟨h1, h2⟩ => ⟨h1, hu.trans (h2.mono hu.size)⟩)
  have HH : Hid (∀ u : World, Below w.heap.size w u → Calls Try.prog 36 #[.agg #[.int .i64 s.ep, .slice am s.mem.length cm], .int .i64 f] u fun e w' => e = .returned (.bool (hasM s.mem f)) ∧ Below w.heap.size w w') := hid (fun u hu => (chas_any s.ep am _ cm s.mem rfl (by unfold maxLen; omega) f u (HT.out.keep hu).im).mono fun e w' ⟨h1, h2⟩ => ⟨h1, hu.trans (h2.mono hu.size)⟩)
  have HQ : Hid (∀ (u : World) (x y : ByteArray) (q : Nat) (cq : Nat), Below w.heap.size w u → PairsIn u (some ⟨q, 0, none⟩) (twoS f x y) → Calls Try.prog 37 #[.slice a2 n2 c2, .slice (some ⟨q, 0, none⟩) 2 cq] u fun e w' => e = .returned (.bool (decide (sg = twoS f x y))) ∧ Below w.heap.size w w') := hid (fun u x y q cq hu hp => (eqSigs_dec a2 _ n2 2 c2 cq sg (twoS f x y) hn2 rfl hm2 (by decide) u (HP.out.keep hu (Nat.le_refl _)) hp).mono fun e w' ⟨h1, h2⟩ => ⟨h1, hu.trans (h2.mono hu.size)⟩)
  have HV : Hid (∀ (X : Nat), X < 16 → ∀ u : World, Below w.heap.size w u → Calls Try.prog 38 #[.pointer (some ⟨g, 0, none⟩), .int .i64 (X : Int)] u fun e w' => e = .returned (.bool (voted s.vs (X : Int))) ∧ w' = u) := hid (fun X hX u hu => vvoted_any g m am cm s X hX u (HT.out.keep hu))
  have HG := hid (lt_of_blk h.blk)
  have hgl := lt_of_blk h.blk
  rw [show voE s.ep s.mem t nx = 1 by rw [voE, h1]; rfl] at HX
  clear h1
  clear h hN hP
  go_enter Try.func15, Try.ntmps15
  go_wp2_with (first
    | (go_at_call 10; refine (HX.out _ (Below.refl _ _)).mono ?_; rintro e w1 ⟨rfl, hb1⟩; have H1 := hid hb1; have d0 := (hb1.cell (p := ⟨g, 0, none⟩) HG.out).trans c0; have d1 := (hb1.cell (p := ⟨g, 1, none⟩) HG.out).trans c1; clear hb1))
  go_ret
  exact ⟨rfl, H1.out⟩
set_option maxRecDepth 100000 in
set_option maxHeartbeats 3200000 in
theorem vadd_absent (g m : Nat) (am : Option Addr) (cm : Nat) (s : Ta) (f : Int) (t : ByteArray) (ht : t.size ≤ 140737488355328) (b : Option Addr) (k cp : Nat) (nx : List Int) (hk : nx.length = k) (hkm : k ≤ maxLen) (a2 : Option Addr) (n2 c2 : Nat) (sg : List (Int × ByteArray)) (hn2 : sg.length = n2) (hm2 : n2 ≤ maxLen) (w : World) (h : TlA w g m am cm s) (hN : IntsIn w b nx) (hP : PairsIn w a2 sg) (h1 : voB s.ep s.mem t nx = true) (h2 : hasM s.mem f = false) :
    Calls Try.prog 15 #[.pointer (some ⟨g, 0, none⟩), .int .i64 f, .string t, .slice b k cp, .slice a2 n2 c2] w fun e w' => e = .returned (.int .i64 8) ∧ Below w.heap.size w w' := by
  have hml := h.ok.mlen
  have c0 := h.c0
  have c1 := h.c1
  have HT := hid h
  have HN := hid hN
  have HP := hid hP
  have HX : Hid (∀ u : World, Below w.heap.size w u → Calls Try.prog 10 #[.agg #[.int .i64 s.ep, .slice am s.mem.length cm], .string t, .slice b k cp] u fun e w' => e = .returned (.tuple #[.string (voS s.ep s.mem t nx), .string (voC s.ep s.mem t nx), .int .i64 (voE s.ep s.mem t nx)]) ∧ Below w.heap.size w w') := hid (fun u hu => (vtexts_any s.ep am _ cm s.mem rfl (by unfold maxLen; omega) t ht b k cp nx hk hkm u (HT.out.keep hu).im (HN.out.keep hu (Nat.le_refl _))).mono fun e w' ⟨h1, h2⟩ => ⟨h1, hu.trans (h2.mono hu.size)⟩)
  have HH : Hid (∀ u : World, Below w.heap.size w u → Calls Try.prog 36 #[.agg #[.int .i64 s.ep, .slice am s.mem.length cm], .int .i64 f] u fun e w' => e = .returned (.bool (hasM s.mem f)) ∧ Below w.heap.size w w') := hid (fun u hu => (chas_any s.ep am _ cm s.mem rfl (by unfold maxLen; omega) f u (HT.out.keep hu).im).mono fun e w' ⟨h1, h2⟩ => ⟨h1, hu.trans (h2.mono hu.size)⟩)
  have HQ : Hid (∀ (u : World) (x y : ByteArray) (q : Nat) (cq : Nat), Below w.heap.size w u → PairsIn u (some ⟨q, 0, none⟩) (twoS f x y) → Calls Try.prog 37 #[.slice a2 n2 c2, .slice (some ⟨q, 0, none⟩) 2 cq] u fun e w' => e = .returned (.bool (decide (sg = twoS f x y))) ∧ Below w.heap.size w w') := hid (fun u x y q cq hu hp => (eqSigs_dec a2 _ n2 2 c2 cq sg (twoS f x y) hn2 rfl hm2 (by decide) u (HP.out.keep hu (Nat.le_refl _)) hp).mono fun e w' ⟨h1, h2⟩ => ⟨h1, hu.trans (h2.mono hu.size)⟩)
  have HV : Hid (∀ (X : Nat), X < 16 → ∀ u : World, Below w.heap.size w u → Calls Try.prog 38 #[.pointer (some ⟨g, 0, none⟩), .int .i64 (X : Int)] u fun e w' => e = .returned (.bool (voted s.vs (X : Int))) ∧ w' = u) := hid (fun X hX u hu => vvoted_any g m am cm s X hX u (HT.out.keep hu))
  have HG := hid (lt_of_blk h.blk)
  have hgl := lt_of_blk h.blk
  rw [show voE s.ep s.mem t nx = 0 by rw [voE, h1]; rfl] at HX
  clear h1
  rw [h2] at HH
  clear h2
  clear h hN hP
  go_enter Try.func15, Try.ntmps15
  go_wp2_with (first
    | (go_at_call 10; refine (HX.out _ (Below.refl _ _)).mono ?_; rintro e w1 ⟨rfl, hb1⟩; have H1 := hid hb1; have d0 := (hb1.cell (p := ⟨g, 0, none⟩) HG.out).trans c0; have d1 := (hb1.cell (p := ⟨g, 1, none⟩) HG.out).trans c1; clear hb1)
    | (go_at_call 36; refine (HH.out _ H1.out).mono ?_; rintro e w2 ⟨rfl, hb2⟩; have H2 := hid hb2; clear hb2))
  go_ret
  exact ⟨rfl, H2.out⟩
set_option maxRecDepth 100000 in
set_option maxHeartbeats 3200000 in
theorem vadd_sig (g m : Nat) (am : Option Addr) (cm : Nat) (s : Ta) (f : Int) (t : ByteArray) (ht : t.size ≤ 140737488355328) (b : Option Addr) (k cp : Nat) (nx : List Int) (hk : nx.length = k) (hkm : k ≤ maxLen) (a2 : Option Addr) (n2 c2 : Nat) (sg : List (Int × ByteArray)) (hn2 : sg.length = n2) (hm2 : n2 ≤ maxLen) (w : World) (h : TlA w g m am cm s) (hN : IntsIn w b nx) (hP : PairsIn w a2 sg) (h1 : voB s.ep s.mem t nx = true) (h2 : hasM s.mem f = true) (h3 : ¬ sg = twoS f (voS s.ep s.mem t nx) (voC s.ep s.mem t nx)) :
    Calls Try.prog 15 #[.pointer (some ⟨g, 0, none⟩), .int .i64 f, .string t, .slice b k cp, .slice a2 n2 c2] w fun e w' => e = .returned (.int .i64 16) ∧ Below w.heap.size w w' := by
  have hml := h.ok.mlen
  have c0 := h.c0
  have c1 := h.c1
  have HT := hid h
  have HN := hid hN
  have HP := hid hP
  have HX : Hid (∀ u : World, Below w.heap.size w u → Calls Try.prog 10 #[.agg #[.int .i64 s.ep, .slice am s.mem.length cm], .string t, .slice b k cp] u fun e w' => e = .returned (.tuple #[.string (voS s.ep s.mem t nx), .string (voC s.ep s.mem t nx), .int .i64 (voE s.ep s.mem t nx)]) ∧ Below w.heap.size w w') := hid (fun u hu => (vtexts_any s.ep am _ cm s.mem rfl (by unfold maxLen; omega) t ht b k cp nx hk hkm u (HT.out.keep hu).im (HN.out.keep hu (Nat.le_refl _))).mono fun e w' ⟨h1, h2⟩ => ⟨h1, hu.trans (h2.mono hu.size)⟩)
  have HH : Hid (∀ u : World, Below w.heap.size w u → Calls Try.prog 36 #[.agg #[.int .i64 s.ep, .slice am s.mem.length cm], .int .i64 f] u fun e w' => e = .returned (.bool (hasM s.mem f)) ∧ Below w.heap.size w w') := hid (fun u hu => (chas_any s.ep am _ cm s.mem rfl (by unfold maxLen; omega) f u (HT.out.keep hu).im).mono fun e w' ⟨h1, h2⟩ => ⟨h1, hu.trans (h2.mono hu.size)⟩)
  have HQ : Hid (∀ (u : World) (x y : ByteArray) (q : Nat) (cq : Nat), Below w.heap.size w u → PairsIn u (some ⟨q, 0, none⟩) (twoS f x y) → Calls Try.prog 37 #[.slice a2 n2 c2, .slice (some ⟨q, 0, none⟩) 2 cq] u fun e w' => e = .returned (.bool (decide (sg = twoS f x y))) ∧ Below w.heap.size w w') := hid (fun u x y q cq hu hp => (eqSigs_dec a2 _ n2 2 c2 cq sg (twoS f x y) hn2 rfl hm2 (by decide) u (HP.out.keep hu (Nat.le_refl _)) hp).mono fun e w' ⟨h1, h2⟩ => ⟨h1, hu.trans (h2.mono hu.size)⟩)
  have HV : Hid (∀ (X : Nat), X < 16 → ∀ u : World, Below w.heap.size w u → Calls Try.prog 38 #[.pointer (some ⟨g, 0, none⟩), .int .i64 (X : Int)] u fun e w' => e = .returned (.bool (voted s.vs (X : Int))) ∧ w' = u) := hid (fun X hX u hu => vvoted_any g m am cm s X hX u (HT.out.keep hu))
  have HG := hid (lt_of_blk h.blk)
  have hgl := lt_of_blk h.blk
  rw [show voE s.ep s.mem t nx = 0 by rw [voE, h1]; rfl] at HX
  clear h1
  rw [h2] at HH
  clear h2
  obtain ⟨x, ex⟩ : ∃ x, x = voS s.ep s.mem t nx := ⟨_, rfl⟩
  obtain ⟨y, ey⟩ : ∃ y, y = voC s.ep s.mem t nx := ⟨_, rfl⟩
  rw [← ex, ← ey] at HX h3
  have HQ2 : Hid (∀ (u : World) (q : Nat) (cq : Nat), Below w.heap.size w u → PairsIn u (some ⟨q, 0, none⟩) (twoS f x y) → Calls Try.prog 37 #[.slice a2 n2 c2, .slice (some ⟨q, 0, none⟩) 2 cq] u fun e w' => e = .returned (.bool false) ∧ Below w.heap.size w w') := hid (fun u q cq hu hp => by have := HQ.out u x y q cq hu hp; rwa [decide_eq_false h3] at this)
  have HXY := hid (And.intro ex ey)
  clear h3 HQ ex ey
  clear h hN hP
  go_enter Try.func15, Try.ntmps15
  go_wp2_with (first
    | (go_at_call 10; refine (HX.out _ (Below.refl _ _)).mono ?_; rintro e w1 ⟨rfl, hb1⟩; have H1 := hid hb1; have d0 := (hb1.cell (p := ⟨g, 0, none⟩) HG.out).trans c0; have d1 := (hb1.cell (p := ⟨g, 1, none⟩) HG.out).trans c1; clear hb1)
    | (go_at_call 36; refine (HH.out _ H1.out).mono ?_; rintro e w2 ⟨rfl, hb2⟩; have H2 := hid hb2; clear hb2)
    | (go_at_call 37; refine (HQ2.out _ _ _ (by exact (H2.out.alloc H2.out.size _)) (by exact two_pairs _ _ _ _)).mono ?_; rintro e w3 ⟨rfl, hb3⟩; have H3 := hid hb3; clear hb3))
  go_ret
  exact ⟨rfl, H3.out⟩
set_option maxRecDepth 100000 in
set_option maxHeartbeats 3200000 in
theorem vadd_same (g m : Nat) (am : Option Addr) (cm : Nat) (s : Ta) (f : Int) (t : ByteArray) (ht : t.size ≤ 140737488355328) (b : Option Addr) (k cp : Nat) (nx : List Int) (hk : nx.length = k) (hkm : k ≤ maxLen) (a2 : Option Addr) (n2 c2 : Nat) (sg : List (Int × ByteArray)) (hn2 : sg.length = n2) (hm2 : n2 ≤ maxLen) (w : World) (h : TlA w g m am cm s) (hN : IntsIn w b nx) (hP : PairsIn w a2 sg) (h1 : voB s.ep s.mem t nx = true) (h2 : hasM s.mem f = true) (h3 : sg = twoS f (voS s.ep s.mem t nx) (voC s.ep s.mem t nx)) (h4 : voted s.vs f = true) :
    Calls Try.prog 15 #[.pointer (some ⟨g, 0, none⟩), .int .i64 f, .string t, .slice b k cp, .slice a2 n2 c2] w fun e w' => e = .returned (.int .i64 7) ∧ Below w.heap.size w w' := by
  have hml := h.ok.mlen
  have c0 := h.c0
  have c1 := h.c1
  have HT := hid h
  have HN := hid hN
  have HP := hid hP
  have HX : Hid (∀ u : World, Below w.heap.size w u → Calls Try.prog 10 #[.agg #[.int .i64 s.ep, .slice am s.mem.length cm], .string t, .slice b k cp] u fun e w' => e = .returned (.tuple #[.string (voS s.ep s.mem t nx), .string (voC s.ep s.mem t nx), .int .i64 (voE s.ep s.mem t nx)]) ∧ Below w.heap.size w w') := hid (fun u hu => (vtexts_any s.ep am _ cm s.mem rfl (by unfold maxLen; omega) t ht b k cp nx hk hkm u (HT.out.keep hu).im (HN.out.keep hu (Nat.le_refl _))).mono fun e w' ⟨h1, h2⟩ => ⟨h1, hu.trans (h2.mono hu.size)⟩)
  have HH : Hid (∀ u : World, Below w.heap.size w u → Calls Try.prog 36 #[.agg #[.int .i64 s.ep, .slice am s.mem.length cm], .int .i64 f] u fun e w' => e = .returned (.bool (hasM s.mem f)) ∧ Below w.heap.size w w') := hid (fun u hu => (chas_any s.ep am _ cm s.mem rfl (by unfold maxLen; omega) f u (HT.out.keep hu).im).mono fun e w' ⟨h1, h2⟩ => ⟨h1, hu.trans (h2.mono hu.size)⟩)
  have HQ : Hid (∀ (u : World) (x y : ByteArray) (q : Nat) (cq : Nat), Below w.heap.size w u → PairsIn u (some ⟨q, 0, none⟩) (twoS f x y) → Calls Try.prog 37 #[.slice a2 n2 c2, .slice (some ⟨q, 0, none⟩) 2 cq] u fun e w' => e = .returned (.bool (decide (sg = twoS f x y))) ∧ Below w.heap.size w w') := hid (fun u x y q cq hu hp => (eqSigs_dec a2 _ n2 2 c2 cq sg (twoS f x y) hn2 rfl hm2 (by decide) u (HP.out.keep hu (Nat.le_refl _)) hp).mono fun e w' ⟨h1, h2⟩ => ⟨h1, hu.trans (h2.mono hu.size)⟩)
  have HV : Hid (∀ (X : Nat), X < 16 → ∀ u : World, Below w.heap.size w u → Calls Try.prog 38 #[.pointer (some ⟨g, 0, none⟩), .int .i64 (X : Int)] u fun e w' => e = .returned (.bool (voted s.vs (X : Int))) ∧ w' = u) := hid (fun X hX u hu => vvoted_any g m am cm s X hX u (HT.out.keep hu))
  have HG := hid (lt_of_blk h.blk)
  have hgl := lt_of_blk h.blk
  have hin := HT.out.ok.ids (i := f) (of_decide_eq_true h2)
  obtain ⟨X, rfl⟩ : ∃ X : Nat, f = (X : Int) := ⟨f.toNat, by omega⟩
  have HX16 : Hid (X < 16) := hid (by omega)
  have hX0 : (0 : Int) ≤ (X : Int) := Int.natCast_nonneg _
  have hX1 : (X : Int) < 16 := by omega
  clear hin
  rw [show voE s.ep s.mem t nx = 0 by rw [voE, h1]; rfl] at HX
  clear h1
  rw [h2] at HH
  clear h2
  obtain ⟨x, ex⟩ : ∃ x, x = voS s.ep s.mem t nx := ⟨_, rfl⟩
  obtain ⟨y, ey⟩ : ∃ y, y = voC s.ep s.mem t nx := ⟨_, rfl⟩
  rw [← ex, ← ey] at HX h3
  have HQ2 : Hid (∀ (u : World) (q : Nat) (cq : Nat), Below w.heap.size w u → PairsIn u (some ⟨q, 0, none⟩) (twoS (X : Int) x y) → Calls Try.prog 37 #[.slice a2 n2 c2, .slice (some ⟨q, 0, none⟩) 2 cq] u fun e w' => e = .returned (.bool true) ∧ Below w.heap.size w w') := hid (fun u q cq hu hp => by have := HQ.out u x y q cq hu hp; rwa [decide_eq_true h3] at this)
  have HXY := hid (And.intro ex ey)
  clear h3 HQ ex ey
  have HV2 : Hid (∀ u : World, Below w.heap.size w u → Calls Try.prog 38 #[.pointer (some ⟨g, 0, none⟩), .int .i64 (X : Int)] u fun e w' => e = .returned (.bool true) ∧ w' = u) := hid (fun u hu => by have := HV.out X HX16.out u hu; rwa [h4] at this)
  clear h4 HV
  clear h hN hP
  go_enter Try.func15, Try.ntmps15
  go_wp2_with (first
    | (go_at_call 10; refine (HX.out _ (Below.refl _ _)).mono ?_; rintro e w1 ⟨rfl, hb1⟩; have H1 := hid hb1; have d0 := (hb1.cell (p := ⟨g, 0, none⟩) HG.out).trans c0; have d1 := (hb1.cell (p := ⟨g, 1, none⟩) HG.out).trans c1; clear hb1)
    | (go_at_call 36; refine (HH.out _ H1.out).mono ?_; rintro e w2 ⟨rfl, hb2⟩; have H2 := hid hb2; clear hb2)
    | (go_at_call 37; refine (HQ2.out _ _ _ (by exact (H2.out.alloc H2.out.size _)) (by exact two_pairs _ _ _ _)).mono ?_; rintro e w3 ⟨rfl, hb3⟩; have H3 := hid hb3; clear hb3)
    | (go_at_call 38; refine (HV2.out _ H3.out).mono ?_; rintro e w4 ⟨rfl, rfl⟩))
  go_ret
  exact ⟨rfl, H3.out⟩
set_option maxRecDepth 100000 in
set_option maxHeartbeats 6400000 in
theorem vadd_ok (g m : Nat) (am : Option Addr) (cm : Nat) (s : Ta) (f : Int) (t : ByteArray) (ht : t.size ≤ 140737488355328) (b : Option Addr) (k cp : Nat) (nx : List Int) (hk : nx.length = k) (hkm : k ≤ maxLen) (a2 : Option Addr) (n2 c2 : Nat) (sg : List (Int × ByteArray)) (hn2 : sg.length = n2) (hm2 : n2 ≤ maxLen) (w : World) (h : TlA w g m am cm s) (hN : IntsIn w b nx) (hP : PairsIn w a2 sg) (h1 : voB s.ep s.mem t nx = true) (h2 : hasM s.mem f = true) (h3 : sg = twoS f (voS s.ep s.mem t nx) (voC s.ep s.mem t nx)) (h4 : voted s.vs f = false) (hok : TOk ⟨s.ep, s.mem, s.vs ++ [(f, (t, voC s.ep s.mem t nx))]⟩) :
    Calls Try.prog 15 #[.pointer (some ⟨g, 0, none⟩), .int .i64 f, .string t, .slice b k cp, .slice a2 n2 c2] w fun e w' => e = .returned (.int .i64 0) ∧ TlA w' g m am cm ⟨s.ep, s.mem, s.vs ++ [(f, (t, voC s.ep s.mem t nx))]⟩ ∧ Out [g, m] w w' := by
  have hml := h.ok.mlen
  have c0 := h.c0
  have c1 := h.c1
  have HT := hid h
  have HN := hid hN
  have HP := hid hP
  have HX : Hid (∀ u : World, Below w.heap.size w u → Calls Try.prog 10 #[.agg #[.int .i64 s.ep, .slice am s.mem.length cm], .string t, .slice b k cp] u fun e w' => e = .returned (.tuple #[.string (voS s.ep s.mem t nx), .string (voC s.ep s.mem t nx), .int .i64 (voE s.ep s.mem t nx)]) ∧ Below w.heap.size w w') := hid (fun u hu => (vtexts_any s.ep am _ cm s.mem rfl (by unfold maxLen; omega) t ht b k cp nx hk hkm u (HT.out.keep hu).im (HN.out.keep hu (Nat.le_refl _))).mono fun e w' ⟨h1, h2⟩ => ⟨h1, hu.trans (h2.mono hu.size)⟩)
  have HH : Hid (∀ u : World, Below w.heap.size w u → Calls Try.prog 36 #[.agg #[.int .i64 s.ep, .slice am s.mem.length cm], .int .i64 f] u fun e w' => e = .returned (.bool (hasM s.mem f)) ∧ Below w.heap.size w w') := hid (fun u hu => (chas_any s.ep am _ cm s.mem rfl (by unfold maxLen; omega) f u (HT.out.keep hu).im).mono fun e w' ⟨h1, h2⟩ => ⟨h1, hu.trans (h2.mono hu.size)⟩)
  have HQ : Hid (∀ (u : World) (x y : ByteArray) (q : Nat) (cq : Nat), Below w.heap.size w u → PairsIn u (some ⟨q, 0, none⟩) (twoS f x y) → Calls Try.prog 37 #[.slice a2 n2 c2, .slice (some ⟨q, 0, none⟩) 2 cq] u fun e w' => e = .returned (.bool (decide (sg = twoS f x y))) ∧ Below w.heap.size w w') := hid (fun u x y q cq hu hp => (eqSigs_dec a2 _ n2 2 c2 cq sg (twoS f x y) hn2 rfl hm2 (by decide) u (HP.out.keep hu (Nat.le_refl _)) hp).mono fun e w' ⟨h1, h2⟩ => ⟨h1, hu.trans (h2.mono hu.size)⟩)
  have HV : Hid (∀ (X : Nat), X < 16 → ∀ u : World, Below w.heap.size w u → Calls Try.prog 38 #[.pointer (some ⟨g, 0, none⟩), .int .i64 (X : Int)] u fun e w' => e = .returned (.bool (voted s.vs (X : Int))) ∧ w' = u) := hid (fun X hX u hu => vvoted_any g m am cm s X hX u (HT.out.keep hu))
  have HG := hid (lt_of_blk h.blk)
  have hgl := lt_of_blk h.blk
  have hin := HT.out.ok.ids (i := f) (of_decide_eq_true h2)
  obtain ⟨X, rfl⟩ : ∃ X : Nat, f = (X : Int) := ⟨f.toNat, by omega⟩
  have HX16 : Hid (X < 16) := hid (by omega)
  have hX0 : (0 : Int) ≤ (X : Int) := Int.natCast_nonneg _
  have hX1 : (X : Int) < 16 := by omega
  clear hin
  have hfit : fitB (t, voC s.ep s.mem t nx) := bal_fit hok ((X : Int), (t, voC s.ep s.mem t nx)) (List.mem_append_right _ (List.mem_singleton.2 rfl))
  have HOk := hid (And.intro hok (And.intro h4 hfit))
  rw [show voE s.ep s.mem t nx = 0 by rw [voE, h1]; rfl] at HX
  clear h1
  rw [h2] at HH
  clear h2
  obtain ⟨x, ex⟩ : ∃ x, x = voS s.ep s.mem t nx := ⟨_, rfl⟩
  obtain ⟨y, ey⟩ : ∃ y, y = voC s.ep s.mem t nx := ⟨_, rfl⟩
  rw [← ex, ← ey] at HX h3
  rw [← ey] at HOk ⊢
  have HQ2 : Hid (∀ (u : World) (q : Nat) (cq : Nat), Below w.heap.size w u → PairsIn u (some ⟨q, 0, none⟩) (twoS (X : Int) x y) → Calls Try.prog 37 #[.slice a2 n2 c2, .slice (some ⟨q, 0, none⟩) 2 cq] u fun e w' => e = .returned (.bool true) ∧ Below w.heap.size w w') := hid (fun u q cq hu hp => by have := HQ.out u x y q cq hu hp; rwa [decide_eq_true h3] at this)
  have HXY := hid (And.intro ex ey)
  clear h3 HQ ex ey
  have HV2 : Hid (∀ u : World, Below w.heap.size w u → Calls Try.prog 38 #[.pointer (some ⟨g, 0, none⟩), .int .i64 (X : Int)] u fun e w' => e = .returned (.bool false) ∧ w' = u) := hid (fun u hu => by have := HV.out X HX16.out u hu; rwa [h4] at this)
  have HSc : Hid (∀ u : World, Calls Try.prog 39 #[.string t] u fun e w' => e = .returned (.string t) ∧ Below u.heap.size u w') := hid (fun u => sclone_any t (by omega) u)
  clear h4 HV hfit hok h hN hP HXY
  go_enter Try.func15, Try.ntmps15
  go_wp2_with (first
    | (go_at_call 10; refine (HX.out _ (Below.refl _ _)).mono ?_; rintro e w1 ⟨rfl, hb1⟩; have H1 := hid hb1; have d0 := (hb1.cell (p := ⟨g, 0, none⟩) HG.out).trans c0; have d1 := (hb1.cell (p := ⟨g, 1, none⟩) HG.out).trans c1; clear hb1)
    | (go_at_call 36; refine (HH.out _ H1.out).mono ?_; rintro e w2 ⟨rfl, hb2⟩; have H2 := hid hb2; clear hb2)
    | (go_at_call 37; refine (HQ2.out _ _ _ (by exact (H2.out.alloc H2.out.size _)) (by exact two_pairs _ _ _ _)).mono ?_; rintro e w3 ⟨rfl, hb3⟩; have H3 := hid hb3; clear hb3)
    | (go_at_call 38; refine (HV2.out _ H3.out).mono ?_; rintro e w4 ⟨rfl, rfl⟩)
    | (go_at_call 39; refine (HSc.out _).mono ?_; rintro e w5 ⟨rfl, hb5⟩; have H5 := hid (H3.out.trans (hb5.mono H3.out.size)); clear hb5))
  obtain ⟨wz, ez⟩ : ∃ wz, wz = w5.alloc (.cells #[.string t, .string y] 76) := ⟨_, rfl⟩
  have HZ : Hid (Below w.heap.size w wz ∧ wz.heap[w5.heap.size]? = some (.cells #[.string t, .string y] 76 (0, 0)) ∧ w.heap.size ≤ w5.heap.size) := hid ⟨by rw [ez]; exact H5.out.alloc H5.out.size _, by rw [ez]; exact heap_alloc_last w5 _, H5.out.size⟩
  rw [← ez]
  clear ez d0 d1 c0 c1
  have HTz := hid (HT.out.keep HZ.out.1)
  have HS0 : Hid (wz.drew.heap[w5.heap.size]? = some (.cells #[.string t, .string y] 76 (0, 0))) := hid HZ.out.2.1
  refine wp_region_G (S := fun ww => ww.heap[w5.heap.size]? = some (.cells #[.string t, .string y] 76 (0, 0))) (ex := [6]) (by kernel_rfl) ?_
  try (change wpAnyG _ _ _ _ _ _ _ _ _ (World.drew _))
  refine wpAnyG_take (i := 0) (v := ?v1) rfl (by kernel_rfl) (fun _ _ _ h => h) (Or.inl ⟨by rfl, ?hy1⟩) HS0.out ?rest1
  case hy1 => (intro ww _; go_simp; try with_reducible rfl)
  go_simp
  refine wpAnyG_take (i := 1) (v := ?v2) rfl (by kernel_rfl) (fun _ _ _ h => h) (Or.inl ⟨by rfl, ?hy2⟩) HS0.out ?rest2
  case hy2 => (intro ww _; go_simp; try with_reducible rfl)
  go_simp
  refine wpAnyG_take (i := 2) (v := ?v3) rfl (by kernel_rfl) (fun _ _ _ h => h) (Or.inl ⟨by rfl, ?hy3⟩) HS0.out ?rest3
  case hy3 => (intro ww hS; obtain ⟨y0, y1⟩ := cell_two hS; go_simp; try with_reducible rfl)
  go_simp
  refine wpAnyG_take (i := 3) (v := ?v4) rfl (by kernel_rfl) (fun _ _ _ h => h) (Or.inl ⟨by rfl, ?hy4⟩) HS0.out ?rest4
  case hy4 => (intro ww _; go_simp; try with_reducible rfl)
  go_simp
  refine wpAnyG_take (i := 4) (v := ?v5) rfl (by kernel_rfl) (fun _ _ _ h => h) (Or.inl ⟨by rfl, ?hy5⟩) HS0.out ?rest5
  case hy5 => (intro ww _; go_simp; try with_reducible rfl)
  go_simp
  refine wpAnyG_take (i := 5) (v := ?v6) rfl (by kernel_rfl) (fun _ _ _ h => h) (Or.inl ⟨by rfl, ?hy6⟩) HS0.out ?rest6
  case hy6 => (intro ww _; go_simp; try with_reducible rfl)
  go_simp
  have f0 := HTz.out.fr (2 + X * 2)
  have f1 := HTz.out.fr (2 + X * 2 + 1)
  obtain ⟨z0, z1⟩ := HTz.out.cc X HX16.out
  refine wpAnyG_all (rs := [6]) (by kernel_rfl) (by simp) ?_
  intro i hi
  obtain rfl := List.mem_singleton.1 hi
  clear hi
  refine wpOp_v rfl (by rfl) (fun K hK => ?_)
  go_simp
  clear f0 f1 z0 z1
  refine hK _ _ ⟨fun h => absurd (by simp) h, ?_⟩
  clear hK K
  go_simp
  refine wpAnyG_done (by kernel_rfl) ?_ _
  go_simp
  obtain ⟨wq, eq⟩ : ∃ wq, wq = ((wz.setCell ⟨g, 2 + X * 2, none⟩ (.string t)).setCell ⟨g, 2 + X * 2 + 1, none⟩ (.string y)).drew := ⟨_, rfl⟩
  have hoth : ∀ k, k ≠ g → wq.heap[k]? = wz.heap[k]? := fun k hk => by rw [eq]; exact (Below.heap_setCell _ _ _ _ hk).trans (Below.heap_setCell _ _ _ _ hk)
  have hsz : wq.heap.size = wz.heap.size := by rw [eq]; simp
  have hgq : wq.heap[g]? = some (.cells (tlC s.ep (.slice am s.mem.length cm) ((castL s.vs).set X (t, y)) (.map (some m))).toArray 79 (0, 0)) := by
    rw [eq]
    refine (blk_set (blk_set HTz.out.blk _ _) _ _).trans ?_
    rw [← tlC_set _ _ _ _ X (t, y) (by rw [castL_len]; exact HX16.out)]
    simp
  have hne : w5.heap.size ≠ g := by have := HZ.out.2.2; omega
  have HQ1 : Hid (wq.heap[g]? = some (.cells (tlC s.ep (.slice am s.mem.length cm) ((castL s.vs).set X (t, y)) (.map (some m))).toArray 79 (0, 0)) ∧ wq.heap[w5.heap.size]? = some (.cells #[.string t, .string y] 76 (0, 0)) ∧ MpAt wq m s.vs ∧ IntsIn wq am s.mem ∧ Out [g, m] w wq ∧ wq.heap.size = wz.heap.size) := hid ⟨hgq, (hoth _ hne).trans HZ.out.2.1, HTz.out.mp.keep (hoth _ HTz.out.ne.symm), ints_stayV HTz.out.im (Nat.le_of_eq hsz.symm) (fun x hx => hoth _ (HTz.out.ma x hx).1.1), ⟨by rw [eq]; exact HZ.out.1.os, by rw [eq]; exact HZ.out.1.tape, by rw [eq]; exact HZ.out.1.output, by rw [hsz]; exact HZ.out.1.size, fun k hk hF => (hoth k (fun e => hF (by rw [e]; simp))).trans (HZ.out.1.block k hk)⟩, hsz⟩
  rw [← eq]
  clear eq hoth hsz hgq
  have HLk : Hid (∀ ww : World, Below wq.heap.size wq ww → ww.cell? ⟨g, 34, none⟩ = some (.map (some m)) ∧ ww.cell? ⟨w5.heap.size, 0, none⟩ = some (.string t) ∧ ww.cell? ⟨w5.heap.size, 1, none⟩ = some (.string y) ∧ (Instr.lookup 74 (.map (some m)) (.agg #[.string t, .string y]) false).run Try.prog ww = .ok (.int .i64 (cntB s.vs (t, y) : Int)) ww) := hid (fun ww hw => by
    have hq := cell_two ((hw.block _ (lt_of_blk HQ1.out.2.1)).trans HQ1.out.2.1)
    have hm34 := cell_at ((hw.block _ (lt_of_blk HQ1.out.1)).trans HQ1.out.1) 34 _ (tlC_map _ _ _ _ (by rw [List.length_set]; exact castL_len _))
    exact ⟨hm34, hq.1, hq.2, (HQ1.out.2.2.1.keep (hw.block _ HQ1.out.2.2.1.lt)).look (t, y) HOk.out.2.2⟩)
  have hcl : cntB s.vs (t, y) ≤ 10 := Nat.le_trans (cntB_le _ _) (Nat.le_trans HT.out.ok.len HT.out.ok.mlen.2)
  have hvl : s.vs.length ≤ 1000 := by have := HT.out.ok.len; have := HT.out.ok.mlen; omega
  have hwr : IntKind.i64.wrap ((cntB s.vs (t, y) : Int) + 1) = (cntB s.vs (t, y) : Int) + 1 := wrap_small _ (by omega) (by omega)
  have hEn := MpAt.entry (w := wq.drew) (HQ1.out.2.2.1.keep rfl) hvl (X : Int) (t, y) HOk.out.2.2
  have hEl := fun v1 w1 hr => MpAt.still (w := wq.drew) (HQ1.out.2.2.1.keep rfl) hvl (t, y) HOk.out.2.2 (v1 := v1) (w1 := w1) hr
  generalize hC : (cntB s.vs (t, y) : Int) = C at HLk hEn hEl hwr
  clear hC hcl hvl
  obtain ⟨v0, st, wA, eA, wB, eB, hMp, hOne⟩ := hEn
  obtain ⟨eL, hOneA⟩ := hEl _ _ eA
  have eB2 : (Instr.entryStore 74 (.map (some m)) (.int .i64 (st : Int)) (.int .i64 (C + 1))).run Try.prog wA = .ok () wB := eB
  have HB2 := hid (And.intro hMp hOne)
  have HS2 : Hid ((wA.cell? ⟨g, 34, none⟩ = some (.map (some m)) ∧ wA.cell? ⟨w5.heap.size, 0, none⟩ = some (.string t)) ∧ wA.cell? ⟨w5.heap.size, 1, none⟩ = some (.string y) ∧ (Instr.lookup 74 (.map (some m)) (.agg #[.string t, .string y]) false).run Try.prog wA = .ok (.int .i64 C) wA) := hid (by
    obtain ⟨q0, q1, q2, q3⟩ := HLk.out wq (Below.refl _ _)
    have hg1 := World.cell?_of_block (a := ⟨g, 34, none⟩) (hOneA.block g HTz.out.ne)
    have hm5 : w5.heap.size ≠ m := by have := HZ.out.2.2; have := HT.out.mp.lt; omega
    have hq0 := World.cell?_of_block (a := ⟨w5.heap.size, 0, none⟩) (hOneA.block _ hm5)
    have hq1 := World.cell?_of_block (a := ⟨w5.heap.size, 1, none⟩) (hOneA.block _ hm5)
    exact ⟨⟨hg1.trans q0, hq0.trans q1⟩, hq1.trans q2, eL⟩)
  have HS1 : Hid ((wq.drew.cell? ⟨g, 34, none⟩ = some (.map (some m)) ∧ wq.drew.cell? ⟨w5.heap.size, 0, none⟩ = some (.string t)) ∧ wq.drew.cell? ⟨w5.heap.size, 1, none⟩ = some (.string y) ∧ (Instr.lookup 74 (.map (some m)) (.agg #[.string t, .string y]) false).run Try.prog wq.drew = .ok (.int .i64 C) wq.drew) := hid (by
    obtain ⟨q0, q1, q2, q3⟩ := HLk.out wq.drew (Below.refl _ _).drew
    exact ⟨⟨q0, q1⟩, q2, q3⟩)
  clear hMp hOne eB eL hOneA HLk
  go_wp2
  refine wp_region_G (S := fun ww => (ww.cell? ⟨g, 34, none⟩ = some (.map (some m)) ∧ ww.cell? ⟨w5.heap.size, 0, none⟩ = some (.string t)) ∧ ww.cell? ⟨w5.heap.size, 1, none⟩ = some (.string y) ∧ (Instr.lookup 74 (.map (some m)) (.agg #[.string t, .string y]) false).run Try.prog ww = .ok (.int .i64 C) ww) (ex := [9]) (by kernel_rfl) ?_
  try (change wpAnyG _ _ _ _ _ _ _ _ _ (World.drew _))
  refine wpAnyG_take (i := 0) (v := ?v7) rfl (by kernel_rfl) (fun _ _ _ h => h) (Or.inl ⟨by rfl, ?hy7⟩) HS1.out ?rest7
  case hy7 => (intro ww _; go_simp; try with_reducible rfl)
  go_simp
  refine wpAnyG_take (i := 1) (v := ?v8) rfl (by kernel_rfl) (fun _ _ _ h => h) (Or.inl ⟨by rfl, ?hy8⟩) HS1.out ?rest8
  case hy8 => (intro ww _; go_simp; try with_reducible rfl)
  go_simp
  refine wpAnyG_take (i := 2) (v := ?v9) rfl (by kernel_rfl) (fun _ _ _ h => h) (Or.inl ⟨by rfl, ?hy9⟩) HS1.out ?rest9
  case hy9 => (intro ww _; go_simp; try with_reducible rfl)
  go_simp
  refine wpAnyG_take (i := 3) (v := ?v10) rfl (by kernel_rfl) (fun _ _ _ h => h) (Or.inl ⟨by rfl, ?hy10⟩) HS1.out ?rest10
  case hy10 => (intro ww hS; obtain ⟨⟨y0, y1⟩, y2, y3⟩ := hS; go_simp; try with_reducible rfl)
  go_simp
  refine wpAnyG_take (i := 4) (v := ?v11) rfl (by kernel_rfl) (fun _ _ _ h => h) (Or.inl ⟨by rfl, ?hy11⟩) HS1.out ?rest11
  case hy11 => (intro ww hS; obtain ⟨⟨y0, y1⟩, y2, y3⟩ := hS; go_simp; try with_reducible rfl)
  go_simp
  refine wpAnyG_take (i := 5) (v := ?v12) rfl (by kernel_rfl) (fun _ _ _ h => h) (Or.inl ⟨by rfl, ?hy12⟩) HS1.out ?rest12
  case hy12 => (intro ww hS; obtain ⟨⟨y0, y1⟩, y2, y3⟩ := hS; go_simp; try with_reducible rfl)
  go_simp
  refine wpAnyG_take (i := 6) (v := ?v13) rfl (by kernel_rfl) (fun _ _ _ h => h) (Or.inl ⟨by rfl, ?hy13⟩) HS1.out ?rest13
  case hy13 => (intro ww _; go_simp; try with_reducible rfl)
  go_simp
  refine wpAnyG_all (rs := [7]) (by kernel_rfl) (by simp) ?_
  intro i hi
  obtain rfl := List.mem_singleton.1 hi
  clear hi
  refine wpOp_v rfl (by rfl) (fun K hK => ?_)
  go_simp
  refine hK _ _ ⟨fun _ => HS2.out, ?_⟩
  clear hK K
  go_simp
  refine wpAnyG_take (i := 8) (v := ?v14) rfl (by kernel_rfl) (fun _ _ _ h => h) (Or.inl ⟨by rfl, ?hy14⟩) HS2.out ?rest14
  case hy14 => (intro ww _; go_simp; try with_reducible rfl)
  go_simp
  refine wpAnyG_all (rs := [9]) (by kernel_rfl) (by simp) ?_
  intro i hi
  obtain rfl := List.mem_singleton.1 hi
  clear hi
  refine wpOp_v rfl (by rfl) (fun K hK => ?_)
  go_simp
  refine hK _ _ ⟨fun h => absurd (by simp) h, ?_⟩
  clear hK K
  go_simp
  refine wpAnyG_done (by kernel_rfl) ?_ _
  go_simp
  go_wp2
  go_ret
  refine ⟨rfl, ⟨?_, ?_, HB2.out.1, HT.out.ne, fun x hx => ?_, HOk.out.1⟩, ?_⟩
  · rw [HB2.out.2.block g HT.out.ne, castL_add HOk.out.2.1 HX16.out]
    exact HQ1.out.1
  · exact ints_stayV HQ1.out.2.2.2.1 (Nat.le_of_eq HB2.out.2.size.symm) (fun x hx => HB2.out.2.block _ (HT.out.ma x hx).1.2)
  · refine ⟨(HT.out.ma x hx).1, ?_⟩
    have k1 := (HT.out.ma x hx).2
    have k2 := HQ1.out.2.2.2.2.1.size
    have k3 : wB.heap.size = wq.heap.size := HB2.out.2.size
    omega
  · exact HQ1.out.2.2.2.2.1.trans (⟨HB2.out.2.os, HB2.out.2.tape, HB2.out.2.output, Nat.le_of_eq HB2.out.2.size.symm, fun k hk hF => HB2.out.2.block k (fun e => hF (by rw [e]; simp))⟩ : Out [m] wq wB) (fun b hb => .inl (by rw [List.mem_singleton.1 hb]; simp))
end Go.Proofs.Ytclfphffbfdimaa
