/- The program's: numbers sorted, each once, in new memory; is one among them. -/
import Derived.Test.YtgnapfgiefdlaabTsA
import Derived.Test.YtgnapfgiefdlaabCoS
import Derived.Test.YtgnapfgiefdlaabCoT
import Derived.Shelf.Slices.Clone
import Derived.Shelf.Slices.CompactI
import Derived.Shelf.Slices.Empties
import Derived.Shelf.Slices.In.SortNone
import Derived.Shelf.Sort.Plain
import Derived.Sort.OwnSortedInts
import Derived.Lib.OwnBridge
namespace Go.Proofs.Ytgnapfgiefdlaab
open Go.RowKit

def renL2n15 : Go.Shelf.Ren := ⟨fun | 15 => 18 | n => n, fun | 3 => 3 | 4 => 4 | 22 => 24 | n => n, fun | n => n⟩
theorem layL2n15 : Go.Proofs.Lays2.n15 Try.prog renL2n15 := {
  mixed := by kernel_rfl
  f15 := Try.func18.trans (congrArg some (by kernel_rfl))
  t3 := Try.underlying3
  a3 := Try.isAgg3
  z3 := Try.sizeOf3
  v3 := Try.zeroValue3
  t4 := Try.underlying4
  a4 := Try.isAgg4
  z4 := Try.sizeOf4
  v4 := Try.zeroValue4
  t22 := Try.underlying24
  a22 := Try.isAgg24
  z22 := Try.sizeOf24
  v22 := Try.zeroValue24
  i3 := by kernel_rfl }
def renL2n20 : Go.Shelf.Ren := ⟨fun | 20 => 20 | n => n, fun | 0 => 0 | 3 => 3 | 4 => 4 | 22 => 24 | n => n, fun | n => n⟩
theorem layL2n20 : Go.Proofs.Lays2.n20 Try.prog renL2n20 := {
  mixed := by kernel_rfl
  f20 := Try.func20.trans (congrArg some (by kernel_rfl))
  t0 := Try.underlying0
  a0 := Try.isAgg0
  z0 := Try.sizeOf0
  v0 := Try.zeroValue0
  t3 := Try.underlying3
  a3 := Try.isAgg3
  z3 := Try.sizeOf3
  v3 := Try.zeroValue3
  t4 := Try.underlying4
  a4 := Try.isAgg4
  z4 := Try.sizeOf4
  v4 := Try.zeroValue4
  t22 := Try.underlying24
  a22 := Try.isAgg24
  z22 := Try.sizeOf24
  v22 := Try.zeroValue24
  i3 := by kernel_rfl }
def renLn189 : Go.Shelf.Ren := ⟨fun | 125 => 27 | 128 => 40 | 129 => 41 | 189 => 19 | 215 => 42 | 216 => 28 | 257 => 26 | 294 => 32 | 295 => 33 | 296 => 34 | 297 => 35 | 298 => 36 | 299 => 37 | 300 => 38 | 301 => 39 | 328 => 43 | 329 => 44 | 330 => 45 | 331 => 46 | 332 => 47 | 343 => 48 | n => n, fun | 0 => 0 | 3 => 3 | 4 => 4 | 5 => 5 | 9 => 9 | 28 => 24 | 46 => 56 | 51 => 68 | 53 => 70 | 131 => 50 | 182 => 61 | 183 => 62 | 218 => 71 | 222 => 75 | 228 => 77 | 229 => 78 | n => n, fun | n => n⟩
theorem layLn189 : Go.Proofs.Lays.n189 Try.prog renLn189 := {
  mixed := by kernel_rfl
  f125 := Try.func27.trans (congrArg some (by kernel_rfl))
  f128 := Try.func40.trans (congrArg some (by kernel_rfl))
  f129 := Try.func41.trans (congrArg some (by kernel_rfl))
  f189 := Try.func19.trans (congrArg some (by kernel_rfl))
  f215 := Try.func42.trans (congrArg some (by kernel_rfl))
  f216 := Try.func28.trans (congrArg some (by kernel_rfl))
  f257 := Try.func26.trans (congrArg some (by kernel_rfl))
  f294 := Try.func32.trans (congrArg some (by kernel_rfl))
  f295 := Try.func33.trans (congrArg some (by kernel_rfl))
  f296 := Try.func34.trans (congrArg some (by kernel_rfl))
  f297 := Try.func35.trans (congrArg some (by kernel_rfl))
  f298 := Try.func36.trans (congrArg some (by kernel_rfl))
  f299 := Try.func37.trans (congrArg some (by kernel_rfl))
  f300 := Try.func38.trans (congrArg some (by kernel_rfl))
  f301 := Try.func39.trans (congrArg some (by kernel_rfl))
  f328 := Try.func43.trans (congrArg some (by kernel_rfl))
  f329 := Try.func44.trans (congrArg some (by kernel_rfl))
  f330 := Try.func45.trans (congrArg some (by kernel_rfl))
  f331 := Try.func46.trans (congrArg some (by kernel_rfl))
  f332 := Try.func47.trans (congrArg some (by kernel_rfl))
  f343 := Try.func48.trans (congrArg some (by kernel_rfl))
  t0 := Try.underlying0
  a0 := Try.isAgg0
  z0 := Try.sizeOf0
  v0 := Try.zeroValue0
  t3 := Try.underlying3
  a3 := Try.isAgg3
  z3 := Try.sizeOf3
  v3 := Try.zeroValue3
  t4 := Try.underlying4
  a4 := Try.isAgg4
  z4 := Try.sizeOf4
  v4 := Try.zeroValue4
  t5 := Try.underlying5
  a5 := Try.isAgg5
  z5 := Try.sizeOf5
  v5 := Try.zeroValue5
  t9 := Try.underlying9
  a9 := Try.isAgg9
  z9 := Try.sizeOf9
  v9 := Try.zeroValue9
  t28 := Try.underlying24
  a28 := Try.isAgg24
  z28 := Try.sizeOf24
  v28 := Try.zeroValue24
  t46 := Try.underlying56
  a46 := Try.isAgg56
  z46 := Try.sizeOf56
  v46 := Try.zeroValue56
  t51 := Try.underlying68
  a51 := Try.isAgg68
  z51 := Try.sizeOf68
  v51 := Try.zeroValue68
  t53 := Try.underlying70
  a53 := Try.isAgg70
  z53 := Try.sizeOf70
  v53 := Try.zeroValue70
  t131 := Try.underlying50
  a131 := Try.isAgg50
  z131 := Try.sizeOf50
  v131 := Try.zeroValue50
  t182 := Try.underlying61
  a182 := Try.isAgg61
  z182 := Try.sizeOf61
  v182 := Try.zeroValue61
  t183 := Try.underlying62
  a183 := Try.isAgg62
  z183 := Try.sizeOf62
  v183 := Try.zeroValue62
  t218 := Try.underlying71
  a218 := Try.isAgg71
  z218 := Try.sizeOf71
  v218 := Try.zeroValue71
  t222 := Try.underlying75
  a222 := Try.isAgg75
  z222 := Try.sizeOf75
  v222 := Try.zeroValue75
  t228 := Try.underlying77
  a228 := Try.isAgg77
  z228 := Try.sizeOf77
  v228 := Try.zeroValue77
  t229 := Try.underlying78
  a229 := Try.isAgg78
  z229 := Try.sizeOf78
  v229 := Try.zeroValue78 }
/-- From what the three calls leave to a row of one's own. -/
theorem risen_own {w w1 : World} {g cap n nn q : Nat} {os : Array Obj} {l : List Int} (hown : w1.ownsRow w.heap.size 3 1 (.slice (some ⟨g, 0, none⟩) n cap) n (l.map (Value.int .i64))) (hbel : Below w.heap.size w w1) (hlen : l.length = n) :
    OwnedI w.heap.size w (Sort.putRow (Value.int .i64) (Sort.ahead (Sort.grow (Sort.putRow (Value.int .i64) (Sort.ahead w1 nn) g 0 (l.mergeSort fun x y => decide (x ≤ y)).toArray) os) q) g 0 (Lib.compact (l.mergeSort fun x y => decide (x ≤ y)) ++ List.replicate (n - (Lib.compact (l.mergeSort fun x y => decide (x ≤ y))).length) 0).toArray)
      (.slice (some ⟨g, 0, none⟩) (risen l).length cap) (risen l) := by
  have hl2 : (l.mergeSort fun x y => decide (x ≤ y)).length = l.length := List.length_mergeSort l
  have hle := Lib.compact_length_le (l.mergeSort fun x y => decide (x ≤ y))
  subst hlen
  rcases hown.2 with ⟨h0, _⟩ | ⟨g', cap', cur, hv, hbase, hb, h1, h2, h3, h4⟩
  · cases h0
  cases hv
  have hs := ownsRow_sortedI (n := nn) (os := os) (ts := l.mergeSort fun x y => decide (x ≤ y)) hl2 hbase hb h1 h2 h3
  have hc := Lib.ownsRow_putRow (q := q) (k := (Lib.compact (l.mergeSort fun x y => decide (x ≤ y))).length) (ys := Lib.compact (l.mergeSort fun x y => decide (x ≤ y)) ++ List.replicate (l.length - (Lib.compact (l.mergeSort fun x y => decide (x ≤ y))).length) 0) hs (by simp; omega) (by omega)
  rw [List.take_left] at hc
  refine ⟨hc, Lib.below_putRow (hbel.grown (grownBy_sortedI _) hbel.size (fun j hj => by cases hj; exact hbase)) hbase, ?_⟩
  have := hbel.size
  simp [Sort.putRow, Sort.mapBlock, Sort.ahead]
  omega
set_option maxRecDepth 100000 in
set_option maxHeartbeats 1600000 in
theorem trising_tail (arg : Value) (n : Nat) (l : List Int) (w : World) (hn : n ≤ 4611686018427387903)
    (hclone : Calls Try.prog 18 #[arg] w fun e w' => ∃ v', e = .returned v' ∧ w'.ownsRow w.heap.size 3 1 v' n (l.map (Value.int .i64)) ∧ v' ≠ .slice none 0 0 ∧ Below w.heap.size w w') :
    Calls Try.prog 12 #[arg] w fun e w' => ∃ v, e = .returned v ∧ OwnedI w.heap.size w w' v (risen l) := by
  have HC := hid hclone
  clear hclone
  go_enter Try.func12, Try.ntmps12
  go_wp2_with (first
    | (go_at_call 20; have := H2; refine H2.out.mono ?_; rintro e w3 ⟨rfl, q, rfl⟩)
    | (go_at_call 19; have := H1; refine H1.out.2.2.2.mono ?_; rintro e w2 ⟨rfl, nn, os, rfl⟩
       have H2 : Hid (Calls Try.prog 20 #[.slice (some ⟨g, 0, none⟩) n cap] (Sort.grow (Sort.putRow (Value.int .i64) (Sort.ahead w1 nn) g 0 (l.mergeSort fun x y => decide (x ≤ y)).toArray) os) fun e w' => e = .returned (.slice (some ⟨g, 0, none⟩) (Lib.compact (l.mergeSort fun x y => decide (x ≤ y))).length cap) ∧ ∃ q, w' = Sort.putRow (Value.int .i64) (Sort.ahead (Sort.grow (Sort.putRow (Value.int .i64) (Sort.ahead w1 nn) g 0 (l.mergeSort fun x y => decide (x ≤ y)).toArray) os) q) g 0 (Lib.compact (l.mergeSort fun x y => decide (x ≤ y)) ++ List.replicate (n - (Lib.compact (l.mergeSort fun x y => decide (x ≤ y))).length) 0).toArray) := hid (by
         have hl2 : (l.mergeSort fun x y => decide (x ≤ y)).length = n := by rw [List.length_mergeSort]; exact HX.out.2.2.1
         have hH2 : Sort.Holds (Value.int .i64) (Sort.grow (Sort.putRow (Value.int .i64) (Sort.ahead w1 nn) g 0 (l.mergeSort fun x y => decide (x ≤ y)).toArray) os) g 0 (l.mergeSort fun x y => decide (x ≤ y)).toArray :=
           Sort.holds_grow (Value.int .i64) _ os g 0 _ (by simpa [Sort.putRow, Sort.mapBlock, Sort.ahead] using HX.out.1) (Sort.holds_putRow (Value.int .i64) _ g 0 _ _ (Sort.holds_ahead (Value.int .i64) w1 nn g 0 _ HX.out.2.2.2) (by simp))
         have h := Any.slices_Compact_int layL2n20 g 0 cap (l.mergeSort fun x y => decide (x ≤ y)) _ hH2 (by omega) (by have := HX.out.2.1; omega)
         rw [hl2] at h
         exact h))
    | (go_at_call 18; refine HC.out.mono ?_; rintro e w1 ⟨v1, rfl, hown, hnn, hbel⟩
       obtain ⟨g, cap, rfl, hbg, hgl, hncap, hcm, hlen, hH⟩ := Lib.holds_of_ownsRow hown hnn
       have hsort := Any.slices_Sort_int layLn189 g 0 cap l w1 hH hgl (by omega)
       rw [hlen] at hsort
       have H1 := hid (And.intro hown (And.intro hbel (And.intro hlen hsort)))
       have HX : Hid (g < w1.heap.size ∧ n ≤ cap ∧ l.length = n ∧ Sort.Holds (Value.int .i64) w1 g 0 l.toArray) := hid ⟨hgl, hncap, hlen, hH⟩
       clear hown hbel hH hnn hlen hsort hbg hgl hncap hcm))
  go_ret
  exact ⟨_, rfl, risen_own H1.out.1 H1.out.2.1 H1.out.2.2.1⟩
theorem risen_nil : risen [] = [] := by simp [risen, Lib.compact, Lib.compactUpTo]
set_option maxRecDepth 100000 in
set_option maxHeartbeats 1600000 in
theorem trising_any (a : Option Addr) (n cap : Nat) (l : List Int) (hn : l.length = n) (hb : n * 8 ≤ 140737488355328) (w : World) (hI : IntsIn w a l) :
    Calls Try.prog 12 #[.slice a n cap] w fun e w' => ∃ v, e = .returned v ∧ OwnedI w.heap.size w w' v (risen l) := by
  rcases hI with rfl | ⟨g, off, rfl, hg, hc⟩
  · obtain rfl : 0 = n := hn
    cases a with
    | some ad => exact trising_tail _ 0 [] w (by omega) (Any.slices_Clone_int_zero layL2n15 ad cap w)
    | none =>
      rw [risen_nil]
      clear hb
      go_enter Try.func12, Try.ntmps12
      go_wp2_with (first
        | (go_at_call 20; refine (Any.slices_Compact_int_empty layL2n20 none 0 _).mono ?_; rintro e w3 ⟨rfl, rfl⟩)
        | (go_at_call 19; refine (Any.slices_Sort_int_none layLn189 none 0 _).mono ?_; rintro e w3 ⟨rfl, rfl⟩)
        | (go_at_call 18; refine (Any.slices_Clone_int_nil layL2n15 0 cap _).mono ?_; rintro e w3 ⟨rfl, rfl⟩))
      go_ret
      exact ⟨_, rfl, OwnedI.nil (Below.refl _ _) (Nat.le_refl _)⟩
  · have h := Any.slices_Clone_int layL2n15 g off n cap l w (by omega) hb (fun j hj => hc j _ (getD_some hj))
    rw [List.take_of_length_le (by omega)] at h
    exact trising_tail _ n l w (by omega) h
/-- A search by halves in a rising list. -/
theorem searchR_any (a : Option Addr) (n cap : Nat) (l : List Int) (hn : l.length = n) (hm : n * 8 ≤ 140737488355328) (hs : Inc l) (id : Int) (w : World) (hI : IntsIn w a l) :
    Calls Try.prog 21 #[.slice a n cap, .int .i64 id] w fun e w' => ∃ k : Int, e = .returned (.tuple #[.int .i64 k, .bool (hasM l id)]) ∧ Below w.heap.size w w' := by
  rcases hI with rfl | ⟨g, off, rfl, hg, hc⟩
  · obtain rfl : 0 = n := hn
    refine (Any.slices_BinarySearch_int_empty layL2n25 a cap id w).mono ?_
    rintro e w' ⟨rfl, rfl⟩
    exact ⟨0, rfl, Below.refl _ _⟩
  · have h := Any.slices_BinarySearch_int layL2n25 g off n cap l id w (by omega) (by omega) (fun j hj => hc j _ (getD_some hj)) (by rw [← hn, List.take_length]; exact hs.imp (fun h => Int.le_of_lt h))
    refine h.mono ?_
    rintro e w' ⟨rfl, q, rfl⟩
    refine ⟨((l.countP (· < id) : Nat) : Int), ?_, ⟨rfl, rfl, rfl, Nat.le_refl _, fun _ _ => rfl⟩⟩
    rw [← hn, List.take_length, show l.contains id = hasM l id by rw [hasM, List.contains_eq_mem]]
theorem tisAmong_any (a : Option Addr) (n cap : Nat) (l : List Int) (hn : l.length = n) (hm : n * 8 ≤ 140737488355328) (hs : Inc l) (id : Int) (w : World) (hI : IntsIn w a l) :
    Calls Try.prog 13 #[.slice a n cap, .int .i64 id] w fun e w' => e = .returned (.bool (hasM l id)) ∧ Below w.heap.size w w' := by
  have HC := hid (searchR_any a n cap l hn hm hs id w hI)
  clear hI hn hm hs
  go_enter Try.func13, Try.ntmps13
  go_wp2_with (go_at_call 21; refine HC.out.mono ?_; rintro e wx ⟨k, rfl, hb⟩; have H1 := hid hb; clear hb)
  go_ret
  exact ⟨rfl, H1.out⟩
end Go.Proofs.Ytgnapfgiefdlaab
