/- The program's: numbers sorted, each once, in new memory; is one among them. -/
import Derived.Test.YtgnapfgiefdlaaaTsA
import Derived.Test.YtgnapfgiefdlaaaCoS
import Derived.Test.YtgnapfgiefdlaaaCoT
import Derived.Shelf.Slices.Clone
import Derived.Shelf.Slices.CompactI
import Derived.Shelf.Slices.Empties
import Derived.Shelf.Slices.In.SortNone
import Derived.Shelf.Sort.Plain
import Derived.Sort.OwnSortedInts
import Derived.Lib.OwnBridge
namespace Go.Proofs.Ytgnapfgiefdlaaa
open Go.RowKit

def renL2n15 : Go.Shelf.Ren := ⟨fun | 15 => 39 | n => n, fun | 3 => 3 | 4 => 4 | 22 => 22 | n => n, fun | n => n⟩
theorem layL2n15 : Go.Proofs.Lays2.n15 Try.prog renL2n15 := {
  mixed := by kernel_rfl
  f15 := Try.func39.trans (congrArg some (by kernel_rfl))
  t3 := Try.underlying3
  a3 := Try.isAgg3
  z3 := Try.sizeOf3
  v3 := Try.zeroValue3
  t4 := Try.underlying4
  a4 := Try.isAgg4
  z4 := Try.sizeOf4
  v4 := Try.zeroValue4
  t22 := Try.underlying22
  a22 := Try.isAgg22
  z22 := Try.sizeOf22
  v22 := Try.zeroValue22
  i3 := by kernel_rfl }
def renL2n20 : Go.Shelf.Ren := ⟨fun | 20 => 41 | n => n, fun | 0 => 0 | 3 => 3 | 4 => 4 | 22 => 22 | n => n, fun | n => n⟩
theorem layL2n20 : Go.Proofs.Lays2.n20 Try.prog renL2n20 := {
  mixed := by kernel_rfl
  f20 := Try.func41.trans (congrArg some (by kernel_rfl))
  t0 := Try.underlying0
  a0 := Try.isAgg0
  z0 := Try.sizeOf0
  v0 := Try.zeroValue0
  t3 := Try.underlying3
  a3 := Try.isAgg3
  z3 := Try.sizeOf3
  v3 := Try.zeroValue3
  t4 := Try.underlying4
  a4 := Try.isAgg4
  z4 := Try.sizeOf4
  v4 := Try.zeroValue4
  t22 := Try.underlying22
  a22 := Try.isAgg22
  z22 := Try.sizeOf22
  v22 := Try.zeroValue22
  i3 := by kernel_rfl }
def renLn189 : Go.Shelf.Ren := ⟨fun | 125 => 46 | 128 => 57 | 129 => 58 | 189 => 40 | 215 => 59 | 216 => 47 | 257 => 45 | 294 => 49 | 295 => 50 | 296 => 51 | 297 => 52 | 298 => 53 | 299 => 54 | 300 => 55 | 301 => 56 | 328 => 60 | 329 => 61 | 330 => 62 | 331 => 63 | 332 => 64 | 343 => 65 | n => n, fun | 0 => 0 | 3 => 3 | 4 => 4 | 5 => 5 | 9 => 9 | 28 => 22 | 46 => 38 | 51 => 78 | 53 => 80 | 131 => 63 | 182 => 71 | 183 => 72 | 218 => 81 | 222 => 85 | 228 => 87 | 229 => 88 | n => n, fun | n => n⟩
theorem layLn189 : Go.Proofs.Lays.n189 Try.prog renLn189 := {
  mixed := by kernel_rfl
  f125 := Try.func46.trans (congrArg some (by kernel_rfl))
  f128 := Try.func57.trans (congrArg some (by kernel_rfl))
  f129 := Try.func58.trans (congrArg some (by kernel_rfl))
  f189 := Try.func40.trans (congrArg some (by kernel_rfl))
  f215 := Try.func59.trans (congrArg some (by kernel_rfl))
  f216 := Try.func47.trans (congrArg some (by kernel_rfl))
  f257 := Try.func45.trans (congrArg some (by kernel_rfl))
  f294 := Try.func49.trans (congrArg some (by kernel_rfl))
  f295 := Try.func50.trans (congrArg some (by kernel_rfl))
  f296 := Try.func51.trans (congrArg some (by kernel_rfl))
  f297 := Try.func52.trans (congrArg some (by kernel_rfl))
  f298 := Try.func53.trans (congrArg some (by kernel_rfl))
  f299 := Try.func54.trans (congrArg some (by kernel_rfl))
  f300 := Try.func55.trans (congrArg some (by kernel_rfl))
  f301 := Try.func56.trans (congrArg some (by kernel_rfl))
  f328 := Try.func60.trans (congrArg some (by kernel_rfl))
  f329 := Try.func61.trans (congrArg some (by kernel_rfl))
  f330 := Try.func62.trans (congrArg some (by kernel_rfl))
  f331 := Try.func63.trans (congrArg some (by kernel_rfl))
  f332 := Try.func64.trans (congrArg some (by kernel_rfl))
  f343 := Try.func65.trans (congrArg some (by kernel_rfl))
  t0 := Try.underlying0
  a0 := Try.isAgg0
  z0 := Try.sizeOf0
  v0 := Try.zeroValue0
  t3 := Try.underlying3
  a3 := Try.isAgg3
  z3 := Try.sizeOf3
  v3 := Try.zeroValue3
  t4 := Try.underlying4
  a4 := Try.isAgg4
  z4 := Try.sizeOf4
  v4 := Try.zeroValue4
  t5 := Try.underlying5
  a5 := Try.isAgg5
  z5 := Try.sizeOf5
  v5 := Try.zeroValue5
  t9 := Try.underlying9
  a9 := Try.isAgg9
  z9 := Try.sizeOf9
  v9 := Try.zeroValue9
  t28 := Try.underlying22
  a28 := Try.isAgg22
  z28 := Try.sizeOf22
  v28 := Try.zeroValue22
  t46 := Try.underlying38
  a46 := Try.isAgg38
  z46 := Try.sizeOf38
  v46 := Try.zeroValue38
  t51 := Try.underlying78
  a51 := Try.isAgg78
  z51 := Try.sizeOf78
  v51 := Try.zeroValue78
  t53 := Try.underlying80
  a53 := Try.isAgg80
  z53 := Try.sizeOf80
  v53 := Try.zeroValue80
  t131 := Try.underlying63
  a131 := Try.isAgg63
  z131 := Try.sizeOf63
  v131 := Try.zeroValue63
  t182 := Try.underlying71
  a182 := Try.isAgg71
  z182 := Try.sizeOf71
  v182 := Try.zeroValue71
  t183 := Try.underlying72
  a183 := Try.isAgg72
  z183 := Try.sizeOf72
  v183 := Try.zeroValue72
  t218 := Try.underlying81
  a218 := Try.isAgg81
  z218 := Try.sizeOf81
  v218 := Try.zeroValue81
  t222 := Try.underlying85
  a222 := Try.isAgg85
  z222 := Try.sizeOf85
  v222 := Try.zeroValue85
  t228 := Try.underlying87
  a228 := Try.isAgg87
  z228 := Try.sizeOf87
  v228 := Try.zeroValue87
  t229 := Try.underlying88
  a229 := Try.isAgg88
  z229 := Try.sizeOf88
  v229 := Try.zeroValue88 }
/-- From what the three calls leave to a row of one's own. -/
theorem risen_own {w w1 : World} {g cap n nn q : Nat} {os : Array Obj} {l : List Int} (hown : w1.ownsRow w.heap.size 3 1 (.slice (some ⟨g, 0, none⟩) n cap) n (l.map (Value.int .i64))) (hbel : Below w.heap.size w w1) (hlen : l.length = n) :
    OwnedI w.heap.size w (Sort.putRow (Value.int .i64) (Sort.ahead (Sort.grow (Sort.putRow (Value.int .i64) (Sort.ahead w1 nn) g 0 (l.mergeSort fun x y => decide (x ≤ y)).toArray) os) q) g 0 (Lib.compact (l.mergeSort fun x y => decide (x ≤ y)) ++ List.replicate (n - (Lib.compact (l.mergeSort fun x y => decide (x ≤ y))).length) 0).toArray)
      (.slice (some ⟨g, 0, none⟩) (risen l).length cap) (risen l) := by
  have hl2 : (l.mergeSort fun x y => decide (x ≤ y)).length = l.length := List.length_mergeSort l
  have hle := Lib.compact_length_le (l.mergeSort fun x y => decide (x ≤ y))
  subst hlen
  rcases hown.2 with ⟨h0, _⟩ | ⟨g', cap', cur, hv, hbase, hb, h1, h2, h3, h4⟩
  · cases h0
  cases hv
  have hs := ownsRow_sortedI (n := nn) (os := os) (ts := l.mergeSort fun x y => decide (x ≤ y)) hl2 hbase hb h1 h2 h3
  have hc := Lib.ownsRow_putRow (q := q) (k := (Lib.compact (l.mergeSort fun x y => decide (x ≤ y))).length) (ys := Lib.compact (l.mergeSort fun x y => decide (x ≤ y)) ++ List.replicate (l.length - (Lib.compact (l.mergeSort fun x y => decide (x ≤ y))).length) 0) hs (by simp; omega) (by omega)
  rw [List.take_left] at hc
  refine ⟨hc, Lib.below_putRow (hbel.grown (grownBy_sortedI _) hbel.size (fun j hj => by cases hj; exact hbase)) hbase, ?_⟩
  have := hbel.size
  simp [Sort.putRow, Sort.mapBlock, Sort.ahead]
  omega
set_option maxRecDepth 100000 in
set_option maxHeartbeats 1600000 in
theorem trising_tail (arg : Value) (n : Nat) (l : List Int) (w : World) (hn : n ≤ 4611686018427387903)
    (hclone : Calls Try.prog 39 #[arg] w fun e w' => ∃ v', e = .returned v' ∧ w'.ownsRow w.heap.size 3 1 v' n (l.map (Value.int .i64)) ∧ v' ≠ .slice none 0 0 ∧ Below w.heap.size w w') :
    Calls Try.prog 32 #[arg] w fun e w' => ∃ v, e = .returned v ∧ OwnedI w.heap.size w w' v (risen l) := by
  have HC := hid hclone
  clear hclone
  go_enter Try.func32, Try.ntmps32
  go_wp2_with (first
    | (go_at_call 41; have := H2; refine H2.out.mono ?_; rintro e w3 ⟨rfl, q, rfl⟩)
    | (go_at_call 40; have := H1; refine H1.out.2.2.2.mono ?_; rintro e w2 ⟨rfl, nn, os, rfl⟩
       have H2 : Hid (Calls Try.prog 41 #[.slice (some ⟨g, 0, none⟩) n cap] (Sort.grow (Sort.putRow (Value.int .i64) (Sort.ahead w1 nn) g 0 (l.mergeSort fun x y => decide (x ≤ y)).toArray) os) fun e w' => e = .returned (.slice (some ⟨g, 0, none⟩) (Lib.compact (l.mergeSort fun x y => decide (x ≤ y))).length cap) ∧ ∃ q, w' = Sort.putRow (Value.int .i64) (Sort.ahead (Sort.grow (Sort.putRow (Value.int .i64) (Sort.ahead w1 nn) g 0 (l.mergeSort fun x y => decide (x ≤ y)).toArray) os) q) g 0 (Lib.compact (l.mergeSort fun x y => decide (x ≤ y)) ++ List.replicate (n - (Lib.compact (l.mergeSort fun x y => decide (x ≤ y))).length) 0).toArray) := hid (by
         have hl2 : (l.mergeSort fun x y => decide (x ≤ y)).length = n := by rw [List.length_mergeSort]; exact HX.out.2.2.1
         have hH2 : Sort.Holds (Value.int .i64) (Sort.grow (Sort.putRow (Value.int .i64) (Sort.ahead w1 nn) g 0 (l.mergeSort fun x y => decide (x ≤ y)).toArray) os) g 0 (l.mergeSort fun x y => decide (x ≤ y)).toArray :=
           Sort.holds_grow (Value.int .i64) _ os g 0 _ (by simpa [Sort.putRow, Sort.mapBlock, Sort.ahead] using HX.out.1) (Sort.holds_putRow (Value.int .i64) _ g 0 _ _ (Sort.holds_ahead (Value.int .i64) w1 nn g 0 _ HX.out.2.2.2) (by simp))
         have h := Any.slices_Compact_int layL2n20 g 0 cap (l.mergeSort fun x y => decide (x ≤ y)) _ hH2 (by omega) (by have := HX.out.2.1; omega)
         rw [hl2] at h
         exact h))
    | (go_at_call 39; refine HC.out.mono ?_; rintro e w1 ⟨v1, rfl, hown, hnn, hbel⟩
       obtain ⟨g, cap, rfl, hbg, hgl, hncap, hcm, hlen, hH⟩ := Lib.holds_of_ownsRow hown hnn
       have hsort := Any.slices_Sort_int layLn189 g 0 cap l w1 hH hgl (by omega)
       rw [hlen] at hsort
       have H1 := hid (And.intro hown (And.intro hbel (And.intro hlen hsort)))
       have HX : Hid (g < w1.heap.size ∧ n ≤ cap ∧ l.length = n ∧ Sort.Holds (Value.int .i64) w1 g 0 l.toArray) := hid ⟨hgl, hncap, hlen, hH⟩
       clear hown hbel hH hnn hlen hsort hbg hgl hncap hcm))
  go_ret
  exact ⟨_, rfl, risen_own H1.out.1 H1.out.2.1 H1.out.2.2.1⟩
theorem risen_nil : risen [] = [] := by simp [risen, Lib.compact, Lib.compactUpTo]
set_option maxRecDepth 100000 in
set_option maxHeartbeats 1600000 in
theorem trising_any (a : Option Addr) (n cap : Nat) (l : List Int) (hn : l.length = n) (hb : n * 8 ≤ 140737488355328) (w : World) (hI : IntsIn w a l) :
    Calls Try.prog 32 #[.slice a n cap] w fun e w' => ∃ v, e = .returned v ∧ OwnedI w.heap.size w w' v (risen l) := by
  rcases hI with rfl | ⟨g, off, rfl, hg, hc⟩
  · obtain rfl : 0 = n := hn
    cases a with
    | some ad => exact trising_tail _ 0 [] w (by omega) (Any.slices_Clone_int_zero layL2n15 ad cap w)
    | none =>
      rw [risen_nil]
      clear hb
      go_enter Try.func32, Try.ntmps32
      go_wp2_with (first
        | (go_at_call 41; refine (Any.slices_Compact_int_empty layL2n20 none 0 _).mono ?_; rintro e w3 ⟨rfl, rfl⟩)
        | (go_at_call 40; refine (Any.slices_Sort_int_none layLn189 none 0 _).mono ?_; rintro e w3 ⟨rfl, rfl⟩)
        | (go_at_call 39; refine (Any.slices_Clone_int_nil layL2n15 0 cap _).mono ?_; rintro e w3 ⟨rfl, rfl⟩))
      go_ret
      exact ⟨_, rfl, OwnedI.nil (Below.refl _ _) (Nat.le_refl _)⟩
  · have h := Any.slices_Clone_int layL2n15 g off n cap l w (by omega) hb (fun j hj => hc j _ (getD_some hj))
    rw [List.take_of_length_le (by omega)] at h
    exact trising_tail _ n l w (by omega) h
/-- A search by halves in a rising list. -/
theorem searchR_any (a : Option Addr) (n cap : Nat) (l : List Int) (hn : l.length = n) (hm : n * 8 ≤ 140737488355328) (hs : Inc l) (id : Int) (w : World) (hI : IntsIn w a l) :
    Calls Try.prog 42 #[.slice a n cap, .int .i64 id] w fun e w' => ∃ k : Int, e = .returned (.tuple #[.int .i64 k, .bool (hasM l id)]) ∧ Below w.heap.size w w' := by
  rcases hI with rfl | ⟨g, off, rfl, hg, hc⟩
  · obtain rfl : 0 = n := hn
    refine (Any.slices_BinarySearch_int_empty layL2n25 a cap id w).mono ?_
    rintro e w' ⟨rfl, rfl⟩
    exact ⟨0, rfl, Below.refl _ _⟩
  · have h := Any.slices_BinarySearch_int layL2n25 g off n cap l id w (by omega) (by omega) (fun j hj => hc j _ (getD_some hj)) (by rw [← hn, List.take_length]; exact hs.imp (fun h => Int.le_of_lt h))
    refine h.mono ?_
    rintro e w' ⟨rfl, q, rfl⟩
    refine ⟨((l.countP (· < id) : Nat) : Int), ?_, ⟨rfl, rfl, rfl, Nat.le_refl _, fun _ _ => rfl⟩⟩
    rw [← hn, List.take_length, show l.contains id = hasM l id by rw [hasM, List.contains_eq_mem]]
theorem tisAmong_any (a : Option Addr) (n cap : Nat) (l : List Int) (hn : l.length = n) (hm : n * 8 ≤ 140737488355328) (hs : Inc l) (id : Int) (w : World) (hI : IntsIn w a l) :
    Calls Try.prog 34 #[.slice a n cap, .int .i64 id] w fun e w' => e = .returned (.bool (hasM l id)) ∧ Below w.heap.size w w' := by
  have HC := hid (searchR_any a n cap l hn hm hs id w hI)
  clear hI hn hm hs
  go_enter Try.func34, Try.ntmps34
  go_wp2_with (go_at_call 42; refine HC.out.mono ?_; rintro e wx ⟨k, rfl, hb⟩; have H1 := hid hb; clear hb)
  go_ret
  exact ⟨rfl, H1.out⟩
end Go.Proofs.Ytgnapfgiefdlaaa
