/- Texts laid together: CoC CoD CoE MwA MwB PkB MwC CoG MrR GnI CoH CoJ WiA CoF CoI. -/
import Derived.Test.YthjgnfeadagmeaaGreatOa1
import Derived.Deep.QuietTactic
import Derived.Laws.MakeOwn
import Derived.Maps.AppendAt
import Derived.Lib.AppendStr
import Derived.Deep.AppendSrc
import Derived.BigQuiet
import Derived.Deep.RegionLaw
/- The document's members. -/
namespace Go.Proofs.YthjgnfeadagmeaaGreat
open Go.RowKit

set_option maxRecDepth 100000 in
set_option maxHeartbeats 3200000 in
theorem vmembers_any (a : Option Addr) (n cap : Nat) (l : List Int) (hn : l.length = n) (hm : n ≤ maxLen) (w : World) (hI : IntsIn w a l) :
    Calls Tryz.prog 50 #[.slice a n cap] w fun e w' => e = .returned (.bool (memB l)) ∧ Below w.heap.size w w' := by
  have hm2 : (n : Int) ≤ 9223372036854775807 := by unfold maxLen at hm; omega
  have HI := hid hI
  have HN := hid hn
  clear hI hm hn
  go_enter Tryz.func50, Tryz.ntmps50
  go_wp2
  go_loopw [3] (fun i wr => ∃ j : Nat, j ≤ n ∧ i = .int .i64 (j : Int) ∧ okTo l j = true ∧ Below w.heap.size w wr)
    (fun i _ => ((n : Int) - intOf i).toNat)
  case atStart => exact ⟨0, by omega, rfl, rfl, Below.refl _ _⟩
  case round =>
    obtain ⟨j, hj, rfl, hok, hbel⟩ := hrel
    have HB := hid hbel
    clear hbel
    by_cases hjn : j = n
    · have hj1 : ¬ ((j : Int) < (n : Int)) := by omega
      rw [hjn] at hok
      by_cases h4 : 4 ≤ n
      · by_cases h10 : n ≤ 10
        · have k4 : (4 : Int) ≤ (n : Int) := by omega
          have k10 : (n : Int) ≤ 10 := by omega
          have HF : Hid (memB l = true) := hid (by rw [memB, HN.out, hok, decide_eq_true (And.intro h4 h10)]; rfl)
          clear hok hj hjn h4 h10
          go_wp2
          go_ret
          exact ⟨by rw [HF.out]; rfl, HB.out⟩
        · have k4 : (4 : Int) ≤ (n : Int) := by omega
          have k10 : ¬ ((n : Int) ≤ 10) := by omega
          have HF : Hid (memB l = false) := hid (by rw [memB, HN.out, decide_eq_false (fun h => h10 h.2)]; simp)
          clear hok hj hjn h4 h10
          go_wp2
          go_ret
          exact ⟨by rw [HF.out]; rfl, HB.out⟩
      · have k4 : ¬ ((4 : Int) ≤ (n : Int)) := by omega
        have HF : Hid (memB l = false) := hid (by rw [memB, HN.out, decide_eq_false (fun h => h4 h.1)]; simp)
        clear hok hj hjn h4
        go_wp2
        go_ret
        exact ⟨by rw [HF.out]; rfl, HB.out⟩
    · have hj1 : (j : Int) < (n : Int) := by omega
      have hj0 : (0 : Int) ≤ (j : Int) := Int.natCast_nonneg _
      have hget : l[j]? = some (l.getD j 0) := by rw [List.getD_eq_getElem?_getD, List.getElem?_eq_getElem (by rw [HN.out]; omega)]; rfl
      obtain ⟨g, off, rfl, hg, hcell⟩ := HI.out.at j _ hget
      obtain ⟨x, ex⟩ : ∃ x, x = l.getD j 0 := ⟨_, rfl⟩
      rw [← ex] at hcell
      have cz : ∀ q : Cls wr, q.1.cell? ⟨g, off + j, none⟩ = some (.int .i64 x) := fun q => (q.2.cell (p := ⟨g, off + j, none⟩) (Nat.lt_of_lt_of_le hg HB.out.size)).trans ((HB.out.cell (p := ⟨g, off + j, none⟩) hg).trans hcell)
      clear hcell hget
      by_cases hx0 : x < 0
      · have d1 : decide (x < 0) = true := decide_eq_true hx0
        have HF : Hid (okTo l n = false) := hid (okTo_false l (j + 1) n (by rw [okTo_succ, okAt_no1 l j (by rw [← ex]; omega)]; simp) (by omega))
        clear hok hj hjn ex
        go_wp2
        haveI := Cls.ne wr
        refine wp_region_cls wr (by kernel_rfl) (by kernel_rfl) ?_
        repeat (go_big_quiet_step ((fail)))
        refine wpQuiet_nil ?_
        rintro _ ⟨q, rfl⟩
        go_wp2
        go_ret
        exact ⟨by rw [memB, HN.out, HF.out]; rfl, HB.out.trans (q.2.mono HB.out.size)⟩
      by_cases hx16 : 16 ≤ x
      · have d1 : decide (x < 0) = false := decide_eq_false hx0
        have d2 : decide ((16 : Int) ≤ x) = true := decide_eq_true hx16
        have HF : Hid (okTo l n = false) := hid (okTo_false l (j + 1) n (by rw [okTo_succ, okAt_no1 l j (by rw [← ex]; omega)]; simp) (by omega))
        clear hok hj hjn ex
        go_wp2
        haveI := Cls.ne wr
        refine wp_region_cls wr (by kernel_rfl) (by kernel_rfl) ?_
        repeat (go_big_quiet_step ((fail)))
        refine wpQuiet_nil ?_
        rintro _ ⟨q, rfl⟩
        go_wp2
        go_ret
        exact ⟨by rw [memB, HN.out, HF.out]; rfl, HB.out.trans (q.2.mono HB.out.size)⟩
      have d1 : decide (x < 0) = false := decide_eq_false hx0
      have d2 : decide ((16 : Int) ≤ x) = false := decide_eq_false hx16
      by_cases hz : j = 0
      · have d4 : decide (0 < j) = false := decide_eq_false (by omega)
        have HF : Hid (okTo l (j + 1) = true) := hid (by rw [okTo_succ, hok, show okAt l j = true by (have hx : l.getD 0 0 = x := by rw [ex, hz]); rw [hz]; exact okAt_yes0 l (by rw [hx]; omega)]; rfl)
        have HJ := hid (And.intro hj hjn)
        clear hok hj hjn ex hz
        go_wp2
        haveI := Cls.ne wr
        refine wp_region_cls wr (by kernel_rfl) (by kernel_rfl) ?_
        repeat (go_big_quiet_step ((fail)))
        refine wpQuiet_nil ?_
        rintro _ ⟨q, rfl⟩
        go_wp2
        go_roundw
        case rel => exact ⟨j + 1, by have := HJ.out; omega, by go_num, HF.out, HB.out.trans (q.2.mono HB.out.size)⟩
        case measure => simp [intOf]; omega
      · obtain ⟨i, rfl⟩ : ∃ i, j = i + 1 := ⟨j - 1, by omega⟩
        have hgetp : l[i]? = some (l.getD i 0) := by rw [List.getD_eq_getElem?_getD, List.getElem?_eq_getElem (by rw [HN.out]; omega)]; rfl
        obtain ⟨g', off', eg, hg', hcellp⟩ := HI.out.at i _ hgetp
        obtain ⟨rfl, rfl⟩ : g = g' ∧ off = off' := by simp at eg; exact eg
        obtain ⟨y, ey⟩ : ∃ y, y = l.getD i 0 := ⟨_, rfl⟩
        rw [← ey] at hcellp
        have cy : ∀ q : Cls wr, q.1.cell? ⟨g, off + i, none⟩ = some (.int .i64 y) := fun q => (q.2.cell (p := ⟨g, off + i, none⟩) (Nat.lt_of_lt_of_le hg' HB.out.size)).trans ((HB.out.cell (p := ⟨g, off + i, none⟩) hg').trans hcellp)
        have hi0 : (0 : Int) < ((i + 1 : Nat) : Int) := by omega
        have hi1 : (i : Int) < (n : Int) := by omega
        have hi2 : (0 : Int) ≤ (i : Int) := by omega
        have d4 : decide ((0 : Int) < (i : Int) + 1) = true := decide_eq_true (by omega)
        clear hcellp hgetp eg hz
        by_cases hxy : x ≤ y
        · have d3 : decide (x ≤ y) = true := decide_eq_true hxy
          have HF : Hid (okTo l n = false) := hid (okTo_false l (i + 1 + 1) n (by rw [okTo_succ, okAt_no2 l (i + 1) (by omega) (by rw [← ex, show i + 1 - 1 = i from rfl, ← ey]; omega)]; simp) (by omega))
          clear hok hj hjn ex ey
          go_wp2
          haveI := Cls.ne wr
          refine wp_region_cls wr (by kernel_rfl) (by kernel_rfl) ?_
          repeat (go_big_quiet_step ((fail)))
          refine wpQuiet_nil ?_
          rintro _ ⟨q, rfl⟩
          go_wp2
          go_ret
          exact ⟨by rw [memB, HN.out, HF.out]; rfl, HB.out.trans (q.2.mono HB.out.size)⟩
        · have d3 : decide (x ≤ y) = false := decide_eq_false hxy
          have HF : Hid (okTo l (i + 1 + 1) = true) := hid (by rw [okTo_succ, hok, okAt_yes l (i + 1) (by rw [← ex]; omega) (by rw [← ex, show i + 1 - 1 = i from rfl, ← ey]; omega)]; rfl)
          have HJ := hid (And.intro hj hjn)
          clear hok hj hjn ex ey
          go_wp2
          haveI := Cls.ne wr
          refine wp_region_cls wr (by kernel_rfl) (by kernel_rfl) ?_
          repeat (go_big_quiet_step ((fail)))
          refine wpQuiet_nil ?_
          rintro _ ⟨q, rfl⟩
          go_wp2
          go_roundw
          case rel => exact ⟨i + 1 + 1, by have := HJ.out; omega, by go_num, HF.out, HB.out.trans (q.2.mono HB.out.size)⟩
          case measure => simp [intOf]; omega
end Go.Proofs.YthjgnfeadagmeaaGreat

/- The document's: who is a member, which configuration is right, who leads. -/
namespace Go.Proofs.YthjgnfeadagmeaaGreat
open Go.RowKit

theorem not_mem_snoc {l : List Int} {id : Int} {j : Nat} (h : id ∉ l.take j) (hx : l.getD j 0 ≠ id) (hj : j < l.length) : id ∉ l.take (j + 1) := by
  rw [List.take_add_one, List.getElem?_eq_getElem hj]
  rw [List.getD_eq_getElem?_getD, List.getElem?_eq_getElem hj] at hx
  intro hm
  rcases List.mem_append.1 hm with h1 | h1
  · exact h h1
  · simp at h1 hx
    exact hx h1.symm
theorem mem_of_get {l : List Int} {id : Int} {j : Nat} (hx : l.getD j 0 = id) (hj : j < l.length) : id ∈ l := by
  rw [List.getD_eq_getElem?_getD, List.getElem?_eq_getElem hj] at hx
  rw [← hx]
  exact List.getElem_mem hj
theorem getD_some {l : List Int} {j : Nat} (hj : j < l.length) : l[j]? = some (l.getD j 0) := by rw [List.getD_eq_getElem?_getD, List.getElem?_eq_getElem hj]; rfl
set_option maxRecDepth 100000 in
set_option maxHeartbeats 1600000 in
theorem vhas_any (a : Option Addr) (n cap : Nat) (l : List Int) (hn : l.length = n) (hm : n ≤ maxLen) (id : Int) (w : World) (hI : IntsIn w a l) :
    Calls Tryz.prog 27 #[.slice a n cap, .int .i64 id] w fun e w' => e = .returned (.bool (hasM l id)) ∧ w' = w := by
  have hm2 : (n : Int) ≤ 9223372036854775807 := by unfold maxLen at hm; omega
  have HI := hid hI
  have HN := hid hn
  clear hI hm hn
  go_enter Tryz.func27, Tryz.ntmps27
  go_wp2
  go_loopw [5] (fun i wr => ∃ j : Nat, j ≤ n ∧ i = .int .i64 (j : Int) ∧ id ∉ l.take j ∧ wr = w)
    (fun i _ => ((n : Int) - intOf i).toNat)
  case atStart => exact ⟨0, by omega, rfl, by simp, rfl⟩
  case round =>
    obtain ⟨j, hj, rfl, hno, rfl⟩ := hrel
    by_cases hjn : j = n
    · have hj1 : ¬ ((j : Int) < (n : Int)) := by omega
      have HF : Hid (hasM l id = false) := hid (decide_eq_false (by rwa [List.take_of_length_le (by rw [HN.out]; omega)] at hno))
      clear hno hj hjn
      go_wp2
      go_ret
      exact ⟨by rw [HF.out]; rfl, rfl⟩
    · have hj1 : (j : Int) < (n : Int) := by omega
      have hj0 : (0 : Int) ≤ (j : Int) := Int.natCast_nonneg _
      have hjl : j < l.length := by rw [HN.out]; omega
      obtain ⟨g, off, rfl, hg, cz⟩ := HI.out.at j _ (getD_some hjl)
      by_cases hx : l.getD j 0 = id
      · have HF : Hid (hasM l id = true) := hid (decide_eq_true (mem_of_get hx hjl))
        rw [hx] at cz
        clear hno hj hjn hx hjl hg
        go_wp2
        go_ret
        exact ⟨by rw [HF.out]; rfl, rfl⟩
      · have HF : Hid (id ∉ l.take (j + 1)) := hid (not_mem_snoc hno hx hjl)
        obtain ⟨x, ex⟩ : ∃ x, x = l.getD j 0 := ⟨_, rfl⟩
        rw [← ex] at cz hx
        have HJ := hid (And.intro hj hjn)
        clear hno hj hjn hjl hg ex
        go_wp2
        go_roundw
        case rel => exact ⟨j + 1, by have := HJ.out; omega, by go_num, HF.out, by first | exact rfl | exact trivial⟩
        case measure => simp [intOf]; omega
theorem IntsIn.alloc {w : World} {a : Option Addr} {l : List Int} (h : IntsIn w a l) (o : Obj) : IntsIn (w.alloc o) a l := h.keep ((Below.refl w.heap.size w).alloc (Nat.le_refl _) o) (Nat.le_refl _)
set_option maxRecDepth 100000 in
set_option maxHeartbeats 1600000 in
theorem vright_any (ep : Int) (a : Option Addr) (n cap : Nat) (l : List Int) (hn : l.length = n) (hm : n ≤ maxLen) (w : World) (hI : IntsIn w a l) :
    Calls Tryz.prog 90 #[.agg #[.int .i64 ep, .slice a n cap]] w fun e w' => e = .returned (.bool (rightC ep l)) ∧ Below w.heap.size w w' := by
  by_cases h0 : 0 ≤ ep
  · by_cases h60 : ep ≤ 60
    · have HM : Hid (∀ u : World, IntsIn u a l → Calls Tryz.prog 50 #[.slice a n cap] u fun e w' => e = .returned (.bool (memB l)) ∧ Below u.heap.size u w') := hid (fun u hu => vmembers_any a n cap l hn hm u hu)
      have HR : Hid (rightC ep l = memB l) := hid (by rw [rightC, decide_eq_true (And.intro h0 h60)]; rfl)
      have HI := hid hI
      rw [HR.out]
      generalize memB l = b at HM
      clear hI hn hm
      go_enter Tryz.func90, Tryz.ntmps90
      go_wp2_with (go_at_call 50; refine (HM.out _ (by exact HI.out.alloc _)).mono ?_; rintro e w1 ⟨rfl, hb1⟩; have H1 := hid (((Below.refl w.heap.size w).alloc (Nat.le_refl _) _).trans (hb1.mono (by simp))); clear hb1)
      go_ret
      exact ⟨rfl, H1.out⟩
    · have HR : Hid (rightC ep l = false) := hid (by rw [rightC, decide_eq_false (fun h => h60 h.2)]; rfl)
      rw [HR.out]
      clear hI hn hm
      go_enter Tryz.func90, Tryz.ntmps90
      go_wp2
      go_ret
      exact ⟨rfl, (Below.refl _ _).alloc (Nat.le_refl _) _⟩
  · have HR : Hid (rightC ep l = false) := hid (by rw [rightC, decide_eq_false (fun h => h0 h.1)]; rfl)
    rw [HR.out]
    clear hI hn hm
    go_enter Tryz.func90, Tryz.ntmps90
    go_wp2
    go_ret
    exact ⟨rfl, (Below.refl _ _).alloc (Nat.le_refl _) _⟩
end Go.Proofs.YthjgnfeadagmeaaGreat

/- The document's leaders. -/
namespace Go.Proofs.YthjgnfeadagmeaaGreat
open Go.RowKit

theorem right_mem {ep : Int} {l : List Int} (h : rightC ep l = true) : (0 ≤ ep ∧ ep ≤ 60) ∧ memB l = true := by
  obtain ⟨h1, h2⟩ := Bool.and_eq_true_iff.1 h
  exact ⟨of_decide_eq_true h1, h2⟩
theorem leadN_lt (l : List Int) (view : Int) (hl : 0 < l.length) : leadN l view < l.length ∧ view % (l.length : Int) = (leadN l view : Int) := by
  unfold leadN
  have h1 := Int.emod_nonneg view (show (l.length : Int) ≠ 0 by omega)
  have h2 := Int.emod_lt_of_pos view (show (0 : Int) < (l.length : Int) by omega)
  omega
/-- A struct of two cells, as laid. -/
theorem conf_cells (w : World) (ep s : Value) : (w.alloc (.cells #[ep, s] 94)).heap[w.heap.size]? = some (.cells [ep, s].toArray 94 (0, 0)) := heap_alloc_last w _
end Go.Proofs.YthjgnfeadagmeaaGreat

/- The document's writer (layer 1's reference): a number as bytes. -/
namespace Go.Proofs.YthjgnfeadagmeaaGreat
open Go.RowKit

theorem made_zero (n : Nat) : madeCells #[Value.int .u8 0] n = (List.replicate n (Value.int .u8 0)).toArray := by
  apply Array.ext'
  simp [madeCells]
  apply List.ext_getElem?
  intro i
  by_cases h : i < n
  · simp [h, Nat.mod_one]
  · simp [h]

/-- The cells of a number that is being written from its end. -/
def bigCells (k : Nat) (T : List UInt8) : Array Value := (List.replicate k (Value.int .u8 0) ++ bC T).toArray
theorem bigCells_set (j : Nat) (T : List UInt8) (c : UInt8) : (bigCells (j + 1) T).setIfInBounds j (.int .u8 (c.toNat : Int)) = bigCells j (c :: T) := by
  apply Array.ext'
  simp only [bigCells, Array.toList_setIfInBounds]
  rw [List.replicate_succ', List.append_assoc, List.set_append_right _ _ (by simp)]
  simp [bC]

set_option maxRecDepth 100000 in
set_option maxHeartbeats 1600000 in
theorem big_any (n s : Nat) (w : World) (hs : s ≤ 8) (hn : n < 18446744073709551616) :
    Calls Tryz.prog 125 #[.int .u64 n, .int .i64 s] w fun e w' => e = .returned (.slice (some ⟨w.heap.size, 0, none⟩) s s) ∧ w'.heap[w.heap.size]? = some (.cells (bC (be s n)).toArray 5 (0, 0)) ∧ Below w.heap.size w w' := by
  obtain ⟨i0, hi0, hz0, hz1, hz2⟩ := info_parts Tryz.info5
  have hmk : ∀ u : World, (Instr.makeSlice 160 (.int .i64 (s : Int)) (.int .i64 (s : Int))).run Tryz.prog u = .ok (.slice (some ⟨u.heap.size, 0, none⟩) s s) (u.alloc (.cells (bigCells s []) 5)) := fun u => by
    have h := run_make (P := Tryz.prog) u 160 5 i0 (.int .u8 0) Tryz.underlying160 hi0 hz0 .i64 .i64 (s : Int) (s : Int) (by omega) (Int.le_refl _) (by rw [hz2]; omega) (by omega)
    rw [hz1] at h
    simp only [Int.toNat_natCast, Nat.mul_one] at h
    rw [h]
    simp [Value.cells, made_zero, bigCells, bC]
  clear hi0 hz0 hz1 hz2
  have HN := hid hn
  clear hn
  go_enter Tryz.func125, Tryz.ntmps125
  go_wp2
  go_loopw [0, 6] (fun v i wr => ∃ (k m : Nat) (T : List UInt8), k ≤ s ∧ i = .int .i64 ((k : Int) - 1) ∧ v = .int .u64 (m : Int) ∧ m < 18446744073709551616 ∧ be k m ++ T = be s n ∧ wr.heap[w.heap.size]? = some (.cells (bigCells k T) 5 (0, 0)) ∧ Below w.heap.size w wr)
    (fun _ i _ => (intOf i + 1).toNat)
  case atStart => exact ⟨s, n, [], Nat.le_refl _, rfl, rfl, HN.out, by simp, heap_alloc_new w _, (Below.refl _ _).alloc (Nat.le_refl _) _⟩
  case round =>
    obtain ⟨k, m, T, hk, rfl, rfl, hm, hT, hblk, hbel⟩ := hrel
    have HT := hid hT
    have HR := hid (And.intro hblk hbel)
    clear hT hblk hbel
    cases k with
    | zero =>
      go_wp2
      go_ret
      refine ⟨rfl, ?_, HR.out.2⟩
      have e : T = be s n := by simpa [be] using HT.out
      rw [← e]
      simpa [bigCells] using HR.out.1
    | succ j =>
      have ej : (((j + 1 : Nat) : Int) - 1) = (j : Int) := by omega
      rw [ej]
      clear ej
      have hj0 : (0 : Int) ≤ (j : Int) := Int.natCast_nonneg _
      have hjs : (j : Int) < (s : Int) := by omega
      have hm0 : (0 : Int) ≤ (m : Int) := Int.natCast_nonneg _
      have cG : wr.cell? ⟨w.heap.size, j, none⟩ = some (.int .u8 0) := by
        have := cell_of_blk HR.out.1 j (by simp [bigCells]; omega)
        rw [this]
        simp [bigCells]
      have fG := free_of_blk HR.out.1 j
      go_wp2
      go_roundw
      case rel =>
        have hmod : (m : Int) % 256 = ((UInt8.ofNat m).toNat : Int) := by
          have e : (UInt8.ofNat m).toNat = m % 256 := by simp
          rw [e]; omega
        refine ⟨j, m / 256, UInt8.ofNat m :: T, by omega, rfl, ?_, by omega, ?_, ?_, ?_⟩
        · have e : (m : Int) / 256 = ((m / 256 : Nat) : Int) := by omega
          rw [e]
        · have := HT.out
          rw [be_snoc, List.append_assoc] at this
          exact this
        · have := HR.out.1
          simp [World.setCell, Array.getElem?_modify, this]
          rw [hmod, bigCells_set]
        · exact HR.out.2.setCell (Nat.le_refl _) _
      case measure => simp [intOf]

end Go.Proofs.YthjgnfeadagmeaaGreat

/- The contracts of the document's writer (layer 1's reference). -/
namespace Go.Proofs.YthjgnfeadagmeaaGreat
open Go.RowKit

/-- The document's writer at block c. -/
structure MwAt (w : World) (c : Nat) (v : Value) (lim : Int) (l : List UInt8) (er : Int) : Prop where
  blk : w.heap[c]? = some (.cells #[v, .int .i64 lim, .int .i64 er] 172 (0, 0))
  own : w.ownsRow (c + 1) 5 1 v l.length (bC l)

section
variable {w : World} {c : Nat} {v : Value} {lim : Int} {l : List UInt8} {er : Int}
theorem MwAt.lt (h : MwAt w c v lim l er) : c < w.heap.size := lt_of_blk h.blk
theorem MwAt.c0 (h : MwAt w c v lim l er) : w.cell? ⟨c, 0, none⟩ = some v := cell_of_blk h.blk 0 (by simp)
theorem MwAt.c1 (h : MwAt w c v lim l er) : w.cell? ⟨c, 1, none⟩ = some (.int .i64 lim) := cell_of_blk h.blk 1 (by simp)
theorem MwAt.c2 (h : MwAt w c v lim l er) : w.cell? ⟨c, 2, none⟩ = some (.int .i64 er) := cell_of_blk h.blk 2 (by simp)
theorem MwAt.fr (h : MwAt w c v lim l er) (j : Nat) : w.frozen? ⟨c, j, none⟩ = false := free_of_blk h.blk j
theorem MwAt.alloc (h : MwAt w c v lim l er) (o : Obj) : MwAt (w.alloc o) c v lim l er := ⟨(Below.heap_alloc w o c h.lt).trans h.blk, h.own.alloc o⟩
theorem MwAt.drew (h : MwAt w c v lim l er) : MwAt w.drew c v lim l er := ⟨h.blk, ownsRow_of_heap rfl h.own⟩
theorem MwAt.err (h : MwAt w c v lim l er) (u : Int) : MwAt (w.setCell ⟨c, 2, none⟩ (.int .i64 u)) c v lim l u :=
  ⟨by have := h.blk; simp [World.setCell, Array.getElem?_modify, this], ownsRow_setCell_below h.own (by show c < c + 1; omega) _⟩
theorem MwAt.form (h : MwAt w c v lim l er) : ∃ a cap, v = .slice a l.length cap := by
  rcases h.own.2 with ⟨hv, h0⟩ | ⟨g, cap, cur, hv, _⟩
  · exact ⟨none, 0, by rw [hv, h0]⟩
  · exact ⟨_, _, hv⟩
/-- Below the writer and its row nothing else has turned. -/
theorem MwAt.above {w' : World} (h : MwAt w c v lim l er) (hb : Below w.heap.size w w') : MwAt w' c v lim l er := by
  refine ⟨by rw [hb.block c h.lt]; exact h.blk, h.own.1, ?_⟩
  rcases h.own.2 with h2 | ⟨g, cap, cur, hv, hg, hh, r⟩
  · exact .inl h2
  · exact .inr ⟨g, cap, cur, hv, hg, by rw [hb.block g (lt_of_blk hh)]; exact hh, r⟩
end

theorem mnew_any (n : Int) (w : World) :
    Calls Tryz.prog 72 #[.int .i64 n] w fun e w' => e = .returned (.pointer (some ⟨w.heap.size, 0, none⟩)) ∧ w' = w.alloc (.cells #[.slice none 0 0, .int .i64 (max n 0), .int .i64 0] 172) := by
  by_cases hn : n < 0
  · have e : max n 0 = 0 := by omega
    rw [e]
    clear e
    go_enter Tryz.func72, Tryz.ntmps72
    go_wp2
    go_ret
    exact ⟨rfl, rfl⟩
  · have e : max n 0 = n := by omega
    rw [e]
    clear e
    go_enter Tryz.func72, Tryz.ntmps72
    go_wp2
    go_ret
    exact ⟨rfl, rfl⟩

theorem mdone_ok (c : Nat) (v : Value) (lim : Int) (l : List UInt8) (w : World) (h : MwAt w c v lim l 0) :
    Calls Tryz.prog 78 #[.pointer (some ⟨c, 0, none⟩)] w fun e w' => e = .returned (.tuple #[.string ⟨l.toArray⟩, .int .i64 0]) ∧ w' = w := by
  have c0 := h.c0
  have c2 := h.c2
  rcases h.own.2 with ⟨rfl, h0⟩ | ⟨g, cap, cur, rfl, hg, hh, hnc, hcp, hcs, htake⟩
  · obtain rfl := List.eq_nil_of_length_eq_zero h0
    have hcv : ∀ w, (convert 160 9 (.slice none 0 0)).run Tryz.prog w = .ok (.string ⟨#[]⟩) w := fun w => by
      rw [run_convert_bytes_string w 160 9 5 none 0 0 Tryz.underlying160 Tryz.underlying5 Tryz.underlying9]; rfl
    clear h
    go_enter Tryz.func78, Tryz.ntmps78
    go_wp2
    go_ret2
    exact ⟨rfl, rfl⟩
  · have hcv := run_convert_bytes_back (P := Tryz.prog) w 160 9 5 ⟨g, 0, none⟩ cap l Tryz.underlying160 Tryz.underlying5 Tryz.underlying9 (fun j hj => h.own.cells (g := g) rfl j _ (by simp [bC, hj]))
    clear h
    go_enter Tryz.func78, Tryz.ntmps78
    go_wp2
    go_ret2
    exact ⟨rfl, rfl⟩

theorem mdone_err (c : Nat) (v : Value) (lim : Int) (l : List UInt8) (er : Int) (w : World) (h : MwAt w c v lim l er) (he : (er != 0) = true) :
    Calls Tryz.prog 78 #[.pointer (some ⟨c, 0, none⟩)] w fun e w' => e = .returned (.tuple #[.string ⟨#[]⟩, .int .i64 er]) ∧ w' = w.drew := by
  have c2 := h.c2
  clear h
  go_enter Tryz.func78, Tryz.ntmps78
  go_wp2
  go_region
  all_goals (try go_wp2)
  all_goals go_ret2
  exact ⟨rfl, rfl⟩

set_option maxHeartbeats 800000 in
theorem mput_bad (c : Nat) (v : Value) (lim : Int) (l : List UInt8) (er : Int) (size : Int) (w : World) (h : MwAt w c v lim l er) :
    Calls Tryz.prog 124 #[.pointer (some ⟨c, 0, none⟩), .slice none 0 0, .bool false] w fun e w' => e = .returned (.tuple #[]) ∧ MwAt w' c v lim l (adm lim l.length er false size) ∧ Kept c none w w' := by
  have c2 := h.c2
  have f2 := h.fr 2
  have HH := hid h
  clear h
  by_cases he : er = 0
  · subst he
    rw [adm_bad]
    go_enter Tryz.func124, Tryz.ntmps124
    go_wp2
    first | go_end0 | refine bodyPost_ret (results_none rfl _ _ _) rfl ?_
    exact ⟨rfl, HH.out.err 4, (Kept.refl _ _ _).setCell _ _⟩
  · have hne : (er != 0) = true := by simpa using he
    rw [adm_er _ _ _ _ _ he]
    clear he
    go_enter Tryz.func124, Tryz.ntmps124
    go_wp2
    first | go_end0 | refine bodyPost_ret (results_none rfl _ _ _) rfl ?_
    exact ⟨rfl, HH.out, Kept.refl _ _ _⟩

set_option maxHeartbeats 800000 in
theorem mput_er (c : Nat) (v : Value) (lim : Int) (l : List UInt8) (er : Int) (x : Value) (w : World) (h : MwAt w c v lim l er) (he : (er != 0) = true) :
    Calls Tryz.prog 124 #[.pointer (some ⟨c, 0, none⟩), x, .bool true] w fun e w' => e = .returned (.tuple #[]) ∧ w' = w := by
  have c2 := h.c2
  clear h
  go_enter Tryz.func124, Tryz.ntmps124
  go_wp2
  first | go_end0 | refine bodyPost_ret (results_none rfl _ _ _) rfl ?_
  exact ⟨rfl, rfl⟩

set_option maxHeartbeats 800000 in
theorem mput_long (c : Nat) (a : Option Addr) (n cap : Nat) (lim : Int) (g m cm : Nat) (w : World) (c0 : w.cell? ⟨c, 0, none⟩ = some (.slice a n cap)) (c1 : w.cell? ⟨c, 1, none⟩ = some (.int .i64 lim)) (c2 : w.cell? ⟨c, 2, none⟩ = some (.int .i64 0)) (f2 : w.frozen? ⟨c, 2, none⟩ = false)
    (h0 : 0 ≤ lim) (h1 : lim ≤ 9223372036854775807) (hl : n ≤ 140737488355328) (hs : lim - n < m) :
    Calls Tryz.prog 124 #[.pointer (some ⟨c, 0, none⟩), .slice (some ⟨g, 0, none⟩) m cm, .bool true] w fun e w' => e = .returned (.tuple #[]) ∧ w' = (w.setCell ⟨c, 2, none⟩ (.int .i64 3)).drew := by
  go_enter Tryz.func124, Tryz.ntmps124
  go_wp2
  go_region
  all_goals (try go_wp2)
  all_goals (first | go_end0 | refine bodyPost_ret (results_none rfl _ _ _) rfl ?_)
  exact ⟨rfl, rfl⟩

theorem MwAt.bytes {w : World} {c : Nat} {v : Value} {lim : Int} {er : Int} (h : w.heap[c]? = some (.cells #[v, .int .i64 lim, .int .i64 er] 172 (0, 0))) {v' : Value} {l' : List UInt8} (ho : w.ownsRow (c + 1) 5 1 v' l'.length (bC l')) :
    MwAt (w.setCell ⟨c, 0, none⟩ v') c v' lim l' er :=
  ⟨by simp [World.setCell, Array.getElem?_modify, h], ownsRow_setCell_below ho (by show c < c + 1; omega) _⟩

theorem mput_step {w1 w2 : World} {c : Nat} {v v' : Value} {lim : Int} {L C : List UInt8} {er : Int} (hR : MwAt w1 c v lim L er)
    (hown : w2.ownsRow (c + 1) 5 1 v' (L.length + C.length) (bC L ++ bC C)) (hgrow : w1.grownBy w2 v.ownBlock) (hat : v'.ownBlock = v.ownBlock ∨ v'.ownBlock = some w1.heap.size) :
    MwAt (w2.setCell ⟨c, 0, none⟩ v') c v' lim (L ++ C) er ∧ Kept c v.ownBlock w1 (w2.setCell ⟨c, 0, none⟩ v') ∧ Moved w1 v v' := by
  have hbv : some c ≠ v.ownBlock := fun e => by have := (hR.own.lt c e.symm).1; omega
  have hb1 : w2.heap[c]? = some (.cells #[v, .int .i64 lim, .int .i64 er] 172 (0, 0)) := by
    rw [hgrow.block c hR.lt hbv]
    exact hR.blk
  refine ⟨MwAt.bytes hb1 ?_, ?_, ?_⟩
  · rw [bC_app, List.length_append]; exact hown
  · exact ((Kept.refl c v.ownBlock w1).grown hgrow (.inl rfl)).setCell _ _
  · rcases hat with h | h
    · exact .inl h
    · exact .inr ⟨_, h, Nat.le_refl _⟩

set_option maxRecDepth 100000 in
set_option maxHeartbeats 1600000 in
theorem mput_ok (c : Nat) (v : Value) (lim : Int) (l : List UInt8) (g cm : Nat) (xs : List UInt8) (w : World) (h : MwAt w c v lim l 0)
    (h0 : 0 ≤ lim) (h1 : lim ≤ 9223372036854775807) (hl : l.length + xs.length ≤ 140737488355328) (hs : (xs.length : Int) ≤ lim - l.length)
    (hsrc : ∀ j u, (bC xs)[j]? = some u → w.cell? ⟨g, j, none⟩ = some u) :
    Calls Tryz.prog 124 #[.pointer (some ⟨c, 0, none⟩), .slice (some ⟨g, 0, none⟩) xs.length cm, .bool true] w fun e w' => e = .returned (.tuple #[]) ∧ ∃ v', MwAt w' c v' lim (l ++ xs) 0 ∧ Kept c v.ownBlock w w' ∧ Moved w v v' := by
  obtain ⟨i0, hi0, hz0, hz1, hz2⟩ := info_parts Tryz.info5
  obtain ⟨av, cap, rfl⟩ := h.form
  have c0 := h.c0
  have c1 := h.c1
  have c2 := h.c2
  have f0 := h.fr 0
  have hlt := h.lt
  have ho := h.own
  have HH := hid h
  have HS := hid hsrc
  clear h hsrc
  have hbv : some c ≠ (Value.slice av l.length cap).ownBlock := fun e => by have := (ho.lt c e.symm).1; omega
  go_enter Tryz.func124, Tryz.ntmps124
  go_wp2
  go_region
  go_wp2_with (at_builtin; refine wpList_append_own_at _ rfl _ _ 160 rfl (c + 1) 5 i0 (.int .u8 0) 1 1 Tryz.underlying160 hi0 hz0 hz1 hz2 rfl (by decide) _ l.length (bC l) rfl (ownsRow_of_heap rfl ho) ⟨g, 0, none⟩ xs.length cm (bC xs) rfl (by rw [bC_len, Nat.mul_one]) ?cells ?one (by unfold maxLen; omega) (by omega) (by exact hlt) ?_)
  case cells =>
    intro j u hj
    rw [Addr.add_lit, Nat.zero_add]
    exact HS.out j u hj
  case one =>
    intro u hu
    obtain ⟨_, _, rfl⟩ := List.mem_map.1 hu
    rfl
  · intro v3 w3 hown3 hgrow _ hat
    have HT := hid (mput_step HH.out.drew hown3 hgrow hat)
    have cz : w3.cell? ⟨c, 0, none⟩ = some (.slice av l.length cap) := (hgrow.cell_far ⟨c, 0, none⟩ hlt hbv).trans c0
    have fz : w3.frozen? ⟨c, 0, none⟩ = false := (hgrow.frozen_far ⟨c, 0, none⟩ hlt hbv).trans f0
    obtain ⟨a3, n3, cap3, hv3⟩ : ∃ a3 n3 cap3, v3 = .slice a3 n3 cap3 := by
      rcases hown3.2 with ⟨hv, _⟩ | ⟨g, cap, cur, hv, _⟩
      · exact ⟨_, _, _, hv⟩
      · exact ⟨_, _, _, hv⟩
    rw [hv3] at HT ⊢
    clear hown3 hgrow hat ho hv3
    go_wp2
    first | go_end0 | refine bodyPost_ret (results_none rfl _ _ _) rfl ?_
    exact ⟨rfl, _, HT.out.1, ⟨HT.out.2.1.os, HT.out.2.1.tape, HT.out.2.1.output, HT.out.2.1.size, HT.out.2.1.block⟩, HT.out.2.2⟩

theorem mput_any (c : Nat) (v : Value) (lim : Int) (l : List UInt8) (er : Int) (g cm : Nat) (xs : List UInt8) (w : World) (h : MwAt w c v lim l er)
    (h0 : 0 ≤ lim) (h1 : lim ≤ 9223372036854775807) (hl : l.length + xs.length ≤ 140737488355328)
    (hsrc : ∀ j u, (bC xs)[j]? = some u → w.cell? ⟨g, j, none⟩ = some u) :
    Calls Tryz.prog 124 #[.pointer (some ⟨c, 0, none⟩), .slice (some ⟨g, 0, none⟩) xs.length cm, .bool true] w fun e w' => e = .returned (.tuple #[]) ∧
      ∃ v', MwAt w' c v' lim (if adm lim l.length er true xs.length = 0 then l ++ xs else l) (adm lim l.length er true xs.length) ∧ Kept c v.ownBlock w w' ∧ Moved w v v' := by
  by_cases he : er = 0
  · subst he
    by_cases hs : lim - l.length < xs.length
    · rw [adm_long _ _ _ hs, if_neg (by decide)]
      obtain ⟨a, cap, hv⟩ := h.form
      exact (mput_long c a l.length cap lim g xs.length cm w (hv ▸ h.c0) h.c1 h.c2 (h.fr 2) h0 h1 (by omega) hs).mono fun e w' ⟨e1, e2⟩ => ⟨e1, v, by rw [e2]; exact (h.err 3).drew, by rw [e2]; exact ((Kept.refl _ _ _).setCell _ _).drew, Moved.refl _ _⟩
    · rw [adm_ok _ _ _ hs, if_pos rfl]
      exact mput_ok c v lim l g cm xs w h h0 h1 hl (by omega) hsrc
  · rw [adm_er _ _ _ _ _ he, if_neg he]
    exact (mput_er c v lim l er _ w h (by simpa using he)).mono fun e w' ⟨e1, e2⟩ => ⟨e1, v, by rw [e2]; exact h, by rw [e2]; exact Kept.refl _ _ _, Moved.refl _ _⟩

end Go.Proofs.YthjgnfeadagmeaaGreat

/- The contracts of package pack's writers of eight bytes and of texts. -/
namespace Go.Proofs.YthjgnfeadagmeaaGreat
open Go.RowKit

/-- 'append(b, s...)' of a string onto a slice of bytes that the call owns: where the new slice lies. -/
theorem append_str (w : World) (base : Nat) (ty : TypeId) (i : TypeInfo) (hi : Tryz.prog.info? 5 = some i) (hz : i.zero = some (.int .u8 0)) (hsize : i.size = 1) (hby : i.bytes = 1)
    (v : Value) (n : Nat) (xs : List Value) (hown : w.ownsRow base 5 1 v n xs) (s : ByteArray) (hbytes : n + s.size ≤ 140737488355328) (hbase : base ≤ w.heap.size) :
    ∃ v' w', (Builtin.append_ #[160, 9] ty #[v, .string s]).run Tryz.prog w = .ok v' w' ∧ w'.ownsRow base 5 1 v' (n + s.size) (xs ++ bC s.data.toList) ∧ w.grownBy w' v.ownBlock ∧ (v'.ownBlock = v.ownBlock ∨ v'.ownBlock = some w.heap.size) := by
  obtain ⟨v', w', hr, h2, h3, h4⟩ := Lib.run_append_own_string (P := Tryz.prog) w base 160 9 ty 5 i Tryz.underlying160 Tryz.underlying9 hi hz hsize hby v n xs hown s (by unfold maxLen; omega) hbytes hbase
  refine ⟨v', w', hr, h2, h3, ?_⟩
  have hsrc := Src.ofString (P := Tryz.prog) w (tx := 9) Tryz.underlying9 s
  rcases hown.2 with ⟨rfl, rfl⟩ | ⟨g, cap, cur, rfl, hbg, hg, hnc, hcm, hcs, htake⟩
  · by_cases h0 : s.size = 0
    · have := h4.2 ⟨rfl, h0⟩
      subst this
      exact .inl rfl
    · have hgr := run_append_grow_src (P := Tryz.prog) w 160 9 ty 5 i (.int .u8 0) Tryz.underlying160 hi hz none 0 0 [] (by simpa using run_firstCells_none w.drew i.size 0 0 0) (.string s) s.size (byteCells s) (by rw [hsize]; exact hsrc) (by omega) (by omega) (by
        rw [hby, Nat.zero_add, nextslicecap_zero (by omega)]; omega)
      rw [hr] at hgr
      cases hgr
      exact .inr rfl
  · by_cases hroom : n + s.size ≤ cap
    · have hcz : cur.size = cap := by simpa using hcs
      have hrm := run_append_room_src (P := Tryz.prog) w 160 9 ty 5 i Tryz.underlying160 hi g 0 n cap (.string s) s.size (byteCells s) (by rw [hsize]; exact hsrc) hroom
        (fun j hj => by rw [byteCells_length] at hj; rw [hsize]; simp [World.cell?, hg]; omega) (fun j hj => by simp [World.frozen?, hg])
      rw [hr] at hrm
      cases hrm
      exact .inl rfl
    · have hgr := run_append_grow_src (P := Tryz.prog) w 160 9 ty 5 i (.int .u8 0) Tryz.underlying160 hi hz (some ⟨g, 0, none⟩) n cap xs
        (by rw [hsize]; exact run_firstCells_some w.drew 1 n ⟨g, 0, none⟩ n cap xs hown.1 (fun j u hj => hown.cells (g := g) rfl j u hj)) (.string s) s.size (byteCells s) (by rw [hsize]; exact hsrc) (by omega) (by omega) (by
        rw [hby]
        have := nextslicecap_le (need := n + s.size) (old := cap) (by omega)
        omega)
      rw [hr] at hgr
      cases hgr
      exact .inr rfl

theorem wpList_append_str (w : World) {ops : Array Oper} {rest : List Oper} {o : Oper} {a : Act} {Q : Exit → Act → World → Prop} (hgd : o.guard = none) (sl x : Operand)
    (ho : o.op = .call { callee := .builtin .append, args := #[sl, x], argTypes := #[160, 9] })
    (base : Nat) (i : TypeInfo) (hi : Tryz.prog.info? 5 = some i) (hz : i.zero = some (.int .u8 0)) (hsize : i.size = 1) (hby : i.bytes = 1)
    (v : Value) (n : Nat) (xs : List Value) (hs : a.eval sl = v) (hown : w.ownsRow base 5 1 v n xs) (s : ByteArray) (hx : a.eval x = .string s)
    (hbytes : n + s.size ≤ 140737488355328) (hbase : base ≤ w.heap.size)
    (h : ∀ v' w', w'.ownsRow base 5 1 v' (n + s.size) (xs ++ bC s.data.toList) → w.grownBy w' v.ownBlock → (v'.ownBlock = v.ownBlock ∨ v'.ownBlock = some w.heap.size) → wpList Tryz.prog ops Q rest (a.put o.dst v') w') : wpList Tryz.prog ops Q (o :: rest) a w := by
  refine wpList_plain hgd fun K hK => ?_
  obtain ⟨v', w', hr, h2, h3, h4⟩ := append_str w base o.type i hi hz hsize hby v n xs hown s hbytes hbase
  unfold Oper.wp execOp
  simp only [ho, resolve, invoke, builtin, Sem.run_bind, Sem.run_pure, Result.andThen_ok, List.map_toArray, List.map_cons, List.map_nil, hs, hx, hr]
  exact hK _ _ (h v' w' h2 h3 h4)

/-- The error behind eight bytes; the bytes. -/
def bE (lim : Int) (l : List UInt8) (er : Int) : Int := adm lim l.length er true 8
def bL (lim : Int) (l : List UInt8) (er : Int) (n : Nat) : List UInt8 := if bE lim l er = 0 then l ++ be 8 n else l

set_option maxRecDepth 100000 in
set_option maxHeartbeats 800000 in
theorem wbits_yes (b : Nat) (v : Value) (lim : Int) (l : List UInt8) (er : Int) (m : Nat) (w : World) (h : WrAt w b v lim l er)
    (h0 : 0 ≤ lim) (h1 : lim ≤ 9223372036854775807) (hl : l.length + 8 ≤ 140737488355328) (n1 : m < 18446744073709551616) (hd : adm lim l.length er true 8 = 0) :
    Calls Tryz.prog 143 #[.pointer (some ⟨b, 0, none⟩), .int .u64 m] w fun e w' => e = .returned (.tuple #[]) ∧ ∃ v', WrAt w' b v' lim (l ++ be 8 m) 0 ∧ Kept b v.ownBlock w w' ∧ Moved w v v' := by
  have ha := admits_any b v lim l er true 8 w h h0 h1 (by omega)
  have hdd : decide (adm lim l.length er true 8 = 0) = true := by simpa using hd
  rw [hdd, hd] at ha
  have HA := hid ha
  have HL := hid hl
  have HM := hid n1
  clear ha h hd hdd hl n1 h0 h1
  go_enter Tryz.func143, Tryz.ntmps143
  go_wp2_with fail
  refine HA.out.mono ?_
  rintro e w1 ⟨rfl, hr, hk⟩
  have HR := hid hr
  have HK := hid hk
  clear hr hk
  go_wp2_with fail
  refine (put_any b v lim l 0 m 8 w1 HR.out (by omega) HM.out HL.out).mono ?_
  rintro e w2 ⟨rfl, v', hv, hk2, hm⟩
  have HV := hid hv
  have HK2 := hid (And.intro hk2 hm)
  clear hv hk2 hm
  go_wp2
  go_end0
  exact ⟨rfl, v', HV.out, (kept_none HK.out).trans HK2.out.1 (.inl rfl), (Moved.refl w v).trans HK2.out.2 HK.out.size⟩

set_option maxHeartbeats 800000 in
theorem wbits_no (b : Nat) (v : Value) (lim : Int) (l : List UInt8) (er : Int) (m : Nat) (w : World) (h : WrAt w b v lim l er)
    (h0 : 0 ≤ lim) (h1 : lim ≤ 9223372036854775807) (hl : l.length + 8 ≤ 140737488355328) (E : Int) (hE : adm lim l.length er true 8 = E) (hd : E ≠ 0) :
    Calls Tryz.prog 143 #[.pointer (some ⟨b, 0, none⟩), .int .u64 m] w fun e w' => e = .returned (.tuple #[]) ∧ ∃ v', WrAt w' b v' lim l E ∧ Kept b v.ownBlock w w' ∧ Moved w v v' := by
  have ha := admits_any b v lim l er true 8 w h h0 h1 (by omega)
  have hdd : decide (E = 0) = false := by simpa using hd
  rw [hE, hdd] at ha
  have HA := hid ha
  clear ha h hE hd hdd hl h0 h1
  go_enter Tryz.func143, Tryz.ntmps143
  go_wp2_with fail
  refine HA.out.mono ?_
  rintro e w1 ⟨rfl, hr, hk⟩
  have HR := hid hr
  have HK := hid hk
  clear hr hk
  go_wp2
  go_end0
  exact ⟨rfl, v, HR.out, kept_none HK.out, Moved.refl _ _⟩

theorem wbits_any (b : Nat) (v : Value) (lim : Int) (l : List UInt8) (er : Int) (m : Nat) (w : World) (h : WrAt w b v lim l er)
    (h0 : 0 ≤ lim) (h1 : lim ≤ 9223372036854775807) (hl : l.length + 8 ≤ 140737488355328) (n1 : m < 18446744073709551616) :
    Calls Tryz.prog 143 #[.pointer (some ⟨b, 0, none⟩), .int .u64 m] w fun e w' => e = .returned (.tuple #[]) ∧ ∃ v', WrAt w' b v' lim (bL lim l er m) (bE lim l er) ∧ Kept b v.ownBlock w w' ∧ Moved w v v' := by
  unfold bL bE
  by_cases hd : adm lim l.length er true 8 = 0
  · simpa [hd] using wbits_yes b v lim l er m w h h0 h1 hl n1 hd
  · simpa [hd] using wbits_no b v lim l er m w h h0 h1 hl _ rfl hd

/-- The error behind a text; the bytes. -/
def xE (lim : Int) (l : List UInt8) (er : Int) (s : ByteArray) : Int := adm lim l.length er (decide (s.size ≤ 65535)) (2 + s.size)
def xL (lim : Int) (l : List UInt8) (er : Int) (s : ByteArray) : List UInt8 := if xE lim l er s = 0 then l ++ (be 2 s.size ++ s.data.toList) else l

theorem put_text {w1 w2 : World} {b : Nat} {v v' : Value} {lim : Int} {L : List UInt8} {er : Int} {s : ByteArray} (hR : WrAt w1 b v lim L er)
    (hown : w2.ownsRow (b + 1) 5 1 v' (L.length + s.size) (bC L ++ bC s.data.toList)) (hgrow : w1.grownBy w2 v.ownBlock) (hat : v'.ownBlock = v.ownBlock ∨ v'.ownBlock = some w1.heap.size) :
    WrAt (w2.setCell ⟨b, 1, none⟩ v') b v' lim (L ++ s.data.toList) er ∧ Kept b v.ownBlock w1 (w2.setCell ⟨b, 1, none⟩ v') ∧ Moved w1 v v' := by
  have hbv : some b ≠ v.ownBlock := fun e => by have := (hR.own.lt b e.symm).1; omega
  have hb1 : w2.heap[b]? = some (.cells #[.int .i64 lim, v, .int .i64 er] 162 (0, 0)) := by
    rw [hgrow.block b hR.lt hbv]
    exact hR.blk
  refine ⟨WrAt.bytes hb1 ?_, ?_, ?_⟩
  · rw [bC_app, List.length_append, Array.length_toList]; exact hown
  · exact ((Kept.refl b v.ownBlock w1).grown hgrow (.inl rfl)).setCell _ _
  · rcases hat with h | h
    · exact .inl h
    · exact .inr ⟨_, h, Nat.le_refl _⟩

set_option maxRecDepth 100000 in
set_option maxHeartbeats 1600000 in
theorem wtext_yes (b : Nat) (v : Value) (lim : Int) (l : List UInt8) (er : Int) (s : ByteArray) (w : World) (h : WrAt w b v lim l er)
    (h0 : 0 ≤ lim) (h1 : lim ≤ 9223372036854775807) (hs : s.size ≤ 65535) (hl : l.length + 8 ≤ 140737488355328) (hl2 : l.length + (2 + s.size) ≤ 140737488355328) (hd : adm lim l.length er true (2 + s.size) = 0) :
    Calls Tryz.prog 117 #[.pointer (some ⟨b, 0, none⟩), .string s] w fun e w' => e = .returned (.tuple #[]) ∧ ∃ v', WrAt w' b v' lim (l ++ (be 2 s.size ++ s.data.toList)) 0 ∧ Kept b v.ownBlock w w' ∧ Moved w v v' := by
  obtain ⟨i0, hi0, hz0, hz1, hz2⟩ := info_parts Tryz.info5
  have ha := admits_any b v lim l er true (2 + s.size) w h h0 h1 (by omega)
  have hdd : decide (adm lim l.length er true (2 + s.size) = 0) = true := by simpa using hd
  rw [hdd, hd] at ha
  have HA := hid ha
  have HL := hid hl
  have HL2 := hid hl2
  have hsi : (s.size : Int) ≤ 65535 := by omega
  clear ha h hd hdd hl hl2 h0 h1 hs
  go_enter Tryz.func117, Tryz.ntmps117
  go_wp2_with fail
  refine HA.out.mono ?_
  rintro e w1 ⟨rfl, hr, hk⟩
  have HR := hid hr
  have HK := hid hk
  clear hr hk
  go_wp2_with fail
  refine (put_any b v lim l 0 s.size 2 w1 HR.out (by omega) (by omega) HL.out).mono ?_
  rintro e w2 ⟨rfl, v2, hv, hk2, hm⟩
  have HV := hid hv
  have HK2 := hid (And.intro ((kept_none HK.out).trans hk2 (.inl rfl)) ((Moved.refl w v).trans hm HK.out.size))
  have c1 := hv.c1
  have f1 := hv.fr 1
  have hlt := hv.lt
  have hbv : some b ≠ v2.ownBlock := fun e => by have := (hv.own.lt b e.symm).1; omega
  have ho := hv.own
  have hb2 : (l ++ be 2 s.size).length + s.size ≤ 140737488355328 := by rw [List.length_append, be_len]; have := HL2.out; omega
  clear hv hk2 hm
  go_wp2_with (at_builtin; refine wpList_append_str _ rfl _ _ rfl (b + 1) i0 hi0 hz0 hz1 hz2 v2 (l ++ be 2 s.size).length (bC (l ++ be 2 s.size)) rfl ho s rfl hb2 (by omega) ?_)
  intro v3 w3 hown3 hgrow hat
  rw [← List.length_append] at hown3
  have HS := hid (put_text HV.out hown3 hgrow hat)
  have cz : w3.cell? ⟨b, 1, none⟩ = some v2 := (hgrow.cell_far ⟨b, 1, none⟩ hlt hbv).trans c1
  have fz : w3.frozen? ⟨b, 1, none⟩ = false := (hgrow.frozen_far ⟨b, 1, none⟩ hlt hbv).trans f1
  obtain ⟨av, nv, capv, hv3⟩ : ∃ av nv capv, v3 = .slice av nv capv := by
    rcases hown3.2 with ⟨hv, _⟩ | ⟨g, cap, cur, hv, _⟩
    · exact ⟨_, _, _, hv⟩
    · exact ⟨_, _, _, hv⟩
  rw [hv3] at HS ⊢
  clear hown3 hgrow hat ho hv3
  go_wp2
  go_end0
  refine ⟨rfl, _, ?_, HK2.out.1.trans HS.out.2.1 HK2.out.2, HK2.out.2.trans HS.out.2.2 HK2.out.1.size⟩
  rw [← List.append_assoc]
  exact HS.out.1

set_option maxHeartbeats 800000 in
theorem wtext_no (b : Nat) (v : Value) (lim : Int) (l : List UInt8) (er : Int) (s : ByteArray) (w : World) (h : WrAt w b v lim l er)
    (h0 : 0 ≤ lim) (h1 : lim ≤ 9223372036854775807) (hs : s.size ≤ 9223372036854775805) (hl : l.length + 8 ≤ 140737488355328) (E : Int) (r : Bool) (hr : decide ((s.size : Int) ≤ 65535) = r) (hE : adm lim l.length er r (2 + s.size) = E) (hd : E ≠ 0) :
    Calls Tryz.prog 117 #[.pointer (some ⟨b, 0, none⟩), .string s] w fun e w' => e = .returned (.tuple #[]) ∧ ∃ v', WrAt w' b v' lim l E ∧ Kept b v.ownBlock w w' ∧ Moved w v v' := by
  have ha := admits_any b v lim l er r (2 + s.size) w h h0 h1 (by omega)
  have hdd : decide (E = 0) = false := by simpa using hd
  rw [hE, hdd] at ha
  have HA := hid ha
  clear ha h hE hd hdd hl h0 h1
  go_enter Tryz.func117, Tryz.ntmps117
  go_wp2_with fail
  refine HA.out.mono ?_
  rintro e w1 ⟨rfl, hr, hk⟩
  have HR := hid hr
  have HK := hid hk
  clear hr hk
  go_wp2
  go_end0
  exact ⟨rfl, v, HR.out, kept_none HK.out, Moved.refl _ _⟩

theorem wtext_any (b : Nat) (v : Value) (lim : Int) (l : List UInt8) (er : Int) (s : ByteArray) (w : World) (h : WrAt w b v lim l er)
    (h0 : 0 ≤ lim) (h1 : lim ≤ 9223372036854775807) (hs : s.size ≤ 9223372036854775805) (hl : l.length + 8 ≤ 140737488355328) (hl2 : xE lim l er s = 0 → l.length + (2 + s.size) ≤ 140737488355328) :
    Calls Tryz.prog 117 #[.pointer (some ⟨b, 0, none⟩), .string s] w fun e w' => e = .returned (.tuple #[]) ∧ ∃ v', WrAt w' b v' lim (xL lim l er s) (xE lim l er s) ∧ Kept b v.ownBlock w w' ∧ Moved w v v' := by
  unfold xL
  by_cases hd : xE lim l er s = 0
  · have hs2 : s.size ≤ 65535 := by
      by_cases h2 : s.size ≤ 65535
      · exact h2
      · exfalso
        unfold xE adm at hd
        simp [h2] at hd
        split at hd <;> simp_all
    have hd2 : adm lim l.length er true (2 + s.size) = 0 := by
      unfold xE at hd
      simpa [hs2] using hd
    rw [if_pos hd, hd]
    exact wtext_yes b v lim l er s w h h0 h1 hs2 hl (hl2 hd) hd2
  · rw [if_neg hd]
    exact wtext_no b v lim l er s w h h0 h1 hs hl _ (decide (s.size ≤ 65535)) (by simp; omega) rfl hd

end Go.Proofs.YthjgnfeadagmeaaGreat

/- The contracts of the document's writer: numbers, bits, texts, items. -/
namespace Go.Proofs.YthjgnfeadagmeaaGreat
open Go.RowKit

theorem mput_len (c : Nat) (v : Value) (lim : Int) (l : List UInt8) (er : Int) (g cm : Nat) (xs : List UInt8) (m : Nat) (hm : xs.length = m) (w : World) (h : MwAt w c v lim l er)
    (h0 : 0 ≤ lim) (h1 : lim ≤ 9223372036854775807) (hl : l.length + m ≤ 140737488355328)
    (hsrc : ∀ j u, (bC xs)[j]? = some u → w.cell? ⟨g, j, none⟩ = some u) :
    Calls Tryz.prog 124 #[.pointer (some ⟨c, 0, none⟩), .slice (some ⟨g, 0, none⟩) m cm, .bool true] w fun e w' => e = .returned (.tuple #[]) ∧
      ∃ v', MwAt w' c v' lim (if adm lim l.length er true m = 0 then l ++ xs else l) (adm lim l.length er true m) ∧ Kept c v.ownBlock w w' ∧ Moved w v v' := by
  subst hm
  exact mput_any c v lim l er g cm xs w h h0 h1 hl hsrc

theorem cells_of_row {w : World} {g : Nat} {xs : List UInt8} (h : w.heap[g]? = some (.cells (bC xs).toArray 5 (0, 0))) : ∀ j u, (bC xs)[j]? = some u → w.cell? ⟨g, j, none⟩ = some u := by
  intro j u hj
  have hjl := (List.getElem?_eq_some_iff.1 hj).1
  rw [cell_of_blk h j (by simpa using hjl)]
  rw [← hj]
  simp [hjl]


set_option maxRecDepth 100000 in
set_option maxHeartbeats 1600000 in
theorem mbits_w (c : Nat) (v : Value) (lim : Int) (l : List UInt8) (er : Int) (n : Nat) (w : World) (h : MwAt w c v lim l er)
    (h0 : 0 ≤ lim) (h1 : lim ≤ 9223372036854775807) (hl : l.length + 8 ≤ 140737488355328) (hn : n < 18446744073709551616) :
    Calls Tryz.prog 88 #[.pointer (some ⟨c, 0, none⟩), .int .u64 n] w fun e w' => e = .returned (.tuple #[]) ∧ ∃ v', MwAt w' c v' lim (bL lim l er n) (bE lim l er) ∧ Kept c v.ownBlock w w' ∧ Moved w v v' := by
  have HH := hid h
  have HC := hid (big_any n 8 w (by omega) hn)
  clear h hn
  go_enter Tryz.func88, Tryz.ntmps88
  go_wp2_with fail
  refine HC.out.mono ?_
  rintro e w1 ⟨rfl, hb1, hbel⟩
  have HP := hid (mput_len c v lim l er w.heap.size 8 (be 8 n) 8 (be_len 8 n) w1 (HH.out.above hbel) h0 h1 hl (cells_of_row hb1))
  have HK := hid (show Kept c v.ownBlock w w1 from ⟨hbel.os, hbel.tape, hbel.output, hbel.size, fun k hk _ _ => hbel.block k hk⟩)
  clear hb1 hbel
  go_wp2_with fail
  refine HP.out.mono ?_
  rintro e w2 ⟨rfl, v2, hx2, hk2, hm2⟩
  have H2 := hid (And.intro hx2 (And.intro (HK.out.trans hk2 (.inl rfl)) ((Moved.refl w v).trans hm2 HK.out.size)))
  clear hx2 hk2 hm2
  go_wp2
  go_end0
  exact ⟨rfl, v2, H2.out⟩

set_option maxRecDepth 100000 in
set_option maxHeartbeats 1600000 in
theorem mnum_in (c : Nat) (v : Value) (lim : Int) (l : List UInt8) (er : Int) (n s : Nat) (hs : s ≤ 4) (w : World) (h : MwAt w c v lim l er)
    (h0 : 0 ≤ lim) (h1 : lim ≤ 9223372036854775807) (hl : l.length + 8 ≤ 140737488355328) (hn : n < 256 ^ s) :
    Calls Tryz.prog 73 #[.pointer (some ⟨c, 0, none⟩), .int .i64 n, .int .i64 s] w fun e w' => e = .returned (.tuple #[]) ∧ ∃ v', MwAt w' c v' lim (wL lim l er s n) (wE lim l er s n) ∧ Kept c v.ownBlock w w' ∧ Moved w v v' := by
  have hp : 256 ^ s ≤ 4294967296 := Nat.le_trans (Nat.pow_le_pow_right (by decide) hs) (by decide)
  have HH := hid h
  have HC := hid (big_any n s w (by omega) (by omega))
  have hr : inR s (n : Int) = true := by unfold inR; rw [decide_eq_true_iff]; exact ⟨Int.natCast_nonneg _, by exact_mod_cast hn⟩
  have HQ : Hid (∀ E L, (if adm lim l.length er true s = 0 then l ++ be s n else l) = L → adm lim l.length er true s = E → wL lim l er s n = L ∧ wE lim l er s n = E) := by
    intro E L e1 e2
    unfold wL wE
    rw [hr, Int.toNat_natCast]
    exact ⟨e1, e2⟩
  obtain ⟨L, hL⟩ : ∃ L, wL lim l er s n = L := ⟨_, rfl⟩
  obtain ⟨E, hE⟩ : ∃ E, wE lim l er s n = E := ⟨_, rfl⟩
  rw [hL, hE]
  have HLE := hid (And.intro hL hE)
  obtain ⟨q, hq⟩ : ∃ q, q = 256 ^ s := ⟨_, rfl⟩
  rw [← hq] at hn hp
  have HPQ := hid hq
  have hn0 : (0 : Int) ≤ (n : Int) := Int.natCast_nonneg _
  have hnq : (n : Int) < (q : Int) := by omega
  clear h hr hn hL hE hq
  go_enter Tryz.func73, Tryz.ntmps73
  go_wp2
  go_loop [6, 7] (fun p i => ∃ k : Nat, k ≤ s ∧ i = .int .i64 k ∧ p = .int .i64 ((256 ^ k : Nat) : Int)) (fun _ i => s - (intOf i).toNat)
  case atStart => exact ⟨0, Nat.zero_le _, rfl, rfl⟩
  case round =>
    obtain ⟨k, hk, rfl, rfl⟩ := hrel
    by_cases hlt : k < s
    · have hb : 256 ^ k ≤ 16777216 := Nat.le_trans (Nat.pow_le_pow_right (by decide) (show k ≤ 3 by omega)) (by decide)
      obtain ⟨p, hp2⟩ : ∃ p, p = 256 ^ k := ⟨_, rfl⟩
      rw [← hp2] at hb ⊢
      have HP2 := hid hp2
      clear hp2
      go_wp2
      go_round
      case rel => exact ⟨k + 1, by omega, by go_num, by rw [Nat.pow_succ, ← HP2.out]; simp⟩
      case measure => simp [intOf]; omega
    · have hks : k = s := by omega
      subst hks
      rw [← HPQ.out]
      clear hlt
      go_wp2_with fail
      refine HC.out.mono ?_
      rintro e w1 ⟨rfl, hb1, hbel⟩
      have HP := hid (mput_len c v lim l er w.heap.size k (be k n) k (be_len k n) w1 (HH.out.above hbel) h0 h1 (by omega) (cells_of_row hb1))
      have HK := hid (show Kept c v.ownBlock w w1 from ⟨hbel.os, hbel.tape, hbel.output, hbel.size, fun j hj _ _ => hbel.block j hj⟩)
      clear hb1 hbel
      go_wp2_with fail
      refine HP.out.mono ?_
      rintro e w2 ⟨rfl, v2, hx2, hk2, hm2⟩
      have hQ := HQ.out _ _ rfl rfl
      rw [← hQ.1, ← hQ.2, HLE.out.1, HLE.out.2] at hx2
      have H2 := hid (And.intro hx2 (And.intro (HK.out.trans hk2 (.inl rfl)) ((Moved.refl w v).trans hm2 HK.out.size)))
      clear hx2 hk2 hm2 hQ
      go_wp2
      go_end0
      exact ⟨rfl, v2, H2.out⟩

set_option maxRecDepth 100000 in
set_option maxHeartbeats 1600000 in
theorem mnum_out (c : Nat) (v : Value) (lim : Int) (l : List UInt8) (er : Int) (n : Int) (s : Nat) (hs : s ≤ 4) (w : World) (h : MwAt w c v lim l er) (hn : n < 0 ∨ ((256 ^ s : Nat) : Int) ≤ n) (E : Int) (hE : adm lim l.length er false s = E) :
    Calls Tryz.prog 73 #[.pointer (some ⟨c, 0, none⟩), .int .i64 n, .int .i64 s] w fun e w' => e = .returned (.tuple #[]) ∧ ∃ v', MwAt w' c v' lim l E ∧ Kept c v.ownBlock w w' ∧ Moved w v v' := by
  have hp : 256 ^ s ≤ 4294967296 := Nat.le_trans (Nat.pow_le_pow_right (by decide) hs) (by decide)
  have HC := hid (mput_bad c v lim l er s w h)
  rw [hE] at HC
  obtain ⟨q, hq⟩ : ∃ q, q = 256 ^ s := ⟨_, rfl⟩
  rw [← hq] at hn hp
  have HPQ := hid hq
  clear h hE hq
  rcases hn with hn | hn
  all_goals
    go_enter Tryz.func73, Tryz.ntmps73
    go_wp2
    go_loop [6, 7] (fun p i => ∃ k : Nat, k ≤ s ∧ i = .int .i64 k ∧ p = .int .i64 ((256 ^ k : Nat) : Int)) (fun _ i => s - (intOf i).toNat)
    case atStart => exact ⟨0, Nat.zero_le _, rfl, rfl⟩
    case round =>
      obtain ⟨k, hk, rfl, rfl⟩ := hrel
      by_cases hlt : k < s
      · have hb : 256 ^ k ≤ 16777216 := Nat.le_trans (Nat.pow_le_pow_right (by decide) (show k ≤ 3 by omega)) (by decide)
        obtain ⟨p, hp2⟩ : ∃ p, p = 256 ^ k := ⟨_, rfl⟩
        rw [← hp2] at hb ⊢
        have HP2 := hid hp2
        clear hp2
        go_wp2
        go_round
        case rel => exact ⟨k + 1, by omega, by go_num, by rw [Nat.pow_succ, ← HP2.out]; simp⟩
        case measure => simp [intOf]; omega
      · have hks : k = s := by omega
        subst hks
        rw [← HPQ.out]
        clear hlt
        go_wp2_with fail
        refine HC.out.mono ?_
        rintro e w1 ⟨rfl, hx1, hk1⟩
        have H1 := hid (And.intro hx1 (kept_none (r := v.ownBlock) hk1))
        clear hx1 hk1
        go_wp2
        first | go_end0 | refine bodyPost_ret (results_none rfl _ _ _) rfl ?_
        exact ⟨rfl, v, H1.out.1, H1.out.2, Moved.refl _ _⟩

theorem mnum_w (c : Nat) (v : Value) (lim : Int) (l : List UInt8) (er : Int) (n : Int) (s : Nat) (hs : s ≤ 4) (w : World) (h : MwAt w c v lim l er)
    (h0 : 0 ≤ lim) (h1 : lim ≤ 9223372036854775807) (hl : l.length + 8 ≤ 140737488355328) :
    Calls Tryz.prog 73 #[.pointer (some ⟨c, 0, none⟩), .int .i64 n, .int .i64 s] w fun e w' => e = .returned (.tuple #[]) ∧ ∃ v', MwAt w' c v' lim (wL lim l er s n) (wE lim l er s n) ∧ Kept c v.ownBlock w w' ∧ Moved w v v' := by
  by_cases hn : 0 ≤ n ∧ n < ((256 ^ s : Nat) : Int)
  · obtain ⟨m, rfl⟩ : ∃ m : Nat, n = m := ⟨n.toNat, by omega⟩
    exact mnum_in c v lim l er m s hs w h h0 h1 hl (by exact_mod_cast hn.2)
  · have hr : inR s n = false := by unfold inR; rw [decide_eq_false_iff_not]; exact hn
    have hd : ¬ adm lim l.length er false s = 0 := by unfold adm; split <;> simp_all
    have := mnum_out c v lim l er n s hs w h (by omega) _ rfl
    unfold wL wE
    rw [hr, if_neg hd]
    exact this

end Go.Proofs.YthjgnfeadagmeaaGreat

/- The document's bytes of a configuration. -/
namespace Go.Proofs.YthjgnfeadagmeaaGreat
open Go.RowKit

/-- The document's writer at block c, with room for 100, and l in it; nothing below c has turned since w0. -/
def TwAt (c : Nat) (w0 w : World) (l : List UInt8) : Prop := (∃ v, MwAt w c v 100 l 0) ∧ Below c w0 w
theorem inR_yes (s n : Nat) (hn : n < 256 ^ s) : inR s (n : Int) = true := by
  unfold inR
  exact decide_eq_true ⟨Int.natCast_nonneg _, by exact_mod_cast hn⟩
theorem wL_ok (l : List UInt8) (s n : Nat) (hn : n < 256 ^ s) (hl : l.length + s ≤ 100) : wL 100 l 0 s (n : Int) = l ++ be s n ∧ wE 100 l 0 s (n : Int) = 0 := by
  have h : adm 100 l.length 0 (inR s (n : Int)) s = 0 := by
    have hi : inR s (n : Int) = true := inR_yes s n hn
    rw [hi]
    unfold adm
    simp
    omega
  exact ⟨by rw [wL, if_pos h, Int.toNat_natCast], by rw [wE, h]⟩
theorem tnum (c : Nat) (w0 w : World) (l : List UInt8) (n s : Nat) (hs : s ≤ 4) (hn : n < 256 ^ s) (hl : l.length + s ≤ 100) (h : TwAt c w0 w l) :
    Calls Tryz.prog 73 #[.pointer (some ⟨c, 0, none⟩), .int .i64 (n : Int), .int .i64 (s : Int)] w fun e w' => e = .returned (.tuple #[]) ∧ TwAt c w0 w' (l ++ be s n) := by
  obtain ⟨⟨v, hv⟩, hb⟩ := h
  refine (mnum_w c v 100 l 0 n s hs w hv (by decide) (by decide) (by omega)).mono ?_
  rintro e w' ⟨rfl, v', h', hk, _⟩
  rw [(wL_ok l s n hn hl).1, (wL_ok l s n hn hl).2] at h'
  exact ⟨rfl, ⟨v', h'⟩, hb.trans (hk.below (Nat.le_of_lt hv.lt) (Nat.le_refl _) (fun g hg => by have := (hv.own.lt g hg).1; omega))⟩
def memBytes (l : List Int) : List UInt8 := l.flatMap fun x => be 1 x.toNat
/-- The bytes of a right configuration. -/
def confB (ep : Int) (l : List Int) : List UInt8 := be 1 67 ++ be 2 ep.toNat ++ be 1 l.length ++ memBytes l
theorem memBytes_len (l : List Int) : (memBytes l).length = l.length := by
  induction l with
  | nil => rfl
  | cons x l ih =>
    show (be 1 x.toNat ++ memBytes l).length = _
    rw [List.length_append, be_len, ih, List.length_cons]
    omega
theorem memBytes_snoc (l : List Int) (j : Nat) (hj : j < l.length) : memBytes (l.take (j + 1)) = memBytes (l.take j) ++ be 1 (l.getD j 0).toNat := by
  rw [List.take_add_one, getD_some hj, memBytes, List.flatMap_append]
  simp [memBytes]
def textC (ep : Int) (l : List Int) : ByteArray := if rightC ep l then ⟨(confB ep l).toArray⟩ else ⟨#[]⟩
def textE (ep : Int) (l : List Int) : Int := if rightC ep l then 0 else 1
set_option maxRecDepth 100000 in
set_option maxHeartbeats 3200000 in
theorem vtext_any (ep : Int) (a : Option Addr) (n cap : Nat) (l : List Int) (hn : l.length = n) (hm : n ≤ maxLen) (w : World) (hI : IntsIn w a l) :
    Calls Tryz.prog 77 #[.agg #[.int .i64 ep, .slice a n cap]] w fun e w' => e = .returned (.tuple #[.string (textC ep l), .int .i64 (textE ep l)]) ∧ Below w.heap.size w w' := by
  have HR : Hid (∀ (b : Bool), rightC ep l = b → ∀ u : World, IntsIn u a l → Calls Tryz.prog 90 #[.agg #[.int .i64 ep, .slice a n cap]] u fun e w' => e = .returned (.bool b) ∧ Below u.heap.size u w') := hid (fun b hb u hu => by rw [← hb]; exact vright_any ep a n cap l hn hm u hu)
  have HI := hid hI
  have HN := hid hn
  clear hI hm hn
  cases hr : rightC ep l with
  | false =>
    rw [show textC ep l = ⟨#[]⟩ by rw [textC, hr]; rfl, show textE ep l = 1 by rw [textE, hr]; rfl]
    have HRb := hid (HR.out false hr)
    clear hr
    go_enter Tryz.func77, Tryz.ntmps77
    go_wp2_with (go_at_call 90; refine (HRb.out _ (by exact HI.out.alloc _)).mono ?_; rintro e w1 ⟨rfl, hb1⟩; have H1 := hid (((Below.refl w.heap.size w).alloc (Nat.le_refl _) _).trans (hb1.mono (by simp))); clear hb1)
    go_ret2
    exact ⟨rfl, H1.out⟩
  | true =>
    have HRb := hid (HR.out true hr)
    obtain ⟨⟨he0, he60⟩, hmb⟩ := right_mem hr
    have hml := mem_len hmb
    rw [HN.out] at hml
    obtain ⟨E, rfl⟩ : ∃ E : Nat, ep = (E : Int) := ⟨ep.toNat, by omega⟩
    rw [show textE (E : Int) l = 0 by rw [textE, hr]; rfl]
    obtain ⟨T, eT⟩ : ∃ T, T = textC (E : Int) l := ⟨_, rfl⟩
    have HT : Hid (T = ⟨(be 1 67 ++ be 2 E ++ be 1 n ++ memBytes l).toArray⟩) := hid (by rw [eT, textC, hr, if_pos rfl, confB, Int.toNat_natCast, HN.out])
    rw [← eT]
    have HM := hid hmb
    have hn1 : (n : Int) ≤ 10 := by omega
    have hE1 : (E : Int) ≤ 60 := by omega
    have HE := hid (And.intro hml (show E ≤ 60 by omega))
    clear hr he0 he60 hmb hml eT
    go_enter Tryz.func77, Tryz.ntmps77
    go_wp2_with (first
      | (go_at_call 90; refine (HRb.out _ (by exact HI.out.alloc _)).mono ?_; rintro e w1 ⟨rfl, hb1⟩
         have c0 : w1.cell? ⟨w.heap.size, 0, none⟩ = some (.int .i64 (E : Int)) := (hb1.cell (p := ⟨w.heap.size, 0, none⟩) (by simp)).trans (cell_at (conf_cells w _ _) 0 _ rfl)
         have c1 : w1.cell? ⟨w.heap.size, 1, none⟩ = some (.slice a n cap) := (hb1.cell (p := ⟨w.heap.size, 1, none⟩) (by simp)).trans (cell_at (conf_cells w _ _) 1 _ rfl)
         have hlt : w.heap.size < w1.heap.size := Nat.lt_of_lt_of_le (by simp) hb1.size
         have H1 := hid (And.intro hlt (And.intro (((Below.refl w.heap.size w).alloc (Nat.le_refl _) _).trans (hb1.mono (by simp))) (And.intro c0 c1)))
         clear hb1 hlt)
      | (go_at_call 72; refine (mnew_any _ _).mono ?_; rintro e w2 ⟨rfl, hw2⟩
         have H2 : Hid (TwAt w1.heap.size w1 w2 []) := hid (by rw [hw2]; exact ⟨⟨_, ⟨heap_alloc_last w1 _, ⟨rfl, .inl ⟨rfl, rfl⟩⟩⟩⟩, (Below.refl _ _).alloc (Nat.le_refl _) _⟩)
         clear hw2)
      | (go_at_call 73; have := H4; refine (tnum _ _ _ (be 1 67 ++ be 2 E) n 1 (by decide) (by have := HE.out.1; omega) (by rw [List.length_append, be_len, be_len]; decide) (by exact H4.out)).mono ?_; rintro e w5 ⟨rfl, h5⟩; have H5 := hid h5; clear h5)
      | (go_at_call 73; have := H3; refine (tnum _ _ _ (be 1 67) E 2 (by decide) (by have := HE.out.2; omega) (by rw [be_len]; decide) (by exact H3.out)).mono ?_; rintro e w4 ⟨rfl, h4⟩; have H4 := hid h4; clear h4; have d1 : w4.cell? ⟨w.heap.size, 1, none⟩ = some (.slice a n cap) := (H4.out.2.cell (p := ⟨w.heap.size, 1, none⟩) H1.out.1).trans H1.out.2.2.2)
      | (go_at_call 73; refine (tnum _ _ _ [] 67 1 (by decide) (by decide) (by decide) (by exact H2.out)).mono ?_; rintro e w3 ⟨rfl, h3⟩; have H3 := hid h3; clear h3; have d0 : w3.cell? ⟨w.heap.size, 0, none⟩ = some (.int .i64 (E : Int)) := (H3.out.2.cell (p := ⟨w.heap.size, 0, none⟩) H1.out.1).trans H1.out.2.2.1))
    obtain ⟨P, eP⟩ : ∃ P, P = be 1 67 ++ be 2 E ++ be 1 n := ⟨_, rfl⟩
    rw [← eP] at H5 HT
    have HP : Hid (P.length = 4) := hid (by rw [eP, List.length_append, List.length_append, be_len, be_len, be_len])
    clear eP this
    go_loopw [5] (fun i wr => ∃ j : Nat, j ≤ n ∧ i = .int .i64 (j : Int) ∧ TwAt w1.heap.size w1 wr (P ++ memBytes (l.take j)))
      (fun i _ => ((n : Int) - intOf i).toNat)
    case atStart => exact ⟨0, by omega, rfl, by rw [List.take_zero, show memBytes [] = [] from rfl, List.append_nil]; exact H5.out⟩
    case round =>
      obtain ⟨j, hj, rfl, hO⟩ := hrel
      have HO := hid hO
      clear hO
      have e1 : wr.cell? ⟨w.heap.size, 1, none⟩ = some (.slice a n cap) := (HO.out.2.cell (p := ⟨w.heap.size, 1, none⟩) H1.out.1).trans H1.out.2.2.2
      by_cases hjn : j = n
      · have hj1 : ¬ ((j : Int) < (n : Int)) := by omega
        have hO := HO.out
        rw [hjn, List.take_of_length_le (by rw [HN.out]; exact Nat.le_refl _)] at hO
        obtain ⟨⟨v, hv⟩, hb⟩ := hO
        have HV := hid hv
        have HB := hid hb
        clear hj hjn hv hb
        go_wp2_with (go_at_call 78; refine (mdone_ok _ _ _ _ _ (by exact HV.out)).mono ?_; rintro e wx ⟨rfl, rfl⟩)
        go_ret2
        exact ⟨by rw [HT.out]; rfl, H1.out.2.1.trans (HB.out.mono (Nat.le_of_lt H1.out.1))⟩
      · have hj1 : (j : Int) < (n : Int) := by omega
        have hj0 : (0 : Int) ≤ (j : Int) := Int.natCast_nonneg _
        have hjl : j < l.length := by rw [HN.out]; omega
        have hrg := mem_range HM.out j hjl
        have HS := hid (memBytes_snoc l j hjl)
        obtain ⟨g, off, rfl, hg, hcell⟩ := HI.out.at j _ (getD_some hjl)
        generalize l.getD j 0 = x at hrg HS hcell
        obtain ⟨X, rfl⟩ : ∃ X : Nat, x = (X : Int) := ⟨x.toNat, by omega⟩
        rw [Int.toNat_natCast] at HS
        have cz : wr.cell? ⟨g, off + j, none⟩ = some (.int .i64 (X : Int)) := (HO.out.2.cell (p := ⟨g, off + j, none⟩) (Nat.lt_of_lt_of_le hg H1.out.2.1.size)).trans ((H1.out.2.1.cell (p := ⟨g, off + j, none⟩) hg).trans hcell)
        have HX : Hid (X < 256 ∧ (P ++ memBytes (l.take j)).length + 1 ≤ 100) := hid ⟨by omega, by rw [List.length_append, HP.out, memBytes_len, List.length_take]; omega⟩
        have HJ := hid (And.intro hj hjn)
        clear hj hjn hjl hrg hg hcell
        go_wp2_with (go_at_call 73; refine (tnum _ _ _ (P ++ memBytes (l.take j)) X 1 (by decide) (by exact HX.out.1) (by exact HX.out.2) (by exact HO.out)).mono ?_; rintro e w6 ⟨rfl, h6⟩; have H6 := hid h6; clear h6)
        go_roundw
        case rel => exact ⟨j + 1, by have := HJ.out; omega, by go_num, by rw [HS.out, ← List.append_assoc]; exact H6.out⟩
        case measure => simp [intOf]; omega
end Go.Proofs.YthjgnfeadagmeaaGreat

/- The contracts of the document's reader (layer 1's reference). -/
namespace Go.Proofs.YthjgnfeadagmeaaGreat
open Go.RowKit

theorem add_val (a : Nat) (c : UInt8) (ha : a < 72057594037927936) :
    IntKind.u64.wrap (IntKind.u64.wrap ((a : Int) * 256) + IntKind.u64.wrap (c.toNat : Int)) = ((a * 256 + c.toNat : Nat) : Int) := by
  have hc := c.toNat_lt
  simp only [IntKind.wrap_u64]; omega

theorem run_at (s : ByteArray) (k : Nat) (hk : k < s.size) (w : World) : (Instr.index 9 (.string s) (.int .i64 (k : Int))).run Tryz.prog w = .ok (.int .u8 (s[k].toNat : Int)) w := by
  have h0 : (0 : Int) ≤ (k : Int) := Int.natCast_nonneg _
  go_simp

theorem val_two (s : ByteArray) (h : 2 ≤ s.size) : val (s.data.toList.take 2) = s[0].toNat * 256 + s[1].toNat := by
  rw [take_snoc s 1 (by omega), val_snoc, take_snoc s 0 (by omega), val_snoc]
  simp [val]

theorem World.drewN_heap (w : World) (n : Nat) : (w.drewN n).heap = w.heap := by
  induction n with
  | zero => rfl
  | succ n ih => exact ih
theorem Kept.drewN {b : Nat} {r : Option Nat} {x y : World} (h : Kept b r x y) (n : Nat) : Kept b r x (y.drewN n) := by
  induction n with
  | zero => exact h
  | succ n ih => exact ih.drew
end Go.Proofs.YthjgnfeadagmeaaGreat

/- Lists of numbers held against each other. -/
namespace Go.Proofs.YthjgnfeadagmeaaGreat
open Go.RowKit

set_option maxRecDepth 100000 in
set_option maxHeartbeats 1600000 in
theorem sameInts_any (a1 a2 : Option Addr) (n c1 c2 : Nat) (ss : List Int) (hn : ss.length = n) (hm : n ≤ maxLen) (w : World) (h1 : IntsIn w a1 ss) (h2 : IntsIn w a2 ss) :
    Calls Tryz.prog 83 #[.slice a1 n c1, .slice a2 n c2] w fun e w' => e = .returned (.bool true) ∧ Below w.heap.size w w' := by
  have hm2 : (n : Int) ≤ 9223372036854775807 := by unfold maxLen at hm; omega
  have HZ := hid (And.intro h1 (And.intro h2 hn))
  clear h1 h2 hn hm
  go_enter Tryz.func83, Tryz.ntmps83
  go_wp2
  go_loopw [5] (fun i wr => ∃ j : Nat, j ≤ n ∧ i = .int .i64 (j : Int) ∧ Below w.heap.size w wr)
    (fun i _ => ((n : Int) - intOf i).toNat)
  case atStart => exact ⟨0, by omega, rfl, Below.refl _ _⟩
  case round =>
    obtain ⟨j, hj, rfl, hbel⟩ := hrel
    have HB := hid hbel
    clear hbel
    by_cases hjn : j = n
    · have hj1 : ¬ ((j : Int) < (n : Int)) := by omega
      clear hj hjn
      go_wp2
      go_ret
      exact ⟨rfl, HB.out⟩
    · have hj1 : (j : Int) < (n : Int) := by omega
      have hj0 : (0 : Int) ≤ (j : Int) := Int.natCast_nonneg _
      obtain ⟨s, es⟩ : ∃ s, ss[j]? = some s := ⟨_, List.getElem?_eq_getElem (by rw [HZ.out.2.2]; omega)⟩
      obtain ⟨g1, off1, rfl, hg1, hcell1⟩ := HZ.out.1.at j s es
      obtain ⟨g2, off2, rfl, hg2, hcell2⟩ := HZ.out.2.1.at j s es
      have cz1 : wr.cell? ⟨g1, off1 + j, none⟩ = some (.int .i64 s) := (HB.out.cell (p := ⟨g1, off1 + j, none⟩) hg1).trans hcell1
      have cz2 : wr.cell? ⟨g2, off2 + j, none⟩ = some (.int .i64 s) := (HB.out.cell (p := ⟨g2, off2 + j, none⟩) hg2).trans hcell2
      clear es hg1 hg2 hcell1 hcell2
      go_wp2
      go_quiet (fail)
      go_wp2
      go_roundw
      case rel => exact ⟨j + 1, by omega, rfl, ⟨HB.out.os, HB.out.tape, HB.out.output, HB.out.size, HB.out.block⟩⟩
      case measure => simp [intOf]; omega
end Go.Proofs.YthjgnfeadagmeaaGreat

/- What the document reads as a configuration. -/
namespace Go.Proofs.YthjgnfeadagmeaaGreat
open Go.RowKit

/-- A reader behind so many bytes read one by one; the numbers read. -/
def rdS (s : ByteArray) (sh : Bool) : Nat → ByteArray × Bool
  | 0 => (s, sh)
  | k + 1 => (rS (rdS s sh k).1 (rdS s sh k).2 1, rB (rdS s sh k).1 (rdS s sh k).2 1)
def rdL (s : ByteArray) (sh : Bool) : Nat → List Int
  | 0 => []
  | k + 1 => rdL s sh k ++ [(rN (rdS s sh k).1 (rdS s sh k).2 1 : Int)]
theorem rdL_len (s : ByteArray) (sh : Bool) : ∀ k, (rdL s sh k).length = k
  | 0 => rfl
  | k + 1 => by rw [rdL, List.length_append, rdL_len s sh k]; rfl
/-- What is read: the head, the epoch, how many, and each. -/
def cH (t : ByteArray) : Nat := rN t false 1
def cS1 (t : ByteArray) : ByteArray × Bool := (rS t false 1, rB t false 1)
def cE (t : ByteArray) : Nat := rN (cS1 t).1 (cS1 t).2 2
def cS2 (t : ByteArray) : ByteArray × Bool := (rS (cS1 t).1 (cS1 t).2 2, rB (cS1 t).1 (cS1 t).2 2)
def cN (t : ByteArray) : Nat := rN (cS2 t).1 (cS2 t).2 1
def cS3 (t : ByteArray) : ByteArray × Bool := (rS (cS2 t).1 (cS2 t).2 1, rB (cS2 t).1 (cS2 t).2 1)
def cM (t : ByteArray) : List Int := rdL (cS3 t).1 (cS3 t).2 (cN t)
def cF (t : ByteArray) : ByteArray × Bool := rdS (cS3 t).1 (cS3 t).2 (cN t)
def readB (t : ByteArray) : Bool := decide (cH t = 67) && (decide (endOf (cF t).1 (cF t).2 = 0) && rightC (cE t : Int) (cM t))
section
variable {o : Oper} {a : Act} {w : World} {K : Act → World → Prop} {Q : Exit → Act → World → Prop}
/-- A number behind one's own numbers. -/
theorem owp_app_I (sl x : Operand) (ho : o.op = .call { callee := .builtin .append, args := #[sl, x], argTypes := #[22, 22] }) (B : Nat) (v : Value) (n : Nat) (l : List Int)
    (hs : a.eval sl = v) (hO : w.ownsRow B 3 1 v n (iC l)) (g : Nat) (y : Int) (hx : a.eval x = .slice (some ⟨g, 0, none⟩) 1 1) (hc : w.cell? ⟨g, 0, none⟩ = some (.int .i64 y)) (hB : B ≤ w.heap.size) (hlen : n + 1 ≤ 17592186044416)
    (h : ∀ v' w', Hid (w'.ownsRow B 3 1 v' (n + 1) (iC (l ++ [y]))) → Hid (w.grownBy w' v.ownBlock) → K (a.put o.dst v') w') : o.wp Tryz.prog a w K Q := by
  obtain ⟨i0, hi0, hz0, hz1, hz2⟩ := info_parts Tryz.info3
  obtain ⟨v', w', hr, h2, h3, h4⟩ := run_append_own (P := Tryz.prog) w B 22 o.type 3 i0 (.int .i64 0) 1 8 Tryz.underlying22 hi0 hz0 hz1 hz2 rfl (by decide) v n (iC l) hO ⟨g, 0, none⟩ 1 1 [.int .i64 y] rfl (fun j u hj => by
    match j, hj with
    | 0, hj => simp at hj; subst hj; simpa [Addr.add] using hc) (by simp [Value.oneCell']) (by unfold maxLen; omega) (by omega) hB
  refine owp_value (v := v') (w' := w') ?_ (h v' w' (by rw [iC_app]; exact h2) h3)
  simp [execOp, ho, resolve, invoke, builtin, hs, hx, hr, Result.andThen]
end
def readZ (t : ByteArray) : Int := if readB t then (cE t : Int) else 0
def readM (t : ByteArray) : List Int := if readB t then cM t else []
def readE (t : ByteArray) : Int := if readB t then 0 else 5
theorem own_kept {w w' : World} {B r : Nat} {v : Value} {n : Nat} {xs : List Value} {e : TypeId} (h : w.ownsRow B e 1 v n xs) (k : Kept r none w w') (hr : r < B) : w'.ownsRow B e 1 v n xs := by
  refine ⟨h.1, ?_⟩
  rcases h.2 with hn | ⟨g, cap, cur, hv, hB, hh, hx⟩
  · exact .inl hn
  · exact .inr ⟨g, cap, cur, hv, hB, (k.block g (lt_of_blk hh) (by omega) (by simp)).trans hh, hx⟩
theorem own_low {w : World} {B B' : Nat} {e : TypeId} {z : Nat} {v : Value} {n : Nat} {xs : List Value} (h : w.ownsRow B e z v n xs) (hB : B' ≤ B) : w.ownsRow B' e z v n xs := by
  refine ⟨h.1, ?_⟩
  rcases h.2 with hn | ⟨g, cap, cur, hv, hb, hx⟩
  · exact .inl hn
  · exact .inr ⟨g, cap, cur, hv, Nat.le_trans hB hb, hx⟩
theorem ret_cell2 {f : Func} {a : Act} {w : World} {Q : Ending → World → Prop} {s s2 : Nat} {t : TypeId} {ad : Addr} {v v2 : Value} (hr : f.results = #[.cell s t, .tmp s2]) (hs : a.tmps.getD s undef = .pointer (some ad)) (hl : (loadVar t ad).run Tryz.prog w = .ok v w) (h2 : a.tmps.getD s2 undef = v2) (hd : a.defers = [])
    (h : Q (.returned (.tuple #[v, v2])) w) : bodyPost Tryz.prog f Q .ret a w := by
  refine bodyPost_ret (v := .tuple #[v, v2]) ?_ hd h
  have h1 : a.tmps.getD s undef = .pointer (some ad) := hs
  simp [results, hr, -Array.getD_eq_getD_getElem?, h1, h2, asAddr, hl]
theorem load_conf (w : World) (b : Nat) (x y : Value) (c0 : w.cell? ⟨b, 0, none⟩ = some x) (c1 : w.cell? ⟨b, 1, none⟩ = some y) : (loadVar 94 ⟨b, 0, none⟩).run Tryz.prog w = .ok (.agg #[x, y]) w := by
  go_simp
theorem res_set {w : World} {b : Nat} {p q x y : Value} {T : TypeId} (h : w.heap[b]? = some (.cells #[p, q] T (0, 0))) : ((w.setCell ⟨b, 0, none⟩ x).setCell ⟨b, 1, none⟩ y).heap[b]? = some (.cells #[x, y] T (0, 0)) := by
  have h1 : (w.setCell ⟨b, 0, none⟩ x).heap[b]? = some (.cells #[x, q] T (0, 0)) := (blk_set h 0 x).trans (by simp)
  exact (blk_set h1 1 y).trans (by simp)
theorem own_setCell {w : World} {B : Nat} {v : Value} {n : Nat} {xs : List Value} {e : TypeId} (h : w.ownsRow B e 1 v n xs) (r o : Nat) (x : Value) (hr : r < B) : (w.setCell ⟨r, o, none⟩ x).ownsRow B e 1 v n xs := by
  refine ⟨h.1, ?_⟩
  rcases h.2 with hn | ⟨g, cap, cur, hv, hB, hh, hx⟩
  · exact .inl hn
  · exact .inr ⟨g, cap, cur, hv, hB, (Below.heap_setCell _ _ _ _ (by show ¬ g = r; omega)).trans hh, hx⟩
theorem own_ints {w : World} {B : Nat} {v : Value} {l : List Int} (h : w.ownsRow B 3 1 v l.length (iC l)) : ∃ ad cap, v = .slice ad l.length cap ∧ IntsIn w ad l := by
  rcases h.2 with ⟨hv, h0⟩ | ⟨g, cap, cur, hv, hB, hh, hx⟩
  · exact ⟨none, 0, by rw [hv, h0], .inl (List.eq_nil_of_length_eq_zero h0)⟩
  · refine ⟨_, cap, hv, .inr ⟨g, 0, rfl, lt_of_blk hh, fun j z hj => ?_⟩⟩
    subst hv
    have := h.cells (g := g) rfl j _ (iC_get l j z hj)
    rwa [Addr.add_lit] at this
set_option maxRecDepth 100000 in
set_option maxHeartbeats 1600000 in
/-- The same configurations are the same. -/
theorem vsame_yes (ep : Int) (a1 a2 : Option Addr) (n c1 c2 : Nat) (l : List Int) (hn : l.length = n) (hm : n ≤ maxLen) (w : World) (h1 : IntsIn w a1 l) (h2 : IntsIn w a2 l) :
    Calls Tryz.prog 79 #[.agg #[.int .i64 ep, .slice a1 n c1], .agg #[.int .i64 ep, .slice a2 n c2]] w fun e w' => e = .returned (.bool true) ∧ Below w.heap.size w w' := by
  have HC : Hid (∀ u : World, IntsIn u a1 l → IntsIn u a2 l → Calls Tryz.prog 83 #[.slice a1 n c1, .slice a2 n c2] u fun e w' => e = .returned (.bool true) ∧ Below u.heap.size u w') := hid (fun u k1 k2 => sameInts_any a1 a2 n c1 c2 l hn hm u k1 k2)
  have HI := hid (And.intro h1 h2)
  clear h1 h2 hn hm
  go_enter Tryz.func79, Tryz.ntmps79
  go_wp2_with (go_at_call 83; refine (HC.out _ (by exact (HI.out.1.alloc _).alloc _) (by exact (HI.out.2.alloc _).alloc _)).mono ?_; rintro e w1 ⟨rfl, hb1⟩; have H1 := hid ((((Below.refl w.heap.size w).alloc (Nat.le_refl _) _).alloc (by simp) _).trans (hb1.mono (by simp; omega))); clear hb1)
  go_ret
  exact ⟨rfl, H1.out⟩
end Go.Proofs.YthjgnfeadagmeaaGreat

/- Configurations there and back by bytes. No walk here. -/
namespace Go.Proofs.YthjgnfeadagmeaaGreat
open Go.RowKit

theorem memBytes_cons (x : Int) (l : List Int) : memBytes (x :: l) = be 1 x.toNat ++ memBytes l := rfl
theorem memBytes_app (a b : List Int) : memBytes (a ++ b) = memBytes a ++ memBytes b := by rw [memBytes, List.flatMap_append]; rfl
theorem rdS_good (s : ByteArray) (l : List Int) (rest : List UInt8) (h : s.data.toList = memBytes l ++ rest) (hl : ∀ x, x ∈ l → 0 ≤ x ∧ x < 256) :
    ∀ k, k ≤ l.length → (rdS s false k).1.data.toList = memBytes (l.drop k) ++ rest ∧ (rdS s false k).2 = false ∧ rdL s false k = l.take k
  | 0, _ => ⟨h, rfl, rfl⟩
  | k + 1, hk => by
    obtain ⟨h1, h2, h3⟩ := rdS_good s l rest h hl k (by omega)
    have hd : l.drop k = l[k] :: l.drop (k + 1) := (List.drop_eq_getElem_cons (by omega))
    have hr := hl _ (List.getElem_mem (show k < l.length by omega))
    rw [hd, memBytes_cons, List.append_assoc] at h1
    obtain ⟨g1, g2, g3⟩ := rd_good (rdS s false k).1 1 (l[k]).toNat _ h1 (by omega)
    refine ⟨?_, ?_, ?_⟩
    · rw [rdS, h2]; exact g2
    · rw [rdS, h2]; exact g3
    · rw [rdL, h2, h3, g1, List.take_add_one, List.getElem?_eq_getElem (by omega), Int.toNat_of_nonneg hr.1]
      rfl
theorem rdS_back (s : ByteArray) (sh : Bool) : ∀ k, (rdS s sh k).2 = false → sh = false ∧ s.data.toList = memBytes (rdL s sh k) ++ (rdS s sh k).1.data.toList
  | 0, h => ⟨h, rfl⟩
  | k + 1, h => by
    obtain ⟨h1, h2⟩ := rd_back _ _ 1 (show rB (rdS s sh k).1 (rdS s sh k).2 1 = false from h)
    obtain ⟨h3, h4⟩ := rdS_back s sh k h1
    refine ⟨h3, ?_⟩
    rw [h4, h2, rdL, memBytes_app, List.append_assoc]
    rw [memBytes_cons, List.append_assoc, Int.toNat_natCast]
    rfl
theorem rightC_ep {ep : Int} {l : List Int} (h : rightC ep l = true) : (0 ≤ ep ∧ ep ≤ 60) ∧ memB l = true := by
  rw [rightC, Bool.and_eq_true_iff] at h
  exact ⟨of_decide_eq_true h.1, h.2⟩
/-- What is told is read. -/
theorem read_text (ep : Int) (l : List Int) (h : rightC ep l = true) : readB (textC ep l) = true ∧ readZ (textC ep l) = ep ∧ readM (textC ep l) = l := by
  obtain ⟨he, hm⟩ := rightC_ep h
  obtain ⟨t, et⟩ : ∃ t, t = textC ep l := ⟨_, rfl⟩
  have hlen := mem_len hm
  have hx : ∀ x, x ∈ l → 0 ≤ x ∧ x < 256 := fun x hx => by
    obtain ⟨i, hi, rfl⟩ := List.getElem_of_mem hx
    have := mem_range hm i hi
    rw [List.getD_eq_getElem?_getD, List.getElem?_eq_getElem hi] at this
    have h2 : 0 ≤ l[i] ∧ l[i] < 16 := this
    omega
  have ht : t.data.toList = be 1 67 ++ (be 2 ep.toNat ++ (be 1 l.length ++ (memBytes l ++ []))) := by
    rw [et, textC, if_pos h, mk_data, confB, List.append_nil, List.append_assoc, List.append_assoc]
  obtain ⟨a1, a2, a3⟩ := rd_good t 1 67 _ ht (by decide)
  have e1 : cS1 t = (rS t false 1, false) := by rw [cS1, a3]
  obtain ⟨b1, b2, b3⟩ := rd_good (cS1 t).1 2 ep.toNat _ (by rw [e1]; exact a2) (by omega)
  have e2 : cS2 t = (rS (cS1 t).1 false 2, false) := by rw [cS2, show (cS1 t).2 = false by rw [e1], b3]
  obtain ⟨c1, c2, c3⟩ := rd_good (cS2 t).1 1 l.length _ (by rw [e2]; exact b2) (by omega)
  have e3 : cS3 t = (rS (cS2 t).1 false 1, false) := by rw [cS3, show (cS2 t).2 = false by rw [e2], c3]
  have hN : cN t = l.length := by rw [cN, show (cS2 t).2 = false by rw [e2], c1]
  have hE : cE t = ep.toNat := by rw [cE, show (cS1 t).2 = false by rw [e1], b1]
  obtain ⟨d1, d2, d3⟩ := rdS_good (cS3 t).1 l [] (by rw [e3]; exact c2) hx l.length (Nat.le_refl _)
  have hM : cM t = l := by rw [cM, hN, show (cS3 t).2 = false by rw [e3], d3, List.take_length]
  have hF : endOf (cF t).1 (cF t).2 = 0 := by
    rw [cF, hN, show (cS3 t).2 = false by rw [e3], d2]
    refine end_of ?_
    rw [d1, List.drop_length]
    rfl
  have hZ : ((cE t : Nat) : Int) = ep := by rw [hE]; omega
  have hB : readB t = true := by
    rw [readB, hZ, hM, h, decide_eq_true hF, show cH t = 67 from a1]
    rfl
  rw [← et]
  exact ⟨hB, by rw [readZ, if_pos hB, hZ], by rw [readM, if_pos hB, hM]⟩
/-- What is read is told as just these bytes. -/
theorem text_read (t : ByteArray) (h : readB t = true) : rightC (readZ t) (readM t) = true ∧ textC (readZ t) (readM t) = t := by
  have hb := h
  rw [readB, Bool.and_eq_true_iff, Bool.and_eq_true_iff] at h
  obtain ⟨h1, h2, h3⟩ := h
  have h1 := of_decide_eq_true h1
  obtain ⟨f1, f2⟩ := end_ok (of_decide_eq_true h2)
  obtain ⟨g1, g2⟩ := rdS_back (cS3 t).1 (cS3 t).2 (cN t) f1
  obtain ⟨k1, k2⟩ := rd_back (cS2 t).1 (cS2 t).2 1 g1
  obtain ⟨l1, l2⟩ := rd_back (cS1 t).1 (cS1 t).2 2 k1
  obtain ⟨_, m2⟩ := rd_back t false 1 l1
  have hN : (cM t).length = cN t := rdL_len _ _ _
  rw [readZ, if_pos hb, readM, if_pos hb]
  refine ⟨h3, ?_⟩
  rw [textC, if_pos h3]
  apply ByteArray.ext
  apply Array.ext'
  rw [mk_data, confB, hN, Int.toNat_natCast]
  have m3 : t.data.toList = be 1 (cH t) ++ (cS1 t).1.data.toList := m2
  have l3 : (cS1 t).1.data.toList = be 2 (cE t) ++ (cS2 t).1.data.toList := l2
  have k3 : (cS2 t).1.data.toList = be 1 (cN t) ++ (cS3 t).1.data.toList := k2
  have g3 : (cS3 t).1.data.toList = memBytes (cM t) ++ (cF t).1.data.toList := g2
  rw [m3, l3, k3, g3, f2, h1, List.append_nil, List.append_assoc, List.append_assoc]
theorem text_inj (ep ep' : Int) (l l' : List Int) (h : rightC ep l = true) (h' : rightC ep' l' = true) (he : textC ep l = textC ep' l') : ep = ep' ∧ l = l' := by
  have h1 := read_text ep l h
  have h2 := read_text ep' l' h'
  rw [he] at h1
  exact ⟨h1.2.1.symm.trans h2.2.1, h1.2.2.symm.trans h2.2.2⟩
end Go.Proofs.YthjgnfeadagmeaaGreat

/- Readers and tellers of bytes that fit each other. No walk here. -/
namespace Go.Proofs.YthjgnfeadagmeaaGreat
open Go.RowKit

abbrev Ps (α : Type) := ByteArray → Option (α × ByteArray)
/-- What is told is read, what is read was told. -/
structure Inv {α : Type} (p : Ps α) (f : α → List UInt8) (V : α → Prop) : Prop where
  good : ∀ (s : ByteArray) (x : α) (rest : List UInt8), V x → s.data.toList = f x ++ rest → ∃ s', p s = some (x, s') ∧ s'.data.toList = rest
  back : ∀ (s : ByteArray) (x : α) (s' : ByteArray), p s = some (x, s') → V x ∧ s.data.toList = f x ++ s'.data.toList
def pN (n : Nat) : Ps Nat := fun s => if rB s false n = false then some (rN s false n, rS s false n) else none
theorem inv_N (n : Nat) : Inv (pN n) (be n) (fun k => k < 256 ^ n) where
  good s k rest hk h := by
    obtain ⟨h1, h2, h3⟩ := rd_good s n k rest h hk
    exact ⟨rS s false n, by rw [pN, if_pos h3, h1], h2⟩
  back s k s' h := by
    unfold pN at h
    split at h
    · rename_i h3
      cases h
      exact ⟨rN_lt s false n, (rd_back s false n h3).2⟩
    · cases h
def pT : Ps ByteArray := fun s => if tB s false = false then some (tT s false, tS s false) else none
def txL (x : ByteArray) : List UInt8 := be 2 x.size ++ x.data.toList
theorem inv_T : Inv pT txL (fun x => x.size ≤ 65535) where
  good s x rest hx h := by
    rw [txL, List.append_assoc] at h
    obtain ⟨h1, h2, h3⟩ := tx_good s x rest h hx
    exact ⟨tS s false, by rw [pT, if_pos h3, h1], h2⟩
  back s x s' h := by
    unfold pT at h
    split at h
    · rename_i h3
      cases h
      obtain ⟨_, h4, h5⟩ := tx_back s false h3
      exact ⟨h5, by rw [txL, List.append_assoc]; exact h4⟩
    · cases h
def pSeq {α β : Type} (p : Ps α) (q : Ps β) : Ps (α × β) := fun s => (p s).bind fun a => (q a.2).map fun b => ((a.1, b.1), b.2)
theorem Inv.seq {α β : Type} {p : Ps α} {q : Ps β} {f : α → List UInt8} {g : β → List UInt8} {V : α → Prop} {W : β → Prop} (hp : Inv p f V) (hq : Inv q g W) : Inv (pSeq p q) (fun z => f z.1 ++ g z.2) (fun z => V z.1 ∧ W z.2) where
  good s z rest hz h := by
    rw [List.append_assoc] at h
    obtain ⟨s1, h1, h2⟩ := hp.good s z.1 _ hz.1 h
    obtain ⟨s2, h3, h4⟩ := hq.good s1 z.2 rest hz.2 h2
    exact ⟨s2, by rw [pSeq, h1]; simp [h3], h4⟩
  back s z s' h := by
    unfold pSeq at h
    cases h1 : p s with
    | none => rw [h1] at h; cases h
    | some a =>
      rw [h1] at h
      simp only [Option.bind_some] at h
      cases h2 : q a.2 with
      | none => rw [h2] at h; cases h
      | some b =>
        rw [h2] at h
        simp only [Option.map_some, Option.some.injEq, Prod.mk.injEq] at h
        obtain ⟨rfl, rfl⟩ := h
        obtain ⟨v1, e1⟩ := hp.back s a.1 a.2 h1
        obtain ⟨v2, e2⟩ := hq.back a.2 b.1 b.2 h2
        exact ⟨⟨v1, v2⟩, by rw [e1, e2, List.append_assoc]⟩
def pMap {α β : Type} (d : α → Option β) (p : Ps α) : Ps β := fun s => (p s).bind fun a => (d a.1).map fun y => (y, a.2)
theorem Inv.map {α β : Type} {p : Ps α} {f : α → List UInt8} {V : α → Prop} (hp : Inv p f V) (d : α → Option β) (e : β → α) (W : β → Prop) (h1 : ∀ y, W y → V (e y) ∧ d (e y) = some y) (h2 : ∀ x y, V x → d x = some y → W y ∧ e y = x) : Inv (pMap d p) (fun y => f (e y)) W where
  good s y rest hy h := by
    obtain ⟨v, hd⟩ := h1 y hy
    obtain ⟨s1, h3, h4⟩ := hp.good s (e y) rest v h
    exact ⟨s1, by rw [pMap, h3]; simp [hd], h4⟩
  back s y s' h := by
    unfold pMap at h
    cases h3 : p s with
    | none => rw [h3] at h; cases h
    | some a =>
      rw [h3] at h
      simp only [Option.bind_some] at h
      cases h4 : d a.1 with
      | none => rw [h4] at h; cases h
      | some z =>
        rw [h4] at h
        simp only [Option.map_some, Option.some.injEq, Prod.mk.injEq] at h
        obtain ⟨rfl, rfl⟩ := h
        obtain ⟨v1, e1⟩ := hp.back s a.1 a.2 h3
        obtain ⟨w1, e2⟩ := h2 a.1 z v1 h4
        exact ⟨w1, by rw [e1, e2]⟩
def pMany {α : Type} (p : Ps α) : Nat → ByteArray → Option (List α × ByteArray)
  | 0, s => some ([], s)
  | k + 1, s => (pMany p k s).bind fun a => (p a.2).map fun b => (a.1 ++ [b.1], b.2)
theorem Inv.many {α : Type} {p : Ps α} {f : α → List UInt8} {V : α → Prop} (hp : Inv p f V) : ∀ k, Inv (pMany p k) (fun l => l.flatMap f) (fun l => l.length = k ∧ ∀ x, x ∈ l → V x)
  | 0 => ⟨fun s l rest hl h => by
      obtain rfl := List.eq_nil_of_length_eq_zero hl.1
      exact ⟨s, rfl, by simpa using h⟩, fun s l s' h => by
      cases h
      exact ⟨⟨rfl, fun x hx => by cases hx⟩, rfl⟩⟩
  | k + 1 => ⟨fun s l rest hl h => by
      obtain ⟨l', x, rfl⟩ : ∃ l' x, l = l' ++ [x] := ⟨l.dropLast, l.getLast (by intro e; rw [e] at hl; cases hl.1), (List.dropLast_concat_getLast _).symm⟩
      have hl' : l'.length = k := by have := hl.1; rw [List.length_append] at this; simpa using this
      rw [List.flatMap_append, List.append_assoc] at h
      obtain ⟨s1, h1, h2⟩ := (Inv.many hp k).good s l' _ ⟨hl', fun y hy => hl.2 y (List.mem_append.2 (.inl hy))⟩ h
      rw [show [x].flatMap f = f x by simp] at h2
      obtain ⟨s2, h3, h4⟩ := hp.good s1 x rest (hl.2 x (by simp)) h2
      exact ⟨s2, by rw [pMany, h1]; simp [h3], h4⟩, fun s l s' h => by
      rw [pMany] at h
      cases h1 : pMany p k s with
      | none => rw [h1] at h; cases h
      | some a =>
        rw [h1] at h
        simp only [Option.bind_some] at h
        cases h2 : p a.2 with
        | none => rw [h2] at h; cases h
        | some b =>
          rw [h2] at h
          simp only [Option.map_some, Option.some.injEq, Prod.mk.injEq] at h
          obtain ⟨rfl, rfl⟩ := h
          obtain ⟨v1, e1⟩ := (Inv.many hp k).back s a.1 a.2 h1
          obtain ⟨v2, e2⟩ := hp.back a.2 b.1 b.2 h2
          refine ⟨⟨by rw [List.length_append, v1.1]; rfl, fun x hx => ?_⟩, by rw [e1, e2, List.flatMap_append, List.append_assoc]; simp⟩
          rcases List.mem_append.1 hx with hx | hx
          · exact v1.2 x hx
          · rw [List.mem_singleton.1 hx]; exact v2⟩
def pList {α : Type} (p : Ps α) : Ps (List α) := fun s => (pN 1 s).bind fun a => pMany p a.1 a.2
def lsL {α : Type} (f : α → List UInt8) (l : List α) : List UInt8 := be 1 l.length ++ l.flatMap f
theorem Inv.list {α : Type} {p : Ps α} {f : α → List UInt8} {V : α → Prop} (hp : Inv p f V) : Inv (pList p) (lsL f) (fun l => l.length < 256 ∧ ∀ x, x ∈ l → V x) where
  good s l rest hl h := by
    rw [lsL, List.append_assoc] at h
    obtain ⟨s1, h1, h2⟩ := (inv_N 1).good s l.length _ (by simpa using hl.1) h
    obtain ⟨s2, h3, h4⟩ := (hp.many l.length).good s1 l rest ⟨rfl, hl.2⟩ h2
    exact ⟨s2, by rw [pList, h1]; exact h3, h4⟩
  back s l s' h := by
    unfold pList at h
    cases h1 : pN 1 s with
    | none => rw [h1] at h; cases h
    | some a =>
      rw [h1] at h
      simp only [Option.bind_some] at h
      obtain ⟨v1, e1⟩ := (inv_N 1).back s a.1 a.2 h1
      obtain ⟨v2, e2⟩ := (hp.many a.1).back a.2 l s' h
      exact ⟨⟨by rw [v2.1]; simpa using v1, v2.2⟩, by rw [e1, e2, lsL, v2.1, List.append_assoc]⟩
def pI (n : Nat) : Ps Int := pMap (fun k : Nat => some (k : Int)) (pN n)
theorem inv_I (n : Nat) : Inv (pI n) (fun z => be n z.toNat) (fun z => 0 ≤ z ∧ z.toNat < 256 ^ n) :=
  (inv_N n).map (fun k : Nat => some (k : Int)) Int.toNat (fun z => 0 ≤ z ∧ z.toNat < 256 ^ n) (fun y hy => ⟨hy.2, by rw [Int.toNat_of_nonneg hy.1]⟩) (fun x y hx hd => by cases hd; exact ⟨⟨Int.natCast_nonneg _, by simpa using hx⟩, by simp⟩)
/-- A signature; signatures. -/
abbrev Sg := Int × ByteArray
def sgV (p : Sg) : Prop := (0 ≤ p.1 ∧ p.1.toNat < 256 ^ 1) ∧ p.2.size ≤ 65535
def sigL (p : Sg) : List UInt8 := be 1 p.1.toNat ++ txL p.2
def pSg : Ps Sg := pSeq (pI 1) pT
theorem inv_sg : Inv pSg sigL sgV := (inv_I 1).seq inv_T
def pSgs : Ps (List Sg) := pList pSg
def sgsV (l : List Sg) : Prop := l.length < 256 ∧ ∀ x, x ∈ l → sgV x
def sgsL (l : List Sg) : List UInt8 := lsL sigL l
theorem inv_sgs : Inv pSgs sgsL sgsV := inv_sg.list
/-- A request by its text. -/
def rqV (r : Rq) : Prop := (rightB r = true ∨ r = zeroQ) ∧ canW r.b = r.b ∧ r.b < 18446744073709551616
def pRq : Ps Rq := pMap (fun t => if rdE t = 0 then some (rdR t) else none) pT
def rqX (r : Rq) : List UInt8 := txL (rqT r)
theorem zero_text : rqT zeroQ = ⟨#[0]⟩ := by decide
theorem rd_right {r : Rq} (h : rightB r = true) (hc : canW r.b = r.b) (hb : r.b < 18446744073709551616) : rdE (rqT r) = 0 ∧ rdR (rqT r) = r := by
  obtain ⟨h1, h2, h3⟩ := read_back h hb
  refine ⟨by rw [rdE, h3, h1]; rfl, ?_⟩
  rw [rdR, h3, h1]
  show rdq (rqT r) = r
  rw [h2, hc]
theorem rq_size {r : Rq} (h : rightB r = true) : (rqT r).size ≤ 34 := by
  have hk := (right_fields h).2.2.2.1
  rw [rqT, right_null h, h]
  show (ByteArray.mk (rqL r).toArray).size ≤ 34
  have : (ByteArray.mk (rqL r).toArray).size = (rqL r).length := by simp [ByteArray.size]
  rw [this, rqL_len]
  omega
theorem inv_rq : Inv pRq rqX rqV :=
  inv_T.map (fun t => if rdE t = 0 then some (rdR t) else none) rqT rqV (fun r hr => by
    rcases hr.1 with h | h
    · obtain ⟨h1, h2⟩ := rd_right h hr.2.1 hr.2.2
      exact ⟨by have := rq_size h; omega, by rw [if_pos h1, h2]⟩
    · subst h
      rw [zero_text]
      exact ⟨by decide, by rw [if_pos (by decide)]; rfl⟩) (fun t r ht hd => by
    split at hd
    · rename_i h0
      cases hd
      unfold rdE at h0
      cases hn : isNul t with
      | true =>
        have ht0 : t = ⟨#[0]⟩ := by
          have := of_decide_eq_true hn
          apply ByteArray.ext
          exact Array.ext' this
        rw [show rdR t = zeroQ by rw [rdR, hn]; rfl]
        exact ⟨⟨.inr rfl, by decide, by decide⟩, by rw [zero_text, ht0]⟩
      | false =>
        rw [hn] at h0
        cases ho : okq t with
        | false => rw [ho] at h0; cases h0
        | true =>
          obtain ⟨h1, h2, h3⟩ := told_back ho
          rw [show rdR t = rdq t by rw [rdR, hn, ho]; rfl]
          refine ⟨⟨.inl h1, ?_, h3⟩, h2⟩
          simp only [okq, Bool.and_eq_true] at ho
          obtain ⟨f1, f2⟩ := fromW_ok ho.1.1.2
          show canW (fromW (rdBits t)) = fromW (rdBits t)
          rw [f1, f2]
    · cases hd)
/-- A result by its text. -/
def rsV (x : Int × Nat) : Prop := rsB x.1 = true ∧ canW x.2 = x.2 ∧ x.2 < 18446744073709551616
def pRs : Ps (Int × Nat) := pMap (fun t => if rsR t = 0 then some (rsC t, rsF t) else none) pT
def rsX (x : Int × Nat) : List UInt8 := txL (rsT x.1 x.2)
theorem rs_sz {c : Int} {f : Nat} (h : rsB c = true) : (rsT c f).size = 9 := by
  rw [rsT, if_pos h]
  have : (ByteArray.mk (rsL c f).toArray).size = (rsL c f).length := by simp [ByteArray.size]
  rw [this, rsL, List.length_append, be_len, be_len]
theorem inv_rs : Inv pRs rsX rsV :=
  inv_T.map (fun t => if rsR t = 0 then some (rsC t, rsF t) else none) (fun x : Int × Nat => rsT x.1 x.2) rsV (fun x hx => by
    obtain ⟨h1, h2, h3⟩ := rs_back hx.1 hx.2.2
    exact ⟨by rw [rs_sz hx.1]; decide, by rw [if_pos ((show rsR (rsT x.1 x.2) = 0 by rw [rsR, h1]; rfl)), h2, h3, hx.2.1]⟩) (fun t x ht hd => by
    split at hd
    · rename_i h0
      cases hd
      cases ho : okRs t with
      | false => rw [rsR, ho] at h0; cases h0
      | true =>
        obtain ⟨h1, h2, h3⟩ := rs_told ho
        refine ⟨⟨h1, ?_, h3⟩, h2⟩
        have hk := ho
        simp only [okRs, Bool.and_eq_true] at hk
        obtain ⟨f1, f2⟩ := fromW_ok hk.1.1
        show canW (rsF t) = rsF t
        rw [rsF, if_pos ho, f1, f2]
    · cases hd)
/-- A configuration by its text. -/
def cfV (x : Int × List Int) : Prop := rightC x.1 x.2 = true
def pCf : Ps (Int × List Int) := pMap (fun t => if readE t = 0 then some (readZ t, readM t) else none) pT
def cfX (x : Int × List Int) : List UInt8 := txL (textC x.1 x.2)
theorem cf_sz {e : Int} {l : List Int} (h : rightC e l = true) : (textC e l).size ≤ 14 := by
  have := mem_len (rightC_ep h).2
  rw [textC, if_pos h]
  have hs : (ByteArray.mk (confB e l).toArray).size = (confB e l).length := by simp [ByteArray.size]
  rw [hs, confB, List.length_append, List.length_append, List.length_append, be_len, be_len, be_len, memBytes_len]
  omega
theorem inv_cf : Inv pCf cfX cfV :=
  inv_T.map (fun t => if readE t = 0 then some (readZ t, readM t) else none) (fun x : Int × List Int => textC x.1 x.2) cfV (fun x hx => by
    obtain ⟨h1, h2, h3⟩ := read_text x.1 x.2 hx
    exact ⟨by have := cf_sz hx; omega, by rw [if_pos ((show readE (textC x.1 x.2) = 0 by rw [readE, h1]; rfl)), h2, h3]⟩) (fun t x ht hd => by
    split at hd
    · rename_i h0
      cases hd
      cases ho : readB t with
      | false => rw [readE, ho] at h0; cases h0
      | true => exact text_read t ho
    · cases hd)
/-- A certificate: view, slot, request, signatures. A change: from, view, certificates, signature. A link: its configuration, its signatures. -/
abbrev Ct := Int × Int × Rq × List Sg
abbrev Cg := Int × Int × List Ct × Sg
abbrev Ln := (Int × List Int) × List Sg
def iV (n : Nat) (z : Int) : Prop := 0 ≤ z ∧ z.toNat < 256 ^ n
def ctV (c : Ct) : Prop := iV 1 c.1 ∧ iV 2 c.2.1 ∧ rqV c.2.2.1 ∧ sgsV c.2.2.2
def ctL (c : Ct) : List UInt8 := be 1 c.1.toNat ++ (be 2 c.2.1.toNat ++ (rqX c.2.2.1 ++ sgsL c.2.2.2))
def pCt : Ps Ct := pSeq (pI 1) (pSeq (pI 2) (pSeq pRq pSgs))
theorem inv_ct : Inv pCt ctL ctV := (inv_I 1).seq ((inv_I 2).seq (inv_rq.seq inv_sgs))
def cgV (c : Cg) : Prop := iV 1 c.1 ∧ iV 1 c.2.1 ∧ (c.2.2.1.length < 256 ∧ ∀ x, x ∈ c.2.2.1 → ctV x) ∧ sgV c.2.2.2
def cgL (c : Cg) : List UInt8 := be 1 c.1.toNat ++ (be 1 c.2.1.toNat ++ (lsL ctL c.2.2.1 ++ sigL c.2.2.2))
def pCg : Ps Cg := pSeq (pI 1) (pSeq (pI 1) (pSeq (pList pCt) pSg))
theorem inv_cg : Inv pCg cgL cgV := (inv_I 1).seq ((inv_I 1).seq (inv_ct.list.seq inv_sg))
def lnV (c : Ln) : Prop := cfV c.1 ∧ sgsV c.2
def lnL (c : Ln) : List UInt8 := cfX c.1 ++ sgsL c.2
def pLn : Ps Ln := pSeq pCf pSgs
theorem inv_ln : Inv pLn lnL lnV := inv_cf.seq inv_sgs
def oneL (z : Int) : List UInt8 := be 1 z.toNat
def pMem : Ps (List Int) := pList (pI 1)
theorem inv_mem : Inv pMem (lsL oneL) (fun l => l.length < 256 ∧ ∀ x, x ∈ l → iV 1 x) := (inv_I 1).list
/-- A message: kind, epoch, view, slot, request, result, text, next, signatures, changes, links. -/
structure Ms where
  k : Int
  ep : Int
  v : Int
  sl : Int
  rq : Rq
  rs : Int × Nat
  tx : ByteArray
  nx : List Int
  sg : List Sg
  cg : List Cg
  ln : List Ln
abbrev MsT := Int × Int × Int × Int × Rq × (Int × Nat) × ByteArray × List Int × List Sg × List Cg × List Ln
def Ms.t (m : Ms) : MsT := (m.k, m.ep, m.v, m.sl, m.rq, m.rs, m.tx, m.nx, m.sg, m.cg, m.ln)
def MsT.m (z : MsT) : Ms := ⟨z.1, z.2.1, z.2.2.1, z.2.2.2.1, z.2.2.2.2.1, z.2.2.2.2.2.1, z.2.2.2.2.2.2.1, z.2.2.2.2.2.2.2.1, z.2.2.2.2.2.2.2.2.1, z.2.2.2.2.2.2.2.2.2.1, z.2.2.2.2.2.2.2.2.2.2⟩
def msL (m : Ms) : List UInt8 := be 1 m.k.toNat ++ (be 2 m.ep.toNat ++ (be 1 m.v.toNat ++ (be 2 m.sl.toNat ++ (rqX m.rq ++ (rsX m.rs ++ (txL m.tx ++ (lsL oneL m.nx ++ (sgsL m.sg ++ (lsL cgL m.cg ++ lsL lnL m.ln)))))))))
structure MsV (m : Ms) : Prop where
  k : iV 1 m.k
  ep : iV 2 m.ep
  v : iV 1 m.v
  sl : iV 2 m.sl
  rq : rqV m.rq
  rs : rsV m.rs
  tx : m.tx.size ≤ 65535
  nx : m.nx.length < 256 ∧ ∀ x, x ∈ m.nx → iV 1 x
  sg : sgsV m.sg
  cg : m.cg.length < 256 ∧ ∀ x, x ∈ m.cg → cgV x
  ln : m.ln.length < 256 ∧ ∀ x, x ∈ m.ln → lnV x
def pMs : Ps Ms := pMap (fun z => some (MsT.m z)) (pSeq (pI 1) (pSeq (pI 2) (pSeq (pI 1) (pSeq (pI 2) (pSeq pRq (pSeq pRs (pSeq pT (pSeq pMem (pSeq pSgs (pSeq (pList pCg) (pList pLn)))))))))))
theorem inv_ms : Inv pMs msL MsV :=
  ((inv_I 1).seq ((inv_I 2).seq ((inv_I 1).seq ((inv_I 2).seq (inv_rq.seq (inv_rs.seq (inv_T.seq (inv_mem.seq (inv_sgs.seq (inv_cg.list.seq inv_ln.list)))))))))).map (fun z => some (MsT.m z)) Ms.t MsV
    (fun m h => ⟨⟨h.k, h.ep, h.v, h.sl, h.rq, h.rs, h.tx, h.nx, h.sg, h.cg, h.ln⟩, rfl⟩) (fun z m hz hd => by
      cases hd
      obtain ⟨h1, h2, h3, h4, h5, h6, h7, h8, h9, h10, h11⟩ := hz
      exact ⟨⟨h1, h2, h3, h4, h5, h6, h7, h8, h9, h10, h11⟩, rfl⟩)
end Go.Proofs.YthjgnfeadagmeaaGreat

/- The document's: who joins, who leaves. -/
namespace Go.Proofs.YthjgnfeadagmeaaGreat
open Go.RowKit

/-- The members with id, so far. -/
def joinTo (l : List Int) (id : Int) : Nat → List Int
  | 0 => []
  | j + 1 => joinTo l id j ++ (if (j : Int) = id ∨ (j : Int) ∈ l then [(j : Int)] else [])
theorem joinTo_yes (l : List Int) (id : Int) (j : Nat) (h : (j : Int) = id ∨ (j : Int) ∈ l) : joinTo l id (j + 1) = joinTo l id j ++ [(j : Int)] := by rw [joinTo, if_pos h]
theorem joinTo_no (l : List Int) (id : Int) (j : Nat) (h : ¬ ((j : Int) = id ∨ (j : Int) ∈ l)) : joinTo l id (j + 1) = joinTo l id j := by rw [joinTo, if_neg h, List.append_nil]
theorem joinTo_len (l : List Int) (id : Int) : ∀ j, (joinTo l id j).length ≤ j
  | 0 => Nat.le_refl _
  | j + 1 => by
    have := joinTo_len l id j
    rw [joinTo, List.length_append]
    split <;> simp <;> omega
def joinE (l : List Int) (id : Int) : Int := if ¬ (memB l = true ∧ 0 ≤ id ∧ id < 16) then 1 else if hasM l id = true then 7 else if 10 ≤ l.length then 10 else 0
def joinR (l : List Int) (id : Int) : List Int := if joinE l id = 0 then joinTo l id 16 else []
/-- The members without id. -/
def leaveF (l : List Int) (id : Int) : List Int := l.filter fun z => decide (z ≠ id)
def leaveE (l : List Int) (id : Int) : Int := if ¬ (memB l = true ∧ 0 ≤ id ∧ id < 16) then 1 else if hasM l id = false then 8 else if l.length ≤ 4 then 9 else 0
def leaveR (l : List Int) (id : Int) : List Int := if leaveE l id = 0 then leaveF l id else []
theorem leave_snoc (l : List Int) (id : Int) (j : Nat) (hj : j < l.length) :
    (l.getD j 0 ≠ id → leaveF (l.take (j + 1)) id = (leaveF (l.take j) id) ++ [l.getD j 0]) ∧
    (l.getD j 0 = id → leaveF (l.take (j + 1)) id = leaveF (l.take j) id) := by
  unfold leaveF
  rw [List.take_add_one, getD_some hj, List.filter_append]
  constructor
  · intro h
    rw [List.getD_eq_getElem?_getD] at h
    congr 1
    simp [h]
  · intro h
    rw [List.getD_eq_getElem?_getD] at h
    simp [h]

end Go.Proofs.YthjgnfeadagmeaaGreat

/- Members as rising lists; who joined and left. No walk here. -/
namespace Go.Proofs.YthjgnfeadagmeaaGreat
open Go.RowKit

abbrev Inc (l : List Int) : Prop := l.Pairwise (· < ·)
theorem inc_eq : ∀ (a b : List Int), Inc a → Inc b → (∀ x, x ∈ a ↔ x ∈ b) → a = b
  | [], [], _, _, _ => rfl
  | [], y :: b, _, _, h => absurd ((h y).2 (List.mem_cons_self ..)) (by simp)
  | x :: a, [], _, _, h => absurd ((h x).1 (List.mem_cons_self ..)) (by simp)
  | x :: a, y :: b, ha, hb, h => by
    obtain ⟨hx, ha1⟩ := List.pairwise_cons.1 ha
    obtain ⟨hy, hb1⟩ := List.pairwise_cons.1 hb
    have e : x = y := by
      have h1 := (h x).1 (List.mem_cons_self ..)
      have h2 := (h y).2 (List.mem_cons_self ..)
      rcases List.mem_cons.1 h1 with h1 | h1
      · exact h1
      · rcases List.mem_cons.1 h2 with h2 | h2
        · exact h2.symm
        · have := hx y h2
          have := hy x h1
          omega
    subst e
    congr 1
    refine inc_eq a b ha1 hb1 (fun z => ⟨fun hz => ?_, fun hz => ?_⟩)
    · rcases List.mem_cons.1 ((h z).1 (List.mem_cons_of_mem _ hz)) with rfl | h1
      · have := hx z hz; omega
      · exact h1
    · rcases List.mem_cons.1 ((h z).2 (List.mem_cons_of_mem _ hz)) with rfl | h1
      · have := hy z hz; omega
      · exact h1
theorem getD_get (l : List Int) (i : Nat) (h : i < l.length) : l.getD i 0 = l[i] := by
  rw [List.getD_eq_getElem?_getD, List.getElem?_eq_getElem h]; rfl
theorem inc_step (l : List Int) (h : ∀ i, i + 1 < l.length → l.getD i 0 < l.getD (i + 1) 0) : Inc l := by
  refine List.pairwise_iff_getElem.2 (fun i j hi hj hij => ?_)
  obtain ⟨d, rfl⟩ : ∃ d, j = i + 1 + d := ⟨j - i - 1, by omega⟩
  induction d with
  | zero =>
    have := h i hj
    rwa [getD_get l i hi, getD_get l (i + 1) hj] at this
  | succ d ih =>
    have h1 := ih (by omega) (by omega)
    have h2 := h (i + 1 + d) hj
    rw [getD_get l _ (by omega), getD_get l (i + 1 + d + 1) hj] at h2
    exact Int.lt_trans h1 h2
theorem mem_inc {l : List Int} (h : memB l = true) : Inc l := inc_step l (fun i hi => mem_rise h i hi)
theorem mem_in {l : List Int} (h : memB l = true) (x : Int) (hx : x ∈ l) : 0 ≤ x ∧ x < 16 := by
  obtain ⟨i, hi, rfl⟩ := List.getElem_of_mem hx
  have := mem_range h i hi
  rwa [getD_get l i hi] at this
theorem okTo_all (l : List Int) : ∀ n, (∀ i, i < n → okAt l i = true) → okTo l n = true
  | 0, _ => rfl
  | n + 1, h => by rw [okTo_succ, okTo_all l n (fun i hi => h i (by omega)), h n (by omega)]; rfl
/-- Rising, in range, neither few nor many: right. -/
theorem mem_of {l : List Int} (h1 : Inc l) (h2 : ∀ x, x ∈ l → 0 ≤ x ∧ x < 16) (h3 : 4 ≤ l.length ∧ l.length ≤ 10) : memB l = true := by
  rw [memB, decide_eq_true h3, Bool.and_true]
  refine okTo_all l _ (fun i hi => ?_)
  have hr := h2 _ (List.getElem_mem hi)
  rw [← getD_get l i hi] at hr
  cases i with
  | zero => exact okAt_yes0 l hr
  | succ i =>
    refine okAt_yes l (i + 1) hr ?_
    have := List.pairwise_iff_getElem.1 h1 i (i + 1) (by omega) hi (by omega)
    rwa [← getD_get l i (by omega), ← getD_get l (i + 1) hi] at this
theorem joinTo_mem (l : List Int) (id : Int) : ∀ n x, x ∈ joinTo l id n ↔ ∃ j : Nat, j < n ∧ x = (j : Int) ∧ (x = id ∨ x ∈ l)
  | 0, x => by simp [joinTo]
  | n + 1, x => by
    rw [joinTo, List.mem_append, joinTo_mem l id n x]
    constructor
    · rintro (⟨j, hj, h⟩ | h)
      · exact ⟨j, by omega, h⟩
      · split at h
        · next hc =>
          obtain rfl := List.mem_singleton.1 h
          exact ⟨n, by omega, rfl, hc⟩
        · simp at h
    · rintro ⟨j, hj, rfl, h⟩
      by_cases e : j = n
      · subst e
        right
        rw [if_pos h]
        exact List.mem_singleton.2 rfl
      · exact .inl ⟨j, by omega, rfl, h⟩
theorem joinTo_inc (l : List Int) (id : Int) : ∀ n, Inc (joinTo l id n)
  | 0 => List.Pairwise.nil
  | n + 1 => by
    rw [joinTo]
    refine List.pairwise_append.2 ⟨joinTo_inc l id n, ?_, fun x hx y hy => ?_⟩
    · split <;> simp
    · obtain ⟨j, hj, rfl, _⟩ := (joinTo_mem l id n x).1 hx
      split at hy
      · obtain rfl := List.mem_singleton.1 hy
        omega
      · simp at hy
theorem join_mem {l : List Int} {id : Int} (h : memB l = true) (h0 : 0 ≤ id ∧ id < 16) (x : Int) : x ∈ joinTo l id 16 ↔ x = id ∨ x ∈ l := by
  rw [joinTo_mem]
  constructor
  · rintro ⟨j, hj, rfl, h⟩
    exact h
  · intro hx
    have hr : 0 ≤ x ∧ x < 16 := by
      rcases hx with rfl | hx
      · exact h0
      · exact mem_in h x hx
    exact ⟨x.toNat, by omega, by omega, hx⟩
theorem leave_mem (l : List Int) (id x : Int) : x ∈ leaveF l id ↔ x ∈ l ∧ x ≠ id := by
  rw [leaveF, List.mem_filter]
  simp
theorem leave_inc {l : List Int} (h : Inc l) (id : Int) : Inc (leaveF l id) := List.Pairwise.filter _ h
theorem leave_len {l : List Int} (h : Inc l) (id : Int) (hi : id ∈ l) : (leaveF l id).length + 1 = l.length := by
  induction l with
  | nil => simp at hi
  | cons y l ih =>
    obtain ⟨hy, hl⟩ := List.pairwise_cons.1 h
    rw [leaveF, List.filter_cons]
    by_cases e : y = id
    · subst e
      rw [if_neg (by simp), List.length_cons, List.filter_eq_self.2]
      intro z hz
      have := hy z hz
      simp
      omega
    · have hi2 : id ∈ l := by
        rcases List.mem_cons.1 hi with h | h
        · exact absurd h.symm e
        · exact h
      rw [if_pos (by simp [e]), List.length_cons, List.length_cons]
      have := ih hl hi2
      rw [leaveF] at this
      omega
theorem joinE_ok {l : List Int} {id : Int} (h : joinE l id = 0) : memB l = true ∧ (0 ≤ id ∧ id < 16) ∧ id ∉ l ∧ l.length < 10 := by
  unfold joinE at h
  split at h
  · cases h
  · next h1 =>
    have h1 := Decidable.not_not.1 h1
    split at h
    · cases h
    · next h2 =>
      split at h
      · cases h
      · next h3 => exact ⟨h1.1, h1.2, fun hi => h2 (decide_eq_true hi), by omega⟩
theorem leaveE_ok {l : List Int} {id : Int} (h : leaveE l id = 0) : memB l = true ∧ (0 ≤ id ∧ id < 16) ∧ id ∈ l ∧ 4 < l.length := by
  unfold leaveE at h
  split at h
  · cases h
  · next h1 =>
    have h1 := Decidable.not_not.1 h1
    split at h
    · cases h
    · next h2 =>
      split at h
      · cases h
      · next h3 =>
        refine ⟨h1.1, h1.2, ?_, by omega⟩
        cases e : hasM l id with
        | false => exact absurd e h2
        | true => exact of_decide_eq_true e
/-- Who joined and leaves leaves the members as they were. -/
theorem join_leave {l : List Int} {id : Int} (h : joinE l id = 0) : leaveF (joinR l id) id = l ∧ (joinR l id).length = l.length + 1 := by
  obtain ⟨hm, h0, hn, hl⟩ := joinE_ok h
  have e : leaveF (joinR l id) id = l := by
    rw [joinR, if_pos h]
    refine inc_eq _ _ (leave_inc (joinTo_inc l id 16) id) (mem_inc hm) (fun x => ?_)
    rw [leave_mem, join_mem hm h0]
    constructor
    · rintro ⟨rfl | hx, hne⟩
      · exact absurd rfl hne
      · exact hx
    · intro hx
      exact ⟨.inr hx, fun e => hn (e ▸ hx)⟩
  refine ⟨e, ?_⟩
  have hin : id ∈ joinR l id := by
    rw [joinR, if_pos h, join_mem hm h0]
    exact .inl rfl
  have hinc : Inc (joinR l id) := by
    rw [joinR, if_pos h]
    exact joinTo_inc l id 16
  have := leave_len hinc id hin
  rw [e] at this
  omega
theorem join_right {l : List Int} {id : Int} (h : joinE l id = 0) : memB (joinR l id) = true := by
  obtain ⟨hm, h0, hn, hl⟩ := joinE_ok h
  have hlen := (join_leave h).2
  have := (mem_len hm).1
  refine mem_of ?_ (fun x hx => ?_) (by omega)
  · rw [joinR, if_pos h]
    exact joinTo_inc l id 16
  · rw [joinR, if_pos h, join_mem hm h0] at hx
    rcases hx with rfl | hx
    · exact h0
    · exact mem_in hm x hx
theorem leave_right {l : List Int} {id : Int} (h : leaveE l id = 0) : memB (leaveR l id) = true ∧ (leaveR l id).length + 1 = l.length := by
  obtain ⟨hm, h0, hi, hl⟩ := leaveE_ok h
  have hlen := leave_len (mem_inc hm) id hi
  have := (mem_len hm).2
  rw [leaveR, if_pos h]
  refine ⟨mem_of (leave_inc (mem_inc hm) id) (fun x hx => mem_in hm x ((leave_mem l id x).1 hx).1) (by omega), hlen⟩
theorem join_then {l : List Int} {id : Int} (h : joinE l id = 0) : leaveE (joinR l id) id = 0 ∧ leaveR (joinR l id) id = l := by
  obtain ⟨hm, h0, hn, hl⟩ := joinE_ok h
  have hin : hasM (joinR l id) id = true := decide_eq_true (by rw [joinR, if_pos h, join_mem hm h0]; exact .inl rfl)
  have e : leaveE (joinR l id) id = 0 := by
    have := (mem_len hm).1
    rw [leaveE, if_neg (fun hc => hc ⟨join_right h, h0⟩), hin, if_neg (by decide), if_neg (by rw [(join_leave h).2]; omega)]
  exact ⟨e, by rw [leaveR, if_pos e, (join_leave h).1]⟩
theorem leave_then {l : List Int} {id : Int} (h : leaveE l id = 0) : joinE (leaveR l id) id = 0 ∧ joinR (leaveR l id) id = l := by
  obtain ⟨hm, h0, hi, hl⟩ := leaveE_ok h
  have hR : leaveR l id = leaveF l id := by rw [leaveR, if_pos h]
  have hno : ¬ hasM (leaveR l id) id = true := fun hc => by
    have := of_decide_eq_true hc
    rw [hR, leave_mem] at this
    exact this.2 rfl
  have e : joinE (leaveR l id) id = 0 := by
    have h2 := (leave_right h).2
    have := (mem_len hm).2
    rw [joinE, if_neg (fun hc => hc ⟨(leave_right h).1, h0⟩), if_neg hno, if_neg (by omega)]
  refine ⟨e, ?_⟩
  rw [joinR, if_pos e]
  refine inc_eq _ _ (joinTo_inc _ id 16) (mem_inc hm) (fun x => ?_)
  rw [join_mem (leave_right h).1 h0, hR, leave_mem]
  constructor
  · rintro (rfl | hx)
    · exact hi
    · exact hx.1
  · intro hx
    by_cases e : x = id
    · exact .inl e
    · exact .inr ⟨hx, e⟩
theorem has_join {l : List Int} {id : Int} (h : joinE l id = 0) (z : Int) : hasM (joinR l id) z = (decide (z = id) || hasM l z) := by
  obtain ⟨hm, h0, hn, hl⟩ := joinE_ok h
  have hiff : z ∈ joinR l id ↔ z = id ∨ z ∈ l := by rw [joinR, if_pos h, join_mem hm h0]
  unfold hasM
  by_cases h1 : z = id <;> by_cases h2 : z ∈ l <;> by_cases h3 : z ∈ joinR l id <;> simp_all
theorem has_leave {l : List Int} {id : Int} (h : leaveE l id = 0) (z : Int) : hasM (leaveR l id) z = (decide (z ≠ id) && hasM l z) := by
  have hiff : z ∈ leaveR l id ↔ z ∈ l ∧ z ≠ id := by rw [leaveR, if_pos h, leave_mem]
  unfold hasM
  by_cases h1 : z = id <;> by_cases h2 : z ∈ l <;> by_cases h3 : z ∈ leaveR l id <;> simp_all
end Go.Proofs.YthjgnfeadagmeaaGreat
