/- The document's: is a signature in the list? -/
import Derived.Test.YtgnapfgiefdlaaaTeA
import Derived.Deep.QuietTactic
namespace Go.Proofs.Ytgnapfgiefdlaaa
open Go.RowKit

theorem data_list (b : ByteArray) : b.toList = b.data.toList := ByteArray.toList_eq b
theorem SgP.new (w : World) (q : Int) (r : ByteArray) : (w.alloc (.cells #[.int .i64 q, .string r] 34)).heap[w.heap.size]? = some (.cells #[.int .i64 q, .string r] 34 (0, 0)) := heap_alloc_last w _
set_option maxRecDepth 100000 in
set_option maxHeartbeats 1600000 in
theorem wstands_any (a : Option Addr) (n cap : Nat) (l : List (Int × ByteArray)) (hn : l.length = n) (hm : n ≤ maxLen) (q : Int) (r : ByteArray) (w : World) (hP : PairsIn w a l) :
    Calls Try.prog 27 #[.slice a n cap, .agg #[.int .i64 q, .string r]] w fun e w' => e = .returned (.bool (stands l (q, r))) ∧ Below w.heap.size w w' := by
  have hm2 : (n : Int) ≤ 9223372036854775807 := by unfold maxLen at hm; omega
  have HP := hid hP
  have HN := hid hn
  clear hP hm hn
  go_enter Try.func27, Try.ntmps27
  go_wp2
  go_loopw [5] (fun i wr => ∃ j : Nat, j ≤ n ∧ i = .int .i64 (j : Int) ∧ (q, r) ∉ l.take j ∧ wr.heap[w.heap.size]? = some (.cells #[.int .i64 q, .string r] 34 (0, 0)) ∧ Below w.heap.size w wr)
    (fun i _ => ((n : Int) - intOf i).toNat)
  case atStart => exact ⟨0, by omega, rfl, by simp, SgP.new w q r, (Below.refl _ _).alloc (Nat.le_refl _) _⟩
  case round =>
    obtain ⟨j, hj, rfl, hno, hsg, hbel⟩ := hrel
    have HB := hid (And.intro hsg hbel)
    clear hsg hbel
    by_cases hjn : j = n
    · have hj1 : ¬ ((j : Int) < (n : Int)) := by omega
      have HF : Hid (stands l (q, r) = false) := hid (stands_no (by rwa [List.take_of_length_le (by rw [HN.out]; omega)] at hno))
      clear hno hj hjn
      go_wp2
      go_ret
      exact ⟨by rw [HF.out]; rfl, HB.out.2⟩
    · have hj1 : (j : Int) < (n : Int) := by omega
      have hj0 : (0 : Int) ≤ (j : Int) := Int.natCast_nonneg _
      have hjl : j < l.length := by rw [HN.out]; omega
      obtain ⟨g1, o1, rfl, hg1, x1, y1⟩ := HP.out.at j _ (getP_some hjl)
      have hbx : ∀ c : Cls wr, Below w.heap.size w c.1 := fun c => HB.out.2.trans (c.2.mono HB.out.2.size)
      have hsb : ∀ c : Cls wr, c.1.heap[w.heap.size]? = some (.cells [.int .i64 q, .string r].toArray 34 (0, 0)) := fun c => (c.2.block _ (lt_of_blk HB.out.1)).trans HB.out.1
      have d3 : ∀ c : Cls wr, c.1.cell? ⟨w.heap.size, 0, none⟩ = some (.int .i64 q) := fun c => cell_at (hsb c) 0 _ rfl
      have d4 : ∀ c : Cls wr, c.1.cell? ⟨w.heap.size, 1, none⟩ = some (.string r) := fun c => cell_at (hsb c) 1 _ rfl
      by_cases hx : (idOf l j, rtOf l j) = (q, r)
      · have HF : Hid (stands l (q, r) = true) := hid ((stands_iff _ _).2 (stands_at hx hjl))
        have d1 : ∀ c : Cls wr, c.1.cell? ⟨g1, o1 + j * 2, none⟩ = some (.int .i64 q) := fun c => ((hbx c).cell (p := ⟨g1, _, none⟩) hg1).trans (by rw [x1, hx])
        have d2 : ∀ c : Cls wr, c.1.cell? ⟨g1, o1 + j * 2 + 1, none⟩ = some (.string r) := fun c => ((hbx c).cell (p := ⟨g1, _, none⟩) hg1).trans (by rw [y1, hx])
        clear hx x1 y1 hbx hsb hg1 hno hj hjn hjl
        go_wp2
        haveI := Cls.ne wr
        refine wp_region_cls wr (by kernel_rfl) (by kernel_rfl) ?_
        repeat (go_big_quiet_step ((fail)))
        refine wpQuiet_nil ?_
        rintro _ ⟨c, rfl⟩
        go_wp2
        go_ret
        exact ⟨by rw [HF.out]; rfl, HB.out.2.trans (c.2.mono HB.out.2.size)⟩
      · have HF : Hid ((q, r) ∉ l.take (j + 1)) := hid (stands_snoc hno hx hjl)
        obtain ⟨x, ex⟩ : ∃ x, x = idOf l j := ⟨_, rfl⟩
        obtain ⟨y, ey⟩ : ∃ y, y = rtOf l j := ⟨_, rfl⟩
        rw [← ex, ← ey] at hx
        rw [← ex] at x1
        rw [← ey] at y1
        have d1 : ∀ c : Cls wr, c.1.cell? ⟨g1, o1 + j * 2, none⟩ = some (.int .i64 x) := fun c => ((hbx c).cell (p := ⟨g1, _, none⟩) hg1).trans x1
        have d2 : ∀ c : Cls wr, c.1.cell? ⟨g1, o1 + j * 2 + 1, none⟩ = some (.string y) := fun c => ((hbx c).cell (p := ⟨g1, _, none⟩) hg1).trans y1
        have HX := hid hx
        have HJ := hid (And.intro hj hjn)
        clear x1 y1 hbx hsb hg1 hno hj hjn hjl ex ey hx
        by_cases hxq : x = q
        · have hyr : ¬ (y = r) := fun h => HX.out (by rw [hxq, h])
          have hyr2 : ¬ (y.toList = r.toList) := fun h => hyr (bytes_eq (by rw [← data_list, ← data_list]; exact h))
          have hyr3 : (y.toList == r.toList) = false := by simpa using hyr2
          subst hxq
          go_wp2
          haveI := Cls.ne wr
          refine wp_region_cls wr (by kernel_rfl) (by kernel_rfl) ?_
          repeat (go_big_quiet_step ((fail)))
          refine wpQuiet_nil ?_
          rintro _ ⟨c, rfl⟩
          go_wp2
          go_roundw
          case rel => exact ⟨j + 1, by have := HJ.out; omega, by go_num, HF.out, (c.2.block _ (lt_of_blk HB.out.1)).trans HB.out.1, HB.out.2.trans (c.2.mono HB.out.2.size)⟩
          case measure => simp [intOf]; omega
        · go_wp2
          haveI := Cls.ne wr
          refine wp_region_cls wr (by kernel_rfl) (by kernel_rfl) ?_
          repeat (go_big_quiet_step ((fail)))
          refine wpQuiet_nil ?_
          rintro _ ⟨c, rfl⟩
          go_wp2
          go_roundw
          case rel => exact ⟨j + 1, by have := HJ.out; omega, by go_num, HF.out, (c.2.block _ (lt_of_blk HB.out.1)).trans HB.out.1, HB.out.2.trans (c.2.mono HB.out.2.size)⟩
          case measure => simp [intOf]; omega
set_option maxRecDepth 100000 in
set_option maxHeartbeats 1600000 in
/-- The same lists are the same. -/
theorem wsame_yes (a1 a2 : Option Addr) (n c1 c2 : Nat) (ps : List (Int × ByteArray)) (hn : ps.length = n) (hm : n ≤ maxLen) (w : World) (h1 : PairsIn w a1 ps) (h2 : PairsIn w a2 ps) :
    Calls Try.prog 15 #[.slice a1 n c1, .slice a2 n c2] w fun e w' => e = .returned (.bool true) ∧ Below w.heap.size w w' := by
  have hm2 : (n : Int) ≤ 9223372036854775807 := by unfold maxLen at hm; omega
  have HP := hid (And.intro h1 h2)
  have HN := hid hn
  clear h1 h2 hm hn
  go_enter Try.func15, Try.ntmps15
  go_wp2
  go_loopw [5] (fun i wr => ∃ j : Nat, j ≤ n ∧ i = .int .i64 (j : Int) ∧ Below w.heap.size w wr)
    (fun i _ => ((n : Int) - intOf i).toNat)
  case atStart => exact ⟨0, by omega, rfl, Below.refl _ _⟩
  case round =>
    obtain ⟨j, hj, rfl, hbel⟩ := hrel
    have HB := hid hbel
    clear hbel
    by_cases hjn : j = n
    · have hj1 : ¬ ((j : Int) < (n : Int)) := by omega
      clear hj hjn
      go_wp2
      go_ret
      exact ⟨rfl, HB.out⟩
    · have hj1 : (j : Int) < (n : Int) := by omega
      have hj0 : (0 : Int) ≤ (j : Int) := Int.natCast_nonneg _
      have hp := getP_some (ps := ps) (j := j) (by rw [HN.out]; omega)
      obtain ⟨g1, o1, rfl, hg1, x1, y1⟩ := HP.out.1.at j _ hp
      obtain ⟨g2, o2, rfl, hg2, x2, y2⟩ := HP.out.2.at j _ hp
      obtain ⟨x, ex⟩ : ∃ x, x = idOf ps j := ⟨_, rfl⟩
      obtain ⟨r, er⟩ : ∃ r, r = rtOf ps j := ⟨_, rfl⟩
      rw [← ex] at x1 x2
      rw [← er] at y1 y2
      have hbx : ∀ q : Cls wr, Below w.heap.size w q.1 := fun q => HB.out.trans (q.2.mono HB.out.size)
      have d1 : ∀ q : Cls wr, q.1.cell? ⟨g1, o1 + j * 2, none⟩ = some (.int .i64 x) := fun q => ((hbx q).cell (p := ⟨g1, _, none⟩) hg1).trans x1
      have d2 : ∀ q : Cls wr, q.1.cell? ⟨g1, o1 + j * 2 + 1, none⟩ = some (.string r) := fun q => ((hbx q).cell (p := ⟨g1, _, none⟩) hg1).trans y1
      have d3 : ∀ q : Cls wr, q.1.cell? ⟨g2, o2 + j * 2, none⟩ = some (.int .i64 x) := fun q => ((hbx q).cell (p := ⟨g2, _, none⟩) hg2).trans x2
      have d4 : ∀ q : Cls wr, q.1.cell? ⟨g2, o2 + j * 2 + 1, none⟩ = some (.string r) := fun q => ((hbx q).cell (p := ⟨g2, _, none⟩) hg2).trans y2
      have HJ := hid (And.intro hj hjn)
      clear hp x1 y1 x2 y2 hbx hg1 hg2 ex er hj hjn
      go_wp2
      haveI := Cls.ne wr
      refine wp_region_cls wr (by kernel_rfl) (by kernel_rfl) ?_
      repeat (go_big_quiet_step ((fail)))
      refine wpQuiet_nil ?_
      rintro _ ⟨q, rfl⟩
      go_wp2
      go_roundw
      case rel => exact ⟨j + 1, by have := HJ.out; omega, by go_num, HB.out.trans (q.2.mono HB.out.size)⟩
      case measure => simp [intOf]; omega
end Go.Proofs.Ytgnapfgiefdlaaa
