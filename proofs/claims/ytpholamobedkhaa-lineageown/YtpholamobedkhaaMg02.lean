/- Texts laid together: TeA TeB CoA CoB CoC CoD CoE TeC PkA PkM PkW. -/
import Derived.Test.YtpholamobedkhaaMg01
import Derived.Deep.QuietTactic
import Derived.Deep.RegionHeld3
import Derived.Deep.AppendLies
import Derived.Deep.DrawnRows
import Derived.Laws.BitsAllLaws
/- Signatures as pairs. No walk here. -/
namespace Go.Proofs.Ytpholamobedkhaa
open Go.RowKit

theorem bytes_eq {a b : ByteArray} (h : a.data.toList = b.data.toList) : a = b := by
  apply ByteArray.ext
  exact Array.toList_inj.1 h
def eqP (p q : Int × ByteArray) : Bool := decide (p.1 = q.1) && decide (p.2.data.toList = q.2.data.toList)
theorem eqP_iff (p q : Int × ByteArray) : eqP p q = true ↔ p = q := by
  unfold eqP
  rw [Bool.and_eq_true_iff, decide_eq_true_iff, decide_eq_true_iff]
  constructor
  · rintro ⟨h1, h2⟩
    exact Prod.ext h1 (bytes_eq h2)
  · rintro rfl
    exact ⟨rfl, rfl⟩
def stands (l : List (Int × ByteArray)) (p : Int × ByteArray) : Bool := l.any (eqP p)
theorem stands_iff (l : List (Int × ByteArray)) (p : Int × ByteArray) : stands l p = true ↔ p ∈ l := by
  unfold stands
  rw [List.any_eq_true]
  constructor
  · rintro ⟨q, hq, h⟩
    rw [(eqP_iff p q).1 h]
    exact hq
  · intro h
    exact ⟨p, h, (eqP_iff p p).2 rfl⟩
theorem stands_no {l : List (Int × ByteArray)} {p : Int × ByteArray} (h : p ∉ l) : stands l p = false := by
  cases e : stands l p with
  | false => rfl
  | true => exact absurd ((stands_iff l p).1 e) h
theorem stands_snoc {l : List (Int × ByteArray)} {p : Int × ByteArray} {j : Nat} (h : p ∉ l.take j) (hx : (idOf l j, rtOf l j) ≠ p) (hj : j < l.length) : p ∉ l.take (j + 1) := by
  rw [List.take_add_one, getP_some hj]
  intro hm
  rcases List.mem_append.1 hm with h1 | h1
  · exact h h1
  · exact hx (List.mem_singleton.1 h1).symm
theorem stands_at {l : List (Int × ByteArray)} {p : Int × ByteArray} {j : Nat} (hx : (idOf l j, rtOf l j) = p) (hj : j < l.length) : p ∈ l := by
  rw [← hx]
  exact List.mem_of_getElem? (getP_some hj)
end Go.Proofs.Ytpholamobedkhaa

/- The document's: is a signature in the list? -/
namespace Go.Proofs.Ytpholamobedkhaa
open Go.RowKit

theorem data_list (b : ByteArray) : b.toList = b.data.toList := ByteArray.toList_eq b
theorem SgP.new (w : World) (q : Int) (r : ByteArray) : (w.alloc (.cells #[.int .i64 q, .string r] 62)).heap[w.heap.size]? = some (.cells #[.int .i64 q, .string r] 62 (0, 0)) := heap_alloc_last w _
set_option maxRecDepth 100000 in
set_option maxHeartbeats 1600000 in
/-- The same lists are the same. -/
theorem wsame_yes (a1 a2 : Option Addr) (n c1 c2 : Nat) (ps : List (Int × ByteArray)) (hn : ps.length = n) (hm : n ≤ maxLen) (w : World) (h1 : PairsIn w a1 ps) (h2 : PairsIn w a2 ps) :
    Calls Try.prog 39 #[.slice a1 n c1, .slice a2 n c2] w fun e w' => e = .returned (.bool true) ∧ Below w.heap.size w w' := by
  have hm2 : (n : Int) ≤ 9223372036854775807 := by unfold maxLen at hm; omega
  have HP := hid (And.intro h1 h2)
  have HN := hid hn
  clear h1 h2 hm hn
  go_enter Try.func39, Try.ntmps39
  go_wp2
  go_loopw [5] (fun i wr => ∃ j : Nat, j ≤ n ∧ i = .int .i64 (j : Int) ∧ Below w.heap.size w wr)
    (fun i _ => ((n : Int) - intOf i).toNat)
  case atStart => exact ⟨0, by omega, rfl, Below.refl _ _⟩
  case round =>
    obtain ⟨j, hj, rfl, hbel⟩ := hrel
    have HB := hid hbel
    clear hbel
    by_cases hjn : j = n
    · have hj1 : ¬ ((j : Int) < (n : Int)) := by omega
      clear hj hjn
      go_wp2
      go_ret
      exact ⟨rfl, HB.out⟩
    · have hj1 : (j : Int) < (n : Int) := by omega
      have hj0 : (0 : Int) ≤ (j : Int) := Int.natCast_nonneg _
      have hp := getP_some (ps := ps) (j := j) (by rw [HN.out]; omega)
      obtain ⟨g1, o1, rfl, hg1, x1, y1⟩ := HP.out.1.at j _ hp
      obtain ⟨g2, o2, rfl, hg2, x2, y2⟩ := HP.out.2.at j _ hp
      obtain ⟨x, ex⟩ : ∃ x, x = idOf ps j := ⟨_, rfl⟩
      obtain ⟨r, er⟩ : ∃ r, r = rtOf ps j := ⟨_, rfl⟩
      rw [← ex] at x1 x2
      rw [← er] at y1 y2
      have hbx : ∀ q : Cls wr, Below w.heap.size w q.1 := fun q => HB.out.trans (q.2.mono HB.out.size)
      have d1 : ∀ q : Cls wr, q.1.cell? ⟨g1, o1 + j * 2, none⟩ = some (.int .i64 x) := fun q => ((hbx q).cell (p := ⟨g1, _, none⟩) hg1).trans x1
      have d2 : ∀ q : Cls wr, q.1.cell? ⟨g1, o1 + j * 2 + 1, none⟩ = some (.string r) := fun q => ((hbx q).cell (p := ⟨g1, _, none⟩) hg1).trans y1
      have d3 : ∀ q : Cls wr, q.1.cell? ⟨g2, o2 + j * 2, none⟩ = some (.int .i64 x) := fun q => ((hbx q).cell (p := ⟨g2, _, none⟩) hg2).trans x2
      have d4 : ∀ q : Cls wr, q.1.cell? ⟨g2, o2 + j * 2 + 1, none⟩ = some (.string r) := fun q => ((hbx q).cell (p := ⟨g2, _, none⟩) hg2).trans y2
      have HJ := hid (And.intro hj hjn)
      clear hp x1 y1 x2 y2 hbx hg1 hg2 ex er hj hjn
      go_wp2
      haveI := Cls.ne wr
      refine wp_region_cls wr (by kernel_rfl) (by kernel_rfl) ?_
      repeat (go_big_quiet_step ((fail)))
      refine wpQuiet_nil ?_
      rintro _ ⟨q, rfl⟩
      go_wp2
      go_roundw
      case rel => exact ⟨j + 1, by have := HJ.out; omega, by go_num, HB.out.trans (q.2.mono HB.out.size)⟩
      case measure => simp [intOf]; omega
end Go.Proofs.Ytpholamobedkhaa

/- Members, quorums, configurations, as functions. No walk here. -/
namespace Go.Proofs.Ytpholamobedkhaa
open Go.RowKit

def fltZ (n : Int) : Int := if n < 1 then 0 else (n - 1) / 3
def quoZ (n : Int) : Int := if n < 1 then 0 else (n + fltZ n) / 2 + 1
def wekZ (n : Int) : Int := if n < 1 then 0 else fltZ n + 1
theorem fltZ_lo {n : Int} (h : n < 1) : fltZ n = 0 := if_pos h
theorem quoZ_lo {n : Int} (h : n < 1) : quoZ n = 0 := if_pos h
theorem wekZ_lo {n : Int} (h : n < 1) : wekZ n = 0 := if_pos h
theorem fltZ_hi {n : Int} (h : ¬ n < 1) : fltZ n = (n - 1) / 3 := if_neg h
theorem quoZ_hi {n : Int} (h : ¬ n < 1) : quoZ n = (n + fltZ n) / 2 + 1 := if_neg h
theorem wekZ_hi {n : Int} (h : ¬ n < 1) : wekZ n = fltZ n + 1 := if_neg h
theorem fltZ_le {n : Int} (h : ¬ n < 1) : 0 ≤ fltZ n ∧ 3 * fltZ n ≤ n - 1 := by rw [fltZ_hi h]; omega
/-- The i-th of the members is one, and stands behind the one ahead of it. -/
def okAt (l : List Int) (i : Nat) : Bool := decide (0 ≤ l.getD i 0 ∧ l.getD i 0 < 16) && (decide (i = 0) || decide (l.getD (i - 1) 0 < l.getD i 0))
def okTo (l : List Int) : Nat → Bool
  | 0 => true
  | j + 1 => okTo l j && okAt l j
theorem okTo_succ (l : List Int) (j : Nat) : okTo l (j + 1) = (okTo l j && okAt l j) := rfl
theorem okTo_false (l : List Int) (j n : Nat) (h : okTo l j = false) (hn : j ≤ n) : okTo l n = false := by
  induction n with
  | zero =>
    obtain rfl : j = 0 := by omega
    exact h
  | succ n ih =>
    by_cases e : j = n + 1
    · rw [← e]; exact h
    · rw [okTo_succ, ih (by omega)]; rfl
theorem okAt_no1 (l : List Int) (i : Nat) (h : ¬ (0 ≤ l.getD i 0 ∧ l.getD i 0 < 16)) : okAt l i = false := by rw [okAt, decide_eq_false h]; rfl
theorem okAt_no2 (l : List Int) (i : Nat) (h0 : i ≠ 0) (h : ¬ (l.getD (i - 1) 0 < l.getD i 0)) : okAt l i = false := by rw [okAt, decide_eq_false h, decide_eq_false h0]; simp
theorem okAt_yes0 (l : List Int) (h : 0 ≤ l.getD 0 0 ∧ l.getD 0 0 < 16) : okAt l 0 = true := by rw [okAt, decide_eq_true h]; rfl
theorem okAt_yes (l : List Int) (i : Nat) (h : 0 ≤ l.getD i 0 ∧ l.getD i 0 < 16) (h1 : l.getD (i - 1) 0 < l.getD i 0) : okAt l i = true := by rw [okAt, decide_eq_true h, decide_eq_true h1]; simp
/-- Are the members right? -/
def memB (l : List Int) : Bool := okTo l l.length && decide (4 ≤ l.length ∧ l.length ≤ 10)
/-- Is the configuration right? -/
def rightC (ep : Int) (l : List Int) : Bool := decide (0 ≤ ep ∧ ep ≤ 60) && memB l
def hasM (l : List Int) (id : Int) : Bool := decide (id ∈ l)
theorem okTo_at (l : List Int) : ∀ n, okTo l n = true → ∀ i, i < n → okAt l i = true
  | 0, _, i, hi => by omega
  | n + 1, h, i, hi => by
    rw [okTo_succ, Bool.and_eq_true_iff] at h
    by_cases e : i = n
    · rw [e]; exact h.2
    · exact okTo_at l n h.1 i (by omega)
theorem mem_len {l : List Int} (h : memB l = true) : 4 ≤ l.length ∧ l.length ≤ 10 := of_decide_eq_true (Bool.and_eq_true_iff.1 h).2
theorem mem_at {l : List Int} (h : memB l = true) (i : Nat) (hi : i < l.length) : okAt l i = true := okTo_at l _ (Bool.and_eq_true_iff.1 h).1 i hi
theorem mem_range {l : List Int} (h : memB l = true) (i : Nat) (hi : i < l.length) : 0 ≤ l.getD i 0 ∧ l.getD i 0 < 16 := of_decide_eq_true (Bool.and_eq_true_iff.1 (mem_at h i hi)).1
theorem mem_rise {l : List Int} (h : memB l = true) (i : Nat) (hi : i + 1 < l.length) : l.getD i 0 < l.getD (i + 1) 0 := by
  have := (Bool.and_eq_true_iff.1 (mem_at h (i + 1) hi)).2
  simpa using this
/-- Who leads. -/
def leadN (l : List Int) (view : Int) : Nat := (view % (l.length : Int)).toNat
def leads (ep : Int) (l : List Int) (view : Int) : Bool := rightC ep l && decide (0 ≤ view)
def leadZ (ep : Int) (l : List Int) (view : Int) : Int := if leads ep l view then l.getD (leadN l view) 0 else 0
end Go.Proofs.Ytpholamobedkhaa

/- The document's counts, members and leaders. -/
namespace Go.Proofs.Ytpholamobedkhaa
open Go.RowKit

theorem vfaults_any (n : Int) (hn : n ≤ 9223372036854775807) (w : World) : Calls Try.prog 66 #[.int .i64 n] w fun e w' => e = .returned (.int .i64 (fltZ n)) ∧ w' = w := by
  by_cases h : n < 1
  · rw [fltZ_lo h]
    go_enter Try.func66, Try.ntmps66
    go_wp2
    go_ret
    exact ⟨rfl, rfl⟩
  · have HF : Hid (fltZ n = (n - 1) / 3) := hid (fltZ_hi h)
    rw [HF.out]
    go_enter Try.func66, Try.ntmps66
    go_wp2
    go_ret
    exact ⟨rfl, rfl⟩
theorem vquorum_any (n : Int) (hn : n ≤ 9223372036854775807) (w : World) : Calls Try.prog 56 #[.int .i64 n] w fun e w' => e = .returned (.int .i64 (quoZ n)) ∧ w' = w := by
  have HC : Hid (∀ u : World, Calls Try.prog 66 #[.int .i64 n] u fun e w' => e = .returned (.int .i64 (fltZ n)) ∧ w' = u) := hid (vfaults_any n hn)
  by_cases h : n < 1
  · rw [quoZ_lo h]
    go_enter Try.func56, Try.ntmps56
    go_wp2
    go_ret
    exact ⟨rfl, rfl⟩
  · rw [quoZ_hi h]
    have hf := fltZ_le h
    generalize fltZ n = f at HC hf ⊢
    have h1 : 0 ≤ f := hf.1
    have h2 : f ≤ 4000000000000000000 := by omega
    have HQ : Hid ((n + f) / 2 + 1 = n / 2 + (n % 2 + f % 2) / 2 + f / 2 + 1) := hid (by omega)
    rw [HQ.out]
    clear hf
    go_enter Try.func56, Try.ntmps56
    go_wp2_with (go_at_call 66; refine (HC.out _).mono ?_; rintro e wx ⟨rfl, rfl⟩)
    go_ret
    exact ⟨rfl, rfl⟩
end Go.Proofs.Ytpholamobedkhaa

/- The document's members. -/
namespace Go.Proofs.Ytpholamobedkhaa
open Go.RowKit

set_option maxRecDepth 100000 in
set_option maxHeartbeats 3200000 in
theorem vmembers_any (a : Option Addr) (n cap : Nat) (l : List Int) (hn : l.length = n) (hm : n ≤ maxLen) (w : World) (hI : IntsIn w a l) :
    Calls Try.prog 54 #[.slice a n cap] w fun e w' => e = .returned (.bool (memB l)) ∧ Below w.heap.size w w' := by
  have hm2 : (n : Int) ≤ 9223372036854775807 := by unfold maxLen at hm; omega
  have HI := hid hI
  have HN := hid hn
  clear hI hm hn
  go_enter Try.func54, Try.ntmps54
  go_wp2
  go_loopw [3] (fun i wr => ∃ j : Nat, j ≤ n ∧ i = .int .i64 (j : Int) ∧ okTo l j = true ∧ Below w.heap.size w wr)
    (fun i _ => ((n : Int) - intOf i).toNat)
  case atStart => exact ⟨0, by omega, rfl, rfl, Below.refl _ _⟩
  case round =>
    obtain ⟨j, hj, rfl, hok, hbel⟩ := hrel
    have HB := hid hbel
    clear hbel
    by_cases hjn : j = n
    · have hj1 : ¬ ((j : Int) < (n : Int)) := by omega
      rw [hjn] at hok
      by_cases h4 : 4 ≤ n
      · by_cases h10 : n ≤ 10
        · have k4 : (4 : Int) ≤ (n : Int) := by omega
          have k10 : (n : Int) ≤ 10 := by omega
          have HF : Hid (memB l = true) := hid (by rw [memB, HN.out, hok, decide_eq_true (And.intro h4 h10)]; rfl)
          clear hok hj hjn h4 h10
          go_wp2
          go_ret
          exact ⟨by rw [HF.out]; rfl, HB.out⟩
        · have k4 : (4 : Int) ≤ (n : Int) := by omega
          have k10 : ¬ ((n : Int) ≤ 10) := by omega
          have HF : Hid (memB l = false) := hid (by rw [memB, HN.out, decide_eq_false (fun h => h10 h.2)]; simp)
          clear hok hj hjn h4 h10
          go_wp2
          go_ret
          exact ⟨by rw [HF.out]; rfl, HB.out⟩
      · have k4 : ¬ ((4 : Int) ≤ (n : Int)) := by omega
        have HF : Hid (memB l = false) := hid (by rw [memB, HN.out, decide_eq_false (fun h => h4 h.1)]; simp)
        clear hok hj hjn h4
        go_wp2
        go_ret
        exact ⟨by rw [HF.out]; rfl, HB.out⟩
    · have hj1 : (j : Int) < (n : Int) := by omega
      have hj0 : (0 : Int) ≤ (j : Int) := Int.natCast_nonneg _
      have hget : l[j]? = some (l.getD j 0) := by rw [List.getD_eq_getElem?_getD, List.getElem?_eq_getElem (by rw [HN.out]; omega)]; rfl
      obtain ⟨g, off, rfl, hg, hcell⟩ := HI.out.at j _ hget
      obtain ⟨x, ex⟩ : ∃ x, x = l.getD j 0 := ⟨_, rfl⟩
      rw [← ex] at hcell
      have cz : ∀ q : Cls wr, q.1.cell? ⟨g, off + j, none⟩ = some (.int .i64 x) := fun q => (q.2.cell (p := ⟨g, off + j, none⟩) (Nat.lt_of_lt_of_le hg HB.out.size)).trans ((HB.out.cell (p := ⟨g, off + j, none⟩) hg).trans hcell)
      clear hcell hget
      by_cases hx0 : x < 0
      · have d1 : decide (x < 0) = true := decide_eq_true hx0
        have HF : Hid (okTo l n = false) := hid (okTo_false l (j + 1) n (by rw [okTo_succ, okAt_no1 l j (by rw [← ex]; omega)]; simp) (by omega))
        clear hok hj hjn ex
        go_wp2
        haveI := Cls.ne wr
        refine wp_region_cls wr (by kernel_rfl) (by kernel_rfl) ?_
        repeat (go_big_quiet_step ((fail)))
        refine wpQuiet_nil ?_
        rintro _ ⟨q, rfl⟩
        go_wp2
        go_ret
        exact ⟨by rw [memB, HN.out, HF.out]; rfl, HB.out.trans (q.2.mono HB.out.size)⟩
      by_cases hx16 : 16 ≤ x
      · have d1 : decide (x < 0) = false := decide_eq_false hx0
        have d2 : decide ((16 : Int) ≤ x) = true := decide_eq_true hx16
        have HF : Hid (okTo l n = false) := hid (okTo_false l (j + 1) n (by rw [okTo_succ, okAt_no1 l j (by rw [← ex]; omega)]; simp) (by omega))
        clear hok hj hjn ex
        go_wp2
        haveI := Cls.ne wr
        refine wp_region_cls wr (by kernel_rfl) (by kernel_rfl) ?_
        repeat (go_big_quiet_step ((fail)))
        refine wpQuiet_nil ?_
        rintro _ ⟨q, rfl⟩
        go_wp2
        go_ret
        exact ⟨by rw [memB, HN.out, HF.out]; rfl, HB.out.trans (q.2.mono HB.out.size)⟩
      have d1 : decide (x < 0) = false := decide_eq_false hx0
      have d2 : decide ((16 : Int) ≤ x) = false := decide_eq_false hx16
      by_cases hz : j = 0
      · have d4 : decide (0 < j) = false := decide_eq_false (by omega)
        have HF : Hid (okTo l (j + 1) = true) := hid (by rw [okTo_succ, hok, show okAt l j = true by (have hx : l.getD 0 0 = x := by rw [ex, hz]); rw [hz]; exact okAt_yes0 l (by rw [hx]; omega)]; rfl)
        have HJ := hid (And.intro hj hjn)
        clear hok hj hjn ex hz
        go_wp2
        haveI := Cls.ne wr
        refine wp_region_cls wr (by kernel_rfl) (by kernel_rfl) ?_
        repeat (go_big_quiet_step ((fail)))
        refine wpQuiet_nil ?_
        rintro _ ⟨q, rfl⟩
        go_wp2
        go_roundw
        case rel => exact ⟨j + 1, by have := HJ.out; omega, by go_num, HF.out, HB.out.trans (q.2.mono HB.out.size)⟩
        case measure => simp [intOf]; omega
      · obtain ⟨i, rfl⟩ : ∃ i, j = i + 1 := ⟨j - 1, by omega⟩
        have hgetp : l[i]? = some (l.getD i 0) := by rw [List.getD_eq_getElem?_getD, List.getElem?_eq_getElem (by rw [HN.out]; omega)]; rfl
        obtain ⟨g', off', eg, hg', hcellp⟩ := HI.out.at i _ hgetp
        obtain ⟨rfl, rfl⟩ : g = g' ∧ off = off' := by simp at eg; exact eg
        obtain ⟨y, ey⟩ : ∃ y, y = l.getD i 0 := ⟨_, rfl⟩
        rw [← ey] at hcellp
        have cy : ∀ q : Cls wr, q.1.cell? ⟨g, off + i, none⟩ = some (.int .i64 y) := fun q => (q.2.cell (p := ⟨g, off + i, none⟩) (Nat.lt_of_lt_of_le hg' HB.out.size)).trans ((HB.out.cell (p := ⟨g, off + i, none⟩) hg').trans hcellp)
        have hi0 : (0 : Int) < ((i + 1 : Nat) : Int) := by omega
        have hi1 : (i : Int) < (n : Int) := by omega
        have hi2 : (0 : Int) ≤ (i : Int) := by omega
        have d4 : decide ((0 : Int) < (i : Int) + 1) = true := decide_eq_true (by omega)
        clear hcellp hgetp eg hz
        by_cases hxy : x ≤ y
        · have d3 : decide (x ≤ y) = true := decide_eq_true hxy
          have HF : Hid (okTo l n = false) := hid (okTo_false l (i + 1 + 1) n (by rw [okTo_succ, okAt_no2 l (i + 1) (by omega) (by rw [← ex, show i + 1 - 1 = i from rfl, ← ey]; omega)]; simp) (by omega))
          clear hok hj hjn ex ey
          go_wp2
          haveI := Cls.ne wr
          refine wp_region_cls wr (by kernel_rfl) (by kernel_rfl) ?_
          repeat (go_big_quiet_step ((fail)))
          refine wpQuiet_nil ?_
          rintro _ ⟨q, rfl⟩
          go_wp2
          go_ret
          exact ⟨by rw [memB, HN.out, HF.out]; rfl, HB.out.trans (q.2.mono HB.out.size)⟩
        · have d3 : decide (x ≤ y) = false := decide_eq_false hxy
          have HF : Hid (okTo l (i + 1 + 1) = true) := hid (by rw [okTo_succ, hok, okAt_yes l (i + 1) (by rw [← ex]; omega) (by rw [← ex, show i + 1 - 1 = i from rfl, ← ey]; omega)]; rfl)
          have HJ := hid (And.intro hj hjn)
          clear hok hj hjn ex ey
          go_wp2
          haveI := Cls.ne wr
          refine wp_region_cls wr (by kernel_rfl) (by kernel_rfl) ?_
          repeat (go_big_quiet_step ((fail)))
          refine wpQuiet_nil ?_
          rintro _ ⟨q, rfl⟩
          go_wp2
          go_roundw
          case rel => exact ⟨i + 1 + 1, by have := HJ.out; omega, by go_num, HF.out, HB.out.trans (q.2.mono HB.out.size)⟩
          case measure => simp [intOf]; omega
end Go.Proofs.Ytpholamobedkhaa

/- The document's: who is a member, which configuration is right, who leads. -/
namespace Go.Proofs.Ytpholamobedkhaa
open Go.RowKit

theorem not_mem_snoc {l : List Int} {id : Int} {j : Nat} (h : id ∉ l.take j) (hx : l.getD j 0 ≠ id) (hj : j < l.length) : id ∉ l.take (j + 1) := by
  rw [List.take_add_one, List.getElem?_eq_getElem hj]
  rw [List.getD_eq_getElem?_getD, List.getElem?_eq_getElem hj] at hx
  intro hm
  rcases List.mem_append.1 hm with h1 | h1
  · exact h h1
  · simp at h1 hx
    exact hx h1.symm
theorem mem_of_get {l : List Int} {id : Int} {j : Nat} (hx : l.getD j 0 = id) (hj : j < l.length) : id ∈ l := by
  rw [List.getD_eq_getElem?_getD, List.getElem?_eq_getElem hj] at hx
  rw [← hx]
  exact List.getElem_mem hj
theorem getD_some {l : List Int} {j : Nat} (hj : j < l.length) : l[j]? = some (l.getD j 0) := by rw [List.getD_eq_getElem?_getD, List.getElem?_eq_getElem hj]; rfl
set_option maxRecDepth 100000 in
set_option maxHeartbeats 1600000 in
theorem vhas_any (a : Option Addr) (n cap : Nat) (l : List Int) (hn : l.length = n) (hm : n ≤ maxLen) (id : Int) (w : World) (hI : IntsIn w a l) :
    Calls Try.prog 55 #[.slice a n cap, .int .i64 id] w fun e w' => e = .returned (.bool (hasM l id)) ∧ w' = w := by
  have hm2 : (n : Int) ≤ 9223372036854775807 := by unfold maxLen at hm; omega
  have HI := hid hI
  have HN := hid hn
  clear hI hm hn
  go_enter Try.func55, Try.ntmps55
  go_wp2
  go_loopw [5] (fun i wr => ∃ j : Nat, j ≤ n ∧ i = .int .i64 (j : Int) ∧ id ∉ l.take j ∧ wr = w)
    (fun i _ => ((n : Int) - intOf i).toNat)
  case atStart => exact ⟨0, by omega, rfl, by simp, rfl⟩
  case round =>
    obtain ⟨j, hj, rfl, hno, rfl⟩ := hrel
    by_cases hjn : j = n
    · have hj1 : ¬ ((j : Int) < (n : Int)) := by omega
      have HF : Hid (hasM l id = false) := hid (decide_eq_false (by rwa [List.take_of_length_le (by rw [HN.out]; omega)] at hno))
      clear hno hj hjn
      go_wp2
      go_ret
      exact ⟨by rw [HF.out]; rfl, rfl⟩
    · have hj1 : (j : Int) < (n : Int) := by omega
      have hj0 : (0 : Int) ≤ (j : Int) := Int.natCast_nonneg _
      have hjl : j < l.length := by rw [HN.out]; omega
      obtain ⟨g, off, rfl, hg, cz⟩ := HI.out.at j _ (getD_some hjl)
      by_cases hx : l.getD j 0 = id
      · have HF : Hid (hasM l id = true) := hid (decide_eq_true (mem_of_get hx hjl))
        rw [hx] at cz
        clear hno hj hjn hx hjl hg
        go_wp2
        go_ret
        exact ⟨by rw [HF.out]; rfl, rfl⟩
      · have HF : Hid (id ∉ l.take (j + 1)) := hid (not_mem_snoc hno hx hjl)
        obtain ⟨x, ex⟩ : ∃ x, x = l.getD j 0 := ⟨_, rfl⟩
        rw [← ex] at cz hx
        have HJ := hid (And.intro hj hjn)
        clear hno hj hjn hjl hg ex
        go_wp2
        go_roundw
        case rel => exact ⟨j + 1, by have := HJ.out; omega, by go_num, HF.out, by first | exact rfl | exact trivial⟩
        case measure => simp [intOf]; omega
theorem IntsIn.alloc {w : World} {a : Option Addr} {l : List Int} (h : IntsIn w a l) (o : Obj) : IntsIn (w.alloc o) a l := h.keep ((Below.refl w.heap.size w).alloc (Nat.le_refl _) o) (Nat.le_refl _)
set_option maxRecDepth 100000 in
set_option maxHeartbeats 1600000 in
theorem vright_any (ep : Int) (a : Option Addr) (n cap : Nat) (l : List Int) (hn : l.length = n) (hm : n ≤ maxLen) (w : World) (hI : IntsIn w a l) :
    Calls Try.prog 31 #[.agg #[.int .i64 ep, .slice a n cap]] w fun e w' => e = .returned (.bool (rightC ep l)) ∧ Below w.heap.size w w' := by
  by_cases h0 : 0 ≤ ep
  · by_cases h60 : ep ≤ 60
    · have HM : Hid (∀ u : World, IntsIn u a l → Calls Try.prog 54 #[.slice a n cap] u fun e w' => e = .returned (.bool (memB l)) ∧ Below u.heap.size u w') := hid (fun u hu => vmembers_any a n cap l hn hm u hu)
      have HR : Hid (rightC ep l = memB l) := hid (by rw [rightC, decide_eq_true (And.intro h0 h60)]; rfl)
      have HI := hid hI
      rw [HR.out]
      generalize memB l = b at HM
      clear hI hn hm
      go_enter Try.func31, Try.ntmps31
      go_wp2_with (go_at_call 54; refine (HM.out _ (by exact HI.out.alloc _)).mono ?_; rintro e w1 ⟨rfl, hb1⟩; have H1 := hid (((Below.refl w.heap.size w).alloc (Nat.le_refl _) _).trans (hb1.mono (by simp))); clear hb1)
      go_ret
      exact ⟨rfl, H1.out⟩
    · have HR : Hid (rightC ep l = false) := hid (by rw [rightC, decide_eq_false (fun h => h60 h.2)]; rfl)
      rw [HR.out]
      clear hI hn hm
      go_enter Try.func31, Try.ntmps31
      go_wp2
      go_ret
      exact ⟨rfl, (Below.refl _ _).alloc (Nat.le_refl _) _⟩
  · have HR : Hid (rightC ep l = false) := hid (by rw [rightC, decide_eq_false (fun h => h0 h.1)]; rfl)
    rw [HR.out]
    clear hI hn hm
    go_enter Try.func31, Try.ntmps31
    go_wp2
    go_ret
    exact ⟨rfl, (Below.refl _ _).alloc (Nat.le_refl _) _⟩
end Go.Proofs.Ytpholamobedkhaa

/- The document's leaders. -/
namespace Go.Proofs.Ytpholamobedkhaa
open Go.RowKit

theorem right_mem {ep : Int} {l : List Int} (h : rightC ep l = true) : (0 ≤ ep ∧ ep ≤ 60) ∧ memB l = true := by
  obtain ⟨h1, h2⟩ := Bool.and_eq_true_iff.1 h
  exact ⟨of_decide_eq_true h1, h2⟩
theorem leadN_lt (l : List Int) (view : Int) (hl : 0 < l.length) : leadN l view < l.length ∧ view % (l.length : Int) = (leadN l view : Int) := by
  unfold leadN
  have h1 := Int.emod_nonneg view (show (l.length : Int) ≠ 0 by omega)
  have h2 := Int.emod_lt_of_pos view (show (0 : Int) < (l.length : Int) by omega)
  omega
/-- A struct of two cells, as laid. -/
theorem conf_cells (w : World) (ep s : Value) : (w.alloc (.cells #[ep, s] 24)).heap[w.heap.size]? = some (.cells [ep, s].toArray 24 (0, 0)) := heap_alloc_last w _
end Go.Proofs.Ytpholamobedkhaa

/- The document's proofs. -/
namespace Go.Proofs.Ytpholamobedkhaa
open Go.RowKit

/-- The i-th signature is of this text, by a member, behind the one ahead of it. -/
def okT (l : List Int) (t : ByteArray) (ss : List (Int × ByteArray)) (i : Nat) : Bool := decide ((rtOf ss i).data.toList = t.data.toList) && (hasM l (idOf ss i) && (decide (i = 0) || decide (idOf ss (i - 1) < idOf ss i)))
def okTTo (l : List Int) (t : ByteArray) (ss : List (Int × ByteArray)) : Nat → Bool
  | 0 => true
  | j + 1 => okTTo l t ss j && okT l t ss j
theorem okTTo_succ (l : List Int) (t : ByteArray) (ss : List (Int × ByteArray)) (j : Nat) : okTTo l t ss (j + 1) = (okTTo l t ss j && okT l t ss j) := rfl
theorem okTTo_false (l : List Int) (t : ByteArray) (ss : List (Int × ByteArray)) (j n : Nat) (h : okTTo l t ss j = false) (hn : j ≤ n) : okTTo l t ss n = false := by
  induction n with
  | zero =>
    obtain rfl : j = 0 := by omega
    exact h
  | succ n ih =>
    by_cases e : j = n + 1
    · rw [← e]; exact h
    · rw [okTTo_succ, ih (by omega)]; rfl
def provesB (ep : Int) (l : List Int) (t : ByteArray) (ss : List (Int × ByteArray)) : Bool := okTTo l t ss ss.length && (rightC ep l && (decide (quoZ (l.length : Int) ≤ (ss.length : Int)) && decide (ss.length ≤ 16)))
set_option maxRecDepth 100000 in
set_option maxHeartbeats 3200000 in
theorem wproves_any (ep : Int) (a : Option Addr) (n cap : Nat) (l : List Int) (hn : l.length = n) (hm : n ≤ maxLen) (t : ByteArray) (b : Option Addr) (m cp : Nat) (ss : List (Int × ByteArray)) (hsn : ss.length = m) (hsm : m ≤ maxLen) (w : World) (hI : IntsIn w a l) (hP : PairsIn w b ss) :
    Calls Try.prog 32 #[.agg #[.int .i64 ep, .slice a n cap], .string t, .slice b m cp] w fun e w' => e = .returned (.bool (provesB ep l t ss)) ∧ Below w.heap.size w w' := by
  have hm2 : (m : Int) ≤ 9223372036854775807 := by unfold maxLen at hsm; omega
  have HH : Hid (∀ (z : Int) (u : World), IntsIn u a l → Calls Try.prog 55 #[.slice a n cap, .int .i64 z] u fun e w' => e = .returned (.bool (hasM l z)) ∧ w' = u) := hid (fun z u hu => vhas_any a n cap l hn hm z u hu)
  have HR : Hid (∀ u : World, IntsIn u a l → Calls Try.prog 31 #[.agg #[.int .i64 ep, .slice a n cap]] u fun e w' => e = .returned (.bool (rightC ep l)) ∧ Below u.heap.size u w') := hid (fun u hu => vright_any ep a n cap l hn hm u hu)
  have HQ : Hid (∀ u : World, Calls Try.prog 56 #[.int .i64 (n : Int)] u fun e w' => e = .returned (.int .i64 (quoZ (n : Int))) ∧ w' = u) := hid (fun u => vquorum_any (n : Int) (by unfold maxLen at hm; omega) u)
  have HF := hid (conf_cells w (.int .i64 ep) (.slice a n cap))
  have HI := hid hI
  have HP := hid (And.intro hP hsn)
  clear hI hP hsn hsm
  go_enter Try.func32, Try.ntmps32
  go_wp2
  go_loopw [7] (fun i wr => ∃ j : Nat, j ≤ m ∧ i = .int .i64 (j : Int) ∧ okTTo l t ss j = true ∧ Below (w.heap.size + 1) (w.alloc (.cells #[.int .i64 ep, .slice a n cap] 24)) wr)
    (fun i _ => ((m : Int) - intOf i).toNat)
  case atStart => exact ⟨0, by omega, rfl, rfl, Below.refl _ _⟩
  case round =>
    obtain ⟨j, hj, rfl, hok, hbel⟩ := hrel
    have HB := hid hbel
    clear hbel
    by_cases hjn : j = m
    · have hj1 : ¬ ((j : Int) < (m : Int)) := by omega
      rw [hjn] at hok
      have hb0 : Below w.heap.size w wr := ((Below.refl w.heap.size w).alloc (Nat.le_refl _) _).trans (HB.out.mono (by omega))
      have HB0 := hid hb0
      have HD : Hid (provesB ep l t ss = (rightC ep l && (decide (quoZ (n : Int) ≤ (m : Int)) && decide (m ≤ 16)))) := hid (by rw [provesB, HP.out.2, hok, hn]; rfl)
      have hcf : wr.heap[w.heap.size]? = some (.cells [.int .i64 ep, .slice a n cap].toArray 24 (0, 0)) := (HB.out.block _ (by omega)).trans HF.out
      have c0 : wr.cell? ⟨w.heap.size, 0, none⟩ = some (.int .i64 ep) := cell_at hcf 0 _ rfl
      have c1 : wr.cell? ⟨w.heap.size, 1, none⟩ = some (.slice a n cap) := cell_at hcf 1 _ rfl
      have HCf := hid hcf
      clear hok hj hjn hb0 hcf
      cases hrt : rightC ep l with
      | false =>
        have HRx : Hid (∀ u : World, IntsIn u a l → Calls Try.prog 31 #[.agg #[.int .i64 ep, .slice a n cap]] u fun e w' => e = .returned (.bool false) ∧ Below u.heap.size u w') := hid (fun u hu => by rw [← hrt]; exact HR.out u hu)
        have HE : Hid (provesB ep l t ss = false) := hid (by rw [HD.out, hrt]; rfl)
        clear hrt
        go_wp2_with (go_at_call 31; refine (HRx.out _ (HI.out.keep HB0.out (Nat.le_refl _))).mono ?_; rintro e w2 ⟨rfl, hb2⟩; have H2 := hid (HB0.out.trans (hb2.mono HB0.out.size)); clear hb2 c0 c1)
        go_ret
        exact ⟨by rw [HE.out]; rfl, H2.out⟩
      | true =>
        have HRx : Hid (∀ u : World, IntsIn u a l → Calls Try.prog 31 #[.agg #[.int .i64 ep, .slice a n cap]] u fun e w' => e = .returned (.bool true) ∧ Below u.heap.size u w') := hid (fun u hu => by rw [← hrt]; exact HR.out u hu)
        obtain ⟨qz, eqz⟩ : ∃ q, q = quoZ (n : Int) := ⟨_, rfl⟩
        have HQx : Hid (∀ u : World, Calls Try.prog 56 #[.int .i64 (n : Int)] u fun e w' => e = .returned (.int .i64 qz) ∧ w' = u) := hid (fun u => by rw [eqz]; exact HQ.out u)
        by_cases h1 : qz ≤ (m : Int)
        · by_cases h2 : m ≤ 16
          · have h3 : (m : Int) ≤ 16 := by omega
            have HE : Hid (provesB ep l t ss = true) := hid (by rw [HD.out, hrt, ← eqz, decide_eq_true h1, decide_eq_true h2]; rfl)
            clear hrt eqz h2
            go_wp2_with (first
              | (go_at_call 31; refine (HRx.out _ (HI.out.keep HB0.out (Nat.le_refl _))).mono ?_; rintro e w2 ⟨rfl, hb2⟩; have H2 := hid (HB0.out.trans (hb2.mono HB0.out.size)); have c2 : w2.cell? ⟨w.heap.size, 1, none⟩ = some (.slice a n cap) := cell_at ((hb2.block _ (lt_of_blk HCf.out)).trans HCf.out) 1 _ rfl; clear hb2 c0 c1)
              | (go_at_call 56; refine (HQx.out _).mono ?_; rintro e wx ⟨rfl, rfl⟩))
            go_ret
            exact ⟨by rw [HE.out]; rfl, H2.out⟩
          · have h3 : ¬ ((m : Int) ≤ 16) := by omega
            have h4 : decide ((m : Int) ≤ 16) = false := decide_eq_false h3
            have HE : Hid (provesB ep l t ss = false) := hid (by rw [HD.out, hrt, decide_eq_false h2]; simp)
            clear hrt eqz h2
            go_wp2_with (first
              | (go_at_call 31; refine (HRx.out _ (HI.out.keep HB0.out (Nat.le_refl _))).mono ?_; rintro e w2 ⟨rfl, hb2⟩; have H2 := hid (HB0.out.trans (hb2.mono HB0.out.size)); have c2 : w2.cell? ⟨w.heap.size, 1, none⟩ = some (.slice a n cap) := cell_at ((hb2.block _ (lt_of_blk HCf.out)).trans HCf.out) 1 _ rfl; clear hb2 c0 c1)
              | (go_at_call 56; refine (HQx.out _).mono ?_; rintro e wx ⟨rfl, rfl⟩))
            go_ret
            exact ⟨by rw [HE.out]; rfl, H2.out⟩
        · have HE : Hid (provesB ep l t ss = false) := hid (by rw [HD.out, hrt, ← eqz, decide_eq_false h1]; simp)
          clear hrt eqz
          go_wp2_with (first
            | (go_at_call 31; refine (HRx.out _ (HI.out.keep HB0.out (Nat.le_refl _))).mono ?_; rintro e w2 ⟨rfl, hb2⟩; have H2 := hid (HB0.out.trans (hb2.mono HB0.out.size)); have c2 : w2.cell? ⟨w.heap.size, 1, none⟩ = some (.slice a n cap) := cell_at ((hb2.block _ (lt_of_blk HCf.out)).trans HCf.out) 1 _ rfl; clear hb2 c0 c1)
            | (go_at_call 56; refine (HQx.out _).mono ?_; rintro e wx ⟨rfl, rfl⟩))
          go_ret
          exact ⟨by rw [HE.out]; rfl, H2.out⟩
    · have hj1 : (j : Int) < (m : Int) := by omega
      have hj0 : (0 : Int) ≤ (j : Int) := Int.natCast_nonneg _
      have hjl : j < ss.length := by rw [HP.out.2]; omega
      obtain ⟨g, off, rfl, hg, x1, y1⟩ := HP.out.1.at j _ (getP_some hjl)
      obtain ⟨x, ex⟩ : ∃ x, x = idOf ss j := ⟨_, rfl⟩
      obtain ⟨r, er⟩ : ∃ r, r = rtOf ss j := ⟨_, rfl⟩
      rw [← ex] at x1
      rw [← er] at y1
      have hb0 : Below w.heap.size w wr := ((Below.refl w.heap.size w).alloc (Nat.le_refl _) _).trans (HB.out.mono (by omega))
      have z0 : wr.cell? ⟨g, off + j * 2, none⟩ = some (.int .i64 x) := (hb0.cell (p := ⟨g, _, none⟩) hg).trans x1
      have z1 : wr.cell? ⟨g, off + j * 2 + 1, none⟩ = some (.string r) := (hb0.cell (p := ⟨g, _, none⟩) hg).trans y1
      have hbA : ∀ u : World, Below (wr.alloc (.cells #[.int .i64 x, .string r] 62)).heap.size (wr.alloc (.cells #[.int .i64 x, .string r] 62)) u → Below wr.heap.size wr u := fun u hu => ((Below.refl _ _).alloc (Nat.le_refl _) _).trans (hu.mono (by simp))
      have HBd : Hid (∀ c : Cls (wr.alloc (.cells #[.int .i64 x, .string r] 62)), Below (w.heap.size + 1) (w.alloc (.cells #[.int .i64 ep, .slice a n cap] 24)) c.1) := hid (fun c => HB.out.trans ((hbA _ c.2).mono (by have := HB.out.size; simp at this; omega)))
      have HBc : Hid (∀ c : Cls (wr.alloc (.cells #[.int .i64 x, .string r] 62)), Below w.heap.size w c.1) := hid (fun c => hb0.trans ((hbA _ c.2).mono hb0.size))
      have HIb : Hid (∀ u : World, Below (wr.alloc (.cells #[.int .i64 x, .string r] 62)).heap.size (wr.alloc (.cells #[.int .i64 x, .string r] 62)) u → IntsIn u a l) := hid (fun u hu => HI.out.keep (HBc.out ⟨u, hu⟩) (Nat.le_refl _))
      have hsb : ∀ c : Cls (wr.alloc (.cells #[.int .i64 x, .string r] 62)), c.1.heap[wr.heap.size]? = some (.cells [.int .i64 x, .string r].toArray 62 (0, 0)) := fun c => (c.2.block _ (by simp)).trans (heap_alloc_last wr _)
      have e0 : ∀ c : Cls (wr.alloc (.cells #[.int .i64 x, .string r] 62)), c.1.cell? ⟨wr.heap.size, 0, none⟩ = some (.int .i64 x) := fun c => cell_at (hsb c) 0 _ rfl
      have e1 : ∀ c : Cls (wr.alloc (.cells #[.int .i64 x, .string r] 62)), c.1.cell? ⟨wr.heap.size, 1, none⟩ = some (.string r) := fun c => cell_at (hsb c) 1 _ rfl
      have e2 : ∀ c : Cls (wr.alloc (.cells #[.int .i64 x, .string r] 62)), c.1.cell? ⟨w.heap.size, 1, none⟩ = some (.slice a n cap) := fun c => cell_at (L := [.int .i64 ep, .slice a n cap]) (((HBd.out c).block _ (by omega)).trans HF.out) 1 _ rfl
      have HJ := hid (And.intro hj hjn)
      clear x1 y1 hsb hbA hb0
      by_cases hr : r.data.toList = t.data.toList
      · obtain rfl : r = t := bytes_eq hr
        cases hh : hasM l x with
        | false =>
          have HHx : Hid (∀ u : World, IntsIn u a l → Calls Try.prog 55 #[.slice a n cap, .int .i64 x] u fun e w' => e = .returned (.bool false) ∧ Below u.heap.size u w') := hid (fun u hu => (HH.out x u hu).mono fun e w' ⟨h1, h2⟩ => ⟨by rw [h1, hh], by rw [h2]; exact Below.refl _ _⟩)
          have HFl : Hid (okTTo l r ss m = false) := hid (okTTo_false l r ss (j + 1) m (by rw [okTTo_succ, okT, ← ex, hh]; simp) (by omega))
          clear hok hj hjn hjl ex er hh hr hg
          go_wp2
          haveI := Cls.ne (wr.alloc (.cells #[.int .i64 x, .string r] 62))
          refine wp_region_cls (wr.alloc (.cells #[.int .i64 x, .string r] 62)) (by kernel_rfl) (by kernel_rfl) ?_
          repeat (go_big_quiet_step ((go_at_call 55; exact Cls.of _ (fun u hu => HHx.out u (HIb.out u hu)))))
          refine wpQuiet_nil ?_
          rintro _ ⟨c, rfl⟩
          go_wp2
          go_ret
          exact ⟨by rw [provesB, HP.out.2, HFl.out]; rfl, HBc.out c⟩

        | true =>
          have HHx : Hid (∀ u : World, IntsIn u a l → Calls Try.prog 55 #[.slice a n cap, .int .i64 x] u fun e w' => e = .returned (.bool true) ∧ Below u.heap.size u w') := hid (fun u hu => (HH.out x u hu).mono fun e w' ⟨h1, h2⟩ => ⟨by rw [h1, hh], by rw [h2]; exact Below.refl _ _⟩)
          by_cases hz : j = 0
          · have hz1 : ¬ ((0 : Int) < (j : Int)) := by omega
            have hz2 : decide (0 < j) = false := decide_eq_false (by omega)
            have HFl : Hid (okTTo l r ss (j + 1) = true) := hid (by rw [okTTo_succ, hok, okT, ← ex, ← er, hh, decide_eq_true hz]; simp)
            clear hok hj hjn hjl ex er hh hr hg hz
            go_wp2
            haveI := Cls.ne (wr.alloc (.cells #[.int .i64 x, .string r] 62))
            refine wp_region_cls (wr.alloc (.cells #[.int .i64 x, .string r] 62)) (by kernel_rfl) (by kernel_rfl) ?_
            repeat (go_big_quiet_step ((go_at_call 55; exact Cls.of _ (fun u hu => HHx.out u (HIb.out u hu)))))
            refine wpQuiet_nil ?_
            rintro _ ⟨c, rfl⟩
            go_wp2
            go_roundw
            case rel => exact ⟨j + 1, by have := HJ.out; omega, by go_num, HFl.out, HBd.out c⟩
            case measure => simp [intOf]; omega

          · obtain ⟨i, rfl⟩ : ∃ i, j = i + 1 := ⟨j - 1, by omega⟩
            have hil : i < ss.length := by omega
            obtain ⟨g', off', eg, hg', p1, _⟩ := HP.out.1.at i _ (getP_some hil)
            obtain ⟨rfl, rfl⟩ : g = g' ∧ off = off' := by simp at eg; exact eg
            obtain ⟨y, ey⟩ : ∃ y, y = idOf ss i := ⟨_, rfl⟩
            rw [← ey] at p1
            have e3 : ∀ c : Cls (wr.alloc (.cells #[.int .i64 x, .string r] 62)), c.1.cell? ⟨g, off + i * 2, none⟩ = some (.int .i64 y) := fun c => ((HBc.out c).cell (p := ⟨g, _, none⟩) hg).trans p1
            have hi0 : (0 : Int) < ((i + 1 : Nat) : Int) := by omega
            have hi1 : (i : Int) < (m : Int) := by omega
            have hi2 : (0 : Int) ≤ (i : Int) := by omega
            have hi3 : decide ((0 : Int) < (i : Int) + 1) = true := decide_eq_true (by omega)
            by_cases hxy : x ≤ y
            · have d3 : decide (x ≤ y) = true := decide_eq_true hxy
              have HFl : Hid (okTTo l r ss m = false) := hid (okTTo_false l r ss (i + 1 + 1) m (by rw [okTTo_succ, okT, ← ex, show i + 1 - 1 = i from rfl, ← ey, decide_eq_false (show ¬ (y < x) by omega), decide_eq_false (show ¬ (i + 1 = 0) by omega)]; simp) (by omega))
              clear hok hj hjn hjl ex er hh hr hg hz hil eg hg' p1 ey
              go_wp2
              haveI := Cls.ne (wr.alloc (.cells #[.int .i64 x, .string r] 62))
              refine wp_region_cls (wr.alloc (.cells #[.int .i64 x, .string r] 62)) (by kernel_rfl) (by kernel_rfl) ?_
              repeat (go_big_quiet_step ((go_at_call 55; exact Cls.of _ (fun u hu => HHx.out u (HIb.out u hu)))))
              refine wpQuiet_nil ?_
              rintro _ ⟨c, rfl⟩
              go_wp2
              go_ret
              exact ⟨by rw [provesB, HP.out.2, HFl.out]; rfl, HBc.out c⟩

            · have d3 : decide (x ≤ y) = false := decide_eq_false hxy
              have HFl : Hid (okTTo l r ss (i + 1 + 1) = true) := hid (by rw [okTTo_succ, hok, okT, ← ex, ← er, hh, show i + 1 - 1 = i from rfl, ← ey, decide_eq_true (show y < x by omega)]; simp)
              clear hok hj hjn hjl ex er hh hr hg hz hil eg hg' p1 ey
              go_wp2
              haveI := Cls.ne (wr.alloc (.cells #[.int .i64 x, .string r] 62))
              refine wp_region_cls (wr.alloc (.cells #[.int .i64 x, .string r] 62)) (by kernel_rfl) (by kernel_rfl) ?_
              repeat (go_big_quiet_step ((go_at_call 55; exact Cls.of _ (fun u hu => HHx.out u (HIb.out u hu)))))
              refine wpQuiet_nil ?_
              rintro _ ⟨c, rfl⟩
              go_wp2
              go_roundw
              case rel => exact ⟨i + 1 + 1, by have := HJ.out; omega, by go_num, HFl.out, HBd.out c⟩
              case measure => simp [intOf]; omega

      · have hr2 : ¬ (r = t) := fun h => hr (by rw [h])
        have hr3 : (r.toList == t.toList) = false := by rw [data_list, data_list]; simpa using hr
        have HHx : Hid (∀ u : World, IntsIn u a l → Calls Try.prog 55 #[.slice a n cap, .int .i64 x] u fun e w' => e = .returned (.bool (hasM l x)) ∧ Below u.heap.size u w') := hid (fun u hu => (HH.out x u hu).mono fun e w' ⟨h1, h2⟩ => ⟨h1, by rw [h2]; exact Below.refl _ _⟩)
        have HFl : Hid (okTTo l t ss m = false) := hid (okTTo_false l t ss (j + 1) m (by rw [okTTo_succ, okT, ← er, decide_eq_false hr]; simp) (by omega))
        clear hok hj hjn hjl ex er hg hr
        go_wp2
        haveI := Cls.ne (wr.alloc (.cells #[.int .i64 x, .string r] 62))
        refine wp_region_cls (wr.alloc (.cells #[.int .i64 x, .string r] 62)) (by kernel_rfl) (by kernel_rfl) ?_
        repeat (go_big_quiet_step ((go_at_call 55; exact Cls.of _ (fun u hu => HHx.out u (HIb.out u hu)))))
        refine wpQuiet_nil ?_
        rintro _ ⟨c, rfl⟩
        go_wp2
        go_ret
        exact ⟨by rw [provesB, HP.out.2, HFl.out]; rfl, HBc.out c⟩
end Go.Proofs.Ytpholamobedkhaa

/- Words for the contracts of package pack: what a writer and a reader look like in memory, and what a call keeps. No walk here. -/
namespace Go.Proofs.Ytpholamobedkhaa
open Go.RowKit

/-- All blocks but b and row r are as they were; the streams too. -/
structure Kept (b : Nat) (r : Option Nat) (w w' : World) : Prop where
  os : w'.os = w.os
  tape : w'.tape = w.tape
  output : w'.output = w.output
  size : w.heap.size ≤ w'.heap.size
  block : ∀ k, k < w.heap.size → k ≠ b → some k ≠ r → w'.heap[k]? = w.heap[k]?

theorem Kept.refl (b : Nat) (r : Option Nat) (w : World) : Kept b r w w := ⟨rfl, rfl, rfl, Nat.le_refl _, fun _ _ _ _ => rfl⟩
/-- Where the row has moved to a new block. -/
theorem Kept.trans {b : Nat} {r r' : Option Nat} {x y z : World} (h : Kept b r x y) (k : Kept b r' y z) (hr : r' = r ∨ ∃ g, r' = some g ∧ x.heap.size ≤ g) : Kept b r x z :=
  ⟨k.os.trans h.os, k.tape.trans h.tape, k.output.trans h.output, Nat.le_trans h.size k.size, fun i hi hb hne => by
    rw [k.block i (Nat.lt_of_lt_of_le hi h.size) hb (by rcases hr with rfl | ⟨g, rfl, hg⟩ <;> first | exact hne | (intro e; cases e; omega)), h.block i hi hb hne]⟩
theorem Kept.alloc {b : Nat} {r : Option Nat} {x y : World} (h : Kept b r x y) (o : Obj) : Kept b r x (y.alloc o) :=
  ⟨h.os, h.tape, h.output, by have := h.size; simp; omega, fun i hi hb hne => by rw [Below.heap_alloc _ _ _ (Nat.lt_of_lt_of_le hi h.size), h.block i hi hb hne]⟩
theorem Kept.drew {b : Nat} {r : Option Nat} {x y : World} (h : Kept b r x y) : Kept b r x y.drew := ⟨h.os, h.tape, h.output, h.size, h.block⟩
theorem Kept.setCell {b : Nat} {r : Option Nat} {x y : World} (h : Kept b r x y) (o : Nat) (u : Value) : Kept b r x (y.setCell ⟨b, o, none⟩ u) :=
  ⟨h.os, h.tape, h.output, by have := h.size; simpa [World.setCell] using this, fun i hi hb hne => by rw [Below.heap_setCell _ _ _ _ hb, h.block i hi hb hne]⟩
theorem Kept.grown {b : Nat} {r r' : Option Nat} {x y z : World} (h : Kept b r x y) (hg : y.grownBy z r') (hr : r' = r ∨ ∃ g, r' = some g ∧ x.heap.size ≤ g) : Kept b r x z :=
  h.trans ⟨hg.os, hg.tape, hg.output, hg.size, fun k hk _ hne => hg.block k hk hne⟩ hr
theorem Kept.below {b : Nat} {r : Option Nat} {x y : World} {B : Nat} (h : Kept b r x y) (hB : B ≤ x.heap.size) (hb : B ≤ b) (hr : ∀ g, r = some g → B ≤ g) : Below B x y :=
  ⟨h.os, h.tape, h.output, h.size, fun k hk => h.block k (by omega) (by omega) (fun e => by have := hr k e.symm; omega)⟩

/-- A writer at block b: its limit, its bytes l (in the slice v), its error. -/
structure WrAt (w : World) (b : Nat) (v : Value) (lim : Int) (l : List UInt8) (er : Int) : Prop where
  blk : w.heap[b]? = some (.cells #[.int .i64 lim, v, .int .i64 er] 97 (0, 0))
  own : w.ownsRow (b + 1) 5 1 v l.length (bC l)

theorem cell_of_blk {w : World} {b : Nat} {cs : Array Value} {t : TypeId} {fr : Nat × Nat} (h : w.heap[b]? = some (.cells cs t fr)) (j : Nat) (hj : j < cs.size) : w.cell? ⟨b, j, none⟩ = some cs[j] := by
  simp [World.cell?, h, hj]
theorem free_of_blk {w : World} {b : Nat} {cs : Array Value} {t : TypeId} (h : w.heap[b]? = some (.cells cs t (0, 0))) (j : Nat) : w.frozen? ⟨b, j, none⟩ = false := by
  simp [World.frozen?, h]

theorem WrAt.lt {w : World} {b : Nat} {v : Value} {lim : Int} {l : List UInt8} {er : Int} (h : WrAt w b v lim l er) : b < w.heap.size := lt_of_blk h.blk
theorem WrAt.c0 {w : World} {b : Nat} {v : Value} {lim : Int} {l : List UInt8} {er : Int} (h : WrAt w b v lim l er) : w.cell? ⟨b, 0, none⟩ = some (.int .i64 lim) := cell_of_blk h.blk 0 (by simp)
theorem WrAt.c1 {w : World} {b : Nat} {v : Value} {lim : Int} {l : List UInt8} {er : Int} (h : WrAt w b v lim l er) : w.cell? ⟨b, 1, none⟩ = some v := cell_of_blk h.blk 1 (by simp)
theorem WrAt.c2 {w : World} {b : Nat} {v : Value} {lim : Int} {l : List UInt8} {er : Int} (h : WrAt w b v lim l er) : w.cell? ⟨b, 2, none⟩ = some (.int .i64 er) := cell_of_blk h.blk 2 (by simp)
theorem WrAt.fr {w : World} {b : Nat} {v : Value} {lim : Int} {l : List UInt8} {er : Int} (h : WrAt w b v lim l er) (j : Nat) : w.frozen? ⟨b, j, none⟩ = false := free_of_blk h.blk j

end Go.Proofs.Ytpholamobedkhaa

/- Plain facts on numbers and bytes. -/
namespace Go.Proofs.Ytpholamobedkhaa
open Go.RowKit

/-- The number that bytes make, the greatest first. -/
def val (l : List UInt8) : Nat := l.foldl (fun n c => n * 256 + c.toNat) 0
theorem val_snoc (l : List UInt8) (c : UInt8) : val (l ++ [c]) = val l * 256 + c.toNat := by simp [val, List.foldl_append]
theorem val_lt (l : List UInt8) : val l < 256 ^ l.length := by
  rw [← List.reverse_reverse l]
  generalize l.reverse = r
  induction r with
  | nil => simp [val]
  | cons c r ih =>
    rw [List.reverse_cons, val_snoc, List.length_append, List.length_singleton, Nat.pow_succ]
    have := c.toNat_lt
    omega
theorem take_snoc (s : ByteArray) (k : Nat) (h : k < s.size) : s.data.toList.take (k + 1) = s.data.toList.take k ++ [s[k]] := by
  rw [List.take_succ_eq_append_getElem (by simpa using h)]; rfl
theorem or_add (a c : Nat) (hc : c < 256) : a * 256 ||| c = a * 256 + c := by
  have := Nat.two_pow_add_eq_or_of_lt (i := 8) hc a
  rw [Nat.mul_comm] at this
  simpa using this.symm
theorem or_val (a : Nat) (c : UInt8) (ha : a < 72057594037927936) :
    bits BinOp.or IntKind.u64 (IntKind.u64.wrap ((a : Int) * 256)) (IntKind.u64.wrap (c.toNat : Int)) = ((a * 256 + c.toNat : Nat) : Int) := by
  have hc := c.toNat_lt
  have e1 : IntKind.u64.wrap ((a : Int) * 256) = ((a * 256 : Nat) : Int) := by simp only [IntKind.wrap_u64]; omega
  have e2 : IntKind.u64.wrap (c.toNat : Int) = ((c.toNat : Nat) : Int) := by simp only [IntKind.wrap_u64]; omega
  rw [e1, e2, u64_or_nat _ _ (by omega) (by omega), or_add _ _ (by omega)]

theorem extract_list (s : ByteArray) (a b : Nat) : (s.extract a b).data.toList = (s.data.toList.take b).drop a := by
  simp [ByteArray.data_extract, List.drop_take]

theorem be_snoc (s n : Nat) : be (s + 1) n = be s (n / 256) ++ [UInt8.ofNat n] := by
  induction s with
  | zero => simp [be]
  | succ s ih =>
    rw [be, ih, be, List.cons_append, Nat.div_div_eq_div_mul, Nat.pow_succ, Nat.mul_comm (256 ^ s) 256]
/-- Bytes of a number read again make the number. -/
theorem val_be (s n : Nat) : val (be s n) = n % 256 ^ s := by
  induction s generalizing n with
  | zero => simp [be, val, Nat.mod_one]
  | succ s ih =>
    have e : (UInt8.ofNat n).toNat = n % 256 := by simp
    rw [be_snoc, val_snoc, ih, e, Nat.pow_succ, Nat.mul_comm (256 ^ s) 256, Nat.mod_mul]
    omega
/-- A number's bytes are those that made it. -/
theorem be_val (l : List UInt8) : be l.length (val l) = l := by
  rw [← List.reverse_reverse l]
  generalize l.reverse = r
  induction r with
  | nil => rfl
  | cons c r ih =>
    have hc := c.toNat_lt
    rw [List.reverse_cons, val_snoc, List.length_append, List.length_singleton, be_snoc]
    have e1 : (val r.reverse * 256 + c.toNat) / 256 = val r.reverse := by omega
    have e2 : UInt8.ofNat (val r.reverse * 256 + c.toNat) = c := by
      apply UInt8.toNat_inj.1
      have e : ∀ n, (UInt8.ofNat n).toNat = n % 256 := fun n => by simp
      rw [e]
      omega
    rw [e1, e2, ih]

end Go.Proofs.Ytpholamobedkhaa

/- The contracts of package pack's writers. -/
namespace Go.Proofs.Ytpholamobedkhaa
open Go.RowKit

/-- Nothing but draws. -/
structure Still (w w' : World) : Prop where
  os : w'.os = w.os
  tape : w'.tape = w.tape
  output : w'.output = w.output
  heap : w'.heap = w.heap
theorem Still.refl (w : World) : Still w w := ⟨rfl, rfl, rfl, rfl⟩
theorem Still.drew (w : World) : Still w w.drew := ⟨rfl, rfl, rfl, rfl⟩
theorem Still.kept {w w' : World} (h : Still w w') (b : Nat) (r : Option Nat) : Kept b r w w' := ⟨h.os, h.tape, h.output, by rw [h.heap]; exact Nat.le_refl _, fun k _ _ _ => by rw [h.heap]⟩
theorem ownsRow_of_heap {w w' : World} (e : w'.heap = w.heap) {base : Nat} {t : TypeId} {size : Nat} {v : Value} {n : Nat} {xs : List Value} (h : w.ownsRow base t size v n xs) : w'.ownsRow base t size v n xs := by
  unfold World.ownsRow at h ⊢
  rw [e]
  exact h
theorem Still.wr {w w' : World} (e : Still w w') {b : Nat} {v : Value} {lim : Int} {l : List UInt8} {er : Int} (h : WrAt w b v lim l er) : WrAt w' b v lim l er :=
  ⟨by rw [e.heap]; exact h.blk, ownsRow_of_heap e.heap h.own⟩

set_option maxHeartbeats 400000 in
theorem new_any (n : Int) (w : World) :
    Calls Try.prog 48 #[.int .i64 n] w fun e w' => e = .returned (.pointer (some ⟨w.heap.size, 0, none⟩)) ∧ w' = w.alloc (.cells #[.int .i64 (max n 0), .slice none 0 0, .int .i64 0] 97) := by
  by_cases hn : n < 0
  · have e : max n 0 = 0 := by omega
    rw [e]
    clear e
    go_enter Try.func48, Try.ntmps48
    go_wp2
    go_ret
    exact ⟨rfl, rfl⟩
  · have e : max n 0 = n := by omega
    rw [e]
    clear e
    go_enter Try.func48, Try.ntmps48
    go_wp2
    go_ret
    exact ⟨rfl, rfl⟩
theorem new_wr (n : Int) (w : World) : WrAt (w.alloc (.cells #[.int .i64 (max n 0), .slice none 0 0, .int .i64 0] 97)) w.heap.size (.slice none 0 0) (max n 0) [] 0 :=
  ⟨heap_alloc_new w _, World.ownsRow_nil _ _ _ _⟩

theorem done_nil (w : World) : Calls Try.prog 51 #[.pointer none] w fun e w' => e = .returned (.tuple #[.string ⟨#[]⟩, .int .i64 1]) ∧ w' = w := by
  go_enter Try.func51, Try.ntmps51
  go_wp2
  go_ret2
  exact ⟨rfl, rfl⟩

theorem done_ok (b : Nat) (v : Value) (lim : Int) (l : List UInt8) (w : World) (h : WrAt w b v lim l 0) :
    Calls Try.prog 51 #[.pointer (some ⟨b, 0, none⟩)] w fun e w' => e = .returned (.tuple #[.string ⟨l.toArray⟩, .int .i64 0]) ∧ w' = w := by
  have c1 := h.c1
  have c2 := h.c2
  rcases h.own.2 with ⟨rfl, h0⟩ | ⟨g, cap, cur, rfl, hg, hh, hnc, hcp, hcs, htake⟩
  · obtain rfl := List.eq_nil_of_length_eq_zero h0
    have hcv : ∀ w, (convert 89 9 (.slice none 0 0)).run Try.prog w = .ok (.string ⟨#[]⟩) w := fun w => by
      rw [run_convert_bytes_string w 89 9 5 none 0 0 Try.underlying89 Try.underlying5 Try.underlying9]; rfl
    go_enter Try.func51, Try.ntmps51
    go_wp2
    go_ret2
    exact ⟨rfl, rfl⟩
  · have hcv := run_convert_bytes_back (P := Try.prog) w 89 9 5 ⟨g, 0, none⟩ cap l Try.underlying89 Try.underlying5 Try.underlying9 (fun j hj => h.own.cells (g := g) rfl j _ (by simp [bC, hj]))
    go_enter Try.func51, Try.ntmps51
    go_wp2
    go_ret2
    exact ⟨rfl, rfl⟩

theorem done_err (b : Nat) (v : Value) (lim : Int) (l : List UInt8) (er : Int) (w : World) (h : WrAt w b v lim l er) (he : (er != 0) = true) :
    Calls Try.prog 51 #[.pointer (some ⟨b, 0, none⟩)] w fun e w' => e = .returned (.tuple #[.string ⟨#[]⟩, .int .i64 er]) ∧ w' = w.drew := by
  have c1 := h.c1
  have c2 := h.c2
  go_enter Try.func51, Try.ntmps51
  go_wp2
  go_region
  all_goals (try go_wp2)
  all_goals go_ret2
  exact ⟨rfl, rfl⟩

theorem done_any (b : Nat) (v : Value) (lim : Int) (l : List UInt8) (er : Int) (w : World) (h : WrAt w b v lim l er) :
    Calls Try.prog 51 #[.pointer (some ⟨b, 0, none⟩)] w fun e w' => e = .returned (.tuple #[.string (if er = 0 then ⟨l.toArray⟩ else ⟨#[]⟩), .int .i64 er]) ∧ Still w w' := by
  by_cases he : er = 0
  · subst he
    exact (done_ok b v lim l w h).mono fun e w' ⟨h1, h2⟩ => ⟨by simpa using h1, by rw [h2]; exact Still.refl _⟩
  · exact (done_err b v lim l er w h (by simpa using he)).mono fun e w' ⟨h1, h2⟩ => ⟨by simpa [he] using h1, by rw [h2]; exact Still.drew _⟩

theorem WrAt.err {w : World} {b : Nat} {v : Value} {lim : Int} {l : List UInt8} {er : Int} (h : WrAt w b v lim l er) (u : Int) : WrAt (w.setCell ⟨b, 2, none⟩ (.int .i64 u)) b v lim l u :=
  ⟨by have := h.blk; simp [World.setCell, Array.getElem?_modify, this], ownsRow_setCell_below h.own (by show b < b + 1; omega) _⟩

/-- The error behind a thing of that size: the first one stays. -/
def adm (lim : Int) (n : Nat) (er : Int) (inR : Bool) (size : Int) : Int := if er = 0 then (if inR then (if lim - n < size then 3 else 0) else 4) else er

theorem adm_bad (lim : Int) (n : Nat) (size : Int) : adm lim n 0 false size = 4 := by simp [adm]
theorem adm_er (lim : Int) (n : Nat) (er : Int) (inR : Bool) (size : Int) (he : er ≠ 0) : adm lim n er inR size = er := by simp [adm, he]
theorem adm_long (lim : Int) (n : Nat) (size : Int) (h : lim - n < size) : adm lim n 0 true size = 3 := by simp [adm, h]
theorem adm_ok (lim : Int) (n : Nat) (size : Int) (h : ¬ lim - n < size) : adm lim n 0 true size = 0 := by simp [adm, h]

set_option maxHeartbeats 400000 in
theorem admits_er (b : Nat) (v : Value) (lim : Int) (l : List UInt8) (er : Int) (inR : Bool) (size : Int) (w : World) (h : WrAt w b v lim l er) (he : (er != 0) = true) :
    Calls Try.prog 67 #[.pointer (some ⟨b, 0, none⟩), .bool inR, .int .i64 size] w fun e w' => e = .returned (.bool false) ∧ w' = w := by
  have c2 := h.c2
  clear h
  go_enter Try.func67, Try.ntmps67
  go_wp2
  go_ret
  exact ⟨rfl, rfl⟩

set_option maxHeartbeats 400000 in
theorem admits_bad (b : Nat) (v : Value) (lim : Int) (l : List UInt8) (size : Int) (w : World) (h : WrAt w b v lim l 0) :
    Calls Try.prog 67 #[.pointer (some ⟨b, 0, none⟩), .bool false, .int .i64 size] w fun e w' => e = .returned (.bool false) ∧ w' = w.setCell ⟨b, 2, none⟩ (.int .i64 4) := by
  have c2 := h.c2
  have f2 := h.fr 2
  clear h
  go_enter Try.func67, Try.ntmps67
  go_wp2
  go_ret
  exact ⟨rfl, rfl⟩

set_option maxHeartbeats 400000 in
theorem admits_long (b : Nat) (a : Option Addr) (n cap : Nat) (lim : Int) (size : Int) (w : World) (c0 : w.cell? ⟨b, 0, none⟩ = some (.int .i64 lim)) (c1 : w.cell? ⟨b, 1, none⟩ = some (.slice a n cap)) (c2 : w.cell? ⟨b, 2, none⟩ = some (.int .i64 0)) (f2 : w.frozen? ⟨b, 2, none⟩ = false)
    (h0 : 0 ≤ lim) (h1 : lim ≤ 9223372036854775807) (hl : n ≤ 140737488355328) (hs : lim - n < size) :
    Calls Try.prog 67 #[.pointer (some ⟨b, 0, none⟩), .bool true, .int .i64 size] w fun e w' => e = .returned (.bool false) ∧ w' = (w.setCell ⟨b, 2, none⟩ (.int .i64 3)).drew := by
  go_enter Try.func67, Try.ntmps67
  go_wp2
  go_region
  all_goals (try go_wp2)
  all_goals go_ret
  exact ⟨rfl, rfl⟩

set_option maxHeartbeats 400000 in
theorem admits_ok (b : Nat) (a : Option Addr) (n cap : Nat) (lim : Int) (size : Int) (w : World) (c0 : w.cell? ⟨b, 0, none⟩ = some (.int .i64 lim)) (c1 : w.cell? ⟨b, 1, none⟩ = some (.slice a n cap)) (c2 : w.cell? ⟨b, 2, none⟩ = some (.int .i64 0))
    (h0 : 0 ≤ lim) (h1 : lim ≤ 9223372036854775807) (hl : n ≤ 140737488355328) (hs : size ≤ lim - n) :
    Calls Try.prog 67 #[.pointer (some ⟨b, 0, none⟩), .bool true, .int .i64 size] w fun e w' => e = .returned (.bool true) ∧ w' = w.drew := by
  go_enter Try.func67, Try.ntmps67
  go_wp2
  go_region
  all_goals (try go_wp2)
  all_goals go_ret
  exact ⟨rfl, rfl⟩

theorem admits_any (b : Nat) (v : Value) (lim : Int) (l : List UInt8) (er : Int) (inR : Bool) (size : Int) (w : World) (h : WrAt w b v lim l er)
    (h0 : 0 ≤ lim) (h1 : lim ≤ 9223372036854775807) (hl : l.length ≤ 140737488355328) :
    Calls Try.prog 67 #[.pointer (some ⟨b, 0, none⟩), .bool inR, .int .i64 size] w fun e w' => e = .returned (.bool (decide (adm lim l.length er inR size = 0))) ∧ WrAt w' b v lim l (adm lim l.length er inR size) ∧ Kept b none w w' := by
  by_cases he : er = 0
  · subst he
    cases inR with
    | false =>
      rw [adm_bad]
      exact (admits_bad b v lim l size w h).mono fun e w' ⟨h1, h2⟩ => ⟨by simpa using h1, by rw [h2]; exact h.err 4, by rw [h2]; exact (Kept.refl _ _ _).setCell _ _⟩
    | true =>
      obtain ⟨a, cap, rfl⟩ : ∃ a cap, v = .slice a l.length cap := by
        rcases h.own.2 with ⟨hv, h0⟩ | ⟨g, cap, cur, hv, _⟩
        · exact ⟨none, 0, by rw [hv, h0]⟩
        · exact ⟨_, _, hv⟩
      by_cases hs : lim - l.length < size
      · rw [adm_long _ _ _ hs]
        exact (admits_long b a l.length cap lim size w h.c0 h.c1 h.c2 (h.fr 2) h0 h1 hl hs).mono fun e w' ⟨h1, h2⟩ => ⟨by simpa using h1, by rw [h2]; exact (Still.drew _).wr (h.err 3), by rw [h2]; exact ((Kept.refl _ _ _).setCell _ _).drew⟩
      · rw [adm_ok _ _ _ hs]
        exact (admits_ok b a l.length cap lim size w h.c0 h.c1 h.c2 h0 h1 hl (by omega)).mono fun e w' ⟨h1, h2⟩ => ⟨by simpa using h1, by rw [h2]; exact (Still.drew _).wr h, by rw [h2]; exact (Kept.refl _ _ _).drew⟩
  · rw [adm_er _ _ _ _ _ he]
    exact (admits_er b v lim l er inR size w h (by simpa using he)).mono fun e w' ⟨h1, h2⟩ => ⟨by simpa [he] using h1, by rw [h2]; exact h, by rw [h2]; exact Kept.refl _ _ _⟩

theorem admits_nil (inR : Bool) (size : Int) (w : World) : Calls Try.prog 67 #[.pointer none, .bool inR, .int .i64 size] w fun e w' => e = .returned (.bool false) ∧ w' = w := by
  go_enter Try.func67, Try.ntmps67
  go_wp2
  go_ret
  exact ⟨rfl, rfl⟩

end Go.Proofs.Ytpholamobedkhaa
