/- Texts laid together: CoA CoB CoC CoD CoE CoF CoI. -/
import Derived.Test.YtecidbdbdnnglaaGreatBaC
import Derived.Deep.QuietTactic
/- Members, quorums, configurations, as functions. No walk here. -/
namespace Go.Proofs.YtecidbdbdnnglaaGreat
open Go.RowKit

def fltZ (n : Int) : Int := if n < 1 then 0 else (n - 1) / 3
def quoZ (n : Int) : Int := if n < 1 then 0 else (n + fltZ n) / 2 + 1
def wekZ (n : Int) : Int := if n < 1 then 0 else fltZ n + 1
theorem fltZ_lo {n : Int} (h : n < 1) : fltZ n = 0 := if_pos h
theorem quoZ_lo {n : Int} (h : n < 1) : quoZ n = 0 := if_pos h
theorem wekZ_lo {n : Int} (h : n < 1) : wekZ n = 0 := if_pos h
theorem fltZ_hi {n : Int} (h : ¬ n < 1) : fltZ n = (n - 1) / 3 := if_neg h
theorem quoZ_hi {n : Int} (h : ¬ n < 1) : quoZ n = (n + fltZ n) / 2 + 1 := if_neg h
theorem wekZ_hi {n : Int} (h : ¬ n < 1) : wekZ n = fltZ n + 1 := if_neg h
theorem fltZ_le {n : Int} (h : ¬ n < 1) : 0 ≤ fltZ n ∧ 3 * fltZ n ≤ n - 1 := by rw [fltZ_hi h]; omega
/-- The i-th of the members is one, and stands behind the one ahead of it. -/
def okAt (l : List Int) (i : Nat) : Bool := decide (0 ≤ l.getD i 0 ∧ l.getD i 0 < 16) && (decide (i = 0) || decide (l.getD (i - 1) 0 < l.getD i 0))
def okTo (l : List Int) : Nat → Bool
  | 0 => true
  | j + 1 => okTo l j && okAt l j
theorem okTo_succ (l : List Int) (j : Nat) : okTo l (j + 1) = (okTo l j && okAt l j) := rfl
theorem okTo_false (l : List Int) (j n : Nat) (h : okTo l j = false) (hn : j ≤ n) : okTo l n = false := by
  induction n with
  | zero =>
    obtain rfl : j = 0 := by omega
    exact h
  | succ n ih =>
    by_cases e : j = n + 1
    · rw [← e]; exact h
    · rw [okTo_succ, ih (by omega)]; rfl
theorem okAt_no1 (l : List Int) (i : Nat) (h : ¬ (0 ≤ l.getD i 0 ∧ l.getD i 0 < 16)) : okAt l i = false := by rw [okAt, decide_eq_false h]; rfl
theorem okAt_no2 (l : List Int) (i : Nat) (h0 : i ≠ 0) (h : ¬ (l.getD (i - 1) 0 < l.getD i 0)) : okAt l i = false := by rw [okAt, decide_eq_false h, decide_eq_false h0]; simp
theorem okAt_yes0 (l : List Int) (h : 0 ≤ l.getD 0 0 ∧ l.getD 0 0 < 16) : okAt l 0 = true := by rw [okAt, decide_eq_true h]; rfl
theorem okAt_yes (l : List Int) (i : Nat) (h : 0 ≤ l.getD i 0 ∧ l.getD i 0 < 16) (h1 : l.getD (i - 1) 0 < l.getD i 0) : okAt l i = true := by rw [okAt, decide_eq_true h, decide_eq_true h1]; simp
/-- Are the members right? -/
def memB (l : List Int) : Bool := okTo l l.length && decide (4 ≤ l.length ∧ l.length ≤ 10)
/-- Is the configuration right? -/
def rightC (ep : Int) (l : List Int) : Bool := decide (0 ≤ ep ∧ ep ≤ 60) && memB l
def hasM (l : List Int) (id : Int) : Bool := decide (id ∈ l)
theorem okTo_at (l : List Int) : ∀ n, okTo l n = true → ∀ i, i < n → okAt l i = true
  | 0, _, i, hi => by omega
  | n + 1, h, i, hi => by
    rw [okTo_succ, Bool.and_eq_true_iff] at h
    by_cases e : i = n
    · rw [e]; exact h.2
    · exact okTo_at l n h.1 i (by omega)
theorem mem_len {l : List Int} (h : memB l = true) : 4 ≤ l.length ∧ l.length ≤ 10 := of_decide_eq_true (Bool.and_eq_true_iff.1 h).2
theorem mem_at {l : List Int} (h : memB l = true) (i : Nat) (hi : i < l.length) : okAt l i = true := okTo_at l _ (Bool.and_eq_true_iff.1 h).1 i hi
theorem mem_range {l : List Int} (h : memB l = true) (i : Nat) (hi : i < l.length) : 0 ≤ l.getD i 0 ∧ l.getD i 0 < 16 := of_decide_eq_true (Bool.and_eq_true_iff.1 (mem_at h i hi)).1
theorem mem_rise {l : List Int} (h : memB l = true) (i : Nat) (hi : i + 1 < l.length) : l.getD i 0 < l.getD (i + 1) 0 := by
  have := (Bool.and_eq_true_iff.1 (mem_at h (i + 1) hi)).2
  simpa using this
/-- Who leads. -/
def leadN (l : List Int) (view : Int) : Nat := (view % (l.length : Int)).toNat
def leads (ep : Int) (l : List Int) (view : Int) : Bool := rightC ep l && decide (0 ≤ view)
def leadZ (ep : Int) (l : List Int) (view : Int) : Int := if leads ep l view then l.getD (leadN l view) 0 else 0
end Go.Proofs.YtecidbdbdnnglaaGreat

/- The document's counts, members and leaders. -/
namespace Go.Proofs.YtecidbdbdnnglaaGreat
open Go.RowKit

end Go.Proofs.YtecidbdbdnnglaaGreat

/- The document's members. -/
namespace Go.Proofs.YtecidbdbdnnglaaGreat
open Go.RowKit

set_option maxRecDepth 100000 in
set_option maxHeartbeats 3200000 in
theorem vmembers_any (a : Option Addr) (n cap : Nat) (l : List Int) (hn : l.length = n) (hm : n ≤ maxLen) (w : World) (hI : IntsIn w a l) :
    Calls Tryz.prog 66 #[.slice a n cap] w fun e w' => e = .returned (.bool (memB l)) ∧ Below w.heap.size w w' := by
  have hm2 : (n : Int) ≤ 9223372036854775807 := by unfold maxLen at hm; omega
  have HI := hid hI
  have HN := hid hn
  clear hI hm hn
  go_enter Tryz.func66, Tryz.ntmps66
  go_wp2
  go_loopw [3] (fun i wr => ∃ j : Nat, j ≤ n ∧ i = .int .i64 (j : Int) ∧ okTo l j = true ∧ Below w.heap.size w wr)
    (fun i _ => ((n : Int) - intOf i).toNat)
  case atStart => exact ⟨0, by omega, rfl, rfl, Below.refl _ _⟩
  case round =>
    obtain ⟨j, hj, rfl, hok, hbel⟩ := hrel
    have HB := hid hbel
    clear hbel
    by_cases hjn : j = n
    · have hj1 : ¬ ((j : Int) < (n : Int)) := by omega
      rw [hjn] at hok
      by_cases h4 : 4 ≤ n
      · by_cases h10 : n ≤ 10
        · have k4 : (4 : Int) ≤ (n : Int) := by omega
          have k10 : (n : Int) ≤ 10 := by omega
          have HF : Hid (memB l = true) := hid (by rw [memB, HN.out, hok, decide_eq_true (And.intro h4 h10)]; rfl)
          clear hok hj hjn h4 h10
          go_wp2
          go_ret
          exact ⟨by rw [HF.out]; rfl, HB.out⟩
        · have k4 : (4 : Int) ≤ (n : Int) := by omega
          have k10 : ¬ ((n : Int) ≤ 10) := by omega
          have HF : Hid (memB l = false) := hid (by rw [memB, HN.out, decide_eq_false (fun h => h10 h.2)]; simp)
          clear hok hj hjn h4 h10
          go_wp2
          go_ret
          exact ⟨by rw [HF.out]; rfl, HB.out⟩
      · have k4 : ¬ ((4 : Int) ≤ (n : Int)) := by omega
        have HF : Hid (memB l = false) := hid (by rw [memB, HN.out, decide_eq_false (fun h => h4 h.1)]; simp)
        clear hok hj hjn h4
        go_wp2
        go_ret
        exact ⟨by rw [HF.out]; rfl, HB.out⟩
    · have hj1 : (j : Int) < (n : Int) := by omega
      have hj0 : (0 : Int) ≤ (j : Int) := Int.natCast_nonneg _
      have hget : l[j]? = some (l.getD j 0) := by rw [List.getD_eq_getElem?_getD, List.getElem?_eq_getElem (by rw [HN.out]; omega)]; rfl
      obtain ⟨g, off, rfl, hg, hcell⟩ := HI.out.at j _ hget
      obtain ⟨x, ex⟩ : ∃ x, x = l.getD j 0 := ⟨_, rfl⟩
      rw [← ex] at hcell
      have cz : ∀ q : Cls wr, q.1.cell? ⟨g, off + j, none⟩ = some (.int .i64 x) := fun q => (q.2.cell (p := ⟨g, off + j, none⟩) (Nat.lt_of_lt_of_le hg HB.out.size)).trans ((HB.out.cell (p := ⟨g, off + j, none⟩) hg).trans hcell)
      clear hcell hget
      by_cases hx0 : x < 0
      · have d1 : decide (x < 0) = true := decide_eq_true hx0
        have HF : Hid (okTo l n = false) := hid (okTo_false l (j + 1) n (by rw [okTo_succ, okAt_no1 l j (by rw [← ex]; omega)]; simp) (by omega))
        clear hok hj hjn ex
        go_wp2
        haveI := Cls.ne wr
        refine wp_region_cls wr (by kernel_rfl) (by kernel_rfl) ?_
        repeat (go_big_quiet_step ((fail)))
        refine wpQuiet_nil ?_
        rintro _ ⟨q, rfl⟩
        go_wp2
        go_ret
        exact ⟨by rw [memB, HN.out, HF.out]; rfl, HB.out.trans (q.2.mono HB.out.size)⟩
      by_cases hx16 : 16 ≤ x
      · have d1 : decide (x < 0) = false := decide_eq_false hx0
        have d2 : decide ((16 : Int) ≤ x) = true := decide_eq_true hx16
        have HF : Hid (okTo l n = false) := hid (okTo_false l (j + 1) n (by rw [okTo_succ, okAt_no1 l j (by rw [← ex]; omega)]; simp) (by omega))
        clear hok hj hjn ex
        go_wp2
        haveI := Cls.ne wr
        refine wp_region_cls wr (by kernel_rfl) (by kernel_rfl) ?_
        repeat (go_big_quiet_step ((fail)))
        refine wpQuiet_nil ?_
        rintro _ ⟨q, rfl⟩
        go_wp2
        go_ret
        exact ⟨by rw [memB, HN.out, HF.out]; rfl, HB.out.trans (q.2.mono HB.out.size)⟩
      have d1 : decide (x < 0) = false := decide_eq_false hx0
      have d2 : decide ((16 : Int) ≤ x) = false := decide_eq_false hx16
      by_cases hz : j = 0
      · have d4 : decide (0 < j) = false := decide_eq_false (by omega)
        have HF : Hid (okTo l (j + 1) = true) := hid (by rw [okTo_succ, hok, show okAt l j = true by (have hx : l.getD 0 0 = x := by rw [ex, hz]); rw [hz]; exact okAt_yes0 l (by rw [hx]; omega)]; rfl)
        have HJ := hid (And.intro hj hjn)
        clear hok hj hjn ex hz
        go_wp2
        haveI := Cls.ne wr
        refine wp_region_cls wr (by kernel_rfl) (by kernel_rfl) ?_
        repeat (go_big_quiet_step ((fail)))
        refine wpQuiet_nil ?_
        rintro _ ⟨q, rfl⟩
        go_wp2
        go_roundw
        case rel => exact ⟨j + 1, by have := HJ.out; omega, by go_num, HF.out, HB.out.trans (q.2.mono HB.out.size)⟩
        case measure => simp [intOf]; omega
      · obtain ⟨i, rfl⟩ : ∃ i, j = i + 1 := ⟨j - 1, by omega⟩
        have hgetp : l[i]? = some (l.getD i 0) := by rw [List.getD_eq_getElem?_getD, List.getElem?_eq_getElem (by rw [HN.out]; omega)]; rfl
        obtain ⟨g', off', eg, hg', hcellp⟩ := HI.out.at i _ hgetp
        obtain ⟨rfl, rfl⟩ : g = g' ∧ off = off' := by simp at eg; exact eg
        obtain ⟨y, ey⟩ : ∃ y, y = l.getD i 0 := ⟨_, rfl⟩
        rw [← ey] at hcellp
        have cy : ∀ q : Cls wr, q.1.cell? ⟨g, off + i, none⟩ = some (.int .i64 y) := fun q => (q.2.cell (p := ⟨g, off + i, none⟩) (Nat.lt_of_lt_of_le hg' HB.out.size)).trans ((HB.out.cell (p := ⟨g, off + i, none⟩) hg').trans hcellp)
        have hi0 : (0 : Int) < ((i + 1 : Nat) : Int) := by omega
        have hi1 : (i : Int) < (n : Int) := by omega
        have hi2 : (0 : Int) ≤ (i : Int) := by omega
        have d4 : decide ((0 : Int) < (i : Int) + 1) = true := decide_eq_true (by omega)
        clear hcellp hgetp eg hz
        by_cases hxy : x ≤ y
        · have d3 : decide (x ≤ y) = true := decide_eq_true hxy
          have HF : Hid (okTo l n = false) := hid (okTo_false l (i + 1 + 1) n (by rw [okTo_succ, okAt_no2 l (i + 1) (by omega) (by rw [← ex, show i + 1 - 1 = i from rfl, ← ey]; omega)]; simp) (by omega))
          clear hok hj hjn ex ey
          go_wp2
          haveI := Cls.ne wr
          refine wp_region_cls wr (by kernel_rfl) (by kernel_rfl) ?_
          repeat (go_big_quiet_step ((fail)))
          refine wpQuiet_nil ?_
          rintro _ ⟨q, rfl⟩
          go_wp2
          go_ret
          exact ⟨by rw [memB, HN.out, HF.out]; rfl, HB.out.trans (q.2.mono HB.out.size)⟩
        · have d3 : decide (x ≤ y) = false := decide_eq_false hxy
          have HF : Hid (okTo l (i + 1 + 1) = true) := hid (by rw [okTo_succ, hok, okAt_yes l (i + 1) (by rw [← ex]; omega) (by rw [← ex, show i + 1 - 1 = i from rfl, ← ey]; omega)]; rfl)
          have HJ := hid (And.intro hj hjn)
          clear hok hj hjn ex ey
          go_wp2
          haveI := Cls.ne wr
          refine wp_region_cls wr (by kernel_rfl) (by kernel_rfl) ?_
          repeat (go_big_quiet_step ((fail)))
          refine wpQuiet_nil ?_
          rintro _ ⟨q, rfl⟩
          go_wp2
          go_roundw
          case rel => exact ⟨i + 1 + 1, by have := HJ.out; omega, by go_num, HF.out, HB.out.trans (q.2.mono HB.out.size)⟩
          case measure => simp [intOf]; omega
end Go.Proofs.YtecidbdbdnnglaaGreat

/- The document's: who is a member, which configuration is right, who leads. -/
namespace Go.Proofs.YtecidbdbdnnglaaGreat
open Go.RowKit

theorem not_mem_snoc {l : List Int} {id : Int} {j : Nat} (h : id ∉ l.take j) (hx : l.getD j 0 ≠ id) (hj : j < l.length) : id ∉ l.take (j + 1) := by
  rw [List.take_add_one, List.getElem?_eq_getElem hj]
  rw [List.getD_eq_getElem?_getD, List.getElem?_eq_getElem hj] at hx
  intro hm
  rcases List.mem_append.1 hm with h1 | h1
  · exact h h1
  · simp at h1 hx
    exact hx h1.symm
theorem mem_of_get {l : List Int} {id : Int} {j : Nat} (hx : l.getD j 0 = id) (hj : j < l.length) : id ∈ l := by
  rw [List.getD_eq_getElem?_getD, List.getElem?_eq_getElem hj] at hx
  rw [← hx]
  exact List.getElem_mem hj
theorem getD_some {l : List Int} {j : Nat} (hj : j < l.length) : l[j]? = some (l.getD j 0) := by rw [List.getD_eq_getElem?_getD, List.getElem?_eq_getElem hj]; rfl
set_option maxRecDepth 100000 in
set_option maxHeartbeats 1600000 in
theorem vhas_any (a : Option Addr) (n cap : Nat) (l : List Int) (hn : l.length = n) (hm : n ≤ maxLen) (id : Int) (w : World) (hI : IntsIn w a l) :
    Calls Tryz.prog 124 #[.slice a n cap, .int .i64 id] w fun e w' => e = .returned (.bool (hasM l id)) ∧ w' = w := by
  have hm2 : (n : Int) ≤ 9223372036854775807 := by unfold maxLen at hm; omega
  have HI := hid hI
  have HN := hid hn
  clear hI hm hn
  go_enter Tryz.func124, Tryz.ntmps124
  go_wp2
  go_loopw [5] (fun i wr => ∃ j : Nat, j ≤ n ∧ i = .int .i64 (j : Int) ∧ id ∉ l.take j ∧ wr = w)
    (fun i _ => ((n : Int) - intOf i).toNat)
  case atStart => exact ⟨0, by omega, rfl, by simp, rfl⟩
  case round =>
    obtain ⟨j, hj, rfl, hno, rfl⟩ := hrel
    by_cases hjn : j = n
    · have hj1 : ¬ ((j : Int) < (n : Int)) := by omega
      have HF : Hid (hasM l id = false) := hid (decide_eq_false (by rwa [List.take_of_length_le (by rw [HN.out]; omega)] at hno))
      clear hno hj hjn
      go_wp2
      go_ret
      exact ⟨by rw [HF.out]; rfl, rfl⟩
    · have hj1 : (j : Int) < (n : Int) := by omega
      have hj0 : (0 : Int) ≤ (j : Int) := Int.natCast_nonneg _
      have hjl : j < l.length := by rw [HN.out]; omega
      obtain ⟨g, off, rfl, hg, cz⟩ := HI.out.at j _ (getD_some hjl)
      by_cases hx : l.getD j 0 = id
      · have HF : Hid (hasM l id = true) := hid (decide_eq_true (mem_of_get hx hjl))
        rw [hx] at cz
        clear hno hj hjn hx hjl hg
        go_wp2
        go_ret
        exact ⟨by rw [HF.out]; rfl, rfl⟩
      · have HF : Hid (id ∉ l.take (j + 1)) := hid (not_mem_snoc hno hx hjl)
        obtain ⟨x, ex⟩ : ∃ x, x = l.getD j 0 := ⟨_, rfl⟩
        rw [← ex] at cz hx
        have HJ := hid (And.intro hj hjn)
        clear hno hj hjn hjl hg ex
        go_wp2
        go_roundw
        case rel => exact ⟨j + 1, by have := HJ.out; omega, by go_num, HF.out, by first | exact rfl | exact trivial⟩
        case measure => simp [intOf]; omega
theorem IntsIn.alloc {w : World} {a : Option Addr} {l : List Int} (h : IntsIn w a l) (o : Obj) : IntsIn (w.alloc o) a l := h.keep ((Below.refl w.heap.size w).alloc (Nat.le_refl _) o) (Nat.le_refl _)
set_option maxRecDepth 100000 in
set_option maxHeartbeats 1600000 in
theorem vright_any (ep : Int) (a : Option Addr) (n cap : Nat) (l : List Int) (hn : l.length = n) (hm : n ≤ maxLen) (w : World) (hI : IntsIn w a l) :
    Calls Tryz.prog 23 #[.agg #[.int .i64 ep, .slice a n cap]] w fun e w' => e = .returned (.bool (rightC ep l)) ∧ Below w.heap.size w w' := by
  by_cases h0 : 0 ≤ ep
  · by_cases h60 : ep ≤ 60
    · have HM : Hid (∀ u : World, IntsIn u a l → Calls Tryz.prog 66 #[.slice a n cap] u fun e w' => e = .returned (.bool (memB l)) ∧ Below u.heap.size u w') := hid (fun u hu => vmembers_any a n cap l hn hm u hu)
      have HR : Hid (rightC ep l = memB l) := hid (by rw [rightC, decide_eq_true (And.intro h0 h60)]; rfl)
      have HI := hid hI
      rw [HR.out]
      generalize memB l = b at HM
      clear hI hn hm
      go_enter Tryz.func23, Tryz.ntmps23
      go_wp2_with (go_at_call 66; refine (HM.out _ (by exact HI.out.alloc _)).mono ?_; rintro e w1 ⟨rfl, hb1⟩; have H1 := hid (((Below.refl w.heap.size w).alloc (Nat.le_refl _) _).trans (hb1.mono (by simp))); clear hb1)
      go_ret
      exact ⟨rfl, H1.out⟩
    · have HR : Hid (rightC ep l = false) := hid (by rw [rightC, decide_eq_false (fun h => h60 h.2)]; rfl)
      rw [HR.out]
      clear hI hn hm
      go_enter Tryz.func23, Tryz.ntmps23
      go_wp2
      go_ret
      exact ⟨rfl, (Below.refl _ _).alloc (Nat.le_refl _) _⟩
  · have HR : Hid (rightC ep l = false) := hid (by rw [rightC, decide_eq_false (fun h => h0 h.1)]; rfl)
    rw [HR.out]
    clear hI hn hm
    go_enter Tryz.func23, Tryz.ntmps23
    go_wp2
    go_ret
    exact ⟨rfl, (Below.refl _ _).alloc (Nat.le_refl _) _⟩
end Go.Proofs.YtecidbdbdnnglaaGreat

/- The document's leaders. -/
namespace Go.Proofs.YtecidbdbdnnglaaGreat
open Go.RowKit

theorem right_mem {ep : Int} {l : List Int} (h : rightC ep l = true) : (0 ≤ ep ∧ ep ≤ 60) ∧ memB l = true := by
  obtain ⟨h1, h2⟩ := Bool.and_eq_true_iff.1 h
  exact ⟨of_decide_eq_true h1, h2⟩
theorem leadN_lt (l : List Int) (view : Int) (hl : 0 < l.length) : leadN l view < l.length ∧ view % (l.length : Int) = (leadN l view : Int) := by
  unfold leadN
  have h1 := Int.emod_nonneg view (show (l.length : Int) ≠ 0 by omega)
  have h2 := Int.emod_lt_of_pos view (show (0 : Int) < (l.length : Int) by omega)
  omega
/-- A struct of two cells, as laid. -/
theorem conf_cells (w : World) (ep s : Value) : (w.alloc (.cells #[ep, s] 24)).heap[w.heap.size]? = some (.cells [ep, s].toArray 24 (0, 0)) := heap_alloc_last w _
end Go.Proofs.YtecidbdbdnnglaaGreat

/- The document's: who joins, who leaves. -/
namespace Go.Proofs.YtecidbdbdnnglaaGreat
open Go.RowKit

/-- The members with id, so far. -/
def joinTo (l : List Int) (id : Int) : Nat → List Int
  | 0 => []
  | j + 1 => joinTo l id j ++ (if (j : Int) = id ∨ (j : Int) ∈ l then [(j : Int)] else [])
theorem joinTo_yes (l : List Int) (id : Int) (j : Nat) (h : (j : Int) = id ∨ (j : Int) ∈ l) : joinTo l id (j + 1) = joinTo l id j ++ [(j : Int)] := by rw [joinTo, if_pos h]
theorem joinTo_no (l : List Int) (id : Int) (j : Nat) (h : ¬ ((j : Int) = id ∨ (j : Int) ∈ l)) : joinTo l id (j + 1) = joinTo l id j := by rw [joinTo, if_neg h, List.append_nil]
theorem joinTo_len (l : List Int) (id : Int) : ∀ j, (joinTo l id j).length ≤ j
  | 0 => Nat.le_refl _
  | j + 1 => by
    have := joinTo_len l id j
    rw [joinTo, List.length_append]
    split <;> simp <;> omega
def joinE (l : List Int) (id : Int) : Int := if ¬ (memB l = true ∧ 0 ≤ id ∧ id < 16) then 1 else if hasM l id = true then 7 else if 10 ≤ l.length then 10 else 0
def joinR (l : List Int) (id : Int) : List Int := if joinE l id = 0 then joinTo l id 16 else []
/-- The members without id. -/
def leaveF (l : List Int) (id : Int) : List Int := l.filter fun z => decide (z ≠ id)
def leaveE (l : List Int) (id : Int) : Int := if ¬ (memB l = true ∧ 0 ≤ id ∧ id < 16) then 1 else if hasM l id = false then 8 else if l.length ≤ 4 then 9 else 0
def leaveR (l : List Int) (id : Int) : List Int := if leaveE l id = 0 then leaveF l id else []
theorem leave_snoc (l : List Int) (id : Int) (j : Nat) (hj : j < l.length) :
    (l.getD j 0 ≠ id → leaveF (l.take (j + 1)) id = (leaveF (l.take j) id) ++ [l.getD j 0]) ∧
    (l.getD j 0 = id → leaveF (l.take (j + 1)) id = leaveF (l.take j) id) := by
  unfold leaveF
  rw [List.take_add_one, getD_some hj, List.filter_append]
  constructor
  · intro h
    rw [List.getD_eq_getElem?_getD] at h
    congr 1
    simp [h]
  · intro h
    rw [List.getD_eq_getElem?_getD] at h
    simp [h]

set_option maxRecDepth 100000 in
set_option maxHeartbeats 3200000 in
theorem vjoin_any (a : Option Addr) (n cap : Nat) (l : List Int) (hn : l.length = n) (hm : n ≤ maxLen) (id : Int) (w : World) (hI : IntsIn w a l) :
    Calls Tryz.prog 105 #[.slice a n cap, .int .i64 id] w fun e w' => ∃ v, e = .returned (.tuple #[v, .int .i64 (joinE l id)]) ∧ OwnedI w.heap.size w w' v (joinR l id) := by
  have hMm := vmembers_any a n cap l hn hm w hI
  have hHh : ∀ (z : Int) (u : World), IntsIn u a l → Calls Tryz.prog 124 #[.slice a n cap, .int .i64 z] u fun e w' => e = .returned (.bool (hasM l z)) ∧ w' = u := fun z u hu => vhas_any a n cap l hn hm z u hu
  have HI := hid hI
  have hm2 : (n : Int) ≤ 9223372036854775807 := by unfold maxLen at hm; omega
  cases hmb : memB l with
  | false =>
    rw [hmb] at hMm
    have HM := hid hMm
    have HE : Hid (joinE l id = 1) := hid (by rw [joinE, if_pos (fun h => by rw [hmb] at h; exact absurd h.1 (by decide))])
    have HRn : Hid (joinR l id = []) := hid (by rw [joinR, HE.out]; rfl)
    rw [HE.out, HRn.out]
    clear hmb hI hn hm hMm hHh
    go_enter Tryz.func105, Tryz.ntmps105
    go_wp2_with (first
      | (go_at_call 66; refine HM.out.mono ?_; rintro e w1 ⟨rfl, hb1⟩; have H1 := hid hb1; clear hb1))
    go_ret2
    exact ⟨_, rfl, OwnedI.nil H1.out H1.out.size⟩
  | true =>
    rw [hmb] at hMm
    have HM := hid hMm
    have hlen := mem_len hmb
    rw [hn] at hlen
    by_cases h0 : id < 0
    · have HE : Hid (joinE l id = 1) := hid (by rw [joinE, if_pos (fun h => by omega)])
      have HRn : Hid (joinR l id = []) := hid (by rw [joinR, HE.out]; rfl)
      rw [HE.out, HRn.out]
      clear hmb hI hn hm hMm hHh hlen
      go_enter Tryz.func105, Tryz.ntmps105
      go_wp2_with (first
        | (go_at_call 66; refine HM.out.mono ?_; rintro e w1 ⟨rfl, hb1⟩; have H1 := hid hb1; clear hb1))
      go_ret2
      exact ⟨_, rfl, OwnedI.nil H1.out H1.out.size⟩
    by_cases h16 : 16 ≤ id
    · have h1 : ¬ (id < 0) := h0
      have HE : Hid (joinE l id = 1) := hid (by rw [joinE, if_pos (fun h => by omega)])
      have HRn : Hid (joinR l id = []) := hid (by rw [joinR, HE.out]; rfl)
      rw [HE.out, HRn.out]
      clear hmb hI hn hm hMm hHh hlen h0
      go_enter Tryz.func105, Tryz.ntmps105
      go_wp2_with (first
        | (go_at_call 66; refine HM.out.mono ?_; rintro e w1 ⟨rfl, hb1⟩; have H1 := hid hb1; clear hb1))
      go_ret2
      exact ⟨_, rfl, OwnedI.nil H1.out H1.out.size⟩
    have hg : ¬ ¬ (memB l = true ∧ 0 ≤ id ∧ id < 16) := fun h => h ⟨hmb, by omega, by omega⟩
    have h1 : ¬ (id < 0) := h0
    have h2 : ¬ (16 ≤ id) := h16
    cases hh : hasM l id with
    | true =>
      have HH : Hid (∀ u : World, IntsIn u a l → Calls Tryz.prog 124 #[.slice a n cap, .int .i64 id] u fun e w' => e = .returned (.bool true) ∧ w' = u) := hid (fun u hu => by rw [← hh]; exact hHh id u hu)
      have HE : Hid (joinE l id = 7) := hid (by rw [joinE, if_neg hg, if_pos hh])
      have HRn : Hid (joinR l id = []) := hid (by rw [joinR, HE.out]; rfl)
      rw [HE.out, HRn.out]
      clear hmb hI hn hm hMm hHh hlen h0 h16 hg hh
      go_enter Tryz.func105, Tryz.ntmps105
      go_wp2_with (first
        | (go_at_call 66; refine HM.out.mono ?_; rintro e w1 ⟨rfl, hb1⟩; have H1 := hid hb1; clear hb1)
        | (go_at_call 124; refine (HH.out _ (by exact HI.out.keep H1.out (Nat.le_refl _))).mono ?_; rintro e wx ⟨rfl, rfl⟩))
      go_ret2
      exact ⟨_, rfl, OwnedI.nil H1.out H1.out.size⟩
    | false =>
      have HH : Hid (∀ u : World, IntsIn u a l → Calls Tryz.prog 124 #[.slice a n cap, .int .i64 id] u fun e w' => e = .returned (.bool false) ∧ w' = u) := hid (fun u hu => by rw [← hh]; exact hHh id u hu)
      have hhn : ¬ (hasM l id = true) := by rw [hh]; decide
      by_cases hb : 10 ≤ n
      · have hb1 : (10 : Int) ≤ (n : Int) := by omega
        have HE : Hid (joinE l id = 10) := hid (by rw [joinE, if_neg hg, if_neg hhn, hn, if_pos hb])
        have HRn : Hid (joinR l id = []) := hid (by rw [joinR, HE.out]; rfl)
        rw [HE.out, HRn.out]
        clear hmb hI hn hm hMm hHh hlen h0 h16 hg hh hhn hb
        go_enter Tryz.func105, Tryz.ntmps105
        go_wp2_with (first
          | (go_at_call 66; refine HM.out.mono ?_; rintro e w1 ⟨rfl, hb1⟩; have H1 := hid hb1; clear hb1)
          | (go_at_call 124; refine (HH.out _ (by exact HI.out.keep H1.out (Nat.le_refl _))).mono ?_; rintro e wx ⟨rfl, rfl⟩))
        go_ret2
        exact ⟨_, rfl, OwnedI.nil H1.out H1.out.size⟩
      · have hb1 : ¬ ((10 : Int) ≤ (n : Int)) := by omega
        have HE : Hid (joinE l id = 0) := hid (by rw [joinE, if_neg hg, if_neg hhn, hn, if_neg hb])
        have HRn : Hid (joinR l id = joinTo l id 16) := hid (by rw [joinR, HE.out]; rfl)
        rw [HE.out, HRn.out]
        obtain ⟨i0, hi0, hz0, hz1, hz2⟩ := info_parts Tryz.info3
        have HHz := hid hHh
        have HQ := hid (And.intro hlen hn)
        clear hmb hI hm hMm hHh h0 h16 hg hh hhn hb hlen hn
        go_enter Tryz.func105, Tryz.ntmps105
        go_wp2_with (first
          | (go_at_call 66; refine HM.out.mono ?_; rintro e w1 ⟨rfl, hb1⟩; have H1 := hid hb1; clear hb1)
          | (go_at_call 124; refine (HH.out _ (by exact HI.out.keep H1.out (Nat.le_refl _))).mono ?_; rintro e wx ⟨rfl, rfl⟩))
        go_loopw [6, 7] (fun v i wr => ∃ j : Nat, j ≤ 16 ∧ i = .int .i64 (j : Int) ∧ OwnedI w.heap.size w wr v (joinTo l id j))
          (fun _ i _ => (16 - intOf i).toNat)
        case atStart => exact ⟨0, by omega, rfl, OwnedI.nil H1.out H1.out.size⟩
        case round =>
          obtain ⟨j, hj, rfl, hO⟩ := hrel
          have HO := hid hO
          clear hO
          by_cases hjn : j = 16
          · have hj1 : ¬ ((j : Int) < 16) := by omega
            subst hjn
            clear hj
            go_wp2
            go_ret2
            exact ⟨_, rfl, HO.out⟩
          · have hj1 : (j : Int) < 16 := by omega
            have hj0 : (0 : Int) ≤ (j : Int) := Int.natCast_nonneg _
            have HL : Hid ((joinTo l id j).length + 1 ≤ 17) := hid (by have := joinTo_len l id j; omega)
            have HJ := hid (And.intro hj hjn)
            by_cases hid1 : (j : Int) = id
            · have HT : Hid (joinTo l id (j + 1) = joinTo l id j ++ [(j : Int)]) := hid (joinTo_yes l id j (.inl hid1))
              clear hj hjn
              subst hid1
              go_wp2_with (at_builtin; refine wpList_append_own _ rfl _ _ 22 rfl w.heap.size 3 i0 (.int .i64 0) 1 8 Tryz.underlying22 hi0 hz0 hz1 hz2 rfl (by decide) _ _ _ rfl (HO.out.alloc _).own ⟨_, 0, none⟩ 1 1 (iC [(j : Int)]) rfl rfl (World.news_of_block (t := 3) (fr := (0, 0)) (heap_alloc_last _ _)) (iC_one _) (by have := HL.out; unfold maxLen; omega) (by have := HL.out; omega) (HO.out.alloc _).le ?_; intro v3 w3 hown3 hgrow3 hnil3; have H3 := hid ((HO.out.alloc _).grow (xs := [(j : Int)]) rfl hown3 hgrow3); clear hown3 hgrow3 hnil3)
              go_roundw
              case rel => exact ⟨j + 1, by have := HJ.out; omega, by go_num, by rw [HT.out]; exact H3.out⟩
              case measure => simp [intOf]; omega
            · cases hhj : hasM l (j : Int) with
              | true =>
                have HT : Hid (joinTo l id (j + 1) = joinTo l id j ++ [(j : Int)]) := hid (joinTo_yes l id j (.inr (of_decide_eq_true hhj)))
                have HHj : Hid (∀ u : World, IntsIn u a l → Calls Tryz.prog 124 #[.slice a n cap, .int .i64 (j : Int)] u fun e w' => e = .returned (.bool true) ∧ w' = u) := hid (fun u hu => by rw [← hhj]; exact HHz.out _ u hu)
                clear hj hjn hhj
                go_wp2_with (first
                  | (go_at_call 124; refine (HHj.out _ (by exact HI.out.keep HO.out.bel (Nat.le_refl _))).mono ?_; rintro e wx ⟨rfl, rfl⟩)
                  | (at_builtin; refine wpList_append_own _ rfl _ _ 22 rfl w.heap.size 3 i0 (.int .i64 0) 1 8 Tryz.underlying22 hi0 hz0 hz1 hz2 rfl (by decide) _ _ _ rfl (HO.out.alloc _).own ⟨_, 0, none⟩ 1 1 (iC [(j : Int)]) rfl rfl (World.news_of_block (t := 3) (fr := (0, 0)) (heap_alloc_last _ _)) (iC_one _) (by have := HL.out; unfold maxLen; omega) (by have := HL.out; omega) (HO.out.alloc _).le ?_; intro v3 w3 hown3 hgrow3 hnil3; have H3 := hid ((HO.out.alloc _).grow (xs := [(j : Int)]) rfl hown3 hgrow3); clear hown3 hgrow3 hnil3))
                go_roundw
                case rel => exact ⟨j + 1, by have := HJ.out; omega, by go_num, by rw [HT.out]; exact H3.out⟩
                case measure => simp [intOf]; omega
              | false =>
                have HT : Hid (joinTo l id (j + 1) = joinTo l id j) := hid (joinTo_no l id j (fun h => h.elim hid1 (of_decide_eq_false hhj)))
                have HHj : Hid (∀ u : World, IntsIn u a l → Calls Tryz.prog 124 #[.slice a n cap, .int .i64 (j : Int)] u fun e w' => e = .returned (.bool false) ∧ w' = u) := hid (fun u hu => by rw [← hhj]; exact HHz.out _ u hu)
                clear hj hjn hhj
                go_wp2_with (go_at_call 124; refine (HHj.out _ (by exact HI.out.keep HO.out.bel (Nat.le_refl _))).mono ?_; rintro e wx ⟨rfl, rfl⟩)
                go_roundw
                case rel => exact ⟨j + 1, by have := HJ.out; omega, by go_num, by rw [HT.out]; exact HO.out⟩
                case measure => simp [intOf]; omega

set_option maxRecDepth 100000 in
set_option maxHeartbeats 3200000 in
theorem vleave_any (a : Option Addr) (n cap : Nat) (l : List Int) (hn : l.length = n) (hm : n ≤ maxLen) (id : Int) (w : World) (hI : IntsIn w a l) :
    Calls Tryz.prog 106 #[.slice a n cap, .int .i64 id] w fun e w' => ∃ v, e = .returned (.tuple #[v, .int .i64 (leaveE l id)]) ∧ OwnedI w.heap.size w w' v (leaveR l id) := by
  have hMm := vmembers_any a n cap l hn hm w hI
  have hHh : ∀ (z : Int) (u : World), IntsIn u a l → Calls Tryz.prog 124 #[.slice a n cap, .int .i64 z] u fun e w' => e = .returned (.bool (hasM l z)) ∧ w' = u := fun z u hu => vhas_any a n cap l hn hm z u hu
  have HI := hid hI
  have hm2 : (n : Int) ≤ 9223372036854775807 := by unfold maxLen at hm; omega
  cases hmb : memB l with
  | false =>
    rw [hmb] at hMm
    have HM := hid hMm
    have HE : Hid (leaveE l id = 1) := hid (by rw [leaveE, if_pos (fun h => by rw [hmb] at h; exact absurd h.1 (by decide))])
    have HRn : Hid (leaveR l id = []) := hid (by rw [leaveR, HE.out]; rfl)
    rw [HE.out, HRn.out]
    clear hmb hI hn hm hMm hHh
    go_enter Tryz.func106, Tryz.ntmps106
    go_wp2_with (first
      | (go_at_call 66; refine HM.out.mono ?_; rintro e w1 ⟨rfl, hb1⟩; have H1 := hid hb1; clear hb1))
    go_ret2
    exact ⟨_, rfl, OwnedI.nil H1.out H1.out.size⟩
  | true =>
    rw [hmb] at hMm
    have HM := hid hMm
    have hlen := mem_len hmb
    rw [hn] at hlen
    by_cases h0 : id < 0
    · have HE : Hid (leaveE l id = 1) := hid (by rw [leaveE, if_pos (fun h => by omega)])
      have HRn : Hid (leaveR l id = []) := hid (by rw [leaveR, HE.out]; rfl)
      rw [HE.out, HRn.out]
      clear hmb hI hn hm hMm hHh hlen
      go_enter Tryz.func106, Tryz.ntmps106
      go_wp2_with (first
        | (go_at_call 66; refine HM.out.mono ?_; rintro e w1 ⟨rfl, hb1⟩; have H1 := hid hb1; clear hb1))
      go_ret2
      exact ⟨_, rfl, OwnedI.nil H1.out H1.out.size⟩
    by_cases h16 : 16 ≤ id
    · have h1 : ¬ (id < 0) := h0
      have HE : Hid (leaveE l id = 1) := hid (by rw [leaveE, if_pos (fun h => by omega)])
      have HRn : Hid (leaveR l id = []) := hid (by rw [leaveR, HE.out]; rfl)
      rw [HE.out, HRn.out]
      clear hmb hI hn hm hMm hHh hlen h0
      go_enter Tryz.func106, Tryz.ntmps106
      go_wp2_with (first
        | (go_at_call 66; refine HM.out.mono ?_; rintro e w1 ⟨rfl, hb1⟩; have H1 := hid hb1; clear hb1))
      go_ret2
      exact ⟨_, rfl, OwnedI.nil H1.out H1.out.size⟩
    have hg : ¬ ¬ (memB l = true ∧ 0 ≤ id ∧ id < 16) := fun h => h ⟨hmb, by omega, by omega⟩
    have h1 : ¬ (id < 0) := h0
    have h2 : ¬ (16 ≤ id) := h16
    cases hh : hasM l id with
    | false =>
      have HH : Hid (∀ u : World, IntsIn u a l → Calls Tryz.prog 124 #[.slice a n cap, .int .i64 id] u fun e w' => e = .returned (.bool false) ∧ w' = u) := hid (fun u hu => by rw [← hh]; exact hHh id u hu)
      have HE : Hid (leaveE l id = 8) := hid (by rw [leaveE, if_neg hg, if_pos hh])
      have HRn : Hid (leaveR l id = []) := hid (by rw [leaveR, HE.out]; rfl)
      rw [HE.out, HRn.out]
      clear hmb hI hn hm hMm hHh hlen h0 h16 hg hh
      go_enter Tryz.func106, Tryz.ntmps106
      go_wp2_with (first
        | (go_at_call 66; refine HM.out.mono ?_; rintro e w1 ⟨rfl, hb1⟩; have H1 := hid hb1; clear hb1)
        | (go_at_call 124; refine (HH.out _ (by exact HI.out.keep H1.out (Nat.le_refl _))).mono ?_; rintro e wx ⟨rfl, rfl⟩))
      go_ret2
      exact ⟨_, rfl, OwnedI.nil H1.out H1.out.size⟩
    | true =>
      have HH : Hid (∀ u : World, IntsIn u a l → Calls Tryz.prog 124 #[.slice a n cap, .int .i64 id] u fun e w' => e = .returned (.bool true) ∧ w' = u) := hid (fun u hu => by rw [← hh]; exact hHh id u hu)
      have hhn : ¬ (hasM l id = false) := by rw [hh]; decide
      by_cases hb : n ≤ 4
      · have hb1 : (n : Int) ≤ 4 := by omega
        have HE : Hid (leaveE l id = 9) := hid (by rw [leaveE, if_neg hg, if_neg hhn, hn, if_pos hb])
        have HRn : Hid (leaveR l id = []) := hid (by rw [leaveR, HE.out]; rfl)
        rw [HE.out, HRn.out]
        clear hmb hI hn hm hMm hHh hlen h0 h16 hg hh hhn hb
        go_enter Tryz.func106, Tryz.ntmps106
        go_wp2_with (first
          | (go_at_call 66; refine HM.out.mono ?_; rintro e w1 ⟨rfl, hb1⟩; have H1 := hid hb1; clear hb1)
          | (go_at_call 124; refine (HH.out _ (by exact HI.out.keep H1.out (Nat.le_refl _))).mono ?_; rintro e wx ⟨rfl, rfl⟩))
        go_ret2
        exact ⟨_, rfl, OwnedI.nil H1.out H1.out.size⟩
      · have hb1 : ¬ ((n : Int) ≤ 4) := by omega
        have HE : Hid (leaveE l id = 0) := hid (by rw [leaveE, if_neg hg, if_neg hhn, hn, if_neg hb])
        have HRn : Hid (leaveR l id = leaveF l id) := hid (by rw [leaveR, HE.out]; rfl)
        rw [HE.out, HRn.out]
        obtain ⟨i0, hi0, hz0, hz1, hz2⟩ := info_parts Tryz.info3
        have HHz := hid hHh
        have HQ := hid (And.intro hlen hn)
        clear hmb hI hm hMm hHh h0 h16 hg hh hhn hb hlen hn
        go_enter Tryz.func106, Tryz.ntmps106
        go_wp2_with (first
          | (go_at_call 66; refine HM.out.mono ?_; rintro e w1 ⟨rfl, hb1⟩; have H1 := hid hb1; clear hb1)
          | (go_at_call 124; refine (HH.out _ (by exact HI.out.keep H1.out (Nat.le_refl _))).mono ?_; rintro e wx ⟨rfl, rfl⟩))
        go_loopw [6, 7] (fun v i wr => ∃ j : Nat, j ≤ n ∧ i = .int .i64 (j : Int) ∧ OwnedI w.heap.size w wr v (leaveF (l.take j) id))
          (fun _ i _ => ((n : Int) - intOf i).toNat)
        case atStart => exact ⟨0, by omega, rfl, OwnedI.nil H1.out H1.out.size⟩
        case round =>
          obtain ⟨j, hj, rfl, hO⟩ := hrel
          have HO := hid hO
          clear hO
          by_cases hjn : j = n
          · have hj1 : ¬ ((j : Int) < (n : Int)) := by omega
            rw [hjn, List.take_of_length_le (by rw [HQ.out.2]; exact Nat.le_refl _)] at HO
            clear hj hjn
            go_wp2
            go_ret2
            exact ⟨_, rfl, HO.out⟩
          · have hj1 : (j : Int) < (n : Int) := by omega
            have hj0 : (0 : Int) ≤ (j : Int) := Int.natCast_nonneg _
            have hjl : j < l.length := by rw [HQ.out.2]; omega
            have HL : Hid ((leaveF (l.take j) id).length + 1 ≤ 17) := hid (by
              have h1 : (leaveF (l.take j) id).length ≤ (l.take j).length := List.length_filter_le _ _
              have h2 : (l.take j).length ≤ 10 := by rw [List.length_take]; have := HQ.out; omega
              omega)
            obtain ⟨g, off, rfl, hg, hcell⟩ := HI.out.at j _ (getD_some hjl)
            have htk := leave_snoc l id j hjl
            obtain ⟨x, ex⟩ : ∃ x, x = l.getD j 0 := ⟨_, rfl⟩
            rw [← ex] at hcell htk
            have cz : wr.cell? ⟨g, off + j, none⟩ = some (.int .i64 x) := (HO.out.bel.cell (p := ⟨g, off + j, none⟩) hg).trans hcell
            have HJ := hid (And.intro hj hjn)
            by_cases hx : x = id
            · have HT : Hid (leaveF (l.take (j + 1)) id = leaveF (l.take j) id) := hid (htk.2 hx)
              clear hj hjn hjl hg hcell htk ex
              subst hx
              go_wp2
              go_roundw
              case rel => exact ⟨j + 1, by have := HJ.out; omega, by go_num, by rw [HT.out]; exact HO.out⟩
              case measure => simp [intOf]; omega
            · have HT : Hid (leaveF (l.take (j + 1)) id = (leaveF (l.take j) id) ++ [x]) := hid (htk.1 hx)
              clear hj hjn hjl hg hcell htk ex
              go_wp2_with (at_builtin; refine wpList_append_own _ rfl _ _ 22 rfl w.heap.size 3 i0 (.int .i64 0) 1 8 Tryz.underlying22 hi0 hz0 hz1 hz2 rfl (by decide) _ _ _ rfl (HO.out.alloc _).own ⟨_, 0, none⟩ 1 1 (iC [x]) rfl rfl (World.news_of_block (t := 3) (fr := (0, 0)) (heap_alloc_last _ _)) (iC_one _) (by have := HL.out; unfold maxLen; omega) (by have := HL.out; omega) (HO.out.alloc _).le ?_; intro v3 w3 hown3 hgrow3 hnil3; have H3 := hid ((HO.out.alloc _).grow (xs := [x]) rfl hown3 hgrow3); clear hown3 hgrow3 hnil3)
              go_roundw
              case rel => exact ⟨j + 1, by have := HJ.out; omega, by go_num, by rw [HT.out]; exact H3.out⟩
              case measure => simp [intOf]; omega
end Go.Proofs.YtecidbdbdnnglaaGreat

/- Members as rising lists; who joined and left. No walk here. -/
namespace Go.Proofs.YtecidbdbdnnglaaGreat
open Go.RowKit

abbrev Inc (l : List Int) : Prop := l.Pairwise (· < ·)
theorem inc_eq : ∀ (a b : List Int), Inc a → Inc b → (∀ x, x ∈ a ↔ x ∈ b) → a = b
  | [], [], _, _, _ => rfl
  | [], y :: b, _, _, h => absurd ((h y).2 (List.mem_cons_self ..)) (by simp)
  | x :: a, [], _, _, h => absurd ((h x).1 (List.mem_cons_self ..)) (by simp)
  | x :: a, y :: b, ha, hb, h => by
    obtain ⟨hx, ha1⟩ := List.pairwise_cons.1 ha
    obtain ⟨hy, hb1⟩ := List.pairwise_cons.1 hb
    have e : x = y := by
      have h1 := (h x).1 (List.mem_cons_self ..)
      have h2 := (h y).2 (List.mem_cons_self ..)
      rcases List.mem_cons.1 h1 with h1 | h1
      · exact h1
      · rcases List.mem_cons.1 h2 with h2 | h2
        · exact h2.symm
        · have := hx y h2
          have := hy x h1
          omega
    subst e
    congr 1
    refine inc_eq a b ha1 hb1 (fun z => ⟨fun hz => ?_, fun hz => ?_⟩)
    · rcases List.mem_cons.1 ((h z).1 (List.mem_cons_of_mem _ hz)) with rfl | h1
      · have := hx z hz; omega
      · exact h1
    · rcases List.mem_cons.1 ((h z).2 (List.mem_cons_of_mem _ hz)) with rfl | h1
      · have := hy z hz; omega
      · exact h1
theorem getD_get (l : List Int) (i : Nat) (h : i < l.length) : l.getD i 0 = l[i] := by
  rw [List.getD_eq_getElem?_getD, List.getElem?_eq_getElem h]; rfl
theorem inc_step (l : List Int) (h : ∀ i, i + 1 < l.length → l.getD i 0 < l.getD (i + 1) 0) : Inc l := by
  refine List.pairwise_iff_getElem.2 (fun i j hi hj hij => ?_)
  obtain ⟨d, rfl⟩ : ∃ d, j = i + 1 + d := ⟨j - i - 1, by omega⟩
  induction d with
  | zero =>
    have := h i hj
    rwa [getD_get l i hi, getD_get l (i + 1) hj] at this
  | succ d ih =>
    have h1 := ih (by omega) (by omega)
    have h2 := h (i + 1 + d) hj
    rw [getD_get l _ (by omega), getD_get l (i + 1 + d + 1) hj] at h2
    exact Int.lt_trans h1 h2
theorem mem_inc {l : List Int} (h : memB l = true) : Inc l := inc_step l (fun i hi => mem_rise h i hi)
theorem mem_in {l : List Int} (h : memB l = true) (x : Int) (hx : x ∈ l) : 0 ≤ x ∧ x < 16 := by
  obtain ⟨i, hi, rfl⟩ := List.getElem_of_mem hx
  have := mem_range h i hi
  rwa [getD_get l i hi] at this
theorem okTo_all (l : List Int) : ∀ n, (∀ i, i < n → okAt l i = true) → okTo l n = true
  | 0, _ => rfl
  | n + 1, h => by rw [okTo_succ, okTo_all l n (fun i hi => h i (by omega)), h n (by omega)]; rfl
/-- Rising, in range, neither few nor many: right. -/
theorem mem_of {l : List Int} (h1 : Inc l) (h2 : ∀ x, x ∈ l → 0 ≤ x ∧ x < 16) (h3 : 4 ≤ l.length ∧ l.length ≤ 10) : memB l = true := by
  rw [memB, decide_eq_true h3, Bool.and_true]
  refine okTo_all l _ (fun i hi => ?_)
  have hr := h2 _ (List.getElem_mem hi)
  rw [← getD_get l i hi] at hr
  cases i with
  | zero => exact okAt_yes0 l hr
  | succ i =>
    refine okAt_yes l (i + 1) hr ?_
    have := List.pairwise_iff_getElem.1 h1 i (i + 1) (by omega) hi (by omega)
    rwa [← getD_get l i (by omega), ← getD_get l (i + 1) hi] at this
theorem joinTo_mem (l : List Int) (id : Int) : ∀ n x, x ∈ joinTo l id n ↔ ∃ j : Nat, j < n ∧ x = (j : Int) ∧ (x = id ∨ x ∈ l)
  | 0, x => by simp [joinTo]
  | n + 1, x => by
    rw [joinTo, List.mem_append, joinTo_mem l id n x]
    constructor
    · rintro (⟨j, hj, h⟩ | h)
      · exact ⟨j, by omega, h⟩
      · split at h
        · next hc =>
          obtain rfl := List.mem_singleton.1 h
          exact ⟨n, by omega, rfl, hc⟩
        · simp at h
    · rintro ⟨j, hj, rfl, h⟩
      by_cases e : j = n
      · subst e
        right
        rw [if_pos h]
        exact List.mem_singleton.2 rfl
      · exact .inl ⟨j, by omega, rfl, h⟩
theorem joinTo_inc (l : List Int) (id : Int) : ∀ n, Inc (joinTo l id n)
  | 0 => List.Pairwise.nil
  | n + 1 => by
    rw [joinTo]
    refine List.pairwise_append.2 ⟨joinTo_inc l id n, ?_, fun x hx y hy => ?_⟩
    · split <;> simp
    · obtain ⟨j, hj, rfl, _⟩ := (joinTo_mem l id n x).1 hx
      split at hy
      · obtain rfl := List.mem_singleton.1 hy
        omega
      · simp at hy
theorem join_mem {l : List Int} {id : Int} (h : memB l = true) (h0 : 0 ≤ id ∧ id < 16) (x : Int) : x ∈ joinTo l id 16 ↔ x = id ∨ x ∈ l := by
  rw [joinTo_mem]
  constructor
  · rintro ⟨j, hj, rfl, h⟩
    exact h
  · intro hx
    have hr : 0 ≤ x ∧ x < 16 := by
      rcases hx with rfl | hx
      · exact h0
      · exact mem_in h x hx
    exact ⟨x.toNat, by omega, by omega, hx⟩
theorem leave_mem (l : List Int) (id x : Int) : x ∈ leaveF l id ↔ x ∈ l ∧ x ≠ id := by
  rw [leaveF, List.mem_filter]
  simp
theorem leave_inc {l : List Int} (h : Inc l) (id : Int) : Inc (leaveF l id) := List.Pairwise.filter _ h
theorem leave_len {l : List Int} (h : Inc l) (id : Int) (hi : id ∈ l) : (leaveF l id).length + 1 = l.length := by
  induction l with
  | nil => simp at hi
  | cons y l ih =>
    obtain ⟨hy, hl⟩ := List.pairwise_cons.1 h
    rw [leaveF, List.filter_cons]
    by_cases e : y = id
    · subst e
      rw [if_neg (by simp), List.length_cons, List.filter_eq_self.2]
      intro z hz
      have := hy z hz
      simp
      omega
    · have hi2 : id ∈ l := by
        rcases List.mem_cons.1 hi with h | h
        · exact absurd h.symm e
        · exact h
      rw [if_pos (by simp [e]), List.length_cons, List.length_cons]
      have := ih hl hi2
      rw [leaveF] at this
      omega
theorem joinE_ok {l : List Int} {id : Int} (h : joinE l id = 0) : memB l = true ∧ (0 ≤ id ∧ id < 16) ∧ id ∉ l ∧ l.length < 10 := by
  unfold joinE at h
  split at h
  · cases h
  · next h1 =>
    have h1 := Decidable.not_not.1 h1
    split at h
    · cases h
    · next h2 =>
      split at h
      · cases h
      · next h3 => exact ⟨h1.1, h1.2, fun hi => h2 (decide_eq_true hi), by omega⟩
theorem leaveE_ok {l : List Int} {id : Int} (h : leaveE l id = 0) : memB l = true ∧ (0 ≤ id ∧ id < 16) ∧ id ∈ l ∧ 4 < l.length := by
  unfold leaveE at h
  split at h
  · cases h
  · next h1 =>
    have h1 := Decidable.not_not.1 h1
    split at h
    · cases h
    · next h2 =>
      split at h
      · cases h
      · next h3 =>
        refine ⟨h1.1, h1.2, ?_, by omega⟩
        cases e : hasM l id with
        | false => exact absurd e h2
        | true => exact of_decide_eq_true e
/-- Who joined and leaves leaves the members as they were. -/
theorem join_leave {l : List Int} {id : Int} (h : joinE l id = 0) : leaveF (joinR l id) id = l ∧ (joinR l id).length = l.length + 1 := by
  obtain ⟨hm, h0, hn, hl⟩ := joinE_ok h
  have e : leaveF (joinR l id) id = l := by
    rw [joinR, if_pos h]
    refine inc_eq _ _ (leave_inc (joinTo_inc l id 16) id) (mem_inc hm) (fun x => ?_)
    rw [leave_mem, join_mem hm h0]
    constructor
    · rintro ⟨rfl | hx, hne⟩
      · exact absurd rfl hne
      · exact hx
    · intro hx
      exact ⟨.inr hx, fun e => hn (e ▸ hx)⟩
  refine ⟨e, ?_⟩
  have hin : id ∈ joinR l id := by
    rw [joinR, if_pos h, join_mem hm h0]
    exact .inl rfl
  have hinc : Inc (joinR l id) := by
    rw [joinR, if_pos h]
    exact joinTo_inc l id 16
  have := leave_len hinc id hin
  rw [e] at this
  omega
theorem join_right {l : List Int} {id : Int} (h : joinE l id = 0) : memB (joinR l id) = true := by
  obtain ⟨hm, h0, hn, hl⟩ := joinE_ok h
  have hlen := (join_leave h).2
  have := (mem_len hm).1
  refine mem_of ?_ (fun x hx => ?_) (by omega)
  · rw [joinR, if_pos h]
    exact joinTo_inc l id 16
  · rw [joinR, if_pos h, join_mem hm h0] at hx
    rcases hx with rfl | hx
    · exact h0
    · exact mem_in hm x hx
theorem leave_right {l : List Int} {id : Int} (h : leaveE l id = 0) : memB (leaveR l id) = true ∧ (leaveR l id).length + 1 = l.length := by
  obtain ⟨hm, h0, hi, hl⟩ := leaveE_ok h
  have hlen := leave_len (mem_inc hm) id hi
  have := (mem_len hm).2
  rw [leaveR, if_pos h]
  refine ⟨mem_of (leave_inc (mem_inc hm) id) (fun x hx => mem_in hm x ((leave_mem l id x).1 hx).1) (by omega), hlen⟩
theorem join_then {l : List Int} {id : Int} (h : joinE l id = 0) : leaveE (joinR l id) id = 0 ∧ leaveR (joinR l id) id = l := by
  obtain ⟨hm, h0, hn, hl⟩ := joinE_ok h
  have hin : hasM (joinR l id) id = true := decide_eq_true (by rw [joinR, if_pos h, join_mem hm h0]; exact .inl rfl)
  have e : leaveE (joinR l id) id = 0 := by
    have := (mem_len hm).1
    rw [leaveE, if_neg (fun hc => hc ⟨join_right h, h0⟩), hin, if_neg (by decide), if_neg (by rw [(join_leave h).2]; omega)]
  exact ⟨e, by rw [leaveR, if_pos e, (join_leave h).1]⟩
theorem leave_then {l : List Int} {id : Int} (h : leaveE l id = 0) : joinE (leaveR l id) id = 0 ∧ joinR (leaveR l id) id = l := by
  obtain ⟨hm, h0, hi, hl⟩ := leaveE_ok h
  have hR : leaveR l id = leaveF l id := by rw [leaveR, if_pos h]
  have hno : ¬ hasM (leaveR l id) id = true := fun hc => by
    have := of_decide_eq_true hc
    rw [hR, leave_mem] at this
    exact this.2 rfl
  have e : joinE (leaveR l id) id = 0 := by
    have h2 := (leave_right h).2
    have := (mem_len hm).2
    rw [joinE, if_neg (fun hc => hc ⟨(leave_right h).1, h0⟩), if_neg hno, if_neg (by omega)]
  refine ⟨e, ?_⟩
  rw [joinR, if_pos e]
  refine inc_eq _ _ (joinTo_inc _ id 16) (mem_inc hm) (fun x => ?_)
  rw [join_mem (leave_right h).1 h0, hR, leave_mem]
  constructor
  · rintro (rfl | hx)
    · exact hi
    · exact hx.1
  · intro hx
    by_cases e : x = id
    · exact .inl e
    · exact .inr ⟨hx, e⟩
theorem has_join {l : List Int} {id : Int} (h : joinE l id = 0) (z : Int) : hasM (joinR l id) z = (decide (z = id) || hasM l z) := by
  obtain ⟨hm, h0, hn, hl⟩ := joinE_ok h
  have hiff : z ∈ joinR l id ↔ z = id ∨ z ∈ l := by rw [joinR, if_pos h, join_mem hm h0]
  unfold hasM
  by_cases h1 : z = id <;> by_cases h2 : z ∈ l <;> by_cases h3 : z ∈ joinR l id <;> simp_all
theorem has_leave {l : List Int} {id : Int} (h : leaveE l id = 0) (z : Int) : hasM (leaveR l id) z = (decide (z ≠ id) && hasM l z) := by
  have hiff : z ∈ leaveR l id ↔ z ∈ l ∧ z ≠ id := by rw [leaveR, if_pos h, leave_mem]
  unfold hasM
  by_cases h1 : z = id <;> by_cases h2 : z ∈ l <;> by_cases h3 : z ∈ leaveR l id <;> simp_all
end Go.Proofs.YtecidbdbdnnglaaGreat
