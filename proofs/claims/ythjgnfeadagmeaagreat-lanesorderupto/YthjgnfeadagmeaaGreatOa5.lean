/- Texts laid together: CoM CoN CoV WsD OpD OpX OpDX. -/
import Derived.Test.YthjgnfeadagmeaaGreatOa1
import Derived.Deep.QuietTactic
import Derived.Test.YthjgnfeadagmeaaGreatOa2
import Derived.Test.YthjgnfeadagmeaaGreatOa4
import Derived.Test.YthjgnfeadagmeaaGreatOa3
/- The program's: who may be a member, which members are right. -/
namespace Go.Proofs.YthjgnfeadagmeaaGreat
open Go.RowKit

def isIdB (id : Int) : Bool := decide (0 ≤ id ∧ id < 16)
theorem cisID_any (id : Int) (w : World) : Calls Tryz.prog 169 #[.int .i64 id] w fun e w' => e = .returned (.bool (isIdB id)) ∧ w' = w := by
  by_cases h0 : 0 ≤ id
  · by_cases h1 : id < 16
    · have HF : Hid (isIdB id = true) := hid (decide_eq_true ⟨h0, h1⟩)
      rw [HF.out]
      go_enter Tryz.func169, Tryz.ntmps169
      go_wp2
      go_ret
      exact ⟨rfl, rfl⟩
    · have HF : Hid (isIdB id = false) := hid (decide_eq_false (fun h => h1 h.2))
      rw [HF.out]
      go_enter Tryz.func169, Tryz.ntmps169
      go_wp2
      go_ret
      exact ⟨rfl, rfl⟩
  · have HF : Hid (isIdB id = false) := hid (decide_eq_false (fun h => h0 h.1))
    rw [HF.out]
    go_enter Tryz.func169, Tryz.ntmps169
    go_wp2
    go_ret
    exact ⟨rfl, rfl⟩
set_option maxRecDepth 100000 in
set_option maxHeartbeats 3200000 in
theorem careRight_any (a : Option Addr) (n cap : Nat) (l : List Int) (hn : l.length = n) (hm : n ≤ maxLen) (w : World) (hI : IntsIn w a l) :
    Calls Tryz.prog 155 #[.slice a n cap] w fun e w' => e = .returned (.bool (memB l)) ∧ Below w.heap.size w w' := by
  have hm2 : (n : Int) ≤ 9223372036854775807 := by unfold maxLen at hm; omega
  have HI := hid hI
  have HN := hid hn
  clear hI hm hn
  by_cases h4 : n < 4
  · have k4 : (n : Int) < 4 := by omega
    have HF : Hid (memB l = false) := hid (by rw [memB, HN.out, decide_eq_false (fun h => by omega)]; simp)
    rw [HF.out]
    go_enter Tryz.func155, Tryz.ntmps155
    go_wp2
    go_ret
    exact ⟨rfl, Below.refl _ _⟩
  by_cases h10 : 10 < n
  · have k4 : ¬ ((n : Int) < 4) := by omega
    have k10 : (10 : Int) < (n : Int) := by omega
    have HF : Hid (memB l = false) := hid (by rw [memB, HN.out, decide_eq_false (fun h => by omega)]; simp)
    rw [HF.out]
    go_enter Tryz.func155, Tryz.ntmps155
    go_wp2
    go_ret
    exact ⟨rfl, Below.refl _ _⟩
  have k4 : ¬ ((n : Int) < 4) := by omega
  have k10 : ¬ ((10 : Int) < (n : Int)) := by omega
  have HQ := hid (And.intro h4 h10)
  clear h4 h10
  go_enter Tryz.func155, Tryz.ntmps155
  go_wp2
  go_loopw [15] (fun i wr => ∃ j : Nat, j ≤ n ∧ i = .int .i64 (j : Int) ∧ okTo l j = true ∧ wr = w)
    (fun i _ => ((n : Int) - intOf i).toNat)
  case atStart => exact ⟨0, by omega, rfl, rfl, rfl⟩
  case round =>
    obtain ⟨j, hj, rfl, hok, rfl⟩ := hrel
    by_cases hjn : j = n
    · have hj1 : ¬ ((j : Int) < (n : Int)) := by omega
      rw [hjn] at hok
      have HF : Hid (memB l = true) := hid (by have hq := HQ.out; rw [memB, HN.out, hok, decide_eq_true (And.intro (by omega) (by omega))]; rfl)
      clear hok hj hjn
      go_wp2
      go_ret
      exact ⟨by rw [HF.out]; rfl, Below.refl _ _⟩
    · have hj1 : (j : Int) < (n : Int) := by omega
      have hj0 : (0 : Int) ≤ (j : Int) := Int.natCast_nonneg _
      have hget : l[j]? = some (l.getD j 0) := by rw [List.getD_eq_getElem?_getD, List.getElem?_eq_getElem (by rw [HN.out]; omega)]; rfl
      obtain ⟨g, off, rfl, hg, hcell⟩ := HI.out.at j _ hget
      obtain ⟨x, ex⟩ : ∃ x, x = l.getD j 0 := ⟨_, rfl⟩
      rw [← ex] at hcell
      clear hget
      cases hx : isIdB x with
      | false =>
        have hx2 := of_decide_eq_false hx
        have HC : Hid (∀ u : World, Calls Tryz.prog 169 #[.int .i64 x] u fun e w' => e = .returned (.bool false) ∧ w' = u) := hid (fun u => by rw [← hx]; exact cisID_any x u)
        have HF : Hid (okTo l n = false) := hid (okTo_false l (j + 1) n (by rw [okTo_succ, okAt_no1 l j (by rw [← ex]; exact hx2)]; simp) (by omega))
        clear hok hj hjn ex hx hx2 hg
        go_wp2_with (go_at_call 169; refine (HC.out _).mono ?_; rintro e wx ⟨rfl, rfl⟩)
        go_ret
        exact ⟨by rw [memB, HN.out, HF.out]; rfl, Below.refl _ _⟩
      | true =>
        have hx2 := of_decide_eq_true hx
        have HC : Hid (∀ u : World, Calls Tryz.prog 169 #[.int .i64 x] u fun e w' => e = .returned (.bool true) ∧ w' = u) := hid (fun u => by rw [← hx]; exact cisID_any x u)
        by_cases hz : j = 0
        · have d4 : ¬ ((0 : Int) < (j : Int)) := by omega
          have HF : Hid (okTo l (j + 1) = true) := hid (by rw [okTo_succ, hok, show okAt l j = true by (have hx : l.getD 0 0 = x := by rw [ex, hz]); rw [hz]; exact okAt_yes0 l (by rw [hx]; exact hx2)]; rfl)
          have HJ := hid (And.intro hj hjn)
          clear hok hj hjn ex hz hx hx2 hg
          go_wp2_with (go_at_call 169; refine (HC.out _).mono ?_; rintro e wx ⟨rfl, rfl⟩)
          go_roundw
          case rel => exact ⟨j + 1, by have := HJ.out; omega, by go_num, HF.out, by first | exact rfl | exact trivial⟩
          case measure => simp [intOf]; omega
        · obtain ⟨i, rfl⟩ : ∃ i, j = i + 1 := ⟨j - 1, by omega⟩
          have hgetp : l[i]? = some (l.getD i 0) := by rw [List.getD_eq_getElem?_getD, List.getElem?_eq_getElem (by rw [HN.out]; omega)]; rfl
          obtain ⟨g', off', eg, hg', hcellp⟩ := HI.out.at i _ hgetp
          obtain ⟨rfl, rfl⟩ : g = g' ∧ off = off' := by simp at eg; exact eg
          obtain ⟨y, ey⟩ : ∃ y, y = l.getD i 0 := ⟨_, rfl⟩
          rw [← ey] at hcellp
          have hi0 : (0 : Int) < ((i + 1 : Nat) : Int) := by omega
          have hi1 : (i : Int) < (n : Int) := by omega
          have hi2 : (0 : Int) ≤ (i : Int) := by omega
          clear hgetp eg hz hg hg' hx
          by_cases hxy : x ≤ y
          · have HF : Hid (okTo l n = false) := hid (okTo_false l (i + 1 + 1) n (by rw [okTo_succ, okAt_no2 l (i + 1) (by omega) (by rw [← ex, show i + 1 - 1 = i from rfl, ← ey]; omega)]; simp) (by omega))
            clear hok hj hjn ex ey hx2
            go_wp2_with (go_at_call 169; refine (HC.out _).mono ?_; rintro e wx ⟨rfl, rfl⟩)
            go_ret
            exact ⟨by rw [memB, HN.out, HF.out]; rfl, Below.refl _ _⟩
          · have HF : Hid (okTo l (i + 1 + 1) = true) := hid (by rw [okTo_succ, hok, okAt_yes l (i + 1) (by rw [← ex]; exact hx2) (by rw [← ex, show i + 1 - 1 = i from rfl, ← ey]; omega)]; rfl)
            have HJ := hid (And.intro hj hjn)
            clear hok hj hjn ex ey hx2
            go_wp2_with (go_at_call 169; refine (HC.out _).mono ?_; rintro e wx ⟨rfl, rfl⟩)
            go_roundw
            case rel => exact ⟨i + 1 + 1, by have := HJ.out; omega, by go_num, HF.out, by first | exact rfl | exact trivial⟩
            case measure => simp [intOf]; omega
end Go.Proofs.YthjgnfeadagmeaaGreat

/- The program's counts. -/
namespace Go.Proofs.YthjgnfeadagmeaaGreat
open Go.RowKit

end Go.Proofs.YthjgnfeadagmeaaGreat

/- The program's council: which configurations are right. -/
namespace Go.Proofs.YthjgnfeadagmeaaGreat
open Go.RowKit

set_option maxRecDepth 100000 in
set_option maxHeartbeats 1600000 in
theorem cright_any (ep : Int) (a : Option Addr) (n cap : Nat) (l : List Int) (hn : l.length = n) (hm : n ≤ maxLen) (w : World) (hI : IntsIn w a l) :
    Calls Tryz.prog 139 #[.agg #[.int .i64 ep, .slice a n cap]] w fun e w' => e = .returned (.bool (rightC ep l)) ∧ Below w.heap.size w w' := by
  by_cases h0 : 0 ≤ ep
  · by_cases h60 : ep ≤ 60
    · have HM : Hid (∀ u : World, IntsIn u a l → Calls Tryz.prog 155 #[.slice a n cap] u fun e w' => e = .returned (.bool (memB l)) ∧ Below u.heap.size u w') := hid (fun u hu => careRight_any a n cap l hn hm u hu)
      have HR : Hid (rightC ep l = memB l) := hid (by rw [rightC, decide_eq_true (And.intro h0 h60)]; rfl)
      have HI := hid hI
      rw [HR.out]
      generalize memB l = b at HM
      clear hI hn hm
      go_enter Tryz.func139, Tryz.ntmps139
      go_wp2_with (go_at_call 155; refine (HM.out _ (by exact HI.out.alloc _)).mono ?_; rintro e w1 ⟨rfl, hb1⟩; have H1 := hid (((Below.refl w.heap.size w).alloc (Nat.le_refl _) _).trans (hb1.mono (by simp))); clear hb1)
      go_ret
      exact ⟨rfl, H1.out⟩
    · have HR : Hid (rightC ep l = false) := hid (by rw [rightC, decide_eq_false (fun h => h60 h.2)]; rfl)
      rw [HR.out]
      clear hI hn hm
      go_enter Tryz.func139, Tryz.ntmps139
      go_wp2
      go_ret
      exact ⟨rfl, (Below.refl _ _).alloc (Nat.le_refl _) _⟩
  · have HR : Hid (rightC ep l = false) := hid (by rw [rightC, decide_eq_false (fun h => h0 h.1)]; rfl)
    rw [HR.out]
    clear hI hn hm
    go_enter Tryz.func139, Tryz.ntmps139
    go_wp2
    go_ret
    exact ⟨rfl, (Below.refl _ _).alloc (Nat.le_refl _) _⟩
end Go.Proofs.YthjgnfeadagmeaaGreat

/- The document's test of two configurations, whatever they are. -/
namespace Go.Proofs.YthjgnfeadagmeaaGreat
open Go.RowKit

set_option maxRecDepth 100000 in
set_option maxHeartbeats 1600000 in
theorem vsame_dec (e1 e2 : Int) (a1 a2 : Option Addr) (n1 n2 c1 c2 : Nat) (l1 l2 : List Int) (hn1 : l1.length = n1) (hn2 : l2.length = n2) (hm1 : n1 ≤ maxLen) (hm2 : n2 ≤ maxLen) (w : World) (h1 : IntsIn w a1 l1) (h2 : IntsIn w a2 l2) :
    Calls Tryz.prog 79 #[.agg #[.int .i64 e1, .slice a1 n1 c1], .agg #[.int .i64 e2, .slice a2 n2 c2]] w fun e w' => e = .returned (.bool (decide (e1 = e2) && decide (l1 = l2))) ∧ Below w.heap.size w w' := by
  have HC : Hid (∀ u : World, IntsIn u a1 l1 → IntsIn u a2 l2 → Calls Tryz.prog 83 #[.slice a1 n1 c1, .slice a2 n2 c2] u fun e w' => e = .returned (.bool (decide (l1 = l2))) ∧ Below u.heap.size u w') := hid (fun u k1 k2 => sameInts_dec a1 a2 n1 n2 c1 c2 l1 l2 hn1 hn2 hm1 hm2 u k1 k2)
  have HI := hid (And.intro h1 h2)
  clear h1 h2 hn1 hn2 hm1 hm2
  by_cases he : e1 = e2
  · have hb : (e1 == e2) = true := by simpa using he
    rw [decide_eq_true he, Bool.true_and]
    clear he
    generalize decide (l1 = l2) = B at HC
    go_enter Tryz.func79, Tryz.ntmps79
    go_wp2_with (go_at_call 83; refine (HC.out _ (by exact (HI.out.1.alloc _).alloc _) (by exact (HI.out.2.alloc _).alloc _)).mono ?_; rintro e w1 ⟨rfl, hb1⟩; have H1 := hid ((((Below.refl w.heap.size w).alloc (Nat.le_refl _) _).alloc (by simp) _).trans (hb1.mono (by simp; omega))); clear hb1)
    go_ret
    exact ⟨rfl, H1.out⟩
  · have hb : (e1 == e2) = false := by simpa using he
    rw [decide_eq_false he, Bool.false_and]
    go_enter Tryz.func79, Tryz.ntmps79
    go_wp2
    go_ret
    exact ⟨by simp, ((Below.refl w.heap.size w).alloc (Nat.le_refl _) _).alloc (by simp) _⟩
end Go.Proofs.YthjgnfeadagmeaaGreat

/- A message as an argument. No walk here. -/
namespace Go.Proofs.YthjgnfeadagmeaaGreat
open Go.ChangeShapes Go.WideShapes Go.ChangeAt Go.RowKit

section
variable {H : Type} {enc : TypeId × Value → H} {W : World} {fuel : Nat} {x : DataW H × List MemPlace}
theorem open_msg {c0 c1 c2 c3 c4 c5 c6 c7 c8 c9 c10 c11 c12 c13 c14 c15 c16 : Value} (h : DataW.trod enc Tryz.prog W 0 (fun _ => true) true fuel 48 [c0, c1, c2, c3, c4, c5, c6, c7, c8, c9, c10, c11, c12, c13, c14, c15, c16] = some x) :
    ∃ (m : Ms) (a13 : Option Addr) (k13 : Nat) (a14 : Option Addr) (k14 : Nat) (a15 : Option Addr) (k15 : Nat) (a16 : Option Addr) (k16 : Nat), (c0 = .int .i64 m.k ∧ c1 = .int .i64 m.ep ∧ c2 = .int .i64 m.v ∧ c3 = .int .i64 m.sl ∧ c4 = .int .i64 m.rq.c ∧ c5 = .int .i64 m.rq.st ∧ c6 = .int .i64 m.rq.k ∧ c7 = .string m.rq.key ∧ c8 = .float .f64 m.rq.b ∧ c9 = .int .i64 m.rq.id ∧ c10 = .int .i64 m.rs.1 ∧ c11 = .float .f64 m.rs.2 ∧ c12 = .string m.tx ∧ c13 = .slice a13 m.nx.length k13 ∧ c14 = .slice a14 m.sg.length k14 ∧ c15 = .slice a15 m.cg.length k15 ∧ c16 = .slice a16 m.ln.length k16) ∧ MsB m ∧ MsL (fun _ => True) W m (.slice a13 m.nx.length k13) (.slice a14 m.sg.length k14) (.slice a15 m.cg.length k15) (.slice a16 m.ln.length k16) := by
  obtain ⟨ds, hf, hc⟩ := (opens_all Tryz.prog shMsg).1 _ _ _ _ of_msg h
  obtain ⟨m, rfl, hB⟩ := fit_msg hf
  obtain ⟨v13, v14, v15, v16, hcs, hL⟩ := ms_cells (m := m) rfl hc
  obtain ⟨a13, k13, e13⟩ := Reads.form hL.nx
  obtain ⟨a14, k14, e14⟩ := Reads.form hL.sg
  obtain ⟨a15, k15, e15⟩ := Reads.form hL.cg
  obtain ⟨a16, k16, e16⟩ := Reads.form hL.ln
  rw [List.length_map] at e13 e14 e15 e16
  subst e13 e14 e15 e16
  simp only [msC, List.cons.injEq, and_true] at hcs
  exact ⟨m, a13, k13, a14, k14, a15, k15, a16, k16, hcs, hB, hL⟩
end
end Go.Proofs.YthjgnfeadagmeaaGreat

/- Arguments of any depth, opened, with the bulk of all their lists together. No walk here. -/
namespace Go.Proofs.YthjgnfeadagmeaaGreat
open Go.ChangeShapes Go.WideShapes Go.ChangeAt Go.RowKit

mutual
/-- How many elements stand in it, at every depth. -/
def Dat.bk : Dat → Nat
  | .l _ es => bkLL es
  | _ => 0
def bkL : List Dat → Nat
  | [] => 0
  | d :: r => d.bk + bkL r
def bkLL : List (List Dat) → Nat
  | [] => 0
  | e :: r => 1 + bkL e + bkLL r
end
theorem bkL_app : ∀ a b : List Dat, bkL (a ++ b) = bkL a + bkL b
  | [], b => by simp [bkL]
  | d :: r, b => by rw [List.cons_append, bkL, bkL, bkL_app r b]; omega
theorem bkLL_le {H : Type} {D : Nat → DataW H} : ∀ (es : List (List Dat)) (k : Nat), (∀ i e, es[i]? = some e → 1 + bkL e ≤ Rows.uptoBulk (D (k + i))) → bkLL es ≤ Rows.uptoBulkAll ((List.range es.length).map fun i => D (k + i))
  | [], _, _ => by simp [bkLL]
  | e :: r, k, h => by
    have h0 := h 0 e rfl
    have h1 := bkLL_le r (k + 1) (fun i e2 he => by have := h (i + 1) e2 (by simpa using he); rwa [show k + (i + 1) = k + 1 + i by omega] at this)
    rw [List.length_cons, List.range_succ_eq_map, List.map_cons, List.map_map, Rows.uptoBulkAll, bkLL]
    have e : ((fun i => D (k + i)) ∘ Nat.succ) = fun i => D (k + 1 + i) := by funext i; show D (k + (i + 1)) = _; rw [show k + (i + 1) = k + 1 + i by omega]
    rw [e]
    rw [Nat.add_zero] at *
    omega
section
variable {H : Type} {enc : TypeId × Value → H} {W : World}
/-- The two things that are shown of a Sh, by its build. -/
def OpensV (enc : TypeId × Value → H) (P : Program) (W : World) (sh : Sh) : Prop := ∀ (t : TypeId) (fuel : Nat) (cs : List Value) (x : DataW H × List MemPlace), sh.Of P (.inl t) → DataW.trod enc P W 0 (fun _ => true) true fuel t cs = some x →
  ∃ ds, Fits (∀ m ∈ x.1.weights P t, m ≤ reachBytes) (Rows.uptoBulk x.1) sh ds ∧ CellsAre (fun _ => True) W cs ds ∧ 1 + bkL ds ≤ Rows.uptoBulk x.1
def OpensG (enc : TypeId × Value → H) (P : Program) (W : World) (sh : Sh) : Prop := ∀ (fs : List Field) (o n : Nat) (cs : List Value) (xs : List (DataW H × List MemPlace)), sh.Of P (.inr (fs, o)) → xs.length = fs.length →
  (∀ (i : Nat) (f : Field), fs[i]? = some f → DataW.trod enc P W 0 (fun _ => true) true n f.type ((cs.drop f.offset).take (P.cellsOf f.type)) = xs[i]?) →
  ∃ ds, Fits (∀ m ∈ DataW.weightsEach P (fs.map (·.type)) (xs.map (·.1)), m ≤ reachBytes) (Rows.uptoBulkAll (xs.map (·.1))) sh ds ∧ CellsAre (fun _ => True) W (cs.drop o) ds ∧ bkL ds ≤ Rows.uptoBulkAll (xs.map (·.1))
theorem opens_sum (P : Program) (sh : Sh) : OpensV enc P W sh ∧ OpensG enc P W sh := by
  induction sh with
  | i =>
    refine ⟨fun t fuel cs x hO h => ?_, fun fs o n cs xs hO => by cases hO⟩
    obtain ⟨k, rfl, rfl, hwf⟩ := DataW.trod_int (by exact hO) h
    have hrg : -9223372036854775808 ≤ k ∧ k ≤ 9223372036854775807 := by simpa [Lit.wf, IntKind.min, IntKind.max, IntKind.bits, IntKind.signed] using hwf
    exact ⟨[.i k], ⟨k, rfl, hrg⟩, cells_one (.i k) (.i k), bulkD_pos _⟩
  | b =>
    refine ⟨fun t fuel cs x hO h => ?_, fun fs o n cs xs hO => by cases hO⟩
    obtain ⟨k, rfl, rfl⟩ := DataW.trod_bool (by exact hO) h
    exact ⟨[.b k], ⟨k, rfl⟩, cells_one (.b k) (.b k), bulkD_pos _⟩
  | s =>
    refine ⟨fun t fuel cs x hO h => ?_, fun fs o n cs xs hO => by cases hO⟩
    obtain ⟨k, rfl, rfl, hz⟩ := DataW.trod_string (by exact hO) h
    refine ⟨[.s k], ⟨k, rfl, hz, fun hs => ?_, ?_⟩, cells_one (.s k) (.s k), bulkD_pos _⟩
    · have := hs k.data.toList.length (by simp [DataW.weights])
      rw [reachBytes] at this
      simpa using this
    · simp [Rows.uptoBulk]
  | q =>
    refine ⟨fun t fuel cs x hO h => ?_, fun fs o n cs xs hO => by cases hO⟩
    obtain ⟨k, rfl, rfl, hwf⟩ := DataW.trod_int (by exact hO) h
    have hrg : 0 ≤ k ∧ k ≤ 18446744073709551615 := by simpa [Lit.wf, IntKind.min, IntKind.max, IntKind.bits, IntKind.signed] using hwf
    obtain ⟨n, rfl⟩ := Int.eq_ofNat_of_zero_le hrg.1
    exact ⟨[.q n], ⟨n, rfl, by omega⟩, cells_one (.q n) (.q n), bulkD_pos _⟩
  | fl =>
    refine ⟨fun t fuel cs x hO h => ?_, fun fs o n cs xs hO => by cases hO⟩
    obtain ⟨k, rfl, hk⟩ := trod_real hO h
    exact ⟨[.f k], ⟨k, rfl, hk⟩, cells_one (.f k) (.f k), bulkD_pos _⟩
  | u =>
    refine ⟨fun t fuel cs x hO h => (by cases hO), fun fs o n cs xs hO hl h => ?_⟩
    exact ⟨[], rfl, fun q d hq => by simp at hq, Nat.zero_le _⟩
  | st f ih =>
    refine ⟨fun t fuel cs x hO h => ?_, fun fs o n cs xs hO => by cases hO⟩
    obtain ⟨fs, hu, hc, hF⟩ := hO
    obtain ⟨xs, n, _, rfl, hl, hxl, hf⟩ := DataW.trod_struct hu h
    obtain ⟨ds, h1, h2, h3⟩ := ih.2 fs.toList 0 n cs xs hF (by rw [hxl]; simp) (fun i g hg => hf i g (by simpa using hg))
    refine ⟨ds, Fits.mono (sh := f) (fun hs m hm => hs m (by simp only [DataW.weights, hu]; exact hm)) (by simp only [Rows.uptoBulk]; omega) h1, by simpa using h2, by simp only [Rows.uptoBulk]; omega⟩
  | c a r iha ihr =>
    refine ⟨fun t fuel cs x hO h => (by cases hO), fun fs o n cs xs hO hl h => ?_⟩
    obtain ⟨f, fs', rfl, hoff, hcell, hA, hR⟩ := hO
    cases xs with
    | nil => simp at hl
    | cons x xs =>
      have h0 := h 0 f rfl
      obtain ⟨d1, f1, c1, b1⟩ := iha.1 f.type n _ x hA h0
      obtain ⟨d2, f2, c2, b2⟩ := ihr.2 fs' (o + a.sz) n cs xs hR (by simpa using hl) (fun i g hg => h (i + 1) g (by simpa using hg))
      refine ⟨d1 ++ d2, ⟨d1, d2, rfl, f1.mono (fun hs m hm => hs m (by simp only [List.map_cons, DataW.weightsEach, List.mem_append]; exact .inl hm)) (by simp only [List.map_cons, Rows.uptoBulkAll]; omega), f2.mono (fun hs m hm => hs m (by simp only [List.map_cons, DataW.weightsEach, List.mem_append]; exact .inr hm)) (by simp only [List.map_cons, Rows.uptoBulkAll]; omega)⟩, ?_, by rw [bkL_app]; simp only [List.map_cons, Rows.uptoBulkAll]; omega⟩
      · intro q d hq
        have hl1 := f1.len
        by_cases hqa : q < d1.length
        · rw [List.getElem?_append_left hqa] at hq
          obtain ⟨u, hu, hR⟩ := c1 q d hq
          refine ⟨u, ?_, hR⟩
          rw [List.getElem?_take] at hu
          split at hu
          · simp only at hoff
            rw [← hoff]
            exact hu
          · cases hu
        · rw [List.getElem?_append_right (by omega)] at hq
          obtain ⟨u, hu, hR⟩ := c2 _ d hq
          refine ⟨u, ?_, hR⟩
          rw [List.getElem?_drop] at hu ⊢
          rw [show o + q = o + a.sz + (q - d1.length) by omega]
          exact hu
  | l bytes sz e ih =>
    refine ⟨fun t fuel cs x hO h => ?_, fun fs o n cs xs hO => by cases hO⟩
    obtain ⟨te, hu, hby, hsz, hez, hz0, hE⟩ := hO
    rcases Go.Deep.open_slice hu h with ⟨rfl, rfl⟩ | ⟨ad, len, cap, m, n, D, Pl, rfl, _, hl, hm, hmm, hx, hel⟩
    · exact ⟨[.l sz []], ⟨[], rfl, Nat.zero_le _, fun _ => by simp, Nat.zero_le _, fun d hd => by simp at hd⟩, cells_one (.nil none 0 sz) (.l none 0 0 sz [] (Nat.le_refl _) (fun g off j q e d u h => by cases h)), bulkD_pos _⟩
    · simp at hmm
      subst hmm
      have hx1 : x.1 = .slice ((List.range len).map D) ((List.range (m - len)).map fun j => D (len + j)) := by rw [hx]
      have each : ∀ i, i < len → ∃ d : List Dat, Fits (∀ q ∈ x.1.weights P t, q ≤ reachBytes) (Rows.uptoBulk x.1) e d ∧ (∃ cs', W.cells? 0 (ad.add (i * sz)) sz = some cs' ∧ CellsAre (fun _ => True) W cs' d) ∧ 1 + bkL d ≤ Rows.uptoBulk (D i) := by
        intro i hi
        obtain ⟨cs', h1, h2⟩ := hel i (by omega)
        rw [hsz] at h1
        obtain ⟨d, f1, c1, b1⟩ := ih.1 te n cs' _ hE h2
        have hget : ((List.range len).map D)[i]? = some (D i) := by rw [List.getElem?_map, List.getElem?_range hi]; rfl
        have hw : ∀ q ∈ (D i).weights P te, q ∈ x.1.weights P t := fun q hq => by
          rw [hx1]
          simp only [DataW.weights, hu, List.mem_cons, List.mem_append]
          exact .inr (.inl (weights_all hget q hq))
        have hbk : Rows.uptoBulk (D i) ≤ Rows.uptoBulk x.1 := by
          rw [hx1]
          have := bulkD_in _ i _ hget
          simp only [Rows.uptoBulk]
          omega
        exact ⟨d, f1.mono (fun hs q hq => hs q (hw q hq)) hbk, ⟨cs', h1, c1⟩, b1⟩
      obtain ⟨es, hil, hip⟩ := list_pick len each
      have hcellA : ∀ (j : Nat) (d : List Dat), es[j]? = some d → d.length = sz ∧ ∀ (q : Nat) (y : Dat), d[q]? = some y → ∃ u, W.cell? (ad.add (j * sz + q)) = some u ∧ Reads (fun _ => True) W u y ∧ Caps W u y := fun j d hj => by
        obtain ⟨hf, ⟨cs', h1, h2⟩, _⟩ := hip j d hj
        obtain ⟨_, hlen, hc⟩ := World.cells?_some h1
        refine ⟨by rw [hf.len, hez], fun q y hy => ?_⟩
        obtain ⟨u, hu, hR⟩ := h2 q y hy
        have hq := (List.getElem?_eq_some_iff.1 hu).1
        have := hc q (by omega)
        rw [Go.Deep.add_add] at this
        exact ⟨u, this.trans hu, hR⟩
      refine ⟨[.l sz es], ⟨es, rfl, by omega, fun hs => ?_, ?_, fun d hd => ?_⟩, cells_one ?_ ?_, ?_⟩
      · have := hs ((len + (m - len)) * P.bytesOf te) (by rw [hx1]; simp [DataW.weights, hu])
        rw [hby, reachBytes] at this
        rw [hil]
        have h3 : len + (m - len) = m := by omega
        rw [h3] at this
        exact Nat.le_trans (Nat.mul_le_mul_right _ hl) this
      · rw [hx1, hil]
        have := bulkD_all ((List.range len).map D)
        rw [List.length_map, List.length_range] at this
        simp only [Rows.uptoBulk]
        omega
      · obtain ⟨i, hi, rfl⟩ := List.getElem_of_mem hd
        exact (hip i _ (List.getElem?_eq_getElem hi)).1
      · rw [← hil]
        by_cases h0 : len = 0
        · rw [List.eq_nil_of_length_eq_zero (by omega : es.length = 0)]
          exact .nil (some ad) m sz
        · obtain ⟨b, off, spot⟩ := ad
          have hcell : ∀ (j : Nat) (d : List Dat), es[j]? = some d → d.length = sz ∧ ∀ (q : Nat) (y : Dat), d[q]? = some y → ∃ u, W.cell? ((Addr.mk b off spot).add (j * sz + q)) = some u ∧ Reads (fun _ => True) W u y := fun j d hj => ⟨(hcellA j d hj).1, fun q y hy => by
            obtain ⟨u, h1, h2, _⟩ := (hcellA j d hj).2 q y hy
            exact ⟨u, h1, h2⟩⟩
          obtain ⟨d0, hd0⟩ : ∃ d, es[0]? = some d := ⟨es[0]'(by omega), List.getElem?_eq_getElem _⟩
          have hd0l := (hcell 0 d0 hd0).1
          obtain ⟨y0, hy0⟩ : ∃ y, d0[0]? = some y := ⟨d0[0]'(by omega), List.getElem?_eq_getElem _⟩
          obtain ⟨u0, hu0, _⟩ := (hcell 0 d0 hd0).2 0 y0 hy0
          have hspot : spot = none := by simpa [Addr.add] using World.cell?_spot hu0
          subst hspot
          have hb0 : b < W.heap.size := by have := World.block_lt_of_cell? W _ hu0; simpa [Addr.add] using this
          have hsome : ∀ (j : Nat) (d : List Dat) (q : Nat) (y : Dat), es[j]? = some d → d[q]? = some y → ∃ u, W.cell? ⟨b, off + j * sz + q, none⟩ = some u ∧ Reads (fun _ => True) W u y := fun j d q y hj hy => by
            obtain ⟨u, h1, h2⟩ := (hcell j d hj).2 q y hy
            rw [Addr.add_lit] at h1
            exact ⟨u, by rw [Nat.add_assoc]; exact h1, h2⟩
          refine .l b off m sz es (fun j q => (W.cell? ⟨b, off + j * sz + q, none⟩).getD undef) trivial hb0 (fun j d hj => (hcell j d hj).1) (fun j d q y hj hy => ?_) (fun j d q y hj hy => ?_)
          · obtain ⟨u, h1, _⟩ := hsome j d q y hj hy
            rw [h1]; rfl
          · obtain ⟨u, h1, h2⟩ := hsome j d q y hj hy
            rw [h1]; exact h2
      · refine .l (some ad) len m sz es hl (fun g off j q e d u hg hj hq hu => ?_)
        cases hg
        obtain ⟨u', h1, _, h2⟩ := (hcellA j e hj).2 q d hq
        rw [Addr.add_lit, ← Nat.add_assoc, hu] at h1
        cases h1
        exact h2
      · show 1 + (bkLL es + 0) ≤ _
        have := bkLL_le (D := D) es 0 (fun i e he => by rw [Nat.zero_add]; exact (hip i e he).2.2)
        simp only [Nat.zero_add] at this
        rw [hil] at this
        replace this : bkLL es ≤ Rows.uptoBulkAll ((List.range len).map D) := this
        rw [hx1]
        simp only [Rows.uptoBulk]
        omega
end
end Go.Proofs.YthjgnfeadagmeaaGreat

/- A message as an argument, with the bulk of all its lists. No walk here. -/
namespace Go.Proofs.YthjgnfeadagmeaaGreat
open Go.ChangeShapes Go.WideShapes Go.ChangeAt Go.RowKit

theorem bk_pairs (l : List Sg) : bkLL (l.map fun p => [.i p.1, .s p.2]) = l.length := by
  induction l with
  | nil => rfl
  | cons p r ih => rw [List.map_cons, bkLL, ih]; simp [bkL, Dat.bk]; omega
theorem bk_cts (l : List Ct) : bkLL (l.map dCt) = l.length + (l.flatMap fun x => x.2.2.2).length := by
  induction l with
  | nil => rfl
  | cons c r ih =>
    rw [List.map_cons, bkLL, ih, List.flatMap_cons, List.length_append, List.length_cons]
    have : bkL (dCt c) = c.2.2.2.length := by simp only [dCt, bkL, Dat.bk, dPairs, bk_pairs]; omega
    omega
theorem bk_cgs (l : List Cg) : bkLL (l.map dCg) = (l.flatMap cgG).length + (l.flatMap fun c => c.2.2.1).length := by
  induction l with
  | nil => rfl
  | cons c r ih =>
    rw [List.map_cons, bkLL, ih, List.flatMap_cons, List.flatMap_cons, List.length_append, List.length_append]
    have : bkL (dCg c) = c.2.2.1.length + (c.2.2.1.flatMap fun x => x.2.2.2).length := by simp only [dCg, bkL, Dat.bk, dCts, bk_cts]; omega
    have : (cgG c).length = (c.2.2.1.flatMap fun x => x.2.2.2).length + 1 := by rw [cgG, List.length_append]; rfl
    omega
theorem bk_ints (l : List Int) : bkLL (l.map fun x => [.i x]) = l.length := by
  induction l with
  | nil => rfl
  | cons p r ih => rw [List.map_cons, bkLL, ih]; simp [bkL, Dat.bk]; omega
theorem bk_lns (l : List Ln) : (l.flatMap fun k => k.2).length ≤ bkLL (l.map dLn) := by
  induction l with
  | nil => exact Nat.le_refl _
  | cons k r ih =>
    rw [List.map_cons, bkLL, List.flatMap_cons, List.length_append]
    have : bkL (dLn k) = k.1.2.length + k.2.length := by simp only [dLn, bkL, Dat.bk, dInts, dPairs, bk_pairs, bk_ints]; omega
    omega
theorem bk_tm (m : Ms) : (tmG m).length ≤ bkL (dMs m) := by
  have h1 := bk_lns m.ln
  have h2 : bkL (dMs m) = m.nx.length + (m.sg.length + (bkLL (m.cg.map dCg) + bkLL (m.ln.map dLn))) := by simp only [dMs, bkL, Dat.bk, dInts, dPairs, dCgs, dLns, bk_pairs, bk_ints]; omega
  rw [h2, bk_cgs, tmG, List.length_append, List.length_append]
  omega
section
variable {H : Type} {enc : TypeId × Value → H} {W : World} {fuel : Nat} {x : DataW H × List MemPlace}
theorem open_msgS {c0 c1 c2 c3 c4 c5 c6 c7 c8 c9 c10 c11 c12 c13 c14 c15 c16 : Value} (h : DataW.trod enc Tryz.prog W 0 (fun _ => true) true fuel 48 [c0, c1, c2, c3, c4, c5, c6, c7, c8, c9, c10, c11, c12, c13, c14, c15, c16] = some x) :
    ∃ (m : Ms) (a13 : Option Addr) (k13 : Nat) (a14 : Option Addr) (k14 : Nat) (a15 : Option Addr) (k15 : Nat) (a16 : Option Addr) (k16 : Nat), (c0 = .int .i64 m.k ∧ c1 = .int .i64 m.ep ∧ c2 = .int .i64 m.v ∧ c3 = .int .i64 m.sl ∧ c4 = .int .i64 m.rq.c ∧ c5 = .int .i64 m.rq.st ∧ c6 = .int .i64 m.rq.k ∧ c7 = .string m.rq.key ∧ c8 = .float .f64 m.rq.b ∧ c9 = .int .i64 m.rq.id ∧ c10 = .int .i64 m.rs.1 ∧ c11 = .float .f64 m.rs.2 ∧ c12 = .string m.tx ∧ c13 = .slice a13 m.nx.length k13 ∧ c14 = .slice a14 m.sg.length k14 ∧ c15 = .slice a15 m.cg.length k15 ∧ c16 = .slice a16 m.ln.length k16) ∧ MsB m ∧ MsL (fun _ => True) W m (.slice a13 m.nx.length k13) (.slice a14 m.sg.length k14) (.slice a15 m.cg.length k15) (.slice a16 m.ln.length k16) ∧ (tmG m).length ≤ Rows.uptoBulk x.1 := by
  obtain ⟨ds, hf, hc, hbk⟩ := (opens_sum Tryz.prog shMsg).1 _ _ _ _ of_msg h
  obtain ⟨m, rfl, hB⟩ := fit_msg hf
  obtain ⟨v13, v14, v15, v16, hcs, hL⟩ := ms_cells (m := m) rfl hc
  obtain ⟨a13, k13, e13⟩ := Reads.form hL.nx
  obtain ⟨a14, k14, e14⟩ := Reads.form hL.sg
  obtain ⟨a15, k15, e15⟩ := Reads.form hL.cg
  obtain ⟨a16, k16, e16⟩ := Reads.form hL.ln
  rw [List.length_map] at e13 e14 e15 e16
  subst e13 e14 e15 e16
  simp only [msC, List.cons.injEq, and_true] at hcs
  exact ⟨m, a13, k13, a14, k14, a15, k15, a16, k16, hcs, hB, hL, by have := bk_tm m; omega⟩
end
end Go.Proofs.YthjgnfeadagmeaaGreat
