/- Texts laid together: WiD WiE CgA WiF WiG WiH WiI WiJ WiMs WiK. -/
import Derived.Test.YtfjcpghepkmbfaaGa3
import Derived.Test.YtfjcpghepkmbfaaGa5
import Derived.Test.YtfjcpghepkmbfaaGa4
import Derived.Test.YtfjcpghepkmbfaaGa1
import Derived.BigQuiet
import Derived.Deep.DeepMust
/- The program's small tests of a message's parts. -/
namespace Go.Proofs.Ytfjcpghepkmbfaa
open Go.RowKit

set_option maxRecDepth 100000 in
theorem iwithin_any (n a b : Int) (w : World) : Calls Try.prog 26 #[.int .i64 n, .int .i64 a, .int .i64 b] w fun e w' => e = .returned (.bool (inB n a b)) ∧ w' = w := by
  unfold inB
  by_cases h1 : a ≤ n
  · rw [decide_eq_true h1]
    by_cases h2 : n ≤ b
    · rw [decide_eq_true h2]
      go_enter Try.func26, Try.ntmps26
      go_wp2
      go_ret
      exact ⟨by simp, rfl⟩
    · rw [decide_eq_false h2]
      go_enter Try.func26, Try.ntmps26
      go_wp2
      go_ret
      exact ⟨by simp <;> omega, rfl⟩
  · rw [decide_eq_false h1]
    have hd : decide (a ≤ n) = false := decide_eq_false h1
    go_enter Try.func26, Try.ntmps26
    go_wp2
    go_ret
    exact ⟨by simp, rfl⟩
set_option maxRecDepth 100000 in
theorem ikind_any (n : Int) (w : World) : Calls Try.prog 14 #[.int .i64 n] w fun e w' => e = .returned (.bool (inB n 1 10)) ∧ w' = w := by
  unfold inB
  by_cases h1 : 1 ≤ n
  · rw [decide_eq_true h1]
    by_cases h2 : n ≤ 10
    · rw [decide_eq_true h2]
      go_enter Try.func14, Try.ntmps14
      go_wp2
      go_ret
      exact ⟨by simp, rfl⟩
    · rw [decide_eq_false h2]
      go_enter Try.func14, Try.ntmps14
      go_wp2
      go_ret
      exact ⟨by simp <;> omega, rfl⟩
  · rw [decide_eq_false h1]
    have hd : decide (1 ≤ n) = false := decide_eq_false h1
    go_enter Try.func14, Try.ntmps14
    go_wp2
    go_ret
    exact ⟨by simp, rfl⟩
set_option maxRecDepth 100000 in
theorem iend_any (e : Int) (h0 : -1 ≤ e) (h1 : e ≤ 60) (w : World) : Calls Try.prog 33 #[.int .i64 e] w fun r w' => r = .returned (.int .i64 (4 * (e + 1))) ∧ w' = w := by
  go_enter Try.func33, Try.ntmps33
  go_wp2
  go_ret
  exact ⟨rfl, rfl⟩
set_option maxRecDepth 100000 in
theorem iview_any (v : Int) (w : World) : Calls Try.prog 57 #[.int .i64 v] w fun r w' => r = .returned (.bool (inB v 0 15)) ∧ w' = w := by
  go_enter Try.func57, Try.ntmps57
  go_wp2_with (go_at_call 26; refine (iwithin_any _ _ _ _).mono ?_; rintro e w1 ⟨rfl, hw⟩; replace hw := hw.symm; subst hw)
  go_ret
  exact ⟨rfl, rfl⟩
set_option maxRecDepth 100000 in
set_option maxHeartbeats 1600000 in
theorem iof_any (e s : Int) (h0 : 0 ≤ e) (h1 : e ≤ 60) (w : World) : Calls Try.prog 58 #[.int .i64 e, .int .i64 s] w fun r w' => r = .returned (.bool (ofB e s)) ∧ w' = w := by
  unfold ofB
  have HA : Hid (∀ u : World, Calls Try.prog 33 #[.int .i64 (e - 1)] u fun r w' => r = .returned (.int .i64 (4 * e)) ∧ w' = u) := hid (fun u => by have := iend_any (e - 1) (by omega) (by omega) u; rw [show e - 1 + 1 = e by omega] at this; exact this)
  have HB : Hid (∀ u : World, Calls Try.prog 33 #[.int .i64 e] u fun r w' => r = .returned (.int .i64 (4 * (e + 1))) ∧ w' = u) := hid (fun u => iend_any e (by omega) h1 u)
  by_cases h2 : 4 * e < s
  · rw [decide_eq_true h2]
    go_enter Try.func58, Try.ntmps58
    go_wp2_with (first
      | (have := H1; go_at_call 33; refine (HB.out _).mono ?_; rintro e w2 ⟨rfl, hw⟩; replace hw := hw.symm; subst hw)
      | (go_at_call 33; refine (HA.out _).mono ?_; rintro e w1 ⟨rfl, hw⟩; replace hw := hw.symm; subst hw; have H1 := hid trivial))
    go_ret
    exact ⟨by simp, rfl⟩
  · rw [decide_eq_false h2]
    have hd : decide (4 * e < s) = false := decide_eq_false h2
    go_enter Try.func58, Try.ntmps58
    go_wp2_with (first
      | (go_at_call 33; refine (HA.out _).mono ?_; rintro e w1 ⟨rfl, hw⟩; replace hw := hw.symm; subst hw; have H1 := hid trivial))
    go_ret
    exact ⟨by simp, rfl⟩
set_option maxRecDepth 100000 in
theorem isig_any (p : Sg) (w : World) : Calls Try.prog 61 #[.agg #[.int .i64 p.1, .string p.2]] w fun r w' => r = .returned (.bool (sigB p)) ∧ Below w.heap.size w w' := by
  go_enter Try.func61, Try.ntmps61
  go_wp2_with (go_at_call 26; refine (iwithin_any _ _ _ _).mono ?_; rintro e w1 ⟨rfl, hw⟩; replace hw := hw.symm; subst hw)
  go_ret
  exact ⟨rfl, (Below.refl w.heap.size w).alloc (Nat.le_refl _) _⟩
set_option maxRecDepth 100000 in
set_option maxHeartbeats 1600000 in
theorem ideed_any (r : Rq) (w : World) : Calls Try.prog 31 #[.agg #[.int .i64 r.c, .int .i64 r.st, .int .i64 r.k, .string r.key, .float .f64 r.b, .int .i64 r.id]] w fun e w' => e = .returned (.bool (askB r)) ∧ Below w.heap.size w w' := by
  have H0 : Hid (RqAt (w.alloc (.cells #[.int .i64 r.c, .int .i64 r.st, .int .i64 r.k, .string r.key, .float .f64 r.b, .int .i64 r.id] 26)) w.heap.size r ∧ Below w.heap.size w (w.alloc (.cells #[.int .i64 r.c, .int .i64 r.st, .int .i64 r.k, .string r.key, .float .f64 r.b, .int .i64 r.id] 26))) := hid ⟨heap_alloc_last w _, (Below.refl w.heap.size w).alloc (Nat.le_refl _) _⟩
  obtain ⟨⟨y0, y1⟩, y2, y3, y4, y5⟩ := H0.out.1.cells
  have HR : Hid (∀ u : World, Calls Try.prog 28 #[.agg #[.int .i64 r.c, .int .i64 r.st, .int .i64 r.k, .string r.key, .float .f64 r.b, .int .i64 r.id]] u fun e w' => e = .returned (.bool (rightB r)) ∧ Below u.heap.size u w') := hid (fun u => dright_any r u)
  have HN : Hid (∀ u : World, Calls Try.prog 54 #[.agg #[.int .i64 r.c, .int .i64 r.st, .int .i64 r.k, .string r.key, .float .f64 r.b, .int .i64 r.id]] u fun e w' => e = .returned (.bool (nullB r)) ∧ Below u.heap.size u w') := hid (fun u => dnull_any r u)
  rw [askB]
  cases hr : rightB r with
  | true =>
    rw [hr] at HR
    clear hr
    go_enter Try.func31, Try.ntmps31
    go_wp2_with (first
      | (go_at_call 28; refine (HR.out _).mono ?_; rintro e w1 ⟨rfl, hb⟩; have H1 := hid (H0.out.2.trans (hb.mono H0.out.2.size)); clear hb))
    go_ret
    exact ⟨by simp, H1.out⟩
  | false =>
    rw [hr] at HR
    clear hr
    go_enter Try.func31, Try.ntmps31
    go_wp2_with (first
      | (go_at_call 54; refine (HN.out _).mono ?_; rintro e w2 ⟨rfl, hb⟩; have H2 := hid (H1.out.2.trans (hb.mono H1.out.2.size)); clear hb)
      | (go_at_call 28; refine (HR.out _).mono ?_; rintro e w1 ⟨rfl, hb⟩; have H1 := hid (And.intro (H0.out.1.keep hb) (H0.out.2.trans (hb.mono H0.out.2.size))); clear hb y0 y1 y2 y3 y4 y5; obtain ⟨⟨y0, y1⟩, y2, y3, y4, y5⟩ := H1.out.1.cells))
    go_ret
    exact ⟨by simp, H2.out⟩
set_option maxRecDepth 100000 in
theorem iaskers_any (r : Rq) (w : World) : Calls Try.prog 32 #[.agg #[.int .i64 r.c, .int .i64 r.st, .int .i64 r.k, .string r.key, .float .f64 r.b, .int .i64 r.id]] w fun e w' => e = .returned (.int .i64 ((if nullB r then 0 else 1 : Nat) : Int)) ∧ Below w.heap.size w w' := by
  have H0 : Hid (RqAt (w.alloc (.cells #[.int .i64 r.c, .int .i64 r.st, .int .i64 r.k, .string r.key, .float .f64 r.b, .int .i64 r.id] 26)) w.heap.size r ∧ Below w.heap.size w (w.alloc (.cells #[.int .i64 r.c, .int .i64 r.st, .int .i64 r.k, .string r.key, .float .f64 r.b, .int .i64 r.id] 26))) := hid ⟨heap_alloc_last w _, (Below.refl w.heap.size w).alloc (Nat.le_refl _) _⟩
  obtain ⟨⟨y0, y1⟩, y2, y3, y4, y5⟩ := H0.out.1.cells
  have HN : Hid (∀ u : World, Calls Try.prog 54 #[.agg #[.int .i64 r.c, .int .i64 r.st, .int .i64 r.k, .string r.key, .float .f64 r.b, .int .i64 r.id]] u fun e w' => e = .returned (.bool (nullB r)) ∧ Below u.heap.size u w') := hid (fun u => dnull_any r u)
  cases hr : nullB r with
  | true =>
    rw [hr] at HN
    clear hr
    go_enter Try.func32, Try.ntmps32
    go_wp2_with (go_at_call 54; refine (HN.out _).mono ?_; rintro e w1 ⟨rfl, hb⟩; have H1 := hid (H0.out.2.trans (hb.mono H0.out.2.size)); clear hb)
    go_ret
    exact ⟨rfl, H1.out⟩
  | false =>
    rw [hr] at HN
    clear hr
    go_enter Try.func32, Try.ntmps32
    go_wp2_with (go_at_call 54; refine (HN.out _).mono ?_; rintro e w1 ⟨rfl, hb⟩; have H1 := hid (H0.out.2.trans (hb.mono H0.out.2.size)); clear hb)
    go_ret
    exact ⟨rfl, H1.out⟩
set_option maxRecDepth 100000 in
theorem imembers_any (a : Option Addr) (n cap : Nat) (l : List Int) (hn : l.length = n) (hm : n ≤ maxLen) (w : World) (hI : IntsIn w a l) : Calls Try.prog 34 #[.slice a n cap] w fun e w' => e = .returned (.bool (memB l)) ∧ Below w.heap.size w w' := by
  have HC : Hid (Calls Try.prog 59 #[.agg #[.int .i64 0, .slice a n cap]] w fun e w' => e = .returned (.bool (memB l)) ∧ Below w.heap.size w w') := hid (by
    have := cright_any 0 a n cap l hn hm w hI
    rw [show rightC 0 l = memB l by simp [rightC]] at this
    exact this)
  clear hn hm hI
  go_enter Try.func34, Try.ntmps34
  go_wp2_with (go_at_call 59; refine (HC.out).mono ?_; rintro e w1 ⟨rfl, hb⟩; have H1 := hid hb; clear hb)
  go_ret
  exact ⟨rfl, H1.out⟩
set_option maxRecDepth 100000 in
theorem iresult_any (c : Int) (f : Nat) (hf : f < 18446744073709551616) (w : World) : Calls Try.prog 36 #[.agg #[.int .i64 c, .float .f64 f]] w fun e w' => e = .returned (.bool (rsB c)) ∧ Below w.heap.size w w' := by
  have H0 : Hid (RsAt (w.alloc (.cells #[.int .i64 c, .float .f64 f] 28)) w.heap.size c f ∧ Below w.heap.size w (w.alloc (.cells #[.int .i64 c, .float .f64 f] 28))) := hid ⟨heap_alloc_last w _, (Below.refl w.heap.size w).alloc (Nat.le_refl _) _⟩
  obtain ⟨y0, y1⟩ := H0.out.1.cells
  have HT : Hid (∀ u : World, Calls Try.prog 39 #[.agg #[.int .i64 c, .float .f64 f]] u fun e w' => e = .returned (.tuple #[.string (rsT c f), .int .i64 (rsE c)]) ∧ Below u.heap.size u w') := hid (fun u => dresultText_any c f hf u)
  clear hf
  cases hr : rsB c with
  | true =>
    rw [show rsE c = 0 by rw [rsE, hr]; rfl] at HT
    clear hr
    go_enter Try.func36, Try.ntmps36
    go_wp2_with (go_at_call 39; refine (HT.out _).mono ?_; rintro e w1 ⟨rfl, hb⟩; have H1 := hid (H0.out.2.trans (hb.mono H0.out.2.size)); clear hb)
    go_ret
    exact ⟨by simp, H1.out⟩
  | false =>
    rw [show rsE c = 1 by rw [rsE, hr]; rfl] at HT
    clear hr
    go_enter Try.func36, Try.ntmps36
    go_wp2_with (go_at_call 39; refine (HT.out _).mono ?_; rintro e w1 ⟨rfl, hb⟩; have H1 := hid (H0.out.2.trans (hb.mono H0.out.2.size)); clear hb)
    go_ret
    exact ⟨by simp, H1.out⟩
end Go.Proofs.Ytfjcpghepkmbfaa

/- The program's tests of signatures. -/
namespace Go.Proofs.Ytfjcpghepkmbfaa
open Go.RowKit

set_option maxRecDepth 100000 in
set_option maxHeartbeats 3200000 in
theorem ifitSigs_any (a : Option Addr) (n cap : Nat) (l : List Sg) (hn : l.length = n) (hm : n ≤ maxLen) (w : World) (hP : PairsIn w a l) : Calls Try.prog 38 #[.slice a n cap] w fun e w' => e = .returned (.bool (sigsB l)) ∧ Below w.heap.size w w' := by
  obtain ⟨V, eV⟩ : ∃ V, V = sigsB l := ⟨_, rfl⟩
  rw [← eV]
  have hmi : (n : Int) ≤ 9223372036854775807 := by unfold maxLen at hm; omega
  by_cases h16 : 16 < n
  · have h16i : (16 : Int) < (n : Int) := by omega
    have hf : V = false := by rw [eV, sigsB, decide_eq_false (by omega)]; rfl
    subst hf
    clear eV hP hn hm h16
    go_enter Try.func38, Try.ntmps38
    go_wp2
    go_ret
    exact ⟨rfl, Below.refl _ _⟩
  · have h16i : ¬ ((16 : Int) < (n : Int)) := by omega
    have HV : Hid (V = allTo (fun i => sigB (l.getD i sg0)) n) := hid (by rw [eV, sigsB, decide_eq_true (by omega), hn]; rfl)
    have HP := hid hP
    have HN := hid hn
    have HL : Hid (n ≤ 16) := hid (by omega)
    clear eV hP hn hm h16
    go_enter Try.func38, Try.ntmps38
    go_wp2
    go_loopw [10] (fun i wr => ∃ j : Nat, j ≤ n ∧ i = .int .i64 (j : Int) ∧ allTo (fun i => sigB (l.getD i sg0)) j = true ∧ Below w.heap.size w wr)
      (fun i _ => ((n : Int) - intOf i).toNat)
    case atStart => exact ⟨0, Nat.zero_le _, rfl, rfl, Below.refl _ _⟩
    case round =>
      obtain ⟨j, hj, rfl, hok, hB⟩ := hrel
      have HB := hid hB
      have HOk := hid hok
      clear hok hB
      have hj0 : (0 : Int) ≤ (j : Int) := Int.natCast_nonneg _
      by_cases hjn : j = n
      · have hj1 : ¬ ((j : Int) < (n : Int)) := by omega
        have hv : Hid (V = true) := hid (by rw [HV.out, ← hjn]; exact HOk.out)
        clear hj hjn
        go_wp2
        go_ret
        exact ⟨by rw [hv.out]; rfl, HB.out⟩
      · have hj1 : (j : Int) < (n : Int) := by omega
        have hjl : j < l.length := by have := HN.out; omega
        obtain ⟨g, off, rfl, hc1, hc2⟩ : ∃ g off, a = some ⟨g, off, none⟩ ∧ wr.cell? ⟨g, off + j * 2, none⟩ = some (.int .i64 (l.getD j sg0).1) ∧ wr.cell? ⟨g, off + j * 2 + 1, none⟩ = some (.string (l.getD j sg0).2) := by
          rcases HP.out with e | ⟨g, off, ha, hg, hc⟩
          · rw [e] at hjl; simp at hjl
          · have hx : l[j]? = some (l.getD j sg0) := by simp [hjl]
            obtain ⟨k1, k2⟩ := hc j _ hx
            exact ⟨g, off, ha, (World.cell?_of_block (a := ⟨g, off + j * 2, none⟩) (HB.out.block g hg)).trans k1, (World.cell?_of_block (a := ⟨g, off + j * 2 + 1, none⟩) (HB.out.block g hg)).trans k2⟩
        have HJ := hid (And.intro hj hjn)
        have HS : Hid (∀ u : World, Calls Try.prog 61 #[.agg #[.int .i64 (l.getD j sg0).1, .string (l.getD j sg0).2]] u fun r w' => r = .returned (.bool (sigB (l.getD j sg0))) ∧ Below u.heap.size u w') := hid (fun u => isig_any (l.getD j sg0) u)
        have HFa : Hid (sigB (l.getD j sg0) = false → V = false) := hid (fun e => by rw [HV.out]; exact allTo_no j (by omega) e)
        have HTr : Hid (sigB (l.getD j sg0) = true → allTo (fun i => sigB (l.getD i sg0)) (j + 1) = true) := hid (fun e => by rw [allTo, HOk.out, e]; rfl)
        generalize l.getD j sg0 = p at hc1 hc2 HS HFa HTr
        clear hj hjn hjl
        cases hp : sigB p with
        | true =>
          rw [hp] at HS
          have HT := hid (HTr.out hp)
          clear hp
          go_wp2_with (go_at_call 61; refine (HS.out _).mono ?_; rintro e w2 ⟨rfl, hb⟩; have H2 := hid ((HB.out.alloc (HB.out.size) (.cells #[.int .i64 p.1, .string p.2] 48)).trans (hb.mono (by have := HB.out.size; simp; omega))); clear hb)
          go_roundw
          case rel => exact ⟨j + 1, by have := HJ.out; omega, by go_num, HT.out, H2.out⟩
          case measure => simp [intOf]; omega
        | false =>
          rw [hp] at HS
          have hf := hid (HFa.out hp)
          clear hp
          go_wp2_with (go_at_call 61; refine (HS.out _).mono ?_; rintro e w2 ⟨rfl, hb⟩; have H2 := hid ((HB.out.alloc (HB.out.size) (.cells #[.int .i64 p.1, .string p.2] 48)).trans (hb.mono (by have := HB.out.size; simp; omega))); clear hb)
          go_ret
          exact ⟨by rw [hf.out]; rfl, H2.out⟩
set_option maxRecDepth 100000 in
theorem iareSigs_any (a : Option Addr) (n cap : Nat) (l : List Sg) (hn : l.length = n) (hm : n ≤ maxLen) (k : Nat) (w : World) (hP : PairsIn w a l) : Calls Try.prog 29 #[.slice a n cap, .int .i64 (k : Int)] w fun e w' => e = .returned (.bool (oneB l k)) ∧ Below w.heap.size w w' := by
  have HF : Hid (Calls Try.prog 38 #[.slice a n cap] w fun e w' => e = .returned (.bool (sigsB l)) ∧ Below w.heap.size w w') := hid (ifitSigs_any a n cap l hn hm w hP)
  rw [oneB, hn]
  clear hm hP
  by_cases h : n = k
  · have hb : ((n : Int) == (k : Int)) = true := by rw [h]; simp
    have hi : (n : Int) = (k : Int) := by omega
    rw [decide_eq_true h, Bool.true_and]
    clear h
    go_enter Try.func29, Try.ntmps29
    go_wp2_with (go_at_call 38; refine (HF.out).mono ?_; rintro e w1 ⟨rfl, hb⟩; have H1 := hid hb; clear hb)
    go_ret
    exact ⟨rfl, H1.out⟩
  · have hi : ¬ ((n : Int) = (k : Int)) := by omega
    have hb : ((n : Int) == (k : Int)) = false := by simpa using hi
    have hd : decide (n = k) = false := decide_eq_false h
    rw [decide_eq_false h, Bool.false_and]
    go_enter Try.func29, Try.ntmps29
    go_wp2
    go_ret
    exact ⟨by simp, Below.refl _ _⟩
end Go.Proofs.Ytfjcpghepkmbfaa

/- Certificates and changes in memory; variables of cells. No walk here. -/
namespace Go.Proofs.Ytfjcpghepkmbfaa
open Go.RowKit

/-- A variable of these cells. -/
def BxAt (w : World) (b : Nat) (L : List Value) (T : TypeId) : Prop := w.heap[b]? = some (.cells L.toArray T (0, 0))
theorem BxAt.keep {w w' : World} {b : Nat} {L : List Value} {T : TypeId} (h : BxAt w b L T) (hb : Below w.heap.size w w') : BxAt w' b L T := (hb.block b (lt_of_blk h)).trans h
theorem BxAt.cell {w : World} {b : Nat} {L : List Value} {T : TypeId} (h : BxAt w b L T) (j : Nat) (v : Value) (hv : L[j]? = some v) : w.cell? ⟨b, j, none⟩ = some v := cell_at h j v hv
def ctC (c : Ct) (v : Value) : List Value := [.int .i64 c.1, .int .i64 c.2.1, .int .i64 c.2.2.1.c, .int .i64 c.2.2.1.st, .int .i64 c.2.2.1.k, .string c.2.2.1.key, .float .f64 c.2.2.1.b, .int .i64 c.2.2.1.id, v]
def cgC (c : Cg) (v : Value) : List Value := [.int .i64 c.1, .int .i64 c.2.1, v, .int .i64 c.2.2.2.1, .string c.2.2.2.2]
theorem ct_at {F : Nat → Prop} {w : World} {v : Value} {l : List Ct} (h : Reads F w v (dCts l)) (j : Nat) (hj : j < l.length) :
    ∃ g off cap a k, v = .slice (some ⟨g, off, none⟩) l.length cap ∧ PairsIn w a (l.getD j ct0).2.2.2 ∧ g < w.heap.size ∧ ∀ (q : Nat) (u : Value), (ctC (l.getD j ct0) (.slice a (l.getD j ct0).2.2.2.length k))[q]? = some u → w.cell? ⟨g, off + j * 9 + q, none⟩ = some u := by
  have hx : (l.map dCt)[j]? = some (dCt (l.getD j ct0)) := by rw [List.getElem?_map]; simp [hj]
  obtain ⟨g, off, cap, hv, _, hg, _, hc⟩ := h.at j _ hx
  obtain ⟨u8, k8, r8⟩ := hc 8 _ rfl
  obtain ⟨a, k, rfl, hp, _⟩ := reads_pairs r8
  rw [List.length_map] at hv
  refine ⟨g, off, cap, a, k, hv, hp, hg, fun q u hq => ?_⟩
  match q, hq with
  | 0, hq => obtain ⟨x, k0, r0⟩ := hc 0 _ rfl; rw [r0.int] at k0; cases hq; exact k0
  | 1, hq => obtain ⟨x, k0, r0⟩ := hc 1 _ rfl; rw [r0.int] at k0; cases hq; exact k0
  | 2, hq => obtain ⟨x, k0, r0⟩ := hc 2 _ rfl; rw [r0.int] at k0; cases hq; exact k0
  | 3, hq => obtain ⟨x, k0, r0⟩ := hc 3 _ rfl; rw [r0.int] at k0; cases hq; exact k0
  | 4, hq => obtain ⟨x, k0, r0⟩ := hc 4 _ rfl; rw [r0.int] at k0; cases hq; exact k0
  | 5, hq => obtain ⟨x, k0, r0⟩ := hc 5 _ rfl; rw [r0.str] at k0; cases hq; exact k0
  | 6, hq => obtain ⟨x, k0, r0⟩ := hc 6 _ rfl; rw [r0.flt] at k0; cases hq; exact k0
  | 7, hq => obtain ⟨x, k0, r0⟩ := hc 7 _ rfl; rw [r0.int] at k0; cases hq; exact k0
  | 8, hq => cases hq; exact k8
  | q + 9, hq => cases hq
theorem cg_at {F : Nat → Prop} {w : World} {v : Value} {l : List Cg} (h : Reads F w v (dCgs l)) (j : Nat) (hj : j < l.length) :
    ∃ g off cap a n k, v = .slice (some ⟨g, off, none⟩) l.length cap ∧ Reads F w (.slice a n k) (dCts (l.getD j cg0).2.2.1) ∧ g < w.heap.size ∧ ∀ (q : Nat) (u : Value), (cgC (l.getD j cg0) (.slice a n k))[q]? = some u → w.cell? ⟨g, off + j * 5 + q, none⟩ = some u := by
  have hx : (l.map dCg)[j]? = some (dCg (l.getD j cg0)) := by rw [List.getElem?_map]; simp [hj]
  obtain ⟨g, off, cap, hv, _, hg, _, hc⟩ := h.at j _ hx
  obtain ⟨u2, k2, r2⟩ := hc 2 _ rfl
  obtain ⟨a, k, hu⟩ := Reads.form r2
  subst hu
  rw [List.length_map] at hv
  refine ⟨g, off, cap, a, _, k, hv, r2, hg, fun q u hq => ?_⟩
  match q, hq with
  | 0, hq => obtain ⟨x, k0, r0⟩ := hc 0 _ rfl; rw [r0.int] at k0; cases hq; exact k0
  | 1, hq => obtain ⟨x, k0, r0⟩ := hc 1 _ rfl; rw [r0.int] at k0; cases hq; exact k0
  | 2, hq => cases hq; exact k2
  | 3, hq => obtain ⟨x, k0, r0⟩ := hc 3 _ rfl; rw [r0.int] at k0; cases hq; exact k0
  | 4, hq => obtain ⟨x, k0, r0⟩ := hc 4 _ rfl; rw [r0.str] at k0; cases hq; exact k0
  | q + 5, hq => cases hq

theorem heap_lt {w : World} {k : Nat} {o : Obj} (h : w.heap[k]? = some o) : k < w.heap.size := by
  rcases Nat.lt_or_ge k w.heap.size with h1 | h1
  · exact h1
  · rw [Array.getElem?_eq_none h1] at h; cases h
theorem inR_of {s : Nat} {z : Int} (h0 : 0 ≤ z) (h1 : z < ((256 ^ s : Nat) : Int)) : inR s z = true := decide_eq_true ⟨h0, h1⟩
theorem flat_snoc {α : Type} {f : α → List UInt8} {l : List α} {d : α} (j : Nat) (hj : j < l.length) : (l.take j).flatMap f ++ f (l.getD j d) = (l.take (j + 1)).flatMap f := by
  rw [List.take_succ_eq_append_getElem hj, List.flatMap_append]
  simp [hj]
end Go.Proofs.Ytfjcpghepkmbfaa

/- The program's tests of certificates and changes. -/
namespace Go.Proofs.Ytfjcpghepkmbfaa
open Go.RowKit

set_option maxRecDepth 100000 in
set_option maxHeartbeats 3200000 in
theorem icert_any (ep : Int) (h0 : 0 ≤ ep) (h1 : ep ≤ 60) (c : Ct) (a : Option Addr) (n cap : Nat) (hn : c.2.2.2.length = n) (hm : n ≤ maxLen) (w : World) (hP : PairsIn w a c.2.2.2) :
    Calls Try.prog 96 #[.int .i64 ep, .agg #[.int .i64 c.1, .int .i64 c.2.1, .int .i64 c.2.2.1.c, .int .i64 c.2.2.1.st, .int .i64 c.2.2.1.k, .string c.2.2.1.key, .float .f64 c.2.2.1.b, .int .i64 c.2.2.1.id, .slice a n cap]] w fun e w' => e = .returned (.bool (ctB ep c)) ∧ Below w.heap.size w w' := by
  have H0 : Hid (BxAt (w.alloc (.cells #[.int .i64 c.1, .int .i64 c.2.1, .int .i64 c.2.2.1.c, .int .i64 c.2.2.1.st, .int .i64 c.2.2.1.k, .string c.2.2.1.key, .float .f64 c.2.2.1.b, .int .i64 c.2.2.1.id, .slice a n cap] 72)) w.heap.size [.int .i64 c.1, .int .i64 c.2.1, .int .i64 c.2.2.1.c, .int .i64 c.2.2.1.st, .int .i64 c.2.2.1.k, .string c.2.2.1.key, .float .f64 c.2.2.1.b, .int .i64 c.2.2.1.id, .slice a n cap] 72 ∧ Below w.heap.size w (w.alloc (.cells #[.int .i64 c.1, .int .i64 c.2.1, .int .i64 c.2.2.1.c, .int .i64 c.2.2.1.st, .int .i64 c.2.2.1.k, .string c.2.2.1.key, .float .f64 c.2.2.1.b, .int .i64 c.2.2.1.id, .slice a n cap] 72))) := hid ⟨heap_alloc_last w _, (Below.refl w.heap.size w).alloc (Nat.le_refl _) _⟩
  have y0 := H0.out.1.cell 0 _ rfl; have y1 := H0.out.1.cell 1 _ rfl; have y2 := H0.out.1.cell 2 _ rfl; have y3 := H0.out.1.cell 3 _ rfl; have y4 := H0.out.1.cell 4 _ rfl; have y5 := H0.out.1.cell 5 _ rfl; have y6 := H0.out.1.cell 6 _ rfl; have y7 := H0.out.1.cell 7 _ rfl; have y8 := H0.out.1.cell 8 _ rfl
  obtain ⟨B1, e1⟩ : ∃ B, B = inB c.1 0 15 := ⟨_, rfl⟩
  have HT1 : Hid (∀ u : World, Below w.heap.size w u → Calls Try.prog 57 #[.int .i64 c.1] u fun e w' => e = .returned (.bool B1) ∧ Below u.heap.size u w') := hid (fun u hu => by rw [e1]; exact (iview_any _ u).mono fun e w' ⟨h1, h2⟩ => ⟨h1, by rw [h2]; exact Below.refl _ _⟩)
  obtain ⟨B2, e2⟩ : ∃ B, B = ofB ep c.2.1 := ⟨_, rfl⟩
  have HT2 : Hid (∀ u : World, Below w.heap.size w u → Calls Try.prog 58 #[.int .i64 ep, .int .i64 c.2.1] u fun e w' => e = .returned (.bool B2) ∧ Below u.heap.size u w') := hid (fun u hu => by rw [e2]; exact (iof_any ep _ h0 h1 u).mono fun e w' ⟨h1, h2⟩ => ⟨h1, by rw [h2]; exact Below.refl _ _⟩)
  obtain ⟨B3, e3⟩ : ∃ B, B = askB c.2.2.1 := ⟨_, rfl⟩
  have HT3 : Hid (∀ u : World, Below w.heap.size w u → Calls Try.prog 31 #[.agg #[.int .i64 c.2.2.1.c, .int .i64 c.2.2.1.st, .int .i64 c.2.2.1.k, .string c.2.2.1.key, .float .f64 c.2.2.1.b, .int .i64 c.2.2.1.id]] u fun e w' => e = .returned (.bool B3) ∧ Below u.heap.size u w') := hid (fun u hu => by rw [e3]; exact ideed_any _ u)
  obtain ⟨B4, e4⟩ : ∃ B, B = sigsB c.2.2.2 := ⟨_, rfl⟩
  have HT4 : Hid (∀ u : World, Below w.heap.size w u → Calls Try.prog 38 #[.slice a n cap] u fun e w' => e = .returned (.bool B4) ∧ Below u.heap.size u w') := hid (fun u hu => by rw [e4]; exact ifitSigs_any a n cap _ hn hm u (hP.keep hu (Nat.le_refl _)))
  rw [show ctB ep c = ((B1 && B2) && (B3 && B4)) by rw [e1, e2, e3, e4]; rfl]
  clear e1 e2 e3 e4 hP hn hm h0 h1
  cases B1 with
  | false =>
    go_enter Try.func96, Try.ntmps96
    go_wp2_with (first
      | (have := H0; go_at_call 57; refine (HT1.out _ H0.out.2).mono ?_; rintro e w1 ⟨rfl, hb⟩; have H1 := hid (And.intro (H0.out.1.keep hb) (H0.out.2.trans (hb.mono H0.out.2.size))); clear hb y0 y1 y2 y3 y4 y5 y6 y7 y8; have y0 := H1.out.1.cell 0 _ rfl; have y1 := H1.out.1.cell 1 _ rfl; have y2 := H1.out.1.cell 2 _ rfl; have y3 := H1.out.1.cell 3 _ rfl; have y4 := H1.out.1.cell 4 _ rfl; have y5 := H1.out.1.cell 5 _ rfl; have y6 := H1.out.1.cell 6 _ rfl; have y7 := H1.out.1.cell 7 _ rfl; have y8 := H1.out.1.cell 8 _ rfl))
    go_ret
    exact ⟨by simp, H1.out.2⟩
  | true =>
    cases B2 with
    | false =>
      go_enter Try.func96, Try.ntmps96
      go_wp2_with (first
        | (have := H1; go_at_call 58; refine (HT2.out _ H1.out.2).mono ?_; rintro e w2 ⟨rfl, hb⟩; have H2 := hid (And.intro (H1.out.1.keep hb) (H1.out.2.trans (hb.mono H1.out.2.size))); clear hb y0 y1 y2 y3 y4 y5 y6 y7 y8; have y0 := H2.out.1.cell 0 _ rfl; have y1 := H2.out.1.cell 1 _ rfl; have y2 := H2.out.1.cell 2 _ rfl; have y3 := H2.out.1.cell 3 _ rfl; have y4 := H2.out.1.cell 4 _ rfl; have y5 := H2.out.1.cell 5 _ rfl; have y6 := H2.out.1.cell 6 _ rfl; have y7 := H2.out.1.cell 7 _ rfl; have y8 := H2.out.1.cell 8 _ rfl)
        | (have := H0; go_at_call 57; refine (HT1.out _ H0.out.2).mono ?_; rintro e w1 ⟨rfl, hb⟩; have H1 := hid (And.intro (H0.out.1.keep hb) (H0.out.2.trans (hb.mono H0.out.2.size))); clear hb y0 y1 y2 y3 y4 y5 y6 y7 y8; have y0 := H1.out.1.cell 0 _ rfl; have y1 := H1.out.1.cell 1 _ rfl; have y2 := H1.out.1.cell 2 _ rfl; have y3 := H1.out.1.cell 3 _ rfl; have y4 := H1.out.1.cell 4 _ rfl; have y5 := H1.out.1.cell 5 _ rfl; have y6 := H1.out.1.cell 6 _ rfl; have y7 := H1.out.1.cell 7 _ rfl; have y8 := H1.out.1.cell 8 _ rfl))
      go_ret
      exact ⟨by simp, H2.out.2⟩
    | true =>
      cases B3 with
      | false =>
        go_enter Try.func96, Try.ntmps96
        go_wp2_with (first
          | (have := H2; go_at_call 31; refine (HT3.out _ H2.out.2).mono ?_; rintro e w3 ⟨rfl, hb⟩; have H3 := hid (And.intro (H2.out.1.keep hb) (H2.out.2.trans (hb.mono H2.out.2.size))); clear hb y0 y1 y2 y3 y4 y5 y6 y7 y8; have y0 := H3.out.1.cell 0 _ rfl; have y1 := H3.out.1.cell 1 _ rfl; have y2 := H3.out.1.cell 2 _ rfl; have y3 := H3.out.1.cell 3 _ rfl; have y4 := H3.out.1.cell 4 _ rfl; have y5 := H3.out.1.cell 5 _ rfl; have y6 := H3.out.1.cell 6 _ rfl; have y7 := H3.out.1.cell 7 _ rfl; have y8 := H3.out.1.cell 8 _ rfl)
          | (have := H1; go_at_call 58; refine (HT2.out _ H1.out.2).mono ?_; rintro e w2 ⟨rfl, hb⟩; have H2 := hid (And.intro (H1.out.1.keep hb) (H1.out.2.trans (hb.mono H1.out.2.size))); clear hb y0 y1 y2 y3 y4 y5 y6 y7 y8; have y0 := H2.out.1.cell 0 _ rfl; have y1 := H2.out.1.cell 1 _ rfl; have y2 := H2.out.1.cell 2 _ rfl; have y3 := H2.out.1.cell 3 _ rfl; have y4 := H2.out.1.cell 4 _ rfl; have y5 := H2.out.1.cell 5 _ rfl; have y6 := H2.out.1.cell 6 _ rfl; have y7 := H2.out.1.cell 7 _ rfl; have y8 := H2.out.1.cell 8 _ rfl)
          | (have := H0; go_at_call 57; refine (HT1.out _ H0.out.2).mono ?_; rintro e w1 ⟨rfl, hb⟩; have H1 := hid (And.intro (H0.out.1.keep hb) (H0.out.2.trans (hb.mono H0.out.2.size))); clear hb y0 y1 y2 y3 y4 y5 y6 y7 y8; have y0 := H1.out.1.cell 0 _ rfl; have y1 := H1.out.1.cell 1 _ rfl; have y2 := H1.out.1.cell 2 _ rfl; have y3 := H1.out.1.cell 3 _ rfl; have y4 := H1.out.1.cell 4 _ rfl; have y5 := H1.out.1.cell 5 _ rfl; have y6 := H1.out.1.cell 6 _ rfl; have y7 := H1.out.1.cell 7 _ rfl; have y8 := H1.out.1.cell 8 _ rfl))
        go_ret
        exact ⟨by simp, H3.out.2⟩
      | true =>
        cases B4 with
        | false =>
          go_enter Try.func96, Try.ntmps96
          go_wp2_with (first
            | (have := H3; go_at_call 38; refine (HT4.out _ H3.out.2).mono ?_; rintro e w4 ⟨rfl, hb⟩; have H4 := hid (And.intro (H3.out.1.keep hb) (H3.out.2.trans (hb.mono H3.out.2.size))); clear hb y0 y1 y2 y3 y4 y5 y6 y7 y8; have y0 := H4.out.1.cell 0 _ rfl; have y1 := H4.out.1.cell 1 _ rfl; have y2 := H4.out.1.cell 2 _ rfl; have y3 := H4.out.1.cell 3 _ rfl; have y4 := H4.out.1.cell 4 _ rfl; have y5 := H4.out.1.cell 5 _ rfl; have y6 := H4.out.1.cell 6 _ rfl; have y7 := H4.out.1.cell 7 _ rfl; have y8 := H4.out.1.cell 8 _ rfl)
            | (have := H2; go_at_call 31; refine (HT3.out _ H2.out.2).mono ?_; rintro e w3 ⟨rfl, hb⟩; have H3 := hid (And.intro (H2.out.1.keep hb) (H2.out.2.trans (hb.mono H2.out.2.size))); clear hb y0 y1 y2 y3 y4 y5 y6 y7 y8; have y0 := H3.out.1.cell 0 _ rfl; have y1 := H3.out.1.cell 1 _ rfl; have y2 := H3.out.1.cell 2 _ rfl; have y3 := H3.out.1.cell 3 _ rfl; have y4 := H3.out.1.cell 4 _ rfl; have y5 := H3.out.1.cell 5 _ rfl; have y6 := H3.out.1.cell 6 _ rfl; have y7 := H3.out.1.cell 7 _ rfl; have y8 := H3.out.1.cell 8 _ rfl)
            | (have := H1; go_at_call 58; refine (HT2.out _ H1.out.2).mono ?_; rintro e w2 ⟨rfl, hb⟩; have H2 := hid (And.intro (H1.out.1.keep hb) (H1.out.2.trans (hb.mono H1.out.2.size))); clear hb y0 y1 y2 y3 y4 y5 y6 y7 y8; have y0 := H2.out.1.cell 0 _ rfl; have y1 := H2.out.1.cell 1 _ rfl; have y2 := H2.out.1.cell 2 _ rfl; have y3 := H2.out.1.cell 3 _ rfl; have y4 := H2.out.1.cell 4 _ rfl; have y5 := H2.out.1.cell 5 _ rfl; have y6 := H2.out.1.cell 6 _ rfl; have y7 := H2.out.1.cell 7 _ rfl; have y8 := H2.out.1.cell 8 _ rfl)
            | (have := H0; go_at_call 57; refine (HT1.out _ H0.out.2).mono ?_; rintro e w1 ⟨rfl, hb⟩; have H1 := hid (And.intro (H0.out.1.keep hb) (H0.out.2.trans (hb.mono H0.out.2.size))); clear hb y0 y1 y2 y3 y4 y5 y6 y7 y8; have y0 := H1.out.1.cell 0 _ rfl; have y1 := H1.out.1.cell 1 _ rfl; have y2 := H1.out.1.cell 2 _ rfl; have y3 := H1.out.1.cell 3 _ rfl; have y4 := H1.out.1.cell 4 _ rfl; have y5 := H1.out.1.cell 5 _ rfl; have y6 := H1.out.1.cell 6 _ rfl; have y7 := H1.out.1.cell 7 _ rfl; have y8 := H1.out.1.cell 8 _ rfl))
          go_ret
          exact ⟨by simp, H4.out.2⟩
        | true =>
          go_enter Try.func96, Try.ntmps96
          go_wp2_with (first
            | (have := H3; go_at_call 38; refine (HT4.out _ H3.out.2).mono ?_; rintro e w4 ⟨rfl, hb⟩; have H4 := hid (And.intro (H3.out.1.keep hb) (H3.out.2.trans (hb.mono H3.out.2.size))); clear hb y0 y1 y2 y3 y4 y5 y6 y7 y8; have y0 := H4.out.1.cell 0 _ rfl; have y1 := H4.out.1.cell 1 _ rfl; have y2 := H4.out.1.cell 2 _ rfl; have y3 := H4.out.1.cell 3 _ rfl; have y4 := H4.out.1.cell 4 _ rfl; have y5 := H4.out.1.cell 5 _ rfl; have y6 := H4.out.1.cell 6 _ rfl; have y7 := H4.out.1.cell 7 _ rfl; have y8 := H4.out.1.cell 8 _ rfl)
            | (have := H2; go_at_call 31; refine (HT3.out _ H2.out.2).mono ?_; rintro e w3 ⟨rfl, hb⟩; have H3 := hid (And.intro (H2.out.1.keep hb) (H2.out.2.trans (hb.mono H2.out.2.size))); clear hb y0 y1 y2 y3 y4 y5 y6 y7 y8; have y0 := H3.out.1.cell 0 _ rfl; have y1 := H3.out.1.cell 1 _ rfl; have y2 := H3.out.1.cell 2 _ rfl; have y3 := H3.out.1.cell 3 _ rfl; have y4 := H3.out.1.cell 4 _ rfl; have y5 := H3.out.1.cell 5 _ rfl; have y6 := H3.out.1.cell 6 _ rfl; have y7 := H3.out.1.cell 7 _ rfl; have y8 := H3.out.1.cell 8 _ rfl)
            | (have := H1; go_at_call 58; refine (HT2.out _ H1.out.2).mono ?_; rintro e w2 ⟨rfl, hb⟩; have H2 := hid (And.intro (H1.out.1.keep hb) (H1.out.2.trans (hb.mono H1.out.2.size))); clear hb y0 y1 y2 y3 y4 y5 y6 y7 y8; have y0 := H2.out.1.cell 0 _ rfl; have y1 := H2.out.1.cell 1 _ rfl; have y2 := H2.out.1.cell 2 _ rfl; have y3 := H2.out.1.cell 3 _ rfl; have y4 := H2.out.1.cell 4 _ rfl; have y5 := H2.out.1.cell 5 _ rfl; have y6 := H2.out.1.cell 6 _ rfl; have y7 := H2.out.1.cell 7 _ rfl; have y8 := H2.out.1.cell 8 _ rfl)
            | (have := H0; go_at_call 57; refine (HT1.out _ H0.out.2).mono ?_; rintro e w1 ⟨rfl, hb⟩; have H1 := hid (And.intro (H0.out.1.keep hb) (H0.out.2.trans (hb.mono H0.out.2.size))); clear hb y0 y1 y2 y3 y4 y5 y6 y7 y8; have y0 := H1.out.1.cell 0 _ rfl; have y1 := H1.out.1.cell 1 _ rfl; have y2 := H1.out.1.cell 2 _ rfl; have y3 := H1.out.1.cell 3 _ rfl; have y4 := H1.out.1.cell 4 _ rfl; have y5 := H1.out.1.cell 5 _ rfl; have y6 := H1.out.1.cell 6 _ rfl; have y7 := H1.out.1.cell 7 _ rfl; have y8 := H1.out.1.cell 8 _ rfl))
          go_ret
          exact ⟨by simp, H4.out.2⟩
end Go.Proofs.Ytfjcpghepkmbfaa

/- The program's test of a list of certificates. -/
namespace Go.Proofs.Ytfjcpghepkmbfaa
open Go.RowKit

set_option maxRecDepth 100000 in
set_option maxHeartbeats 6400000 in
theorem icerts_any {F : Nat → Prop} (ep : Int) (h0 : 0 ≤ ep) (h1 : ep ≤ 60) (v : Value) (l : List Ct) (hl : l.length ≤ maxLen) (hb : ∀ x, x ∈ l → ctR x) (w : World) (hR : Reads F w v (dCts l)) :
    Calls Try.prog 84 #[.int .i64 ep, v] w fun e w' => e = .returned (.bool (ctsB ep l)) ∧ Below w.heap.size w w' := by
  obtain ⟨V, eV⟩ : ∃ V, V = ctsB ep l := ⟨_, rfl⟩
  rw [← eV]
  obtain ⟨ad, cap, hv⟩ := hR.form
  rw [List.length_map] at hv
  subst hv
  obtain ⟨n, en⟩ : ∃ n, n = l.length := ⟨_, rfl⟩
  have HR := hid hR
  rw [← en] at hl HR
  have hmi : (n : Int) ≤ 9223372036854775807 := by unfold maxLen at hl; omega
  have HE := hid (And.intro h0 h1)
  clear hR h0 h1
  rw [← en]
  by_cases h4 : 4 < n
  · have h4i : (4 : Int) < (n : Int) := by omega
    have hf : V = false := by rw [eV, ctsB, decide_eq_false (by omega)]; rfl
    subst hf
    clear eV hl hb en h4 HR
    go_enter Try.func84, Try.ntmps84
    go_wp2
    go_ret
    exact ⟨rfl, Below.refl _ _⟩
  · have h4i : ¬ ((4 : Int) < (n : Int)) := by omega
    have HV : Hid (V = allTo (ctAt ep l) n) := hid (by rw [eV, ctsB, decide_eq_true (by omega), en]; rfl)
    have HN := hid en
    have HL : Hid (n ≤ 4) := hid (by omega)
    have HBd := hid hb
    clear eV hl hb en h4
    go_enter Try.func84, Try.ntmps84
    go_wp2
    go_loopw [12] (fun i wr => ∃ j : Nat, j ≤ n ∧ i = .int .i64 (j : Int) ∧ allTo (ctAt ep l) j = true ∧ Below w.heap.size w wr)
      (fun i _ => ((n : Int) - intOf i).toNat)
    case atStart => exact ⟨0, Nat.zero_le _, rfl, rfl, Below.refl _ _⟩
    case round =>
      obtain ⟨j, hj, rfl, hok, hB⟩ := hrel
      have HB := hid hB
      have HOk := hid hok
      clear hok hB
      have hj0 : (0 : Int) ≤ (j : Int) := Int.natCast_nonneg _
      by_cases hjn : j = n
      · have hj1 : ¬ ((j : Int) < (n : Int)) := by omega
        have hv : Hid (V = true) := hid (by rw [HV.out, ← hjn]; exact HOk.out)
        clear hj hjn
        go_wp2
        go_ret
        exact ⟨by rw [hv.out]; rfl, HB.out⟩
      · have hj1 : (j : Int) < (n : Int) := by omega
        have hjl : j < l.length := by have := HN.out; omega
        have hR2 := HR.out
        rw [HN.out] at hR2
        obtain ⟨g, off, cp, a8, k8, hv, hp, hg, hc⟩ := ct_at (hR2.under HB.out (Nat.le_refl _)) j hjl
        cases hv
        have HP := hid hp
        have hprev : j ≠ 0 → wr.cell? ⟨g, off + (j - 1) * 9 + 1, none⟩ = some (.int .i64 (l.getD (j - 1) ct0).2.1) := fun hz => by
          obtain ⟨g2, o2, c2, a2, k2, hv2, _, _, hc2⟩ := ct_at (hR2.under HB.out (Nat.le_refl _)) (j - 1) (by omega)
          cases hv2
          exact hc2 1 _ rfl
        have HPr := hid (And.intro hprev hg)
        have HJ := hid (And.intro hj hjn)
        have HT : Hid (ctAt ep l j = (ctB ep (l.getD j ct0) && (decide (j = 0) || decide ((l.getD (j - 1) ct0).2.1 < (l.getD j ct0).2.1)))) := hid rfl
        have HFa : Hid (ctAt ep l j = false → V = false) := hid (fun e => by rw [HV.out]; exact allTo_no j (by omega) e)
        have HTr : Hid (ctAt ep l j = true → allTo (ctAt ep l) (j + 1) = true) := hid (fun e => by rw [allTo, HOk.out, e]; rfl)
        have HYb := hid (HBd.out (l.getD j ct0) (by rw [List.getD_eq_getElem?_getD, List.getElem?_eq_getElem hjl]; exact List.getElem_mem hjl))
        generalize l.getD j ct0 = y at hc HP HT HYb
        generalize (l.getD (j - 1) ct0).2.1 = ps at HPr HT
        have k0 : wr.cell? ⟨g, off + j * 9, none⟩ = some (.int .i64 y.1) := hc 0 _ rfl
        have k1 : wr.cell? ⟨g, off + j * 9 + 1, none⟩ = some (.int .i64 y.2.1) := hc 1 _ rfl
        have k2 : wr.cell? ⟨g, off + j * 9 + 2, none⟩ = some (.int .i64 y.2.2.1.c) := hc 2 _ rfl
        have k3 : wr.cell? ⟨g, off + j * 9 + 3, none⟩ = some (.int .i64 y.2.2.1.st) := hc 3 _ rfl
        have k4 : wr.cell? ⟨g, off + j * 9 + 4, none⟩ = some (.int .i64 y.2.2.1.k) := hc 4 _ rfl
        have k5 : wr.cell? ⟨g, off + j * 9 + 5, none⟩ = some (.string y.2.2.1.key) := hc 5 _ rfl
        have k6 : wr.cell? ⟨g, off + j * 9 + 6, none⟩ = some (.float .f64 y.2.2.1.b) := hc 6 _ rfl
        have k7 : wr.cell? ⟨g, off + j * 9 + 7, none⟩ = some (.int .i64 y.2.2.1.id) := hc 7 _ rfl
        have k8' : wr.cell? ⟨g, off + j * 9 + 8, none⟩ = some (.slice a8 y.2.2.2.length k8) := hc 8 _ rfl
        have hz : (j : Int) ≤ 4 := by have := HL.out; omega
        clear hj hjn hjl hR2 hp hg hc hprev
        go_wp2_with (refine wl_store_blk rfl 72 _ _ rfl wr.heap.size 0 rfl #[.int .i64 y.1, .int .i64 y.2.1, .int .i64 y.2.2.1.c, .int .i64 y.2.2.1.st, .int .i64 y.2.2.1.k, .string y.2.2.1.key, .float .f64 y.2.2.1.b, .int .i64 y.2.2.1.id, .slice a8 y.2.2.2.length k8] rfl [.int .i64 0, .int .i64 0, .int .i64 0, .int .i64 0, .int .i64 0, .string ⟨#[]⟩, .float .f64 0, .int .i64 0, .slice none 0 0] 72 (heap_alloc_last wr _) (by simp) (by kernel_rfl) (by simp [Value.oneCell']) ?_; intro w1 Hz; have H1 : Hid (BxAt w1 wr.heap.size (ctC y (.slice a8 y.2.2.2.length k8)) 72 ∧ Below wr.heap.size wr w1) := hid ⟨Hz.out.1, Hz.out.2.below ((Below.refl wr.heap.size wr).alloc (Nat.le_refl _) _) (Nat.le_refl _)⟩; clear Hz)
        clear k0 k1 k2 k3 k4 k5 k6 k7 k8'
        go_simp
        have HBx : Hid (∀ x : Cls w1, BxAt x.1 wr.heap.size (ctC y (.slice a8 y.2.2.2.length k8)) 72) := hid (fun x => H1.out.1.keep x.2)
        have d0 : ∀ x : Cls w1, x.1.cell? ⟨wr.heap.size, 0, none⟩ = some (.int .i64 y.1) := fun x => (HBx.out x).cell 0 _ rfl
        have d1 : ∀ x : Cls w1, x.1.cell? ⟨wr.heap.size, 1, none⟩ = some (.int .i64 y.2.1) := fun x => (HBx.out x).cell 1 _ rfl
        have d2 : ∀ x : Cls w1, x.1.cell? ⟨wr.heap.size, 2, none⟩ = some (.int .i64 y.2.2.1.c) := fun x => (HBx.out x).cell 2 _ rfl
        have d3 : ∀ x : Cls w1, x.1.cell? ⟨wr.heap.size, 3, none⟩ = some (.int .i64 y.2.2.1.st) := fun x => (HBx.out x).cell 3 _ rfl
        have d4 : ∀ x : Cls w1, x.1.cell? ⟨wr.heap.size, 4, none⟩ = some (.int .i64 y.2.2.1.k) := fun x => (HBx.out x).cell 4 _ rfl
        have d5 : ∀ x : Cls w1, x.1.cell? ⟨wr.heap.size, 5, none⟩ = some (.string y.2.2.1.key) := fun x => (HBx.out x).cell 5 _ rfl
        have d6 : ∀ x : Cls w1, x.1.cell? ⟨wr.heap.size, 6, none⟩ = some (.float .f64 y.2.2.1.b) := fun x => (HBx.out x).cell 6 _ rfl
        have d7 : ∀ x : Cls w1, x.1.cell? ⟨wr.heap.size, 7, none⟩ = some (.int .i64 y.2.2.1.id) := fun x => (HBx.out x).cell 7 _ rfl
        have d8 : ∀ x : Cls w1, x.1.cell? ⟨wr.heap.size, 8, none⟩ = some (.slice a8 y.2.2.2.length k8) := fun x => (HBx.out x).cell 8 _ rfl
        have HCe : Hid (∀ u : World, Below w1.heap.size w1 u → Calls Try.prog 96 #[.int .i64 ep, .agg #[.int .i64 y.1, .int .i64 y.2.1, .int .i64 y.2.2.1.c, .int .i64 y.2.2.1.st, .int .i64 y.2.2.1.k, .string y.2.2.1.key, .float .f64 y.2.2.1.b, .int .i64 y.2.2.1.id, .slice a8 y.2.2.2.length k8]] u fun e w' => e = .returned (.bool (ctB ep y)) ∧ Below u.heap.size u w') := hid (fun u hu => icert_any ep HE.out.1 HE.out.2 y a8 _ k8 rfl HYb.out.2.2.1 u ((HP.out.keep H1.out.2 (Nat.le_refl _)).keep hu (Nat.le_refl _)))
        haveI := Cls.ne w1
        cases hct : ctB ep y with
        | false =>
          rw [hct] at HCe HT
          have hf := hid (HFa.out HT.out)
          clear hct
          refine wp_region_cls w1 (by kernel_rfl) (by kernel_rfl) ?_
          repeat (go_big_quiet_step ((first
            | (go_at_call 96; exact Cls.of _ (fun u hu => HCe.out u hu)))))
          refine wpQuiet_nil ?_
          rintro _ ⟨x, rfl⟩
          go_wp2
          go_ret
          exact ⟨by rw [hf.out]; rfl, HB.out.trans ((H1.out.2.trans (x.2.mono H1.out.2.size)).mono HB.out.size)⟩
        | true =>
          rw [hct] at HCe HT
          clear hct
          by_cases hj00 : j = 0
          · have hp := hid (HTr.out (by rw [HT.out, decide_eq_true hj00]; rfl))
            have hd : decide ((0 : Int) < (j : Int)) = false := decide_eq_false (by omega)
            have hd2 : decide (0 < j) = false := decide_eq_false (by omega)
            clear hj00
            refine wp_region_cls w1 (by kernel_rfl) (by kernel_rfl) ?_
            repeat (go_big_quiet_step ((first
              | (go_at_call 96; exact Cls.of _ (fun u hu => HCe.out u hu)))))
            refine wpQuiet_nil ?_
            rintro _ ⟨x, rfl⟩
            go_wp2
            go_roundw
            case rel => exact ⟨j + 1, by have := HJ.out; omega, by go_num, hp.out, HB.out.trans ((H1.out.2.trans (x.2.mono H1.out.2.size)).mono HB.out.size)⟩
            case measure => simp [intOf]; omega
          · obtain ⟨jm, ejm⟩ : ∃ jm : Nat, jm = j - 1 := ⟨_, rfl⟩
            have dp : ∀ x : Cls w1, x.1.cell? ⟨g, off + jm * 9 + 1, none⟩ = some (.int .i64 ps) := fun x => (World.cell?_of_block (a := ⟨g, off + jm * 9 + 1, none⟩) ((x.2.block g (Nat.lt_of_lt_of_le HPr.out.2 H1.out.2.size)).trans (H1.out.2.block g HPr.out.2))).trans (by rw [ejm]; exact HPr.out.1 hj00)
            have hw : IntKind.i64.wrap ((j : Int) - 1) = (jm : Int) := by rw [show (j : Int) - 1 = (jm : Int) by omega]; exact wrap_small _ (by omega) (by omega)
            have hjm0 : (0 : Int) ≤ (jm : Int) := Int.natCast_nonneg _
            have hjm1 : (jm : Int) < (n : Int) := by omega
            have hd : decide ((0 : Int) < (j : Int)) = true := decide_eq_true (by omega)
            have hd2 : decide (0 < j) = true := decide_eq_true (by omega)
            have HT2 : Hid (ctAt ep l j = decide (ps < y.2.1)) := hid (by rw [HT.out, decide_eq_false hj00]; rfl)
            clear ejm hj00
            by_cases hlt : ps < y.2.1
            · have hp := hid (HTr.out (by rw [HT2.out, decide_eq_true hlt]))
              have hle : decide (y.2.1 ≤ ps) = false := decide_eq_false (by omega)
              have hle2 : ¬ (y.2.1 ≤ ps) := by omega
              refine wp_region_cls w1 (by kernel_rfl) (by kernel_rfl) ?_
              repeat (go_big_quiet_step ((first
                | (go_at_call 96; exact Cls.of _ (fun u hu => HCe.out u hu)))))
              refine wpQuiet_nil ?_
              rintro _ ⟨x, rfl⟩
              go_wp2
              go_roundw
              case rel => exact ⟨j + 1, by have := HJ.out; omega, by go_num, hp.out, HB.out.trans ((H1.out.2.trans (x.2.mono H1.out.2.size)).mono HB.out.size)⟩
              case measure => simp [intOf]; omega
            · have hf := hid (HFa.out (by rw [HT2.out, decide_eq_false hlt]))
              have hle : decide (y.2.1 ≤ ps) = true := decide_eq_true (by omega)
              have hle2 : y.2.1 ≤ ps := by omega
              refine wp_region_cls w1 (by kernel_rfl) (by kernel_rfl) ?_
              repeat (go_big_quiet_step ((first
                | (go_at_call 96; exact Cls.of _ (fun u hu => HCe.out u hu)))))
              refine wpQuiet_nil ?_
              rintro _ ⟨x, rfl⟩
              go_wp2
              go_ret
              exact ⟨by rw [hf.out]; rfl, HB.out.trans ((H1.out.2.trans (x.2.mono H1.out.2.size)).mono HB.out.size)⟩
end Go.Proofs.Ytfjcpghepkmbfaa

/- The program's tests of changes. -/
namespace Go.Proofs.Ytfjcpghepkmbfaa
open Go.RowKit
set_option maxRecDepth 100000 in
set_option maxHeartbeats 3200000 in
theorem ichange_any {F : Nat → Prop} (ep : Int) (h0 : 0 ≤ ep) (h1 : ep ≤ 60) (c : Cg) (a : Option Addr) (n cap : Nat) (hl : c.2.2.1.length ≤ maxLen) (hb : ∀ x, x ∈ c.2.2.1 → ctR x) (w : World) (hR : Reads F w (.slice a n cap) (dCts c.2.2.1)) :
    Calls Try.prog 60 #[.int .i64 ep, .agg #[.int .i64 c.1, .int .i64 c.2.1, .slice a n cap, .int .i64 c.2.2.2.1, .string c.2.2.2.2]] w fun e w' => e = .returned (.bool (cgB ep c)) ∧ Below w.heap.size w w' := by
  have H0 : Hid (BxAt (w.alloc (.cells #[.int .i64 c.1, .int .i64 c.2.1, .slice a n cap, .int .i64 c.2.2.2.1, .string c.2.2.2.2] 70)) w.heap.size [.int .i64 c.1, .int .i64 c.2.1, .slice a n cap, .int .i64 c.2.2.2.1, .string c.2.2.2.2] 70 ∧ Below w.heap.size w (w.alloc (.cells #[.int .i64 c.1, .int .i64 c.2.1, .slice a n cap, .int .i64 c.2.2.2.1, .string c.2.2.2.2] 70))) := hid ⟨heap_alloc_last w _, (Below.refl w.heap.size w).alloc (Nat.le_refl _) _⟩
  have y0 := H0.out.1.cell 0 _ rfl; have y1 := H0.out.1.cell 1 _ rfl; have y2 := H0.out.1.cell 2 _ rfl; have y3 := H0.out.1.cell 3 _ rfl; have y4 := H0.out.1.cell 4 _ rfl
  obtain ⟨B1, e1⟩ : ∃ B, B = inB c.1 0 15 := ⟨_, rfl⟩
  have HT1 : Hid (∀ u : World, Below w.heap.size w u → Calls Try.prog 26 #[.int .i64 c.1, .int .i64 0, .int .i64 15] u fun e w' => e = .returned (.bool B1) ∧ Below u.heap.size u w') := hid (fun u hu => by rw [e1]; exact (iwithin_any _ _ _ u).mono fun e w' ⟨h1, h2⟩ => ⟨h1, by rw [h2]; exact Below.refl _ _⟩)
  obtain ⟨B2, e2⟩ : ∃ B, B = inB c.2.1 1 15 := ⟨_, rfl⟩
  have HT2 : Hid (∀ u : World, Below w.heap.size w u → Calls Try.prog 26 #[.int .i64 c.2.1, .int .i64 1, .int .i64 15] u fun e w' => e = .returned (.bool B2) ∧ Below u.heap.size u w') := hid (fun u hu => by rw [e2]; exact (iwithin_any _ _ _ u).mono fun e w' ⟨h1, h2⟩ => ⟨h1, by rw [h2]; exact Below.refl _ _⟩)
  obtain ⟨B3, e3⟩ : ∃ B, B = ctsB ep c.2.2.1 := ⟨_, rfl⟩
  have HT3 : Hid (∀ u : World, Below w.heap.size w u → Calls Try.prog 84 #[.int .i64 ep, .slice a n cap] u fun e w' => e = .returned (.bool B3) ∧ Below u.heap.size u w') := hid (fun u hu => by rw [e3]; exact icerts_any ep h0 h1 _ _ hl hb u (hR.under hu (Nat.le_refl _)))
  obtain ⟨B4, e4⟩ : ∃ B, B = sigB c.2.2.2 := ⟨_, rfl⟩
  have HT4 : Hid (∀ u : World, Below w.heap.size w u → Calls Try.prog 61 #[.agg #[.int .i64 c.2.2.2.1, .string c.2.2.2.2]] u fun e w' => e = .returned (.bool B4) ∧ Below u.heap.size u w') := hid (fun u hu => by rw [e4]; exact isig_any _ u)
  rw [show cgB ep c = ((B1 && B2) && (B3 && B4)) by rw [e1, e2, e3, e4]; rfl]
  clear e1 e2 e3 e4 hR hl hb h0 h1
  cases B1 with
  | false =>
    go_enter Try.func60, Try.ntmps60
    go_wp2_with (first
      | (have := H0; go_at_call 26; refine (HT1.out _ H0.out.2).mono ?_; rintro e w1 ⟨rfl, hb⟩; have H1 := hid (And.intro (H0.out.1.keep hb) (H0.out.2.trans (hb.mono H0.out.2.size))); clear hb y0 y1 y2 y3 y4; have y0 := H1.out.1.cell 0 _ rfl; have y1 := H1.out.1.cell 1 _ rfl; have y2 := H1.out.1.cell 2 _ rfl; have y3 := H1.out.1.cell 3 _ rfl; have y4 := H1.out.1.cell 4 _ rfl))
    go_ret
    exact ⟨by simp, H1.out.2⟩
  | true =>
    cases B2 with
    | false =>
      go_enter Try.func60, Try.ntmps60
      go_wp2_with (first
        | (have := H1; go_at_call 26; refine (HT2.out _ H1.out.2).mono ?_; rintro e w2 ⟨rfl, hb⟩; have H2 := hid (And.intro (H1.out.1.keep hb) (H1.out.2.trans (hb.mono H1.out.2.size))); clear hb y0 y1 y2 y3 y4; have y0 := H2.out.1.cell 0 _ rfl; have y1 := H2.out.1.cell 1 _ rfl; have y2 := H2.out.1.cell 2 _ rfl; have y3 := H2.out.1.cell 3 _ rfl; have y4 := H2.out.1.cell 4 _ rfl)
        | (have := H0; go_at_call 26; refine (HT1.out _ H0.out.2).mono ?_; rintro e w1 ⟨rfl, hb⟩; have H1 := hid (And.intro (H0.out.1.keep hb) (H0.out.2.trans (hb.mono H0.out.2.size))); clear hb y0 y1 y2 y3 y4; have y0 := H1.out.1.cell 0 _ rfl; have y1 := H1.out.1.cell 1 _ rfl; have y2 := H1.out.1.cell 2 _ rfl; have y3 := H1.out.1.cell 3 _ rfl; have y4 := H1.out.1.cell 4 _ rfl))
      go_ret
      exact ⟨by simp, H2.out.2⟩
    | true =>
      cases B3 with
      | false =>
        go_enter Try.func60, Try.ntmps60
        go_wp2_with (first
          | (have := H2; go_at_call 84; refine (HT3.out _ H2.out.2).mono ?_; rintro e w3 ⟨rfl, hb⟩; have H3 := hid (And.intro (H2.out.1.keep hb) (H2.out.2.trans (hb.mono H2.out.2.size))); clear hb y0 y1 y2 y3 y4; have y0 := H3.out.1.cell 0 _ rfl; have y1 := H3.out.1.cell 1 _ rfl; have y2 := H3.out.1.cell 2 _ rfl; have y3 := H3.out.1.cell 3 _ rfl; have y4 := H3.out.1.cell 4 _ rfl)
          | (have := H1; go_at_call 26; refine (HT2.out _ H1.out.2).mono ?_; rintro e w2 ⟨rfl, hb⟩; have H2 := hid (And.intro (H1.out.1.keep hb) (H1.out.2.trans (hb.mono H1.out.2.size))); clear hb y0 y1 y2 y3 y4; have y0 := H2.out.1.cell 0 _ rfl; have y1 := H2.out.1.cell 1 _ rfl; have y2 := H2.out.1.cell 2 _ rfl; have y3 := H2.out.1.cell 3 _ rfl; have y4 := H2.out.1.cell 4 _ rfl)
          | (have := H0; go_at_call 26; refine (HT1.out _ H0.out.2).mono ?_; rintro e w1 ⟨rfl, hb⟩; have H1 := hid (And.intro (H0.out.1.keep hb) (H0.out.2.trans (hb.mono H0.out.2.size))); clear hb y0 y1 y2 y3 y4; have y0 := H1.out.1.cell 0 _ rfl; have y1 := H1.out.1.cell 1 _ rfl; have y2 := H1.out.1.cell 2 _ rfl; have y3 := H1.out.1.cell 3 _ rfl; have y4 := H1.out.1.cell 4 _ rfl))
        go_ret
        exact ⟨by simp, H3.out.2⟩
      | true =>
        cases B4 with
        | false =>
          go_enter Try.func60, Try.ntmps60
          go_wp2_with (first
            | (have := H3; go_at_call 61; refine (HT4.out _ H3.out.2).mono ?_; rintro e w4 ⟨rfl, hb⟩; have H4 := hid (And.intro (H3.out.1.keep hb) (H3.out.2.trans (hb.mono H3.out.2.size))); clear hb y0 y1 y2 y3 y4; have y0 := H4.out.1.cell 0 _ rfl; have y1 := H4.out.1.cell 1 _ rfl; have y2 := H4.out.1.cell 2 _ rfl; have y3 := H4.out.1.cell 3 _ rfl; have y4 := H4.out.1.cell 4 _ rfl)
            | (have := H2; go_at_call 84; refine (HT3.out _ H2.out.2).mono ?_; rintro e w3 ⟨rfl, hb⟩; have H3 := hid (And.intro (H2.out.1.keep hb) (H2.out.2.trans (hb.mono H2.out.2.size))); clear hb y0 y1 y2 y3 y4; have y0 := H3.out.1.cell 0 _ rfl; have y1 := H3.out.1.cell 1 _ rfl; have y2 := H3.out.1.cell 2 _ rfl; have y3 := H3.out.1.cell 3 _ rfl; have y4 := H3.out.1.cell 4 _ rfl)
            | (have := H1; go_at_call 26; refine (HT2.out _ H1.out.2).mono ?_; rintro e w2 ⟨rfl, hb⟩; have H2 := hid (And.intro (H1.out.1.keep hb) (H1.out.2.trans (hb.mono H1.out.2.size))); clear hb y0 y1 y2 y3 y4; have y0 := H2.out.1.cell 0 _ rfl; have y1 := H2.out.1.cell 1 _ rfl; have y2 := H2.out.1.cell 2 _ rfl; have y3 := H2.out.1.cell 3 _ rfl; have y4 := H2.out.1.cell 4 _ rfl)
            | (have := H0; go_at_call 26; refine (HT1.out _ H0.out.2).mono ?_; rintro e w1 ⟨rfl, hb⟩; have H1 := hid (And.intro (H0.out.1.keep hb) (H0.out.2.trans (hb.mono H0.out.2.size))); clear hb y0 y1 y2 y3 y4; have y0 := H1.out.1.cell 0 _ rfl; have y1 := H1.out.1.cell 1 _ rfl; have y2 := H1.out.1.cell 2 _ rfl; have y3 := H1.out.1.cell 3 _ rfl; have y4 := H1.out.1.cell 4 _ rfl))
          go_ret
          exact ⟨by simp, H4.out.2⟩
        | true =>
          go_enter Try.func60, Try.ntmps60
          go_wp2_with (first
            | (have := H3; go_at_call 61; refine (HT4.out _ H3.out.2).mono ?_; rintro e w4 ⟨rfl, hb⟩; have H4 := hid (And.intro (H3.out.1.keep hb) (H3.out.2.trans (hb.mono H3.out.2.size))); clear hb y0 y1 y2 y3 y4; have y0 := H4.out.1.cell 0 _ rfl; have y1 := H4.out.1.cell 1 _ rfl; have y2 := H4.out.1.cell 2 _ rfl; have y3 := H4.out.1.cell 3 _ rfl; have y4 := H4.out.1.cell 4 _ rfl)
            | (have := H2; go_at_call 84; refine (HT3.out _ H2.out.2).mono ?_; rintro e w3 ⟨rfl, hb⟩; have H3 := hid (And.intro (H2.out.1.keep hb) (H2.out.2.trans (hb.mono H2.out.2.size))); clear hb y0 y1 y2 y3 y4; have y0 := H3.out.1.cell 0 _ rfl; have y1 := H3.out.1.cell 1 _ rfl; have y2 := H3.out.1.cell 2 _ rfl; have y3 := H3.out.1.cell 3 _ rfl; have y4 := H3.out.1.cell 4 _ rfl)
            | (have := H1; go_at_call 26; refine (HT2.out _ H1.out.2).mono ?_; rintro e w2 ⟨rfl, hb⟩; have H2 := hid (And.intro (H1.out.1.keep hb) (H1.out.2.trans (hb.mono H1.out.2.size))); clear hb y0 y1 y2 y3 y4; have y0 := H2.out.1.cell 0 _ rfl; have y1 := H2.out.1.cell 1 _ rfl; have y2 := H2.out.1.cell 2 _ rfl; have y3 := H2.out.1.cell 3 _ rfl; have y4 := H2.out.1.cell 4 _ rfl)
            | (have := H0; go_at_call 26; refine (HT1.out _ H0.out.2).mono ?_; rintro e w1 ⟨rfl, hb⟩; have H1 := hid (And.intro (H0.out.1.keep hb) (H0.out.2.trans (hb.mono H0.out.2.size))); clear hb y0 y1 y2 y3 y4; have y0 := H1.out.1.cell 0 _ rfl; have y1 := H1.out.1.cell 1 _ rfl; have y2 := H1.out.1.cell 2 _ rfl; have y3 := H1.out.1.cell 3 _ rfl; have y4 := H1.out.1.cell 4 _ rfl))
          go_ret
          exact ⟨by simp, H4.out.2⟩
end Go.Proofs.Ytfjcpghepkmbfaa

/- The program's test of a list of changes. -/
namespace Go.Proofs.Ytfjcpghepkmbfaa
open Go.RowKit
set_option maxRecDepth 100000 in
set_option maxHeartbeats 6400000 in
theorem ichanges_any {F : Nat → Prop} (m : Ms) (h0 : 0 ≤ m.ep) (h1 : m.ep ≤ 60) (ad : Option Addr) (n cap : Nat) (v13 v14 v16 : Value) (most : Nat) (hm : most ≤ 10) (hl : m.cg.length ≤ maxLen) (en : n = m.cg.length) (hb : ∀ x, x ∈ m.cg → cgR x) (w : World) (hR : Reads F w (.slice ad n cap) (dCgs m.cg)) :
    Calls Try.prog 35 #[.agg #[.int .i64 m.k, .int .i64 m.ep, .int .i64 m.v, .int .i64 m.sl, .int .i64 m.rq.c, .int .i64 m.rq.st, .int .i64 m.rq.k, .string m.rq.key, .float .f64 m.rq.b, .int .i64 m.rq.id, .int .i64 m.rs.1, .float .f64 m.rs.2, .string m.tx, v13, v14, .slice ad n cap, v16], .int .i64 (most : Int)] w fun e w' => e = .returned (.bool (cgsB m.ep m.v m.cg most)) ∧ Below w.heap.size w w' := by
  obtain ⟨V, eV⟩ : ∃ V, V = cgsB m.ep m.v m.cg most := ⟨_, rfl⟩
  rw [← eV]
  have HR := hid hR
  rw [← en] at hl
  have hmi : (n : Int) ≤ 9223372036854775807 := by unfold maxLen at hl; omega
  have HE := hid (And.intro h0 h1)
  clear hR h0 h1
  have HW : Hid (inB (n : Int) 1 (most : Int) = (decide (1 ≤ n) && decide (n ≤ most))) := hid (by
    rw [inB]; congr 1
    · exact decide_eq_decide.2 (by omega)
    · exact decide_eq_decide.2 (by omega))
  have H0 : Hid (BxAt (w.alloc (.cells #[.int .i64 m.k, .int .i64 m.ep, .int .i64 m.v, .int .i64 m.sl, .int .i64 m.rq.c, .int .i64 m.rq.st, .int .i64 m.rq.k, .string m.rq.key, .float .f64 m.rq.b, .int .i64 m.rq.id, .int .i64 m.rs.1, .float .f64 m.rs.2, .string m.tx, v13, v14, .slice ad n cap, v16] 34)) w.heap.size [.int .i64 m.k, .int .i64 m.ep, .int .i64 m.v, .int .i64 m.sl, .int .i64 m.rq.c, .int .i64 m.rq.st, .int .i64 m.rq.k, .string m.rq.key, .float .f64 m.rq.b, .int .i64 m.rq.id, .int .i64 m.rs.1, .float .f64 m.rs.2, .string m.tx, v13, v14, .slice ad n cap, v16] 34 ∧ Below w.heap.size w (w.alloc (.cells #[.int .i64 m.k, .int .i64 m.ep, .int .i64 m.v, .int .i64 m.sl, .int .i64 m.rq.c, .int .i64 m.rq.st, .int .i64 m.rq.k, .string m.rq.key, .float .f64 m.rq.b, .int .i64 m.rq.id, .int .i64 m.rs.1, .float .f64 m.rs.2, .string m.tx, v13, v14, .slice ad n cap, v16] 34))) := hid ⟨heap_alloc_last w _, (Below.refl w.heap.size w).alloc (Nat.le_refl _) _⟩
  have y1 := H0.out.1.cell 1 _ rfl
  have y2 := H0.out.1.cell 2 _ rfl
  have y15 := H0.out.1.cell 15 _ rfl
  by_cases h4 : ¬ (1 ≤ n ∧ n ≤ most)
  · have hf : V = false := by
      rw [eV, cgsB, ← en]
      by_cases h5 : 1 ≤ n
      · rw [decide_eq_true h5, decide_eq_false (fun h => h4 ⟨h5, h⟩)]; rfl
      · rw [decide_eq_false h5]; rfl
    subst hf
    have HW2 : Hid (inB (n : Int) 1 (most : Int) = false) := hid (by
      rw [HW.out]
      by_cases h5 : 1 ≤ n
      · rw [decide_eq_true h5, decide_eq_false (fun h => h4 ⟨h5, h⟩)]; rfl
      · rw [decide_eq_false h5]; rfl)
    clear eV hl hb en h4 HR
    go_enter Try.func35, Try.ntmps35
    go_wp2_with (go_at_call 26; refine (iwithin_any _ _ _ _).mono ?_; rintro e w1 ⟨rfl, hw⟩; rw [HW2.out]; replace hw := hw.symm; subst hw)
    go_ret
    exact ⟨rfl, H0.out.2⟩
  · have h4 : 1 ≤ n ∧ n ≤ most := Classical.not_not.1 h4
    have HV : Hid (V = allTo (cgAt m.ep m.v m.cg) n) := hid (by rw [eV, cgsB, ← en, decide_eq_true h4.1, decide_eq_true h4.2]; rfl)
    have HW2 : Hid (inB (n : Int) 1 (most : Int) = true) := hid (by rw [HW.out, decide_eq_true h4.1, decide_eq_true h4.2]; rfl)
    have HN := hid en
    have HL : Hid (n ≤ 10) := hid (by omega)
    have HBd := hid hb
    clear eV hl hb en h4
    go_enter Try.func35, Try.ntmps35
    go_wp2_with (go_at_call 26; refine (iwithin_any _ _ _ _).mono ?_; rintro e w1 ⟨rfl, hw⟩; rw [HW2.out]; replace hw := hw.symm; subst hw)
    generalize w.alloc (.cells #[.int .i64 m.k, .int .i64 m.ep, .int .i64 m.v, .int .i64 m.sl, .int .i64 m.rq.c, .int .i64 m.rq.st, .int .i64 m.rq.k, .string m.rq.key, .float .f64 m.rq.b, .int .i64 m.rq.id, .int .i64 m.rs.1, .float .f64 m.rs.2, .string m.tx, v13, v14, .slice ad n cap, v16] 34) = wa at H0 y1 y2 y15 ⊢
    go_loopw [16] (fun i wr => ∃ j : Nat, j ≤ n ∧ i = .int .i64 (j : Int) ∧ allTo (cgAt m.ep m.v m.cg) j = true ∧ Below wa.heap.size wa wr)
      (fun i _ => ((n : Int) - intOf i).toNat)
    case atStart => exact ⟨0, Nat.zero_le _, rfl, rfl, Below.refl _ _⟩
    case round =>
      obtain ⟨j, hj, rfl, hok, hB⟩ := hrel
      have HB := hid hB
      have HBw := hid (H0.out.2.trans (hB.mono H0.out.2.size))
      have HOk := hid hok
      clear hok hB y1 y2 y15
      have hj0 : (0 : Int) ≤ (j : Int) := Int.natCast_nonneg _
      by_cases hjn : j = n
      · have hj1 : ¬ ((j : Int) < (n : Int)) := by omega
        have hv : Hid (V = true) := hid (by rw [HV.out, ← hjn]; exact HOk.out)
        clear hj hjn
        go_wp2
        go_ret
        exact ⟨by rw [hv.out]; rfl, HBw.out⟩
      · have hj1 : (j : Int) < (n : Int) := by omega
        have hjl : j < m.cg.length := by have := HN.out; omega
        have hR2 := HR.out
        rw [HN.out] at hR2
        obtain ⟨g, off, cp, a8, n8, k8, hv, hp, hg, hc⟩ := cg_at (hR2.under HBw.out (Nat.le_refl _)) j hjl
        cases hv
        have HP := hid hp
        have hprev : j ≠ 0 → wr.cell? ⟨g, off + (j - 1) * 5, none⟩ = some (.int .i64 (m.cg.getD (j - 1) cg0).1) := fun hz => by
          obtain ⟨g2, o2, c2, a2, n2, k2, hv2, _, _, hc2⟩ := cg_at (hR2.under HBw.out (Nat.le_refl _)) (j - 1) (by omega)
          cases hv2
          exact hc2 0 _ rfl
        have HPr := hid (And.intro hprev hg)
        have HJ := hid (And.intro hj hjn)
        have HT : Hid (cgAt m.ep m.v m.cg j = ((decide ((m.cg.getD j cg0).2.1 = m.v) && cgB m.ep (m.cg.getD j cg0)) && (decide (j = 0) || decide ((m.cg.getD (j - 1) cg0).1 < (m.cg.getD j cg0).1)))) := hid rfl
        have HFa : Hid (cgAt m.ep m.v m.cg j = false → V = false) := hid (fun e => by rw [HV.out]; exact allTo_no j (by omega) e)
        have HTr : Hid (cgAt m.ep m.v m.cg j = true → allTo (cgAt m.ep m.v m.cg) (j + 1) = true) := hid (fun e => by rw [allTo, HOk.out, e]; rfl)
        have HYb := hid (HBd.out (m.cg.getD j cg0) (by rw [List.getD_eq_getElem?_getD, List.getElem?_eq_getElem hjl]; exact List.getElem_mem hjl))
        generalize m.cg.getD j cg0 = y at hc HP HT HYb
        generalize (m.cg.getD (j - 1) cg0).1 = ps at HPr HT
        have k0 : wr.cell? ⟨g, off + j * 5, none⟩ = some (.int .i64 y.1) := hc 0 _ rfl
        have k1 : wr.cell? ⟨g, off + j * 5 + 1, none⟩ = some (.int .i64 y.2.1) := hc 1 _ rfl
        have k2 : wr.cell? ⟨g, off + j * 5 + 2, none⟩ = some (.slice a8 n8 k8) := hc 2 _ rfl
        have k3 : wr.cell? ⟨g, off + j * 5 + 3, none⟩ = some (.int .i64 y.2.2.2.1) := hc 3 _ rfl
        have k4 : wr.cell? ⟨g, off + j * 5 + 4, none⟩ = some (.string y.2.2.2.2) := hc 4 _ rfl
        have hz : (j : Int) ≤ 10 := by have := HL.out; omega
        clear hj hjn hjl hR2 hp hg hc hprev
        go_wp2_with (refine wl_store_blk rfl 70 _ _ rfl wr.heap.size 0 rfl #[.int .i64 y.1, .int .i64 y.2.1, .slice a8 n8 k8, .int .i64 y.2.2.2.1, .string y.2.2.2.2] rfl [.int .i64 0, .int .i64 0, .slice none 0 0, .int .i64 0, .string ⟨#[]⟩] 70 (heap_alloc_last wr _) (by simp) (by kernel_rfl) (by simp [Value.oneCell']) ?_; intro w1 Hz; have H1 : Hid (BxAt w1 wr.heap.size (cgC y (.slice a8 n8 k8)) 70 ∧ Below wr.heap.size wr w1) := hid ⟨Hz.out.1, Hz.out.2.below ((Below.refl wr.heap.size wr).alloc (Nat.le_refl _) _) (Nat.le_refl _)⟩; clear Hz)
        clear k0 k1 k2 k3 k4
        go_simp
        have HBx : Hid (∀ x : Cls w1, BxAt x.1 wr.heap.size (cgC y (.slice a8 n8 k8)) 70) := hid (fun x => H1.out.1.keep x.2)
        have HMx : Hid (∀ x : Cls w1, BxAt x.1 w.heap.size [.int .i64 m.k, .int .i64 m.ep, .int .i64 m.v, .int .i64 m.sl, .int .i64 m.rq.c, .int .i64 m.rq.st, .int .i64 m.rq.k, .string m.rq.key, .float .f64 m.rq.b, .int .i64 m.rq.id, .int .i64 m.rs.1, .float .f64 m.rs.2, .string m.tx, v13, v14, .slice (some ⟨g, off, none⟩) n cap, v16] 34) := hid (fun x => ((H0.out.1.keep HB.out).keep H1.out.2).keep x.2)
        have d0 : ∀ x : Cls w1, x.1.cell? ⟨wr.heap.size, 0, none⟩ = some (.int .i64 y.1) := fun x => (HBx.out x).cell 0 _ rfl
        have d1 : ∀ x : Cls w1, x.1.cell? ⟨wr.heap.size, 1, none⟩ = some (.int .i64 y.2.1) := fun x => (HBx.out x).cell 1 _ rfl
        have d2 : ∀ x : Cls w1, x.1.cell? ⟨wr.heap.size, 2, none⟩ = some (.slice a8 n8 k8) := fun x => (HBx.out x).cell 2 _ rfl
        have d3 : ∀ x : Cls w1, x.1.cell? ⟨wr.heap.size, 3, none⟩ = some (.int .i64 y.2.2.2.1) := fun x => (HBx.out x).cell 3 _ rfl
        have d4 : ∀ x : Cls w1, x.1.cell? ⟨wr.heap.size, 4, none⟩ = some (.string y.2.2.2.2) := fun x => (HBx.out x).cell 4 _ rfl
        have m1 : ∀ x : Cls w1, x.1.cell? ⟨w.heap.size, 1, none⟩ = some (.int .i64 m.ep) := fun x => (HMx.out x).cell 1 _ rfl
        have m2 : ∀ x : Cls w1, x.1.cell? ⟨w.heap.size, 2, none⟩ = some (.int .i64 m.v) := fun x => (HMx.out x).cell 2 _ rfl
        have m15 : ∀ x : Cls w1, x.1.cell? ⟨w.heap.size, 15, none⟩ = some (.slice (some ⟨g, off, none⟩) n cap) := fun x => (HMx.out x).cell 15 _ rfl
        have HCe : Hid (∀ u : World, Below w1.heap.size w1 u → Calls Try.prog 60 #[.int .i64 m.ep, .agg #[.int .i64 y.1, .int .i64 y.2.1, .slice a8 n8 k8, .int .i64 y.2.2.2.1, .string y.2.2.2.2]] u fun e w' => e = .returned (.bool (cgB m.ep y)) ∧ Below u.heap.size u w') := hid (fun u hu => ichange_any m.ep HE.out.1 HE.out.2 y a8 _ k8 HYb.out.2.1.1 HYb.out.2.1.2 u ((HP.out.under H1.out.2 (Nat.le_refl _)).under hu (Nat.le_refl _)))
        haveI := Cls.ne w1
        by_cases hvw : ¬ y.2.1 = m.v
        · have hf := hid (HFa.out (by rw [HT.out, decide_eq_false hvw]; rfl))
          have hvd : decide (y.2.1 = m.v) = false := decide_eq_false hvw
          have hvb : (y.2.1 == m.v) = false := by simpa using hvw
          have hvn : (y.2.1 != m.v) = true := by rw [bne, hvb]; rfl
          refine wp_region_cls w1 (by kernel_rfl) (by kernel_rfl) ?_
          repeat (go_big_quiet_step ((first
            | (go_at_call 60; exact Cls.of _ (fun u hu => HCe.out u hu)))))
          refine wpQuiet_nil ?_
          rintro _ ⟨x, rfl⟩
          go_wp2
          go_ret
          exact ⟨by rw [hf.out]; rfl, HBw.out.trans ((H1.out.2.trans (x.2.mono H1.out.2.size)).mono HBw.out.size)⟩
        have hvw : y.2.1 = m.v := Classical.not_not.1 hvw
        have HT1 : Hid (cgAt m.ep m.v m.cg j = (cgB m.ep y && (decide (j = 0) || decide (ps < y.1)))) := hid (by rw [HT.out, decide_eq_true hvw]; rfl)
        clear HT
        have hvd : decide (y.2.1 = m.v) = true := decide_eq_true hvw
        have hvb : (y.2.1 == m.v) = true := by simpa using hvw
        have hvn : (y.2.1 != m.v) = false := by rw [bne, hvb]; rfl
        clear hvw
        cases hct : cgB m.ep y with
        | false =>
          rw [hct] at HCe HT1
          have hf := hid (HFa.out HT1.out)
          clear hct
          refine wp_region_cls w1 (by kernel_rfl) (by kernel_rfl) ?_
          repeat (go_big_quiet_step ((first
            | (go_at_call 60; exact Cls.of _ (fun u hu => HCe.out u hu)))))
          refine wpQuiet_nil ?_
          rintro _ ⟨x, rfl⟩
          go_wp2
          go_ret
          exact ⟨by rw [hf.out]; rfl, HBw.out.trans ((H1.out.2.trans (x.2.mono H1.out.2.size)).mono HBw.out.size)⟩
        | true =>
          rw [hct] at HCe HT1
          clear hct
          by_cases hj00 : j = 0
          · have hp := hid (HTr.out (by rw [HT1.out, decide_eq_true hj00]; rfl))
            have hd : decide ((0 : Int) < (j : Int)) = false := decide_eq_false (by omega)
            have hd2 : decide (0 < j) = false := decide_eq_false (by omega)
            clear hj00
            refine wp_region_cls w1 (by kernel_rfl) (by kernel_rfl) ?_
            repeat (go_big_quiet_step ((first
              | (go_at_call 60; exact Cls.of _ (fun u hu => HCe.out u hu)))))
            refine wpQuiet_nil ?_
            rintro _ ⟨x, rfl⟩
            go_wp2
            go_roundw
            case rel => exact ⟨j + 1, by have := HJ.out; omega, by go_num, hp.out, HB.out.trans ((H1.out.2.trans (x.2.mono H1.out.2.size)).mono HB.out.size)⟩
            case measure => simp [intOf]; omega
          · obtain ⟨jm, ejm⟩ : ∃ jm : Nat, jm = j - 1 := ⟨_, rfl⟩
            have dp : ∀ x : Cls w1, x.1.cell? ⟨g, off + jm * 5, none⟩ = some (.int .i64 ps) := fun x => (World.cell?_of_block (a := ⟨g, off + jm * 5, none⟩) ((x.2.block g (Nat.lt_of_lt_of_le HPr.out.2 H1.out.2.size)).trans (H1.out.2.block g HPr.out.2))).trans (by rw [ejm]; exact HPr.out.1 hj00)
            have hw : IntKind.i64.wrap ((j : Int) - 1) = (jm : Int) := by rw [show (j : Int) - 1 = (jm : Int) by omega]; exact wrap_small _ (by omega) (by omega)
            have hjm0 : (0 : Int) ≤ (jm : Int) := Int.natCast_nonneg _
            have hjm1 : (jm : Int) < (n : Int) := by omega
            have hd : decide ((0 : Int) < (j : Int)) = true := decide_eq_true (by omega)
            have hd2 : decide (0 < j) = true := decide_eq_true (by omega)
            have HT2 : Hid (cgAt m.ep m.v m.cg j = decide (ps < y.1)) := hid (by rw [HT1.out, decide_eq_false hj00]; rfl)
            clear ejm hj00
            by_cases hlt : ps < y.1
            · have hp := hid (HTr.out (by rw [HT2.out, decide_eq_true hlt]))
              have hle : decide (y.1 ≤ ps) = false := decide_eq_false (by omega)
              have hle2 : ¬ (y.1 ≤ ps) := by omega
              refine wp_region_cls w1 (by kernel_rfl) (by kernel_rfl) ?_
              repeat (go_big_quiet_step ((first
                | (go_at_call 60; exact Cls.of _ (fun u hu => HCe.out u hu)))))
              refine wpQuiet_nil ?_
              rintro _ ⟨x, rfl⟩
              go_wp2
              go_roundw
              case rel => exact ⟨j + 1, by have := HJ.out; omega, by go_num, hp.out, HB.out.trans ((H1.out.2.trans (x.2.mono H1.out.2.size)).mono HB.out.size)⟩
              case measure => simp [intOf]; omega
            · have hf := hid (HFa.out (by rw [HT2.out, decide_eq_false hlt]))
              have hle : decide (y.1 ≤ ps) = true := decide_eq_true (by omega)
              have hle2 : y.1 ≤ ps := by omega
              refine wp_region_cls w1 (by kernel_rfl) (by kernel_rfl) ?_
              repeat (go_big_quiet_step ((first
                | (go_at_call 60; exact Cls.of _ (fun u hu => HCe.out u hu)))))
              refine wpQuiet_nil ?_
              rintro _ ⟨x, rfl⟩
              go_wp2
              go_ret
              exact ⟨by rw [hf.out]; rfl, HBw.out.trans ((H1.out.2.trans (x.2.mono H1.out.2.size)).mono HBw.out.size)⟩
end Go.Proofs.Ytfjcpghepkmbfaa

/- The program's test of a list of links. -/
namespace Go.Proofs.Ytfjcpghepkmbfaa
open Go.RowKit
def lnC (k : Ln) (v1 v2 : Value) : List Value := [.int .i64 k.1.1, v1, v2]
theorem ln_at {F : Nat → Prop} {w : World} {v : Value} {l : List Ln} (h : Reads F w v (dLns l)) (j : Nat) (hj : j < l.length) :
    ∃ g off cap a1 k1 a2 k2, v = .slice (some ⟨g, off, none⟩) l.length cap ∧ (IntsIn w a1 (l.getD j ln0).1.2 ∧ PairsIn w a2 (l.getD j ln0).2) ∧ g < w.heap.size ∧ ∀ (q : Nat) (u : Value), (lnC (l.getD j ln0) (.slice a1 (l.getD j ln0).1.2.length k1) (.slice a2 (l.getD j ln0).2.length k2))[q]? = some u → w.cell? ⟨g, off + j * 3 + q, none⟩ = some u := by
  have hx : (l.map dLn)[j]? = some (dLn (l.getD j ln0)) := by rw [List.getElem?_map]; simp [hj]
  obtain ⟨g, off, cap, hv, _, hg, _, hc⟩ := h.at j _ hx
  obtain ⟨u1, e1, r1⟩ := hc 1 _ rfl
  obtain ⟨u2, e2, r2⟩ := hc 2 _ rfl
  obtain ⟨a1, k1, rfl, i1, _⟩ := reads_ints r1
  obtain ⟨a2, k2, rfl, i2, _⟩ := reads_pairs r2
  rw [List.length_map] at hv
  refine ⟨g, off, cap, a1, k1, a2, k2, hv, ⟨i1, i2⟩, hg, fun q u hq => ?_⟩
  match q, hq with
  | 0, hq => obtain ⟨x, k0, r0⟩ := hc 0 _ rfl; rw [r0.int] at k0; cases hq; exact k0
  | 1, hq => cases hq; exact e1
  | 2, hq => cases hq; exact e2
  | q + 3, hq => cases hq

set_option maxRecDepth 100000 in
set_option maxHeartbeats 6400000 in
theorem ilinks_any {F : Nat → Prop} (m : Ms) (h1 : m.ep ≤ 60) (ad : Option Addr) (n cap : Nat) (v13 v14 v15 : Value) (hl : m.ln.length ≤ maxLen) (en : n = m.ln.length) (hb : ∀ x, x ∈ m.ln → lnR x) (w : World) (hR : Reads F w (.slice ad n cap) (dLns m.ln)) :
    Calls Try.prog 37 #[.agg #[.int .i64 m.k, .int .i64 m.ep, .int .i64 m.v, .int .i64 m.sl, .int .i64 m.rq.c, .int .i64 m.rq.st, .int .i64 m.rq.k, .string m.rq.key, .float .f64 m.rq.b, .int .i64 m.rq.id, .int .i64 m.rs.1, .float .f64 m.rs.2, .string m.tx, v13, v14, v15, .slice ad n cap]] w fun e w' => e = .returned (.bool (decide ((m.ln.length : Int) = m.ep) && lnsB m.ln)) ∧ Below w.heap.size w w' := by
  obtain ⟨V, eV⟩ : ∃ V, V = (decide ((m.ln.length : Int) = m.ep) && lnsB m.ln) := ⟨_, rfl⟩
  rw [← eV]
  have HR := hid hR
  rw [← en] at hl
  have hmi : (n : Int) ≤ 9223372036854775807 := by unfold maxLen at hl; omega
  clear hR
  have H0 : Hid (BxAt (w.alloc (.cells #[.int .i64 m.k, .int .i64 m.ep, .int .i64 m.v, .int .i64 m.sl, .int .i64 m.rq.c, .int .i64 m.rq.st, .int .i64 m.rq.k, .string m.rq.key, .float .f64 m.rq.b, .int .i64 m.rq.id, .int .i64 m.rs.1, .float .f64 m.rs.2, .string m.tx, v13, v14, v15, .slice ad n cap] 34)) w.heap.size [.int .i64 m.k, .int .i64 m.ep, .int .i64 m.v, .int .i64 m.sl, .int .i64 m.rq.c, .int .i64 m.rq.st, .int .i64 m.rq.k, .string m.rq.key, .float .f64 m.rq.b, .int .i64 m.rq.id, .int .i64 m.rs.1, .float .f64 m.rs.2, .string m.tx, v13, v14, v15, .slice ad n cap] 34 ∧ Below w.heap.size w (w.alloc (.cells #[.int .i64 m.k, .int .i64 m.ep, .int .i64 m.v, .int .i64 m.sl, .int .i64 m.rq.c, .int .i64 m.rq.st, .int .i64 m.rq.k, .string m.rq.key, .float .f64 m.rq.b, .int .i64 m.rq.id, .int .i64 m.rs.1, .float .f64 m.rs.2, .string m.tx, v13, v14, v15, .slice ad n cap] 34))) := hid ⟨heap_alloc_last w _, (Below.refl w.heap.size w).alloc (Nat.le_refl _) _⟩
  have y1 := H0.out.1.cell 1 _ rfl
  have y16 := H0.out.1.cell 16 _ rfl
  by_cases h4 : ¬ (n : Int) = m.ep
  · have hf : V = false := by rw [eV, ← en, decide_eq_false h4]; rfl
    subst hf
    have hvb : ((n : Int) == m.ep) = false := by simpa using h4
    have hvn : ((n : Int) != m.ep) = true := by rw [bne, hvb]; rfl
    clear eV hl hb en HR
    go_enter Try.func37, Try.ntmps37
    go_wp2
    go_ret
    exact ⟨rfl, H0.out.2⟩
  · replace h4 : (n : Int) = m.ep := Classical.not_not.1 h4
    have hn60 : (n : Int) ≤ 60 := by omega
    clear h1
    have HV : Hid (V = allTo (lnAt m.ln) n) := hid (by rw [eV, lnsB, ← en, decide_eq_true h4]; rfl)
    have hvb : ((n : Int) == m.ep) = true := by simpa using h4
    have hvn : ((n : Int) != m.ep) = false := by rw [bne, hvb]; rfl
    have HN := hid en
    have HLn := hid hl
    have HBd := hid hb
    clear eV hl hb en h4
    go_enter Try.func37, Try.ntmps37
    go_wp2
    generalize w.alloc (.cells #[.int .i64 m.k, .int .i64 m.ep, .int .i64 m.v, .int .i64 m.sl, .int .i64 m.rq.c, .int .i64 m.rq.st, .int .i64 m.rq.k, .string m.rq.key, .float .f64 m.rq.b, .int .i64 m.rq.id, .int .i64 m.rs.1, .float .f64 m.rs.2, .string m.tx, v13, v14, v15, .slice ad n cap] 34) = wa at H0 y1 y16 ⊢
    clear hvb hvn
    go_loopw [14] (fun i wr => ∃ j : Nat, j ≤ n ∧ i = .int .i64 (j : Int) ∧ allTo (lnAt m.ln) j = true ∧ Below wa.heap.size wa wr)
      (fun i _ => ((n : Int) - intOf i).toNat)
    case atStart => exact ⟨0, Nat.zero_le _, rfl, rfl, Below.refl _ _⟩
    case round =>
      obtain ⟨j, hj, rfl, hok, hB⟩ := hrel
      have HB := hid hB
      have HBw := hid (H0.out.2.trans (hB.mono H0.out.2.size))
      have HOk := hid hok
      clear hok hB y1 y16
      have hj0 : (0 : Int) ≤ (j : Int) := Int.natCast_nonneg _
      by_cases hjn : j = n
      · have hj1 : ¬ ((j : Int) < (n : Int)) := by omega
        have hv : Hid (V = true) := hid (by rw [HV.out, ← hjn]; exact HOk.out)
        clear hj hjn
        go_wp2
        go_ret
        exact ⟨by rw [hv.out]; rfl, HBw.out⟩
      · have hj1 : (j : Int) < (n : Int) := by omega
        have hjl : j < m.ln.length := by have := HN.out; omega
        have hR2 := HR.out
        rw [HN.out] at hR2
        obtain ⟨g, off, cp, a1, k1, a2, k2, hv, hp, hg, hc⟩ := ln_at (hR2.under HBw.out (Nat.le_refl _)) j hjl
        cases hv
        have HP := hid hp
        have HJ := hid (And.intro hj hjn)
        have HT : Hid (lnAt m.ln j = ((decide ((m.ln.getD j ln0).1.1 = (j : Int) + 1) && rightC (m.ln.getD j ln0).1.1 (m.ln.getD j ln0).1.2) && sigsB (m.ln.getD j ln0).2)) := hid rfl
        have HFa : Hid (lnAt m.ln j = false → V = false) := hid (fun e => by rw [HV.out]; exact allTo_no j (by omega) e)
        have HTr : Hid (lnAt m.ln j = true → allTo (lnAt m.ln) (j + 1) = true) := hid (fun e => by rw [allTo, HOk.out, e]; rfl)
        have HYb := hid (HBd.out (m.ln.getD j ln0) (by rw [List.getD_eq_getElem?_getD, List.getElem?_eq_getElem hjl]; exact List.getElem_mem hjl))
        generalize m.ln.getD j ln0 = y at hc HP HT HYb
        have q0 : wr.cell? ⟨g, off + j * 3, none⟩ = some (.int .i64 y.1.1) := hc 0 _ rfl
        have q1 : wr.cell? ⟨g, off + j * 3 + 1, none⟩ = some (.slice a1 y.1.2.length k1) := hc 1 _ rfl
        have q2 : wr.cell? ⟨g, off + j * 3 + 2, none⟩ = some (.slice a2 y.2.length k2) := hc 2 _ rfl
        have hw : IntKind.i64.wrap ((j : Int) + 1) = (j : Int) + 1 := wrap_small _ (by omega) (by omega)
        clear hj hjn hjl hR2 hp hg hc
        have HC1 : Hid (∀ u : World, Below wr.heap.size wr u → Calls Try.prog 59 #[.agg #[.int .i64 y.1.1, .slice a1 y.1.2.length k1]] u fun e w' => e = .returned (.bool (rightC y.1.1 y.1.2)) ∧ Below u.heap.size u w') := hid (fun u hu => cright_any _ _ _ _ _ rfl HYb.out.2.1.1 u (HP.out.1.keep hu (Nat.le_refl _)))
        have HC2 : Hid (∀ u : World, Below wr.heap.size wr u → Calls Try.prog 38 #[.slice a2 y.2.length k2] u fun e w' => e = .returned (.bool (sigsB y.2)) ∧ Below u.heap.size u w') := hid (fun u hu => ifitSigs_any _ _ _ _ rfl HYb.out.2.2.1 u (HP.out.2.keep hu (Nat.le_refl _)))
        by_cases hvw : ¬ y.1.1 = (j : Int) + 1
        · have hf := hid (HFa.out (by rw [HT.out, decide_eq_false hvw]; rfl))
          have hvb : (y.1.1 == (j : Int) + 1) = false := by simpa using hvw
          have hvn : (y.1.1 != (j : Int) + 1) = true := by rw [bne, hvb]; rfl
          go_wp2_with (first
            | (refine wl_store_blk rfl 63 _ _ rfl wr.heap.size 0 rfl #[.int .i64 y.1.1, .slice a1 y.1.2.length k1, .slice a2 y.2.length k2] rfl [.int .i64 0, .slice none 0 0, .slice none 0 0] 63 (heap_alloc_last wr _) (by simp) (by kernel_rfl) (by simp [Value.oneCell']) ?_; intro w1 Hz; have H1 : Hid (BxAt w1 wr.heap.size [.int .i64 y.1.1, .slice a1 y.1.2.length k1, .slice a2 y.2.length k2] 63 ∧ Below wr.heap.size wr w1) := hid ⟨Hz.out.1, Hz.out.2.below ((Below.refl wr.heap.size wr).alloc (Nat.le_refl _) _) (Nat.le_refl _)⟩; clear Hz q0 q1 q2; have d0 := H1.out.1.cell 0 _ rfl; have d1 := H1.out.1.cell 1 _ rfl; have d2 := H1.out.1.cell 2 _ rfl))
          go_ret
          exact ⟨by rw [hf.out]; rfl, HBw.out.trans (H1.out.2.mono HBw.out.size)⟩
        replace hvw : y.1.1 = (j : Int) + 1 := Classical.not_not.1 hvw
        have HT1 : Hid (lnAt m.ln j = (rightC y.1.1 y.1.2 && sigsB y.2)) := hid (by rw [HT.out, decide_eq_true hvw]; rfl)
        have hvb : (y.1.1 == (j : Int) + 1) = true := by simpa using hvw
        have hvn : (y.1.1 != (j : Int) + 1) = false := by rw [bne, hvb]; rfl
        clear HT hvw
        cases hct : rightC y.1.1 y.1.2 with
        | false =>
          rw [hct] at HC1 HT1
          have hf := hid (HFa.out HT1.out)
          clear hct
          go_wp2_with (first
            | (refine wl_store_blk rfl 63 _ _ rfl wr.heap.size 0 rfl #[.int .i64 y.1.1, .slice a1 y.1.2.length k1, .slice a2 y.2.length k2] rfl [.int .i64 0, .slice none 0 0, .slice none 0 0] 63 (heap_alloc_last wr _) (by simp) (by kernel_rfl) (by simp [Value.oneCell']) ?_; intro w1 Hz; have H1 : Hid (BxAt w1 wr.heap.size [.int .i64 y.1.1, .slice a1 y.1.2.length k1, .slice a2 y.2.length k2] 63 ∧ Below wr.heap.size wr w1) := hid ⟨Hz.out.1, Hz.out.2.below ((Below.refl wr.heap.size wr).alloc (Nat.le_refl _) _) (Nat.le_refl _)⟩; clear Hz q0 q1 q2; have d0 := H1.out.1.cell 0 _ rfl; have d1 := H1.out.1.cell 1 _ rfl; have d2 := H1.out.1.cell 2 _ rfl)
            | (go_at_call 59; refine (HC1.out _ H1.out.2).mono ?_; rintro e w2 ⟨rfl, hb⟩; have H2 := hid (And.intro (H1.out.1.keep hb) (H1.out.2.trans (hb.mono H1.out.2.size))); clear hb d0 d1 d2; have d0 := H2.out.1.cell 0 _ rfl; have d1 := H2.out.1.cell 1 _ rfl; have d2 := H2.out.1.cell 2 _ rfl))
          go_ret
          exact ⟨by rw [hf.out]; rfl, HBw.out.trans (H2.out.2.mono HBw.out.size)⟩
        | true =>
          rw [hct] at HC1 HT1
          clear hct
          cases hcs : sigsB y.2 with
          | false =>
            rw [hcs] at HC2 HT1
            have hf := hid (HFa.out HT1.out)
            clear hcs
            go_wp2_with (first
              | (refine wl_store_blk rfl 63 _ _ rfl wr.heap.size 0 rfl #[.int .i64 y.1.1, .slice a1 y.1.2.length k1, .slice a2 y.2.length k2] rfl [.int .i64 0, .slice none 0 0, .slice none 0 0] 63 (heap_alloc_last wr _) (by simp) (by kernel_rfl) (by simp [Value.oneCell']) ?_; intro w1 Hz; have H1 : Hid (BxAt w1 wr.heap.size [.int .i64 y.1.1, .slice a1 y.1.2.length k1, .slice a2 y.2.length k2] 63 ∧ Below wr.heap.size wr w1) := hid ⟨Hz.out.1, Hz.out.2.below ((Below.refl wr.heap.size wr).alloc (Nat.le_refl _) _) (Nat.le_refl _)⟩; clear Hz q0 q1 q2; have d0 := H1.out.1.cell 0 _ rfl; have d1 := H1.out.1.cell 1 _ rfl; have d2 := H1.out.1.cell 2 _ rfl)
              | (go_at_call 59; refine (HC1.out _ H1.out.2).mono ?_; rintro e w2 ⟨rfl, hb⟩; have H2 := hid (And.intro (H1.out.1.keep hb) (H1.out.2.trans (hb.mono H1.out.2.size))); clear hb d0 d1 d2; have d0 := H2.out.1.cell 0 _ rfl; have d1 := H2.out.1.cell 1 _ rfl; have d2 := H2.out.1.cell 2 _ rfl)
              | (go_at_call 38; refine (HC2.out _ H2.out.2).mono ?_; rintro e w3 ⟨rfl, hb⟩; have H3 := hid (H2.out.2.trans (hb.mono H2.out.2.size)); clear hb d0 d1 d2))
            go_ret
            exact ⟨by rw [hf.out]; rfl, HBw.out.trans (H3.out.mono HBw.out.size)⟩
          | true =>
            rw [hcs] at HC2 HT1
            have hp := hid (HTr.out HT1.out)
            clear hcs
            go_wp2_with (first
              | (refine wl_store_blk rfl 63 _ _ rfl wr.heap.size 0 rfl #[.int .i64 y.1.1, .slice a1 y.1.2.length k1, .slice a2 y.2.length k2] rfl [.int .i64 0, .slice none 0 0, .slice none 0 0] 63 (heap_alloc_last wr _) (by simp) (by kernel_rfl) (by simp [Value.oneCell']) ?_; intro w1 Hz; have H1 : Hid (BxAt w1 wr.heap.size [.int .i64 y.1.1, .slice a1 y.1.2.length k1, .slice a2 y.2.length k2] 63 ∧ Below wr.heap.size wr w1) := hid ⟨Hz.out.1, Hz.out.2.below ((Below.refl wr.heap.size wr).alloc (Nat.le_refl _) _) (Nat.le_refl _)⟩; clear Hz q0 q1 q2; have d0 := H1.out.1.cell 0 _ rfl; have d1 := H1.out.1.cell 1 _ rfl; have d2 := H1.out.1.cell 2 _ rfl)
              | (go_at_call 59; refine (HC1.out _ H1.out.2).mono ?_; rintro e w2 ⟨rfl, hb⟩; have H2 := hid (And.intro (H1.out.1.keep hb) (H1.out.2.trans (hb.mono H1.out.2.size))); clear hb d0 d1 d2; have d0 := H2.out.1.cell 0 _ rfl; have d1 := H2.out.1.cell 1 _ rfl; have d2 := H2.out.1.cell 2 _ rfl)
              | (go_at_call 38; refine (HC2.out _ H2.out.2).mono ?_; rintro e w3 ⟨rfl, hb⟩; have H3 := hid (H2.out.2.trans (hb.mono H2.out.2.size)); clear hb d0 d1 d2))
            go_roundw
            case rel => exact ⟨j + 1, by have := HJ.out; omega, by go_num, hp.out, HB.out.trans (H3.out.mono HB.out.size)⟩
            case measure => simp [intOf]; omega
end Go.Proofs.Ytfjcpghepkmbfaa

/- A message's cells, and what a test of one says. No walk here. -/
namespace Go.Proofs.Ytfjcpghepkmbfaa
open Go.RowKit
/-- The cells of a message whose lists lie there. -/
def msA (m : Ms) (a13 a14 a15 a16 : Option Addr) (c13 c14 c15 c16 : Nat) : List Value := [.int .i64 m.k, .int .i64 m.ep, .int .i64 m.v, .int .i64 m.sl, .int .i64 m.rq.c, .int .i64 m.rq.st, .int .i64 m.rq.k, .string m.rq.key, .float .f64 m.rq.b, .int .i64 m.rq.id, .int .i64 m.rs.1, .float .f64 m.rs.2, .string m.tx, .slice a13 m.nx.length c13, .slice a14 m.sg.length c14, .slice a15 m.cg.length c15, .slice a16 m.ln.length c16]
theorem msA_at {w : World} {b : Nat} {T : TypeId} {m : Ms} {a13 a14 a15 a16 : Option Addr} {c13 c14 c15 c16 : Nat} (h : BxAt w b (msA m a13 a14 a15 a16 c13 c14 c15 c16) T) :
    w.cell? ⟨b, 0, none⟩ = some (.int .i64 m.k) ∧ w.cell? ⟨b, 1, none⟩ = some (.int .i64 m.ep) ∧ w.cell? ⟨b, 2, none⟩ = some (.int .i64 m.v) ∧ w.cell? ⟨b, 3, none⟩ = some (.int .i64 m.sl) ∧ w.cell? ⟨b, 4, none⟩ = some (.int .i64 m.rq.c) ∧ w.cell? ⟨b, 5, none⟩ = some (.int .i64 m.rq.st) ∧ w.cell? ⟨b, 6, none⟩ = some (.int .i64 m.rq.k) ∧ w.cell? ⟨b, 7, none⟩ = some (.string m.rq.key) ∧ w.cell? ⟨b, 8, none⟩ = some (.float .f64 m.rq.b) ∧ w.cell? ⟨b, 9, none⟩ = some (.int .i64 m.rq.id) ∧ w.cell? ⟨b, 10, none⟩ = some (.int .i64 m.rs.1) ∧ w.cell? ⟨b, 11, none⟩ = some (.float .f64 m.rs.2) ∧ w.cell? ⟨b, 12, none⟩ = some (.string m.tx) ∧ w.cell? ⟨b, 13, none⟩ = some (.slice a13 m.nx.length c13) ∧ w.cell? ⟨b, 14, none⟩ = some (.slice a14 m.sg.length c14) ∧ w.cell? ⟨b, 15, none⟩ = some (.slice a15 m.cg.length c15) ∧ w.cell? ⟨b, 16, none⟩ = some (.slice a16 m.ln.length c16) := ⟨h.cell 0 _ rfl, h.cell 1 _ rfl, h.cell 2 _ rfl, h.cell 3 _ rfl, h.cell 4 _ rfl, h.cell 5 _ rfl, h.cell 6 _ rfl, h.cell 7 _ rfl, h.cell 8 _ rfl, h.cell 9 _ rfl, h.cell 10 _ rfl, h.cell 11 _ rfl, h.cell 12 _ rfl, h.cell 13 _ rfl, h.cell 14 _ rfl, h.cell 15 _ rfl, h.cell 16 _ rfl⟩
theorem msA_all {W : World} {b : Nat} {T : TypeId} {m : Ms} {a13 a14 a15 a16 : Option Addr} {c13 c14 c15 c16 : Nat} (h : BxAt W b (msA m a13 a14 a15 a16 c13 c14 c15 c16) T) :
    (∀ x : Cls W, x.1.cell? ⟨b, 0, none⟩ = some (.int .i64 m.k)) ∧ (∀ x : Cls W, x.1.cell? ⟨b, 1, none⟩ = some (.int .i64 m.ep)) ∧ (∀ x : Cls W, x.1.cell? ⟨b, 2, none⟩ = some (.int .i64 m.v)) ∧ (∀ x : Cls W, x.1.cell? ⟨b, 3, none⟩ = some (.int .i64 m.sl)) ∧ (∀ x : Cls W, x.1.cell? ⟨b, 4, none⟩ = some (.int .i64 m.rq.c)) ∧ (∀ x : Cls W, x.1.cell? ⟨b, 5, none⟩ = some (.int .i64 m.rq.st)) ∧ (∀ x : Cls W, x.1.cell? ⟨b, 6, none⟩ = some (.int .i64 m.rq.k)) ∧ (∀ x : Cls W, x.1.cell? ⟨b, 7, none⟩ = some (.string m.rq.key)) ∧ (∀ x : Cls W, x.1.cell? ⟨b, 8, none⟩ = some (.float .f64 m.rq.b)) ∧ (∀ x : Cls W, x.1.cell? ⟨b, 9, none⟩ = some (.int .i64 m.rq.id)) ∧ (∀ x : Cls W, x.1.cell? ⟨b, 10, none⟩ = some (.int .i64 m.rs.1)) ∧ (∀ x : Cls W, x.1.cell? ⟨b, 11, none⟩ = some (.float .f64 m.rs.2)) ∧ (∀ x : Cls W, x.1.cell? ⟨b, 12, none⟩ = some (.string m.tx)) ∧ (∀ x : Cls W, x.1.cell? ⟨b, 13, none⟩ = some (.slice a13 m.nx.length c13)) ∧ (∀ x : Cls W, x.1.cell? ⟨b, 14, none⟩ = some (.slice a14 m.sg.length c14)) ∧ (∀ x : Cls W, x.1.cell? ⟨b, 15, none⟩ = some (.slice a15 m.cg.length c15)) ∧ (∀ x : Cls W, x.1.cell? ⟨b, 16, none⟩ = some (.slice a16 m.ln.length c16)) := ⟨fun x => (h.keep x.2).cell 0 _ rfl, fun x => (h.keep x.2).cell 1 _ rfl, fun x => (h.keep x.2).cell 2 _ rfl, fun x => (h.keep x.2).cell 3 _ rfl, fun x => (h.keep x.2).cell 4 _ rfl, fun x => (h.keep x.2).cell 5 _ rfl, fun x => (h.keep x.2).cell 6 _ rfl, fun x => (h.keep x.2).cell 7 _ rfl, fun x => (h.keep x.2).cell 8 _ rfl, fun x => (h.keep x.2).cell 9 _ rfl, fun x => (h.keep x.2).cell 10 _ rfl, fun x => (h.keep x.2).cell 11 _ rfl, fun x => (h.keep x.2).cell 12 _ rfl, fun x => (h.keep x.2).cell 13 _ rfl, fun x => (h.keep x.2).cell 14 _ rfl, fun x => (h.keep x.2).cell 15 _ rfl, fun x => (h.keep x.2).cell 16 _ rfl⟩
theorem msA_new (m : Ms) (a13 a14 a15 a16 : Option Addr) (c13 c14 c15 c16 : Nat) (T : TypeId) (w : World) :
    ∃ wa, w.alloc (.cells (msA m a13 a14 a15 a16 c13 c14 c15 c16).toArray T) = wa ∧ Below w.heap.size w wa ∧ BxAt wa w.heap.size (msA m a13 a14 a15 a16 c13 c14 c15 c16) T := ⟨_, rfl, (Below.refl w.heap.size w).alloc (Nat.le_refl _) _, heap_alloc_last w _⟩
theorem bx_next {wa u u2 : World} {b : Nat} {L : List Value} {T : TypeId} (h : BxAt u b L T ∧ Below wa.heap.size wa u) (hb : Below u.heap.size u u2) : BxAt u2 b L T ∧ Below wa.heap.size wa u2 := ⟨h.1.keep hb, h.2.trans (hb.mono h.2.size)⟩
/-- A call's answer behind W, whatever is laid meanwhile. -/
def Tst (W : World) (f : FuncId) (args : Array Value) (v : Value) : Prop := ∀ u : World, Below W.heap.size W u → Calls Try.prog f args u fun e w' => e = .returned v ∧ Below u.heap.size u w'
theorem Tst.up {W wa : World} {f : FuncId} {args : Array Value} {v : Value} (h : Tst W f args v) (hw : Below W.heap.size W wa) : Tst wa f args v := fun u hu => h u (hw.trans (hu.mono hw.size))
end Go.Proofs.Ytfjcpghepkmbfaa

/- The program's small tests of messages. -/
namespace Go.Proofs.Ytfjcpghepkmbfaa
open Go.RowKit
set_option maxRecDepth 100000 in
set_option maxHeartbeats 3200000 in
theorem iplaced_any (m : Ms) (h0 : 0 ≤ m.ep) (h1 : m.ep ≤ 60) (v13 v14 v15 v16 : Value) (w : World) :
    Calls Try.prog 30 #[.agg #[.int .i64 m.k, .int .i64 m.ep, .int .i64 m.v, .int .i64 m.sl, .int .i64 m.rq.c, .int .i64 m.rq.st, .int .i64 m.rq.k, .string m.rq.key, .float .f64 m.rq.b, .int .i64 m.rq.id, .int .i64 m.rs.1, .float .f64 m.rs.2, .string m.tx, v13, v14, v15, v16]] w fun e w' => e = .returned (.bool (placeB m)) ∧ Below w.heap.size w w' := by
  have H0 : Hid (BxAt (w.alloc (.cells #[.int .i64 m.k, .int .i64 m.ep, .int .i64 m.v, .int .i64 m.sl, .int .i64 m.rq.c, .int .i64 m.rq.st, .int .i64 m.rq.k, .string m.rq.key, .float .f64 m.rq.b, .int .i64 m.rq.id, .int .i64 m.rs.1, .float .f64 m.rs.2, .string m.tx, v13, v14, v15, v16] 34)) w.heap.size [.int .i64 m.k, .int .i64 m.ep, .int .i64 m.v, .int .i64 m.sl, .int .i64 m.rq.c, .int .i64 m.rq.st, .int .i64 m.rq.k, .string m.rq.key, .float .f64 m.rq.b, .int .i64 m.rq.id, .int .i64 m.rs.1, .float .f64 m.rs.2, .string m.tx, v13, v14, v15, v16] 34 ∧ Below w.heap.size w (w.alloc (.cells #[.int .i64 m.k, .int .i64 m.ep, .int .i64 m.v, .int .i64 m.sl, .int .i64 m.rq.c, .int .i64 m.rq.st, .int .i64 m.rq.k, .string m.rq.key, .float .f64 m.rq.b, .int .i64 m.rq.id, .int .i64 m.rs.1, .float .f64 m.rs.2, .string m.tx, v13, v14, v15, v16] 34))) := hid ⟨heap_alloc_last w _, (Below.refl w.heap.size w).alloc (Nat.le_refl _) _⟩
  have y0 := H0.out.1.cell 0 _ rfl; have y1 := H0.out.1.cell 1 _ rfl; have y2 := H0.out.1.cell 2 _ rfl; have y3 := H0.out.1.cell 3 _ rfl; have y4 := H0.out.1.cell 4 _ rfl; have y5 := H0.out.1.cell 5 _ rfl; have y6 := H0.out.1.cell 6 _ rfl; have y7 := H0.out.1.cell 7 _ rfl; have y8 := H0.out.1.cell 8 _ rfl; have y9 := H0.out.1.cell 9 _ rfl; have y10 := H0.out.1.cell 10 _ rfl; have y11 := H0.out.1.cell 11 _ rfl; have y12 := H0.out.1.cell 12 _ rfl; have y13 := H0.out.1.cell 13 _ rfl; have y14 := H0.out.1.cell 14 _ rfl; have y15 := H0.out.1.cell 15 _ rfl; have y16 := H0.out.1.cell 16 _ rfl
  obtain ⟨B1, e1⟩ : ∃ B, B = inB m.v 0 15 := ⟨_, rfl⟩
  have HT1 : Hid (∀ u : World, Below w.heap.size w u → Calls Try.prog 57 #[.int .i64 m.v] u fun e w' => e = .returned (.bool B1) ∧ Below u.heap.size u w') := hid (fun u hu => by rw [e1]; exact (iview_any _ u).mono fun e w' ⟨h1, h2⟩ => ⟨h1, by rw [h2]; exact Below.refl _ _⟩)
  obtain ⟨B2, e2⟩ : ∃ B, B = ofB m.ep m.sl := ⟨_, rfl⟩
  have HT2 : Hid (∀ u : World, Below w.heap.size w u → Calls Try.prog 58 #[.int .i64 m.ep, .int .i64 m.sl] u fun e w' => e = .returned (.bool B2) ∧ Below u.heap.size u w') := hid (fun u hu => by rw [e2]; exact (iof_any m.ep _ h0 h1 u).mono fun e w' ⟨h1, h2⟩ => ⟨h1, by rw [h2]; exact Below.refl _ _⟩)
  rw [show placeB m = (B1 && B2) by rw [e1, e2]; rfl]
  clear e1 e2 h0 h1
  cases B1 with
  | false =>
    go_enter Try.func30, Try.ntmps30
    go_wp2_with (first
      | (have := H0; go_at_call 57; refine (HT1.out _ H0.out.2).mono ?_; rintro e w1 ⟨rfl, hb⟩; have H1 := hid (And.intro (H0.out.1.keep hb) (H0.out.2.trans (hb.mono H0.out.2.size))); clear hb y0 y1 y2 y3 y4 y5 y6 y7 y8 y9 y10 y11 y12 y13 y14 y15 y16; have y0 := H1.out.1.cell 0 _ rfl; have y1 := H1.out.1.cell 1 _ rfl; have y2 := H1.out.1.cell 2 _ rfl; have y3 := H1.out.1.cell 3 _ rfl; have y4 := H1.out.1.cell 4 _ rfl; have y5 := H1.out.1.cell 5 _ rfl; have y6 := H1.out.1.cell 6 _ rfl; have y7 := H1.out.1.cell 7 _ rfl; have y8 := H1.out.1.cell 8 _ rfl; have y9 := H1.out.1.cell 9 _ rfl; have y10 := H1.out.1.cell 10 _ rfl; have y11 := H1.out.1.cell 11 _ rfl; have y12 := H1.out.1.cell 12 _ rfl; have y13 := H1.out.1.cell 13 _ rfl; have y14 := H1.out.1.cell 14 _ rfl; have y15 := H1.out.1.cell 15 _ rfl; have y16 := H1.out.1.cell 16 _ rfl))
    go_ret
    exact ⟨by simp, H1.out.2⟩
  | true =>
    cases B2 with
    | false =>
      go_enter Try.func30, Try.ntmps30
      go_wp2_with (first
        | (have := H1; go_at_call 58; refine (HT2.out _ H1.out.2).mono ?_; rintro e w2 ⟨rfl, hb⟩; have H2 := hid (And.intro (H1.out.1.keep hb) (H1.out.2.trans (hb.mono H1.out.2.size))); clear hb y0 y1 y2 y3 y4 y5 y6 y7 y8 y9 y10 y11 y12 y13 y14 y15 y16; have y0 := H2.out.1.cell 0 _ rfl; have y1 := H2.out.1.cell 1 _ rfl; have y2 := H2.out.1.cell 2 _ rfl; have y3 := H2.out.1.cell 3 _ rfl; have y4 := H2.out.1.cell 4 _ rfl; have y5 := H2.out.1.cell 5 _ rfl; have y6 := H2.out.1.cell 6 _ rfl; have y7 := H2.out.1.cell 7 _ rfl; have y8 := H2.out.1.cell 8 _ rfl; have y9 := H2.out.1.cell 9 _ rfl; have y10 := H2.out.1.cell 10 _ rfl; have y11 := H2.out.1.cell 11 _ rfl; have y12 := H2.out.1.cell 12 _ rfl; have y13 := H2.out.1.cell 13 _ rfl; have y14 := H2.out.1.cell 14 _ rfl; have y15 := H2.out.1.cell 15 _ rfl; have y16 := H2.out.1.cell 16 _ rfl)
        | (have := H0; go_at_call 57; refine (HT1.out _ H0.out.2).mono ?_; rintro e w1 ⟨rfl, hb⟩; have H1 := hid (And.intro (H0.out.1.keep hb) (H0.out.2.trans (hb.mono H0.out.2.size))); clear hb y0 y1 y2 y3 y4 y5 y6 y7 y8 y9 y10 y11 y12 y13 y14 y15 y16; have y0 := H1.out.1.cell 0 _ rfl; have y1 := H1.out.1.cell 1 _ rfl; have y2 := H1.out.1.cell 2 _ rfl; have y3 := H1.out.1.cell 3 _ rfl; have y4 := H1.out.1.cell 4 _ rfl; have y5 := H1.out.1.cell 5 _ rfl; have y6 := H1.out.1.cell 6 _ rfl; have y7 := H1.out.1.cell 7 _ rfl; have y8 := H1.out.1.cell 8 _ rfl; have y9 := H1.out.1.cell 9 _ rfl; have y10 := H1.out.1.cell 10 _ rfl; have y11 := H1.out.1.cell 11 _ rfl; have y12 := H1.out.1.cell 12 _ rfl; have y13 := H1.out.1.cell 13 _ rfl; have y14 := H1.out.1.cell 14 _ rfl; have y15 := H1.out.1.cell 15 _ rfl; have y16 := H1.out.1.cell 16 _ rfl))
      go_ret
      exact ⟨by simp, H2.out.2⟩
    | true =>
      go_enter Try.func30, Try.ntmps30
      go_wp2_with (first
        | (have := H1; go_at_call 58; refine (HT2.out _ H1.out.2).mono ?_; rintro e w2 ⟨rfl, hb⟩; have H2 := hid (And.intro (H1.out.1.keep hb) (H1.out.2.trans (hb.mono H1.out.2.size))); clear hb y0 y1 y2 y3 y4 y5 y6 y7 y8 y9 y10 y11 y12 y13 y14 y15 y16; have y0 := H2.out.1.cell 0 _ rfl; have y1 := H2.out.1.cell 1 _ rfl; have y2 := H2.out.1.cell 2 _ rfl; have y3 := H2.out.1.cell 3 _ rfl; have y4 := H2.out.1.cell 4 _ rfl; have y5 := H2.out.1.cell 5 _ rfl; have y6 := H2.out.1.cell 6 _ rfl; have y7 := H2.out.1.cell 7 _ rfl; have y8 := H2.out.1.cell 8 _ rfl; have y9 := H2.out.1.cell 9 _ rfl; have y10 := H2.out.1.cell 10 _ rfl; have y11 := H2.out.1.cell 11 _ rfl; have y12 := H2.out.1.cell 12 _ rfl; have y13 := H2.out.1.cell 13 _ rfl; have y14 := H2.out.1.cell 14 _ rfl; have y15 := H2.out.1.cell 15 _ rfl; have y16 := H2.out.1.cell 16 _ rfl)
        | (have := H0; go_at_call 57; refine (HT1.out _ H0.out.2).mono ?_; rintro e w1 ⟨rfl, hb⟩; have H1 := hid (And.intro (H0.out.1.keep hb) (H0.out.2.trans (hb.mono H0.out.2.size))); clear hb y0 y1 y2 y3 y4 y5 y6 y7 y8 y9 y10 y11 y12 y13 y14 y15 y16; have y0 := H1.out.1.cell 0 _ rfl; have y1 := H1.out.1.cell 1 _ rfl; have y2 := H1.out.1.cell 2 _ rfl; have y3 := H1.out.1.cell 3 _ rfl; have y4 := H1.out.1.cell 4 _ rfl; have y5 := H1.out.1.cell 5 _ rfl; have y6 := H1.out.1.cell 6 _ rfl; have y7 := H1.out.1.cell 7 _ rfl; have y8 := H1.out.1.cell 8 _ rfl; have y9 := H1.out.1.cell 9 _ rfl; have y10 := H1.out.1.cell 10 _ rfl; have y11 := H1.out.1.cell 11 _ rfl; have y12 := H1.out.1.cell 12 _ rfl; have y13 := H1.out.1.cell 13 _ rfl; have y14 := H1.out.1.cell 14 _ rfl; have y15 := H1.out.1.cell 15 _ rfl; have y16 := H1.out.1.cell 16 _ rfl))
      go_ret
      exact ⟨by simp, H2.out.2⟩
/-- Does the set hold this one? -/
def setB (f one : Int) : Bool := bits BinOp.and IntKind.i64 f one != 0
theorem ihas_any (f one : Int) (w : World) : Calls Try.prog 53 #[.int .i64 f, .int .i64 one] w fun e w' => e = .returned (.bool (setB f one)) ∧ w' = w := by
  go_enter Try.func53, Try.ntmps53
  go_wp2
  go_ret
  exact ⟨rfl, rfl⟩
end Go.Proofs.Ytfjcpghepkmbfaa
