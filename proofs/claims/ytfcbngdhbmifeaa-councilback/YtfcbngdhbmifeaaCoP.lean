/- The program's council: what each call answers. -/
import Derived.Test.YtfcbngdhbmifeaaCoU
import Derived.Test.YtfcbngdhbmifeaaCoE
namespace Go.Proofs.Ytfcbngdhbmifeaa
open Go.RowKit

theorem cfaults_same (n : Int) (hn : n ≤ 9223372036854775807) (w : World) : Calls Try.prog 10 #[.int .i64 n] w fun e w' => e = .returned (.int .i64 (fltZ n)) ∧ w' = w := by
  by_cases h : n < 1
  · rw [fltZ_lo h]
    go_enter Try.func10, Try.ntmps10
    go_wp2
    go_ret
    exact ⟨rfl, rfl⟩
  · have HF : Hid (fltZ n = (n - 1) / 3) := hid (fltZ_hi h)
    rw [HF.out]
    go_enter Try.func10, Try.ntmps10
    go_wp2
    go_ret
    exact ⟨rfl, rfl⟩
theorem cfaults_any (n : Int) (hn : n ≤ 9223372036854775807) (w : World) : Calls Try.prog 10 #[.int .i64 n] w fun e w' => e = .returned (.int .i64 (fltZ n)) ∧ Below w.heap.size w w' :=
  (cfaults_same n hn w).mono fun _ _ ⟨h1, h2⟩ => ⟨h1, by rw [h2]; exact Below.refl _ _⟩
theorem cweak_any (n : Int) (hn : n ≤ 9223372036854775807) (w : World) : Calls Try.prog 14 #[.int .i64 n] w fun e w' => e = .returned (.int .i64 (wekZ n)) ∧ Below w.heap.size w w' := by
  have HC : Hid (∀ u : World, Calls Try.prog 10 #[.int .i64 n] u fun e w' => e = .returned (.int .i64 (fltZ n)) ∧ w' = u) := hid (cfaults_same n hn)
  by_cases h : n < 1
  · rw [wekZ_lo h]
    go_enter Try.func14, Try.ntmps14
    go_wp2
    go_ret
    exact ⟨rfl, Below.refl _ _⟩
  · rw [wekZ_hi h]
    have hf := fltZ_le h
    generalize fltZ n = f at HC hf ⊢
    have h1 : 0 ≤ f := hf.1
    have h2 : f ≤ 4000000000000000000 := by omega
    clear hf
    go_enter Try.func14, Try.ntmps14
    go_wp2_with (go_at_call 10; refine (HC.out _).mono ?_; rintro e wx ⟨rfl, rfl⟩)
    go_ret
    exact ⟨rfl, Below.refl _ _⟩
theorem cquorum_any (n : Int) (hn : n ≤ 9223372036854775807) (w : World) : Calls Try.prog 12 #[.int .i64 n] w fun e w' => e = .returned (.int .i64 (quoZ n)) ∧ Below w.heap.size w w' := by
  have HC : Hid (∀ u : World, Calls Try.prog 10 #[.int .i64 n] u fun e w' => e = .returned (.int .i64 (fltZ n)) ∧ w' = u) := hid (cfaults_same n hn)
  by_cases h : n < 1
  · rw [quoZ_lo h]
    go_enter Try.func12, Try.ntmps12
    go_wp2
    go_ret
    exact ⟨rfl, Below.refl _ _⟩
  · rw [quoZ_hi h]
    have hf := fltZ_le h
    generalize fltZ n = f at HC hf ⊢
    have h1 : 0 ≤ f := hf.1
    have h2 : f ≤ 4000000000000000000 := by omega
    have h3 : f ≤ n := by omega
    have HQ : Hid ((n + f) / 2 + 1 = f + (n - f) / 2 + 1) := hid (by omega)
    rw [HQ.out]
    clear hf
    go_enter Try.func12, Try.ntmps12
    go_wp2_with (go_at_call 10; refine (HC.out _).mono ?_; rintro e wx ⟨rfl, rfl⟩)
    go_ret
    exact ⟨rfl, Below.refl _ _⟩
set_option maxRecDepth 100000 in
set_option maxHeartbeats 1600000 in
theorem cright_any (ep : Int) (a : Option Addr) (n cap : Nat) (l : List Int) (hn : l.length = n) (hm : n ≤ maxLen) (w : World) (hI : IntsIn w a l) :
    Calls Try.prog 17 #[.agg #[.int .i64 ep, .slice a n cap]] w fun e w' => e = .returned (.bool (rightC ep l)) ∧ Below w.heap.size w w' := by
  by_cases h0 : 0 ≤ ep
  · by_cases h60 : ep ≤ 60
    · have HM : Hid (∀ u : World, IntsIn u a l → Calls Try.prog 28 #[.slice a n cap] u fun e w' => e = .returned (.bool (memB l)) ∧ Below u.heap.size u w') := hid (fun u hu => careRight_any a n cap l hn hm u hu)
      have HR : Hid (rightC ep l = memB l) := hid (by rw [rightC, decide_eq_true (And.intro h0 h60)]; rfl)
      have HI := hid hI
      rw [HR.out]
      generalize memB l = b at HM
      clear hI hn hm
      go_enter Try.func17, Try.ntmps17
      go_wp2_with (go_at_call 28; refine (HM.out _ (by exact HI.out.alloc _)).mono ?_; rintro e w1 ⟨rfl, hb1⟩; have H1 := hid (((Below.refl w.heap.size w).alloc (Nat.le_refl _) _).trans (hb1.mono (by simp))); clear hb1)
      go_ret
      exact ⟨rfl, H1.out⟩
    · have HR : Hid (rightC ep l = false) := hid (by rw [rightC, decide_eq_false (fun h => h60 h.2)]; rfl)
      rw [HR.out]
      clear hI hn hm
      go_enter Try.func17, Try.ntmps17
      go_wp2
      go_ret
      exact ⟨rfl, (Below.refl _ _).alloc (Nat.le_refl _) _⟩
  · have HR : Hid (rightC ep l = false) := hid (by rw [rightC, decide_eq_false (fun h => h0 h.1)]; rfl)
    rw [HR.out]
    clear hI hn hm
    go_enter Try.func17, Try.ntmps17
    go_wp2
    go_ret
    exact ⟨rfl, (Below.refl _ _).alloc (Nat.le_refl _) _⟩
theorem chas_any (ep : Int) (a : Option Addr) (n cap : Nat) (l : List Int) (hn : l.length = n) (hm : n ≤ maxLen) (id : Int) (w : World) (hI : IntsIn w a l) :
    Calls Try.prog 19 #[.agg #[.int .i64 ep, .slice a n cap], .int .i64 id] w fun e w' => e = .returned (.bool (hasM l id)) ∧ Below w.heap.size w w' := by
  have HC := hid (fun u (hu : IntsIn u a l) => contains_any a n cap l hn hm id u hu)
  have HI := hid hI
  clear hI hn hm
  go_enter Try.func19, Try.ntmps19
  go_wp2_with (go_at_call 30; refine (HC.out _ (by first | exact HI.out.alloc _ | exact HI.out)).mono ?_; rintro e w1 ⟨rfl, rfl⟩)
  go_ret
  exact ⟨rfl, by first | exact Below.refl _ _ | exact ((Below.refl w.heap.size w).alloc (Nat.le_refl _) _)⟩
set_option maxRecDepth 100000 in
set_option maxHeartbeats 1600000 in
theorem cprimary_any (ep : Int) (a : Option Addr) (n cap : Nat) (l : List Int) (hn : l.length = n) (hm : n ≤ maxLen) (view : Int) (w : World) (hI : IntsIn w a l) :
    Calls Try.prog 21 #[.agg #[.int .i64 ep, .slice a n cap], .int .i64 view] w fun e w' => e = .returned (.tuple #[.int .i64 (leadZ ep l view), .bool (leads ep l view)]) ∧ Below w.heap.size w w' := by
  have HR : Hid (∀ (b : Bool), rightC ep l = b → ∀ u : World, IntsIn u a l → Calls Try.prog 17 #[.agg #[.int .i64 ep, .slice a n cap]] u fun e w' => e = .returned (.bool b) ∧ Below u.heap.size u w') := hid (fun b hb u hu => by rw [← hb]; exact cright_any ep a n cap l hn hm u hu)
  have HI := hid hI
  have HN := hid hn
  clear hI hm hn
  cases hr : rightC ep l with
  | false =>
    have hl : leads ep l view = false := by rw [leads, hr]; rfl
    rw [hl, show leadZ ep l view = 0 by rw [leadZ, hl]; rfl]
    have HRb := hid (HR.out false hr)
    clear hr hl
    go_enter Try.func21, Try.ntmps21
    go_wp2_with (go_at_call 17; refine (HRb.out _ (by exact HI.out.alloc _)).mono ?_; rintro e w1 ⟨rfl, hb1⟩; have H1 := hid (((Below.refl w.heap.size w).alloc (Nat.le_refl _) _).trans (hb1.mono (by simp))); clear hb1)
    go_ret2
    exact ⟨rfl, H1.out⟩
  | true =>
    have HRb := hid (HR.out true hr)
    by_cases hv : view < 0
    · have hl : leads ep l view = false := by rw [leads, decide_eq_false (by omega)]; simp
      rw [hl, show leadZ ep l view = 0 by rw [leadZ, hl]; rfl]
      clear hr hl
      go_enter Try.func21, Try.ntmps21
      go_wp2_with (go_at_call 17; refine (HRb.out _ (by exact HI.out.alloc _)).mono ?_; rintro e w1 ⟨rfl, hb1⟩; have H1 := hid (((Below.refl w.heap.size w).alloc (Nat.le_refl _) _).trans (hb1.mono (by simp))); clear hb1)
      go_ret2
      exact ⟨rfl, H1.out⟩
    · have hl : leads ep l view = true := by rw [leads, hr, decide_eq_true (by omega)]; rfl
      have hml := mem_len (right_mem hr).2
      obtain ⟨hq, hmod⟩ := leadN_lt l view (by omega)
      obtain ⟨x, ex⟩ : ∃ x, x = leadZ ep l view := ⟨_, rfl⟩
      have ex2 : x = l.getD (leadN l view) 0 := by rw [ex, leadZ, hl]; rfl
      rw [hl, ← ex]
      generalize leadN l view = q at hq hmod ex2
      have hget : l[q]? = some x := by rw [ex2]; exact getD_some hq
      obtain ⟨g, off, rfl, hg, hc⟩ := HI.out.at q x hget
      rw [HN.out] at hmod hq hml
      have hn1 : (4 : Int) ≤ (n : Int) := by omega
      have hn2 : (n : Int) ≤ 10 := by omega
      have hn0 : ¬ (n = 0) := by omega
      have hv0 : 0 ≤ view := by omega
      have hq1 : (q : Int) < (n : Int) := by omega
      have hq0 : (0 : Int) ≤ (q : Int) := Int.natCast_nonneg _
      have HC := hid (And.intro hg hc)
      clear hr hl hml hq ex ex2 hget hg hc hv
      go_enter Try.func21, Try.ntmps21
      go_wp2_with (go_at_call 17; refine (HRb.out _ (by exact HI.out.alloc _)).mono ?_; rintro e w1 ⟨rfl, hb1⟩
                   have c0 : w1.cell? ⟨w.heap.size, 0, none⟩ = some (.int .i64 ep) := (hb1.cell (p := ⟨w.heap.size, 0, none⟩) (by simp)).trans (cell_at (conf_cells w _ _) 0 _ rfl)
                   have c1 : w1.cell? ⟨w.heap.size, 1, none⟩ = some (.slice (some ⟨g, off, none⟩) n cap) := (hb1.cell (p := ⟨w.heap.size, 1, none⟩) (by simp)).trans (cell_at (conf_cells w _ _) 1 _ rfl)
                   have H1 := hid (((Below.refl w.heap.size w).alloc (Nat.le_refl _) _).trans (hb1.mono (by simp)))
                   have c2 : w1.cell? ⟨g, off + q, none⟩ = some (.int .i64 x) := (H1.out.cell (p := ⟨g, off + q, none⟩) HC.out.1).trans HC.out.2
                   clear hb1)
      go_quiet (fail)
      go_wp2
      go_ret2
      exact ⟨rfl, H1.out.trans ⟨rfl, rfl, rfl, Nat.le_refl _, fun _ _ => rfl⟩⟩
end Go.Proofs.Ytfcbngdhbmifeaa
