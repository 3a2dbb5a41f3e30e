/- CouncilLeads: the walk. -/
import Derived.Test.YtfcbngdhbmifeaaCoL
namespace Go.Proofs.Ytfcbngdhbmifeaa
open Go.RowKit

theorem Try.info4 : (Try.prog.info? 4).map (fun i => (i.zero, i.size, i.bytes)) = some (some (.bool false), 1, 1) := by kernel_rfl
theorem run_make16 (u : World) : (Instr.makeSlice 36 (.int .i64 16) (.int .i64 16)).run Try.prog u = .ok (.slice (some ⟨u.heap.size, 0, none⟩) 16 16) (u.alloc (.cells (madeCells #[.bool false] 16) 4)) := by
  obtain ⟨i0, hi0, hz0, hz1, hz2⟩ := info_parts Try.info4
  have h := run_make (P := Try.prog) u 36 4 i0 (.bool false) Try.underlying36 hi0 hz0 .i64 .i64 16 16 (by omega) (by omega) (by rw [hz2]; omega) (by omega)
  rw [hz1] at h
  exact h
/-- Who has led so far. -/
def ledL (P : Nat → Nat) : Nat → List Bool
  | 0 => List.replicate 16 false
  | i + 1 => (ledL P i).set (P i) true
def bV (l : List Bool) : List Value := l.map .bool
theorem ledL_len (P : Nat → Nat) : ∀ i, (ledL P i).length = 16
  | 0 => List.length_replicate
  | i + 1 => by rw [ledL, List.length_set, ledL_len P i]
theorem ledL_free (P : Nat → Nat) (z : Nat) (hz : z < 16) : ∀ i, (∀ k, k < i → P k ≠ z) → (ledL P i)[z]? = some false
  | 0, _ => by rw [ledL, List.getElem?_replicate, if_pos hz]
  | i + 1, h => by
    rw [ledL, List.getElem?_set_ne (h i (by omega))]
    exact ledL_free P z hz i (fun k hk => h k (by omega))
theorem bV_zero (P : Nat → Nat) : madeCells #[.bool false] 16 = (bV (ledL P 0)).toArray := by
  apply Array.ext'
  rw [toList_madeCells_one]
  show _ = bV (ledL P 0)
  rw [bV, ledL, List.map_replicate]
theorem bV_set (l : List Bool) (j : Nat) : (bV l).toArray.setIfInBounds j (.bool true) = (bV (l.set j true)).toArray := by
  apply Array.ext'
  rw [Array.toList_setIfInBounds]
  show (bV l).set j (.bool true) = bV (l.set j true)
  rw [bV, bV, List.map_set]
theorem mod_apart (v : Int) (n k j : Nat) (hk : k < j) (hj : j < n) : (v + (k : Int)) % (n : Int) ≠ (v + (j : Int)) % (n : Int) := by
  intro h
  have h1 := Int.emod_add_mul_ediv (v + (k : Int)) (n : Int)
  have h2 := Int.emod_add_mul_ediv (v + (j : Int)) (n : Int)
  generalize (v + (k : Int)) / (n : Int) = a at h1
  generalize (v + (j : Int)) / (n : Int) = b at h2
  rw [h] at h1
  have h3 : (n : Int) * (b - a) = (j : Int) - (k : Int) := by rw [Int.mul_sub]; omega
  rcases Int.lt_or_le a b with hab | hab
  · have := Int.mul_le_mul_of_nonneg_left (show (1 : Int) ≤ b - a by omega) (show (0 : Int) ≤ (n : Int) by omega)
    omega
  · have := Int.mul_le_mul_of_nonneg_left (show b - a ≤ (0 : Int) by omega) (show (0 : Int) ≤ (n : Int) by omega)
    omega
/-- One behind the other, each leads once. -/
theorem lead_facts (ep : Int) (l : List Int) (view : Int) (h : leads ep l view = true) (j : Nat) (hj : j < l.length) :
    leads ep l (view + (j : Int)) = true ∧ (0 ≤ leadZ ep l (view + (j : Int)) ∧ leadZ ep l (view + (j : Int)) < 16) ∧ hasM l (leadZ ep l (view + (j : Int))) = true ∧
      ∀ k, k < j → (leadZ ep l (view + (k : Int))).toNat ≠ (leadZ ep l (view + (j : Int))).toNat := by
  obtain ⟨hr, hv⟩ := Bool.and_eq_true_iff.1 h
  have hv0 : 0 ≤ view := of_decide_eq_true hv
  have hmem := (right_mem hr).2
  have hy : ∀ k : Nat, leads ep l (view + (k : Int)) = true := fun k => by rw [leads, hr, decide_eq_true (show 0 ≤ view + (k : Int) by omega)]; rfl
  have hz : ∀ k : Nat, leadZ ep l (view + (k : Int)) = l.getD (leadN l (view + (k : Int))) 0 := fun k => by rw [leadZ, hy k]; rfl
  have hlt : ∀ k : Nat, leadN l (view + (k : Int)) < l.length ∧ (view + (k : Int)) % (l.length : Int) = (leadN l (view + (k : Int)) : Int) := fun k => leadN_lt l _ (by omega)
  refine ⟨hy j, ?_, ?_, ?_⟩
  · rw [hz j]; exact mem_range hmem _ (hlt j).1
  · rw [hz j]; exact decide_eq_true (mem_of_get rfl (hlt j).1)
  · intro k hk he
    have e1 := mem_range hmem _ (hlt k).1
    have e2 := mem_range hmem _ (hlt j).1
    rw [hz k, hz j] at he
    have e3 : l.getD (leadN l (view + (k : Int))) 0 = l.getD (leadN l (view + (j : Int))) 0 := by omega
    have hne : leadN l (view + (k : Int)) ≠ leadN l (view + (j : Int)) := fun hh => mod_apart view l.length k j hk hj (by rw [(hlt k).2, (hlt j).2, hh])
    have hinc := List.pairwise_iff_getElem.1 (mem_inc hmem)
    rw [getD_get _ _ (hlt k).1, getD_get _ _ (hlt j).1] at e3
    rcases Nat.lt_or_ge (leadN l (view + (k : Int))) (leadN l (view + (j : Int))) with h1 | h1
    · have := hinc _ _ (hlt k).1 (hlt j).1 h1; omega
    · have := hinc _ _ (hlt j).1 (hlt k).1 (by omega); omega
/-- The list of who has led lies at g, all that was there before w0's last is as it was. -/
structure LdSt (w0 w : World) (l : List Bool) : Prop where
  at_ : w.heap[w0.heap.size]? = some (.cells (bV l).toArray 4 (0, 0))
  bel : Below w0.heap.size w0 w
theorem LdSt.keep {w0 w w' : World} {l : List Bool} (h : LdSt w0 w l) (hb : Below w.heap.size w w') : LdSt w0 w' l := ⟨(hb.block _ (lt_of_blk h.at_)).trans h.at_, h.bel.trans (hb.mono h.bel.size)⟩
theorem LdSt.get {w0 w : World} {l : List Bool} (h : LdSt w0 w l) (z : Nat) (b : Bool) (hz : l[z]? = some b) : w.cell? ⟨w0.heap.size, z, none⟩ = some (.bool b) := cell_at h.at_ z _ (by rw [bV, List.getElem?_map, hz]; rfl)
theorem LdSt.free {w0 w : World} {l : List Bool} (h : LdSt w0 w l) (z : Nat) : w.frozen? ⟨w0.heap.size, z, none⟩ = false := by simp [World.frozen?, h.at_]
theorem LdSt.put {w0 w : World} {l : List Bool} (h : LdSt w0 w l) (z : Nat) : LdSt w0 (w.setCell ⟨w0.heap.size, z, none⟩ (.bool true)) (l.set z true) :=
  ⟨(blk_set h.at_ z _).trans (by rw [bV_set]), h.bel.setCell (p := ⟨w0.heap.size, z, none⟩) (Nat.le_refl _) _⟩
set_option maxRecDepth 100000 in
set_option maxHeartbeats 3200000 in
theorem cleads_yes (ep : Int) (a : Option Addr) (n cap : Nat) (l : List Int) (hn : l.length = n) (hm : n ≤ maxLen) (view : Int) (w : World) (hI : IntsIn w a l) (hl : leads ep l view = true) (hv : view ≤ 1073741824) :
    Calls Try.prog 6 #[.agg #[.int .i64 ep, .slice a n cap], .int .i64 view] w fun e w' => e = .returned (.bool true) ∧ Below w.heap.size w w' := by
  obtain ⟨p, ep1⟩ : ∃ p, p = leadZ ep l view := ⟨_, rfl⟩
  have HC : Hid (∀ u : World, IntsIn u a l → Calls Try.prog 21 #[.agg #[.int .i64 ep, .slice a n cap], .int .i64 view] u fun e w' => e = .returned (.tuple #[.int .i64 p, .bool true]) ∧ Below u.heap.size u w') := hid (fun u hu => by have := cprimary_any ep a n cap l hn hm view u hu; rwa [hl, ← ep1] at this)
  have HV : Hid (∀ u : World, IntsIn u a l → Calls Try.prog 22 #[.agg #[.int .i64 ep, .slice a n cap], .int .i64 view] u fun e w' => e = .returned (.tuple #[.int .i64 p, .bool true]) ∧ Below u.heap.size u w') := hid (fun u hu => by have := vprimary_any ep a n cap l hn hm view u hu; rwa [hl, ← ep1] at this)
  have HF := hid (conf_cells w (.int .i64 ep) (.slice a n cap))
  have HI := hid (hI.alloc (.cells #[.int .i64 ep, .slice a n cap] 30))
  have HMk := hid run_make16
  have HLf := hid (fun (j : Nat) (hj : j < n) => lead_facts ep l view hl j (by rw [hn]; exact hj))
  have HPj := hid (fun (j : Nat) (hj : j < n) (u : World) (hu : IntsIn u a l) => show Calls Try.prog 21 #[.agg #[.int .i64 ep, .slice a n cap], .int .i64 (view + (j : Int))] u fun e w' => e = .returned (.tuple #[.int .i64 (leadZ ep l (view + (j : Int))), .bool true]) ∧ Below u.heap.size u w' from by
    have := cprimary_any ep a n cap l hn hm (view + (j : Int)) u hu
    rwa [(HLf.out j hj).1] at this)
  have HHs := hid (fun (z : Int) (hz : hasM l z = true) (u : World) (hu : IntsIn u a l) => show Calls Try.prog 19 #[.agg #[.int .i64 ep, .slice a n cap], .int .i64 z] u fun e w' => e = .returned (.bool true) ∧ Below u.heap.size u w' from by
    have := chas_any ep a n cap l hn hm z u hu
    rwa [hz] at this)
  have hv0 : 0 ≤ view := of_decide_eq_true (Bool.and_eq_true_iff.1 hl).2
  have hn10 : n ≤ 10 := by rw [← hn]; exact (mem_len (right_mem (Bool.and_eq_true_iff.1 hl).1).2).2
  clear hI ep1 hn hm hl
  go_enter Try.func6, Try.ntmps6
  go_wp2_with (first
    | (go_at_call 9; refine (clives_any _).mono ?_; rintro e w1 ⟨rfl, hb1⟩; have H1 := hid hb1; clear hb1; obtain ⟨c1, d1⟩ := conf_stay HF.out H1.out (by simp))
    | (go_at_call 21; refine (HC.out _ (HI.out.keep H1.out (Nat.le_refl _))).mono ?_; rintro e w2 ⟨rfl, hb2⟩; have H2 := hid (H1.out.trans (hb2.mono H1.out.size)); clear hb2 c1 d1; obtain ⟨c1, d1⟩ := conf_stay HF.out H2.out (by simp))
    | (go_at_call 22; refine (HV.out _ (HI.out.keep H2.out (Nat.le_refl _))).mono ?_; rintro e w3 ⟨rfl, hb3⟩; have H3 := hid (H2.out.trans (hb3.mono H2.out.size)); clear hb3 c1 d1; obtain ⟨c1, d1⟩ := conf_stay HF.out H3.out (by simp))
    | rw [HMk.out])
  obtain ⟨P, eP⟩ : ∃ P : Nat → Nat, P = (fun (k : Nat) => (leadZ ep l (view + (k : Int))).toNat) := ⟨_, rfl⟩
  have HS : Hid (LdSt w3 (w3.alloc (.cells (madeCells #[.bool false] 16) 4)) (ledL P 0)) := hid ⟨(heap_alloc_last w3 _).trans (by rw [bV_zero P]), (Below.refl _ _).alloc (Nat.le_refl _) _⟩
  have HEP := hid eP
  clear eP c1 d1
  go_loopw [10] (fun i wr => ∃ j : Nat, j ≤ n ∧ i = .int .i64 (j : Int) ∧ LdSt w3 wr (ledL P j))
    (fun i _ => ((n : Int) - intOf i).toNat)
  case atStart => exact ⟨0, by omega, rfl, HS.out⟩
  case round =>
    obtain ⟨j, hj, rfl, hst⟩ := hrel
    have HT := hid hst
    have HB := hid (H3.out.trans (hst.bel.mono H3.out.size))
    clear hst
    obtain ⟨c1, d1⟩ := conf_stay HF.out HB.out (by simp)
    by_cases hjn : j = n
    · have hj1 : ¬ ((j : Int) < (n : Int)) := by omega
      clear hj hjn
      go_wp2
      go_ret
      exact ⟨rfl, ((Below.refl w.heap.size w).alloc (Nat.le_refl _) _).trans (HB.out.mono (by simp))⟩
    · have hj1 : (j : Int) < (n : Int) := by omega
      have hj0 : (0 : Int) ≤ (j : Int) := Int.natCast_nonneg _
      have hj10 : (j : Int) ≤ 10 := by omega
      have hjn' : j < n := by omega
      obtain ⟨q0, ⟨q1, q2⟩, q3, q4⟩ := HLf.out j hjn'
      have HP := hid (HPj.out j hjn')
      have HE := hid (show P j = (leadZ ep l (view + (j : Int))).toNat by rw [HEP.out])
      have HQ := hid (fun k (hk : k < j) => show P k ≠ P j by rw [HEP.out]; exact q4 k hk)
      have HH := hid (HHs.out _ q3)
      generalize leadZ ep l (view + (j : Int)) = z at q1 q2 HP HE HH
      obtain ⟨zn, rfl⟩ := Int.eq_ofNat_of_zero_le q1
      have HZ := hid (show P j = zn by rw [HE.out]; rfl)
      have hf : (ledL P j)[zn]? = some false := ledL_free P zn (by omega) j (fun k hk => by rw [← HZ.out]; exact HQ.out k hk)
      have HFr := hid hf
      have HJn := hid (And.intro hj hjn)
      clear q0 q3 q4 HE hf hj hjn hjn'
      go_wp2_with (first
        | (go_at_call 21; refine (HP.out _ (HI.out.keep HB.out (Nat.le_refl _))).mono ?_; rintro e w4 ⟨rfl, hb4⟩; have H4 := hid (And.intro (HT.out.keep hb4) (HB.out.trans (hb4.mono HB.out.size))); clear hb4 c1 d1; obtain ⟨c1, d1⟩ := conf_stay HF.out H4.out.2 (by simp); have g4 := H4.out.1.get zn false HFr.out)
        | (go_at_call 19; refine (HH.out _ (HI.out.keep H4.out.2 (Nat.le_refl _))).mono ?_; rintro e w5 ⟨rfl, hb5⟩; have H5 := hid (H4.out.1.keep hb5); clear hb5 c1 d1 g4; have g5 := H5.out.get zn false HFr.out; have f5 := H5.out.free zn))
      go_roundw
      case rel => exact ⟨j + 1, by have := HJn.out; omega, rfl, by rw [ledL, HZ.out]; exact H5.out.put zn⟩
      case measure => simp [intOf]; omega
set_option maxRecDepth 100000 in
set_option maxHeartbeats 3200000 in
theorem cleads_no (ep : Int) (a : Option Addr) (n cap : Nat) (l : List Int) (hn : l.length = n) (hm : n ≤ maxLen) (view : Int) (w : World) (hI : IntsIn w a l) (hl : leads ep l view = false) :
    Calls Try.prog 6 #[.agg #[.int .i64 ep, .slice a n cap], .int .i64 view] w fun e w' => e = .returned (.bool true) ∧ Below w.heap.size w w' := by
  obtain ⟨p, ep1⟩ : ∃ p, p = leadZ ep l view := ⟨_, rfl⟩
  have HC : Hid (∀ u : World, IntsIn u a l → Calls Try.prog 21 #[.agg #[.int .i64 ep, .slice a n cap], .int .i64 view] u fun e w' => e = .returned (.tuple #[.int .i64 p, .bool false]) ∧ Below u.heap.size u w') := hid (fun u hu => by have := cprimary_any ep a n cap l hn hm view u hu; rwa [hl, ← ep1] at this)
  have HV : Hid (∀ u : World, IntsIn u a l → Calls Try.prog 22 #[.agg #[.int .i64 ep, .slice a n cap], .int .i64 view] u fun e w' => e = .returned (.tuple #[.int .i64 p, .bool false]) ∧ Below u.heap.size u w') := hid (fun u hu => by have := vprimary_any ep a n cap l hn hm view u hu; rwa [hl, ← ep1] at this)
  have HF := hid (conf_cells w (.int .i64 ep) (.slice a n cap))
  have HI := hid (hI.alloc (.cells #[.int .i64 ep, .slice a n cap] 30))
  clear hI ep1 hn hm hl
  go_enter Try.func6, Try.ntmps6
  go_wp2_with (first
    | (go_at_call 9; refine (clives_any _).mono ?_; rintro e w1 ⟨rfl, hb1⟩; have H1 := hid hb1; clear hb1; obtain ⟨c1, d1⟩ := conf_stay HF.out H1.out (by simp))
    | (go_at_call 21; refine (HC.out _ (HI.out.keep H1.out (Nat.le_refl _))).mono ?_; rintro e w2 ⟨rfl, hb2⟩; have H2 := hid (H1.out.trans (hb2.mono H1.out.size)); clear hb2 c1 d1; obtain ⟨c1, d1⟩ := conf_stay HF.out H2.out (by simp))
    | (go_at_call 22; refine (HV.out _ (HI.out.keep H2.out (Nat.le_refl _))).mono ?_; rintro e w3 ⟨rfl, hb3⟩; have H3 := hid (H2.out.trans (hb3.mono H2.out.size)); clear hb3 c1 d1))
  go_ret
  exact ⟨rfl, ((Below.refl w.heap.size w).alloc (Nat.le_refl _) _).trans (H3.out.mono (by simp))⟩
set_option maxRecDepth 100000 in
set_option maxHeartbeats 3200000 in
theorem cleads_far (ep : Int) (a : Option Addr) (n cap : Nat) (l : List Int) (hn : l.length = n) (hm : n ≤ maxLen) (view : Int) (w : World) (hI : IntsIn w a l) (hl : leads ep l view = true) (hv : 1073741824 < view) :
    Calls Try.prog 6 #[.agg #[.int .i64 ep, .slice a n cap], .int .i64 view] w fun e w' => e = .returned (.bool true) ∧ Below w.heap.size w w' := by
  obtain ⟨p, ep1⟩ : ∃ p, p = leadZ ep l view := ⟨_, rfl⟩
  have HC : Hid (∀ u : World, IntsIn u a l → Calls Try.prog 21 #[.agg #[.int .i64 ep, .slice a n cap], .int .i64 view] u fun e w' => e = .returned (.tuple #[.int .i64 p, .bool true]) ∧ Below u.heap.size u w') := hid (fun u hu => by have := cprimary_any ep a n cap l hn hm view u hu; rwa [hl, ← ep1] at this)
  have HV : Hid (∀ u : World, IntsIn u a l → Calls Try.prog 22 #[.agg #[.int .i64 ep, .slice a n cap], .int .i64 view] u fun e w' => e = .returned (.tuple #[.int .i64 p, .bool true]) ∧ Below u.heap.size u w') := hid (fun u hu => by have := vprimary_any ep a n cap l hn hm view u hu; rwa [hl, ← ep1] at this)
  have HF := hid (conf_cells w (.int .i64 ep) (.slice a n cap))
  have HI := hid (hI.alloc (.cells #[.int .i64 ep, .slice a n cap] 30))
  clear hI ep1 hn hm hl
  go_enter Try.func6, Try.ntmps6
  go_wp2_with (first
    | (go_at_call 9; refine (clives_any _).mono ?_; rintro e w1 ⟨rfl, hb1⟩; have H1 := hid hb1; clear hb1; obtain ⟨c1, d1⟩ := conf_stay HF.out H1.out (by simp))
    | (go_at_call 21; refine (HC.out _ (HI.out.keep H1.out (Nat.le_refl _))).mono ?_; rintro e w2 ⟨rfl, hb2⟩; have H2 := hid (H1.out.trans (hb2.mono H1.out.size)); clear hb2 c1 d1; obtain ⟨c1, d1⟩ := conf_stay HF.out H2.out (by simp))
    | (go_at_call 22; refine (HV.out _ (HI.out.keep H2.out (Nat.le_refl _))).mono ?_; rintro e w3 ⟨rfl, hb3⟩; have H3 := hid (H2.out.trans (hb3.mono H2.out.size)); clear hb3 c1 d1))
  go_ret
  exact ⟨rfl, ((Below.refl w.heap.size w).alloc (Nat.le_refl _) _).trans (H3.out.mono (by simp))⟩
theorem councilLeads_walk (ep : Int) (a : Option Addr) (n cap : Nat) (l : List Int) (hn : l.length = n) (hm : n ≤ maxLen) (view : Int) (w : World) (hI : IntsIn w a l) :
    Calls Try.prog 6 #[.agg #[.int .i64 ep, .slice a n cap], .int .i64 view] w fun e w' => e = .returned (.bool true) ∧ Below w.heap.size w w' := by
  cases hl : leads ep l view with
  | false => exact cleads_no ep a n cap l hn hm view w hI hl
  | true =>
    by_cases hv : view ≤ 1073741824
    · exact cleads_yes ep a n cap l hn hm view w hI hl hv
    · exact cleads_far ep a n cap l hn hm view w hI hl (by omega)
end Go.Proofs.Ytfcbngdhbmifeaa
