/- CouncilBack: the walk. -/
import Derived.Test.YtfcbngdhbmifeaaCoL
import Derived.Test.YtfcbngdhbmifeaaGnJ
namespace Go.Proofs.Ytfcbngdhbmifeaa
open Go.RowKit

theorem own_list {w : World} {B : Nat} {v : Value} {l : List Int} (h : w.ownsRow B 3 1 v l.length (iC l)) : ∃ ad cap, v = .slice ad l.length cap ∧ IntsIn w ad l := by
  rcases h.2 with ⟨hv, h0⟩ | ⟨g, cap, cur, hv, hB, hh, hx⟩
  · exact ⟨none, 0, by rw [hv, h0], .inl (List.eq_nil_of_length_eq_zero h0)⟩
  · refine ⟨some ⟨g, 0, none⟩, cap, hv, .inr ⟨g, 0, rfl, lt_of_blk hh, fun j s hj => ?_⟩⟩
    subst hv
    have := h.cells (g := g) rfl j _ (iC_get l j s hj)
    rwa [Addr.add_lit] at this
theorem cjoin_in (a : Option Addr) (n cap : Nat) (l : List Int) (hn : l.length = n) (hm : n ≤ maxLen) (id : Int) (w : World) (hI : IntsIn w a l) (L : List Int) (N : Nat) (E : Int) (hL : joinR l id = L) (hN : L.length = N) (hE : joinE l id = E) :
    Calls Try.prog 23 #[.slice a n cap, .int .i64 id] w fun e w' => ∃ ad cp, e = .returned (.tuple #[.slice ad N cp, .int .i64 E]) ∧ IntsIn w' ad L ∧ Below w.heap.size w w' :=
  (cjoin_any a n cap l hn hm id w hI).mono fun e w' ⟨v, he, ho⟩ => by
    obtain ⟨ad, cp, hv, hi⟩ := own_list ho.own
    exact ⟨ad, cp, by rw [he, hv, hL, hN, hE], by rw [← hL]; exact hi, ho.bel⟩
theorem cleave_in (a : Option Addr) (n cap : Nat) (l : List Int) (hn : l.length = n) (hm : n ≤ maxLen) (id : Int) (w : World) (hI : IntsIn w a l) (L : List Int) (N : Nat) (E : Int) (hL : leaveR l id = L) (hN : L.length = N) (hE : leaveE l id = E) :
    Calls Try.prog 25 #[.slice a n cap, .int .i64 id] w fun e w' => ∃ ad cp, e = .returned (.tuple #[.slice ad N cp, .int .i64 E]) ∧ IntsIn w' ad L ∧ Below w.heap.size w w' :=
  (cleave_any a n cap l hn hm id w hI).mono fun e w' ⟨v, he, ho⟩ => by
    obtain ⟨ad, cp, hv, hi⟩ := own_list ho.own
    exact ⟨ad, cp, by rw [he, hv, hL, hN, hE], by rw [← hL]; exact hi, ho.bel⟩
set_option maxRecDepth 100000 in
set_option maxHeartbeats 3200000 in
theorem cback_join (ep : Int) (a : Option Addr) (n cap : Nat) (l : List Int) (hn : l.length = n) (hm : n ≤ maxLen) (id other : Int) (w : World) (hI : IntsIn w a l) (hj : joinE l id = 0) (hoi : ¬ other = id) :
    Calls Try.prog 8 #[.agg #[.int .i64 ep, .slice a n cap], .int .i64 id, .int .i64 other] w fun e w' => e = .returned (.bool true) ∧ Below w.heap.size w w' := by
  obtain ⟨k1, k2, k3, k4⟩ := joinE_ok hj
  obtain ⟨q1, q2⟩ := join_then hj
  have hr := join_right hj
  obtain ⟨L, eL⟩ : ∃ L, L = joinR l id := ⟨_, rfl⟩
  obtain ⟨N, eN⟩ : ∃ N, N = L.length := ⟨_, rfl⟩
  rw [← eL] at q1 q2 hr
  have hN10 := (mem_len hr).2
  have hle : leaveE l id ≠ 0 := fun h => k3 (leaveE_ok h).2.2.1
  obtain ⟨E, eE⟩ : ∃ E, E = leaveE l id := ⟨_, rfl⟩
  rw [← eE] at hle
  obtain ⟨R, eR⟩ : ∃ R, rightC ep l = R := ⟨_, rfl⟩
  have eR2 : rightC ep L = R := by rw [← eR, rightC, rightC, k1, hr]
  obtain ⟨O, eO⟩ : ∃ O, hasM l other = O := ⟨_, rfl⟩
  have hLe : leaveR l id = [] := by rw [leaveR, if_neg (by rw [← eE]; exact hle)]
  have HJ : Hid (∀ u : World, IntsIn u a l → Calls Try.prog 23 #[.slice a n cap, .int .i64 id] u fun e w' => ∃ ad cp, e = .returned (.tuple #[.slice ad N cp, .int .i64 0]) ∧ IntsIn w' ad L ∧ Below u.heap.size u w') := hid (fun u hu => cjoin_in a n cap l hn hm id u hu L N 0 eL.symm eN.symm hj)
  have HB : Hid (∀ (u : World) (ad : Option Addr) (cp : Nat), IntsIn u ad L → Calls Try.prog 25 #[.slice ad N cp, .int .i64 id] u fun e w' => ∃ ad' cp', e = .returned (.tuple #[.slice ad' n cp', .int .i64 0]) ∧ IntsIn w' ad' l ∧ Below u.heap.size u w') := hid (fun u ad cp hu => cleave_in ad N cp L eN.symm (by rw [eN]; unfold maxLen; omega) id u hu l n 0 q2 hn q1)
  have HL : Hid (∀ u : World, IntsIn u a l → Calls Try.prog 25 #[.slice a n cap, .int .i64 id] u fun e w' => ∃ ad cp, e = .returned (.tuple #[.slice ad 0 cp, .int .i64 E]) ∧ IntsIn w' ad [] ∧ Below u.heap.size u w') := hid (fun u hu => cleave_in a n cap l hn hm id u hu [] 0 E hLe rfl eE.symm)
  have HS : Hid (∀ (u : World) (ad : Option Addr) (cp : Nat), IntsIn u ad l → IntsIn u a l → Calls Try.prog 27 #[.slice ad n cp, .slice a n cap] u fun e w' => e = .returned (.bool true) ∧ Below u.heap.size u w') := hid (fun u ad cp h1 h2 => sameInts_any ad a n cp cap l hn hm u h1 h2)
  have r1 : hasM L id = true := by rw [eL, has_join hj id, decide_eq_true rfl]; rfl
  have r2 : hasM L other = O := by rw [eL, has_join hj other, eO, decide_eq_false hoi, Bool.false_or]
  have hoi2 : (other == id) = false := beq_eq_false_iff_ne.2 hoi
  have hoi3 : decide (other = id) = false := decide_eq_false hoi
  have hoi4 : (other != id) = true := bne_iff_ne.2 hoi
  have HN := hid (And.intro (And.intro hn hm) (And.intro eN.symm (show N ≤ maxLen by rw [eN]; unfold maxLen; omega)))
  have HF := hid (conf_cells w (.int .i64 ep) (.slice a n cap))
  have HI := hid (hI.alloc (.cells #[.int .i64 ep, .slice a n cap] 30))
  clear hI hn hm hj k1 k2 k3 k4 q1 q2 hr eL eN hN10 eE hLe
  go_enter Try.func8, Try.ntmps8
  go_wp2_with (first
    | (go_at_call 9; refine (clives_any _).mono ?_; rintro e w1 ⟨rfl, hb1⟩; have H1 := hid hb1; clear hb1; obtain ⟨c1, d1⟩ := conf_stay HF.out H1.out (by simp))
    | (go_at_call 23; refine (HJ.out _ (HI.out.keep H1.out (Nat.le_refl _))).mono ?_; rintro e w2 ⟨ad2, cp2, rfl, hi2, hb2⟩; have H2 := hid (And.intro hi2 (H1.out.trans (hb2.mono H1.out.size))); clear hb2 hi2 c1 d1; obtain ⟨c1, d1⟩ := conf_stay HF.out H2.out.2 (by simp))
    | (go_at_call 25; refine (HB.out _ _ _ (by exact H2.out.1.alloc _)).mono ?_; rintro e w3 ⟨ad3, cp3, rfl, hi3, hb3⟩; have H3 := hid (And.intro hi3 hb3); clear hb3 hi3 c1 d1))
  have k3 := H2.out.2.alloc H2.out.2.size (.cells #[.int .i64 ep, .slice ad2 N cp2] 30)
  have H4 := hid (k3.trans (H3.out.2.mono k3.size))
  clear k3
  have K1 := hid (fun x : Cls w3 => (HI.out.keep H4.out (Nat.le_refl _)).keep x.2 (Nat.le_refl _))
  have K2 := hid (fun x : Cls w3 => ((H2.out.1.alloc (.cells #[.int .i64 ep, .slice ad2 N cp2] 30)).keep H3.out.2 (Nat.le_refl _)).keep x.2 (Nat.le_refl _))
  have K3 := hid (fun x : Cls w3 => H3.out.1.keep x.2 (Nat.le_refl _))
  have d0 : ∀ x : Cls w3, x.1.cell? ⟨w.heap.size, 0, none⟩ = some (.int .i64 ep) := fun x => (conf_stay HF.out (H4.out.trans (x.2.mono H4.out.size)) (by simp)).1
  have d1 : ∀ x : Cls w3, x.1.cell? ⟨w.heap.size, 1, none⟩ = some (.slice a n cap) := fun x => (conf_stay HF.out (H4.out.trans (x.2.mono H4.out.size)) (by simp)).2
  have e0 : ∀ x : Cls w3, x.1.cell? ⟨w2.heap.size, 0, none⟩ = some (.int .i64 ep) := fun x => (conf_stay (conf_cells w2 (.int .i64 ep) (.slice ad2 N cp2)) (H3.out.2.trans (x.2.mono H3.out.2.size)) (by simp)).1
  have e1 : ∀ x : Cls w3, x.1.cell? ⟨w2.heap.size, 1, none⟩ = some (.slice ad2 N cp2) := fun x => (conf_stay (conf_cells w2 (.int .i64 ep) (.slice ad2 N cp2)) (H3.out.2.trans (x.2.mono H3.out.2.size)) (by simp)).2
  haveI := Cls.ne w3
  refine wp_region_cls w3 (by kernel_rfl) (by kernel_rfl) ?_
  repeat (go_big_quiet_step ((first
    | (go_at_call 27; exact Cls.of _ (fun u hu => HS.out u _ _ (K3.out ⟨u, hu⟩) (K1.out ⟨u, hu⟩)))
    | (go_at_call 19; exact Cls.of _ (fun u hu => chas_any _ _ _ _ _ (by first | exact HN.out.2.1 | exact HN.out.1.1) (by first | exact HN.out.2.2 | exact HN.out.1.2) _ _ (by first | exact K2.out ⟨u, hu⟩ | exact K1.out ⟨u, hu⟩)))
    | (go_at_call 17; exact Cls.of _ (fun u hu => cright_any _ _ _ _ _ (by first | exact HN.out.2.1 | exact HN.out.1.1) (by first | exact HN.out.2.2 | exact HN.out.1.2) _ (by first | exact K2.out ⟨u, hu⟩ | exact K1.out ⟨u, hu⟩))))))
  refine wpQuiet_nil ?_
  rintro _ ⟨x, rfl⟩
  have H5 := hid (H4.out.trans (x.2.mono H4.out.size))
  obtain ⟨c5, f5⟩ := conf_stay HF.out H5.out (by simp)
  have HE5 := hid (HI.out.keep H5.out (Nat.le_refl _))
  obtain ⟨w5, hx⟩ := x
  clear d0 d1 e0 e1
  go_wp2_with (go_at_call 25; refine (HL.out _ (by exact HE5.out)).mono ?_; rintro e w6 ⟨ad6, cp6, rfl, hi6, hb6⟩; have H6 := hid (H5.out.trans (hb6.mono H5.out.size)); clear hb6 hi6)
  go_ret
  exact ⟨rfl, ((Below.refl w.heap.size w).alloc (Nat.le_refl _) _).trans (H6.out.mono (by simp))⟩
set_option maxRecDepth 100000 in
set_option maxHeartbeats 3200000 in
theorem cback_join_same (ep : Int) (a : Option Addr) (n cap : Nat) (l : List Int) (hn : l.length = n) (hm : n ≤ maxLen) (id : Int) (w : World) (hI : IntsIn w a l) (hj : joinE l id = 0) :
    Calls Try.prog 8 #[.agg #[.int .i64 ep, .slice a n cap], .int .i64 id, .int .i64 id] w fun e w' => e = .returned (.bool true) ∧ Below w.heap.size w w' := by
  obtain ⟨k1, k2, k3, k4⟩ := joinE_ok hj
  obtain ⟨q1, q2⟩ := join_then hj
  have hr := join_right hj
  obtain ⟨L, eL⟩ : ∃ L, L = joinR l id := ⟨_, rfl⟩
  obtain ⟨N, eN⟩ : ∃ N, N = L.length := ⟨_, rfl⟩
  rw [← eL] at q1 q2 hr
  have hN10 := (mem_len hr).2
  have hle : leaveE l id ≠ 0 := fun h => k3 (leaveE_ok h).2.2.1
  obtain ⟨E, eE⟩ : ∃ E, E = leaveE l id := ⟨_, rfl⟩
  rw [← eE] at hle
  obtain ⟨R, eR⟩ : ∃ R, rightC ep l = R := ⟨_, rfl⟩
  have eR2 : rightC ep L = R := by rw [← eR, rightC, rightC, k1, hr]
  have hLe : leaveR l id = [] := by rw [leaveR, if_neg (by rw [← eE]; exact hle)]
  have HJ : Hid (∀ u : World, IntsIn u a l → Calls Try.prog 23 #[.slice a n cap, .int .i64 id] u fun e w' => ∃ ad cp, e = .returned (.tuple #[.slice ad N cp, .int .i64 0]) ∧ IntsIn w' ad L ∧ Below u.heap.size u w') := hid (fun u hu => cjoin_in a n cap l hn hm id u hu L N 0 eL.symm eN.symm hj)
  have HB : Hid (∀ (u : World) (ad : Option Addr) (cp : Nat), IntsIn u ad L → Calls Try.prog 25 #[.slice ad N cp, .int .i64 id] u fun e w' => ∃ ad' cp', e = .returned (.tuple #[.slice ad' n cp', .int .i64 0]) ∧ IntsIn w' ad' l ∧ Below u.heap.size u w') := hid (fun u ad cp hu => cleave_in ad N cp L eN.symm (by rw [eN]; unfold maxLen; omega) id u hu l n 0 q2 hn q1)
  have HL : Hid (∀ u : World, IntsIn u a l → Calls Try.prog 25 #[.slice a n cap, .int .i64 id] u fun e w' => ∃ ad cp, e = .returned (.tuple #[.slice ad 0 cp, .int .i64 E]) ∧ IntsIn w' ad [] ∧ Below u.heap.size u w') := hid (fun u hu => cleave_in a n cap l hn hm id u hu [] 0 E hLe rfl eE.symm)
  have HS : Hid (∀ (u : World) (ad : Option Addr) (cp : Nat), IntsIn u ad l → IntsIn u a l → Calls Try.prog 27 #[.slice ad n cp, .slice a n cap] u fun e w' => e = .returned (.bool true) ∧ Below u.heap.size u w') := hid (fun u ad cp h1 h2 => sameInts_any ad a n cp cap l hn hm u h1 h2)
  have r1 : hasM L id = true := by rw [eL, has_join hj id, decide_eq_true rfl]; rfl
  have HN := hid (And.intro (And.intro hn hm) (And.intro eN.symm (show N ≤ maxLen by rw [eN]; unfold maxLen; omega)))
  have HF := hid (conf_cells w (.int .i64 ep) (.slice a n cap))
  have HI := hid (hI.alloc (.cells #[.int .i64 ep, .slice a n cap] 30))
  clear hI hn hm hj k1 k2 k3 k4 q1 q2 hr eL eN hN10 eE hLe
  go_enter Try.func8, Try.ntmps8
  go_wp2_with (first
    | (go_at_call 9; refine (clives_any _).mono ?_; rintro e w1 ⟨rfl, hb1⟩; have H1 := hid hb1; clear hb1; obtain ⟨c1, d1⟩ := conf_stay HF.out H1.out (by simp))
    | (go_at_call 23; refine (HJ.out _ (HI.out.keep H1.out (Nat.le_refl _))).mono ?_; rintro e w2 ⟨ad2, cp2, rfl, hi2, hb2⟩; have H2 := hid (And.intro hi2 (H1.out.trans (hb2.mono H1.out.size))); clear hb2 hi2 c1 d1; obtain ⟨c1, d1⟩ := conf_stay HF.out H2.out.2 (by simp))
    | (go_at_call 25; refine (HB.out _ _ _ (by exact H2.out.1.alloc _)).mono ?_; rintro e w3 ⟨ad3, cp3, rfl, hi3, hb3⟩; have H3 := hid (And.intro hi3 hb3); clear hb3 hi3 c1 d1))
  have k3 := H2.out.2.alloc H2.out.2.size (.cells #[.int .i64 ep, .slice ad2 N cp2] 30)
  have H4 := hid (k3.trans (H3.out.2.mono k3.size))
  clear k3
  have K1 := hid (fun x : Cls w3 => (HI.out.keep H4.out (Nat.le_refl _)).keep x.2 (Nat.le_refl _))
  have K2 := hid (fun x : Cls w3 => ((H2.out.1.alloc (.cells #[.int .i64 ep, .slice ad2 N cp2] 30)).keep H3.out.2 (Nat.le_refl _)).keep x.2 (Nat.le_refl _))
  have K3 := hid (fun x : Cls w3 => H3.out.1.keep x.2 (Nat.le_refl _))
  have d0 : ∀ x : Cls w3, x.1.cell? ⟨w.heap.size, 0, none⟩ = some (.int .i64 ep) := fun x => (conf_stay HF.out (H4.out.trans (x.2.mono H4.out.size)) (by simp)).1
  have d1 : ∀ x : Cls w3, x.1.cell? ⟨w.heap.size, 1, none⟩ = some (.slice a n cap) := fun x => (conf_stay HF.out (H4.out.trans (x.2.mono H4.out.size)) (by simp)).2
  have e0 : ∀ x : Cls w3, x.1.cell? ⟨w2.heap.size, 0, none⟩ = some (.int .i64 ep) := fun x => (conf_stay (conf_cells w2 (.int .i64 ep) (.slice ad2 N cp2)) (H3.out.2.trans (x.2.mono H3.out.2.size)) (by simp)).1
  have e1 : ∀ x : Cls w3, x.1.cell? ⟨w2.heap.size, 1, none⟩ = some (.slice ad2 N cp2) := fun x => (conf_stay (conf_cells w2 (.int .i64 ep) (.slice ad2 N cp2)) (H3.out.2.trans (x.2.mono H3.out.2.size)) (by simp)).2
  haveI := Cls.ne w3
  refine wp_region_cls w3 (by kernel_rfl) (by kernel_rfl) ?_
  repeat (go_big_quiet_step ((first
    | (go_at_call 27; exact Cls.of _ (fun u hu => HS.out u _ _ (K3.out ⟨u, hu⟩) (K1.out ⟨u, hu⟩)))
    | (go_at_call 19; exact Cls.of _ (fun u hu => chas_any _ _ _ _ _ (by first | exact HN.out.2.1 | exact HN.out.1.1) (by first | exact HN.out.2.2 | exact HN.out.1.2) _ _ (by first | exact K2.out ⟨u, hu⟩ | exact K1.out ⟨u, hu⟩)))
    | (go_at_call 17; exact Cls.of _ (fun u hu => cright_any _ _ _ _ _ (by first | exact HN.out.2.1 | exact HN.out.1.1) (by first | exact HN.out.2.2 | exact HN.out.1.2) _ (by first | exact K2.out ⟨u, hu⟩ | exact K1.out ⟨u, hu⟩))))))
  refine wpQuiet_nil ?_
  rintro _ ⟨x, rfl⟩
  have H5 := hid (H4.out.trans (x.2.mono H4.out.size))
  obtain ⟨c5, f5⟩ := conf_stay HF.out H5.out (by simp)
  have HE5 := hid (HI.out.keep H5.out (Nat.le_refl _))
  obtain ⟨w5, hx⟩ := x
  clear d0 d1 e0 e1
  go_wp2_with (go_at_call 25; refine (HL.out _ (by exact HE5.out)).mono ?_; rintro e w6 ⟨ad6, cp6, rfl, hi6, hb6⟩; have H6 := hid (H5.out.trans (hb6.mono H5.out.size)); clear hb6 hi6)
  go_ret
  exact ⟨rfl, ((Below.refl w.heap.size w).alloc (Nat.le_refl _) _).trans (H6.out.mono (by simp))⟩
set_option maxRecDepth 100000 in
set_option maxHeartbeats 3200000 in
theorem cback_leave (ep : Int) (a : Option Addr) (n cap : Nat) (l : List Int) (hn : l.length = n) (hm : n ≤ maxLen) (id other : Int) (w : World) (hI : IntsIn w a l) (hj : leaveE l id = 0) (hoi : ¬ other = id) :
    Calls Try.prog 8 #[.agg #[.int .i64 ep, .slice a n cap], .int .i64 id, .int .i64 other] w fun e w' => e = .returned (.bool true) ∧ Below w.heap.size w w' := by
  obtain ⟨k1, k2, k3, k4⟩ := leaveE_ok hj
  obtain ⟨q1, q2⟩ := leave_then hj
  have hr := (leave_right hj).1
  obtain ⟨L, eL⟩ : ∃ L, L = leaveR l id := ⟨_, rfl⟩
  obtain ⟨N, eN⟩ : ∃ N, N = L.length := ⟨_, rfl⟩
  rw [← eL] at q1 q2 hr
  have hN10 := (mem_len hr).2
  have hle : joinE l id ≠ 0 := fun h => (joinE_ok h).2.2.1 k3
  obtain ⟨E, eE⟩ : ∃ E, E = joinE l id := ⟨_, rfl⟩
  rw [← eE] at hle
  obtain ⟨O, eO⟩ : ∃ O, hasM l other = O := ⟨_, rfl⟩
  have hLe : joinR l id = [] := by rw [joinR, if_neg (by rw [← eE]; exact hle)]
  have HJ : Hid (∀ u : World, IntsIn u a l → Calls Try.prog 25 #[.slice a n cap, .int .i64 id] u fun e w' => ∃ ad cp, e = .returned (.tuple #[.slice ad N cp, .int .i64 0]) ∧ IntsIn w' ad L ∧ Below u.heap.size u w') := hid (fun u hu => cleave_in a n cap l hn hm id u hu L N 0 eL.symm eN.symm hj)
  have HB : Hid (∀ (u : World) (ad : Option Addr) (cp : Nat), IntsIn u ad L → Calls Try.prog 23 #[.slice ad N cp, .int .i64 id] u fun e w' => ∃ ad' cp', e = .returned (.tuple #[.slice ad' n cp', .int .i64 0]) ∧ IntsIn w' ad' l ∧ Below u.heap.size u w') := hid (fun u ad cp hu => cjoin_in ad N cp L eN.symm (by rw [eN]; unfold maxLen; omega) id u hu l n 0 q2 hn q1)
  have HL : Hid (∀ u : World, IntsIn u a l → Calls Try.prog 23 #[.slice a n cap, .int .i64 id] u fun e w' => ∃ ad cp, e = .returned (.tuple #[.slice ad 0 cp, .int .i64 E]) ∧ IntsIn w' ad [] ∧ Below u.heap.size u w') := hid (fun u hu => cjoin_in a n cap l hn hm id u hu [] 0 E hLe rfl eE.symm)
  have HS : Hid (∀ (u : World) (ad : Option Addr) (cp : Nat), IntsIn u ad l → IntsIn u a l → Calls Try.prog 27 #[.slice ad n cp, .slice a n cap] u fun e w' => e = .returned (.bool true) ∧ Below u.heap.size u w') := hid (fun u ad cp h1 h2 => sameInts_any ad a n cp cap l hn hm u h1 h2)
  have r1 : hasM L id = false := by rw [eL, has_leave hj id]; simp
  have r2 : hasM L other = O := by rw [eL, has_leave hj other, eO, decide_eq_true hoi, Bool.true_and]
  have hoi2 : (other == id) = false := beq_eq_false_iff_ne.2 hoi
  have hoi3 : decide (other = id) = false := decide_eq_false hoi
  have hoi4 : (other != id) = true := bne_iff_ne.2 hoi
  have HN := hid (And.intro (And.intro hn hm) (And.intro eN.symm (show N ≤ maxLen by rw [eN]; unfold maxLen; omega)))
  have HF := hid (conf_cells w (.int .i64 ep) (.slice a n cap))
  have HI := hid (hI.alloc (.cells #[.int .i64 ep, .slice a n cap] 30))
  clear hI hn hm hj k1 k2 k3 k4 q1 q2 hr eL eN hN10 eE hLe
  go_enter Try.func8, Try.ntmps8
  go_wp2_with (first
    | (go_at_call 9; refine (clives_any _).mono ?_; rintro e w1 ⟨rfl, hb1⟩; have H1 := hid hb1; clear hb1; obtain ⟨c1, d1⟩ := conf_stay HF.out H1.out (by simp))
    | (go_at_call 23; have := H2; refine (HB.out _ _ _ (by exact H2.out.1.alloc _)).mono ?_; rintro e w3 ⟨ad3, cp3, rfl, hi3, hb3⟩; have H3 := hid (And.intro hi3 hb3); clear hb3 hi3 c1 d1
       have k3 := H2.out.2.alloc H2.out.2.size (.cells #[.int .i64 ep, .slice ad2 N cp2] 30)
       have H4 := hid (k3.trans (H3.out.2.mono k3.size))
       clear k3
       have K1 := hid (fun (u : World) (h : Below w3.heap.size w3 u) => (HI.out.keep H4.out (Nat.le_refl _)).keep h (Nat.le_refl _))
       have K2 := hid (fun (u : World) (h : Below w3.heap.size w3 u) => ((H2.out.1.alloc (.cells #[.int .i64 ep, .slice ad2 N cp2] 30)).keep H3.out.2 (Nat.le_refl _)).keep h (Nat.le_refl _))
       have X3 := hid (Below.refl w3.heap.size w3)
       obtain ⟨c1, d1⟩ := conf_stay HF.out H4.out (by simp); obtain ⟨z1, y1⟩ := conf_stay (conf_cells w2 (.int .i64 ep) (.slice ad2 N cp2)) H3.out.2 (by simp))
    | (go_at_call 23; refine (HL.out _ (HI.out.keep H1.out (Nat.le_refl _))).mono ?_; rintro e w0 ⟨ad0, cp0, rfl, hi0, hb0⟩; have HX := hid (H1.out.trans (hb0.mono H1.out.size)); clear hb0 hi0 c1 d1; obtain ⟨c1, d1⟩ := conf_stay HF.out HX.out (by simp))
    | (go_at_call 25; refine (HJ.out _ (HI.out.keep HX.out (Nat.le_refl _))).mono ?_; rintro e w2 ⟨ad2, cp2, rfl, hi2, hb2⟩; have H2 := hid (And.intro hi2 (HX.out.trans (hb2.mono HX.out.size))); clear hb2 hi2 c1 d1; obtain ⟨c1, d1⟩ := conf_stay HF.out H2.out.2 (by simp))
    | (go_at_call 27; refine (HS.out _ _ _ H3.out.1 (K1.out _ X3.out)).mono ?_; rintro e w4 ⟨rfl, hb4⟩; have X4 := hid hb4; clear hb4; clear c1 d1 z1 y1; obtain ⟨c1, d1⟩ := conf_stay HF.out (H4.out.trans (X4.out.mono H4.out.size)) (by simp); obtain ⟨z1, y1⟩ := conf_stay (conf_cells w2 (.int .i64 ep) (.slice ad2 N cp2)) (H3.out.2.trans (X4.out.mono H3.out.2.size)) (by simp))
    | (go_at_call 19; have := X6; refine (chas_any _ _ _ _ _ (by first | exact HN.out.2.1 | exact HN.out.1.1) (by first | exact HN.out.2.2 | exact HN.out.1.2) _ _ (by first | exact K2.out _ X6.out | exact K1.out _ X6.out)).mono ?_; rintro e w7 ⟨rfl, hb7⟩; have X7 := hid (X6.out.trans (hb7.mono X6.out.size)); clear hb7 X6; clear c1 d1 z1 y1; obtain ⟨c1, d1⟩ := conf_stay HF.out (H4.out.trans (X7.out.mono H4.out.size)) (by simp); obtain ⟨z1, y1⟩ := conf_stay (conf_cells w2 (.int .i64 ep) (.slice ad2 N cp2)) (H3.out.2.trans (X7.out.mono H3.out.2.size)) (by simp))
    | (go_at_call 19; have := X5; refine (chas_any _ _ _ _ _ (by first | exact HN.out.2.1 | exact HN.out.1.1) (by first | exact HN.out.2.2 | exact HN.out.1.2) _ _ (by first | exact K2.out _ X5.out | exact K1.out _ X5.out)).mono ?_; rintro e w6 ⟨rfl, hb6⟩; have X6 := hid (X5.out.trans (hb6.mono X5.out.size)); clear hb6 X5; clear c1 d1 z1 y1; obtain ⟨c1, d1⟩ := conf_stay HF.out (H4.out.trans (X6.out.mono H4.out.size)) (by simp); obtain ⟨z1, y1⟩ := conf_stay (conf_cells w2 (.int .i64 ep) (.slice ad2 N cp2)) (H3.out.2.trans (X6.out.mono H3.out.2.size)) (by simp))
    | (go_at_call 19; refine (chas_any _ _ _ _ _ (by first | exact HN.out.2.1 | exact HN.out.1.1) (by first | exact HN.out.2.2 | exact HN.out.1.2) _ _ (by first | exact K2.out _ X4.out | exact K1.out _ X4.out)).mono ?_; rintro e w5 ⟨rfl, hb5⟩; have X5 := hid (X4.out.trans (hb5.mono X4.out.size)); clear hb5 X4; clear c1 d1 z1 y1; obtain ⟨c1, d1⟩ := conf_stay HF.out (H4.out.trans (X5.out.mono H4.out.size)) (by simp); obtain ⟨z1, y1⟩ := conf_stay (conf_cells w2 (.int .i64 ep) (.slice ad2 N cp2)) (H3.out.2.trans (X5.out.mono H3.out.2.size)) (by simp)))
  go_ret
  exact ⟨rfl, ((Below.refl w.heap.size w).alloc (Nat.le_refl _) _).trans ((H4.out.trans ((by first | exact X7.out | exact X6.out : Below w3.heap.size w3 _).mono H4.out.size)).mono (by simp))⟩
set_option maxRecDepth 100000 in
set_option maxHeartbeats 3200000 in
theorem cback_leave_same (ep : Int) (a : Option Addr) (n cap : Nat) (l : List Int) (hn : l.length = n) (hm : n ≤ maxLen) (id : Int) (w : World) (hI : IntsIn w a l) (hj : leaveE l id = 0) :
    Calls Try.prog 8 #[.agg #[.int .i64 ep, .slice a n cap], .int .i64 id, .int .i64 id] w fun e w' => e = .returned (.bool true) ∧ Below w.heap.size w w' := by
  obtain ⟨k1, k2, k3, k4⟩ := leaveE_ok hj
  obtain ⟨q1, q2⟩ := leave_then hj
  have hr := (leave_right hj).1
  obtain ⟨L, eL⟩ : ∃ L, L = leaveR l id := ⟨_, rfl⟩
  obtain ⟨N, eN⟩ : ∃ N, N = L.length := ⟨_, rfl⟩
  rw [← eL] at q1 q2 hr
  have hN10 := (mem_len hr).2
  have hle : joinE l id ≠ 0 := fun h => (joinE_ok h).2.2.1 k3
  obtain ⟨E, eE⟩ : ∃ E, E = joinE l id := ⟨_, rfl⟩
  rw [← eE] at hle
  have hLe : joinR l id = [] := by rw [joinR, if_neg (by rw [← eE]; exact hle)]
  have HJ : Hid (∀ u : World, IntsIn u a l → Calls Try.prog 25 #[.slice a n cap, .int .i64 id] u fun e w' => ∃ ad cp, e = .returned (.tuple #[.slice ad N cp, .int .i64 0]) ∧ IntsIn w' ad L ∧ Below u.heap.size u w') := hid (fun u hu => cleave_in a n cap l hn hm id u hu L N 0 eL.symm eN.symm hj)
  have HB : Hid (∀ (u : World) (ad : Option Addr) (cp : Nat), IntsIn u ad L → Calls Try.prog 23 #[.slice ad N cp, .int .i64 id] u fun e w' => ∃ ad' cp', e = .returned (.tuple #[.slice ad' n cp', .int .i64 0]) ∧ IntsIn w' ad' l ∧ Below u.heap.size u w') := hid (fun u ad cp hu => cjoin_in ad N cp L eN.symm (by rw [eN]; unfold maxLen; omega) id u hu l n 0 q2 hn q1)
  have HL : Hid (∀ u : World, IntsIn u a l → Calls Try.prog 23 #[.slice a n cap, .int .i64 id] u fun e w' => ∃ ad cp, e = .returned (.tuple #[.slice ad 0 cp, .int .i64 E]) ∧ IntsIn w' ad [] ∧ Below u.heap.size u w') := hid (fun u hu => cjoin_in a n cap l hn hm id u hu [] 0 E hLe rfl eE.symm)
  have HS : Hid (∀ (u : World) (ad : Option Addr) (cp : Nat), IntsIn u ad l → IntsIn u a l → Calls Try.prog 27 #[.slice ad n cp, .slice a n cap] u fun e w' => e = .returned (.bool true) ∧ Below u.heap.size u w') := hid (fun u ad cp h1 h2 => sameInts_any ad a n cp cap l hn hm u h1 h2)
  have r1 : hasM L id = false := by rw [eL, has_leave hj id]; simp
  have HN := hid (And.intro (And.intro hn hm) (And.intro eN.symm (show N ≤ maxLen by rw [eN]; unfold maxLen; omega)))
  have HF := hid (conf_cells w (.int .i64 ep) (.slice a n cap))
  have HI := hid (hI.alloc (.cells #[.int .i64 ep, .slice a n cap] 30))
  clear hI hn hm hj k1 k2 k3 k4 q1 q2 hr eL eN hN10 eE hLe
  go_enter Try.func8, Try.ntmps8
  go_wp2_with (first
    | (go_at_call 9; refine (clives_any _).mono ?_; rintro e w1 ⟨rfl, hb1⟩; have H1 := hid hb1; clear hb1; obtain ⟨c1, d1⟩ := conf_stay HF.out H1.out (by simp))
    | (go_at_call 23; have := H2; refine (HB.out _ _ _ (by exact H2.out.1.alloc _)).mono ?_; rintro e w3 ⟨ad3, cp3, rfl, hi3, hb3⟩; have H3 := hid (And.intro hi3 hb3); clear hb3 hi3 c1 d1
       have k3 := H2.out.2.alloc H2.out.2.size (.cells #[.int .i64 ep, .slice ad2 N cp2] 30)
       have H4 := hid (k3.trans (H3.out.2.mono k3.size))
       clear k3
       have K1 := hid (fun (u : World) (h : Below w3.heap.size w3 u) => (HI.out.keep H4.out (Nat.le_refl _)).keep h (Nat.le_refl _))
       have K2 := hid (fun (u : World) (h : Below w3.heap.size w3 u) => ((H2.out.1.alloc (.cells #[.int .i64 ep, .slice ad2 N cp2] 30)).keep H3.out.2 (Nat.le_refl _)).keep h (Nat.le_refl _))
       have X3 := hid (Below.refl w3.heap.size w3)
       obtain ⟨c1, d1⟩ := conf_stay HF.out H4.out (by simp); obtain ⟨z1, y1⟩ := conf_stay (conf_cells w2 (.int .i64 ep) (.slice ad2 N cp2)) H3.out.2 (by simp))
    | (go_at_call 23; refine (HL.out _ (HI.out.keep H1.out (Nat.le_refl _))).mono ?_; rintro e w0 ⟨ad0, cp0, rfl, hi0, hb0⟩; have HX := hid (H1.out.trans (hb0.mono H1.out.size)); clear hb0 hi0 c1 d1; obtain ⟨c1, d1⟩ := conf_stay HF.out HX.out (by simp))
    | (go_at_call 25; refine (HJ.out _ (HI.out.keep HX.out (Nat.le_refl _))).mono ?_; rintro e w2 ⟨ad2, cp2, rfl, hi2, hb2⟩; have H2 := hid (And.intro hi2 (HX.out.trans (hb2.mono HX.out.size))); clear hb2 hi2 c1 d1; obtain ⟨c1, d1⟩ := conf_stay HF.out H2.out.2 (by simp))
    | (go_at_call 27; refine (HS.out _ _ _ H3.out.1 (K1.out _ X3.out)).mono ?_; rintro e w4 ⟨rfl, hb4⟩; have X4 := hid hb4; clear hb4; clear c1 d1 z1 y1; obtain ⟨c1, d1⟩ := conf_stay HF.out (H4.out.trans (X4.out.mono H4.out.size)) (by simp); obtain ⟨z1, y1⟩ := conf_stay (conf_cells w2 (.int .i64 ep) (.slice ad2 N cp2)) (H3.out.2.trans (X4.out.mono H3.out.2.size)) (by simp))
    | (go_at_call 19; have := X6; refine (chas_any _ _ _ _ _ (by first | exact HN.out.2.1 | exact HN.out.1.1) (by first | exact HN.out.2.2 | exact HN.out.1.2) _ _ (by first | exact K2.out _ X6.out | exact K1.out _ X6.out)).mono ?_; rintro e w7 ⟨rfl, hb7⟩; have X7 := hid (X6.out.trans (hb7.mono X6.out.size)); clear hb7 X6; clear c1 d1 z1 y1; obtain ⟨c1, d1⟩ := conf_stay HF.out (H4.out.trans (X7.out.mono H4.out.size)) (by simp); obtain ⟨z1, y1⟩ := conf_stay (conf_cells w2 (.int .i64 ep) (.slice ad2 N cp2)) (H3.out.2.trans (X7.out.mono H3.out.2.size)) (by simp))
    | (go_at_call 19; have := X5; refine (chas_any _ _ _ _ _ (by first | exact HN.out.2.1 | exact HN.out.1.1) (by first | exact HN.out.2.2 | exact HN.out.1.2) _ _ (by first | exact K2.out _ X5.out | exact K1.out _ X5.out)).mono ?_; rintro e w6 ⟨rfl, hb6⟩; have X6 := hid (X5.out.trans (hb6.mono X5.out.size)); clear hb6 X5; clear c1 d1 z1 y1; obtain ⟨c1, d1⟩ := conf_stay HF.out (H4.out.trans (X6.out.mono H4.out.size)) (by simp); obtain ⟨z1, y1⟩ := conf_stay (conf_cells w2 (.int .i64 ep) (.slice ad2 N cp2)) (H3.out.2.trans (X6.out.mono H3.out.2.size)) (by simp))
    | (go_at_call 19; refine (chas_any _ _ _ _ _ (by first | exact HN.out.2.1 | exact HN.out.1.1) (by first | exact HN.out.2.2 | exact HN.out.1.2) _ _ (by first | exact K2.out _ X4.out | exact K1.out _ X4.out)).mono ?_; rintro e w5 ⟨rfl, hb5⟩; have X5 := hid (X4.out.trans (hb5.mono X4.out.size)); clear hb5 X4; clear c1 d1 z1 y1; obtain ⟨c1, d1⟩ := conf_stay HF.out (H4.out.trans (X5.out.mono H4.out.size)) (by simp); obtain ⟨z1, y1⟩ := conf_stay (conf_cells w2 (.int .i64 ep) (.slice ad2 N cp2)) (H3.out.2.trans (X5.out.mono H3.out.2.size)) (by simp)))
  go_ret
  exact ⟨rfl, ((Below.refl w.heap.size w).alloc (Nat.le_refl _) _).trans ((H4.out.trans ((by first | exact X7.out | exact X6.out : Below w3.heap.size w3 _).mono H4.out.size)).mono (by simp))⟩
set_option maxRecDepth 100000 in
set_option maxHeartbeats 3200000 in
theorem cback_none (ep : Int) (a : Option Addr) (n cap : Nat) (l : List Int) (hn : l.length = n) (hm : n ≤ maxLen) (id other : Int) (w : World) (hI : IntsIn w a l) (hj : joinE l id ≠ 0) (hle : leaveE l id ≠ 0) :
    Calls Try.prog 8 #[.agg #[.int .i64 ep, .slice a n cap], .int .i64 id, .int .i64 other] w fun e w' => e = .returned (.bool true) ∧ Below w.heap.size w w' := by
  obtain ⟨E, eE⟩ : ∃ E, E = joinE l id := ⟨_, rfl⟩
  obtain ⟨G, eG⟩ : ∃ G, G = leaveE l id := ⟨_, rfl⟩
  have hJe : joinR l id = [] := by rw [joinR, if_neg hj]
  have hLe : leaveR l id = [] := by rw [leaveR, if_neg hle]
  rw [← eE] at hj
  rw [← eG] at hle
  have HJ : Hid (∀ u : World, IntsIn u a l → Calls Try.prog 23 #[.slice a n cap, .int .i64 id] u fun e w' => ∃ ad cp, e = .returned (.tuple #[.slice ad 0 cp, .int .i64 E]) ∧ IntsIn w' ad [] ∧ Below u.heap.size u w') := hid (fun u hu => cjoin_in a n cap l hn hm id u hu [] 0 E hJe rfl eE.symm)
  have HL : Hid (∀ u : World, IntsIn u a l → Calls Try.prog 25 #[.slice a n cap, .int .i64 id] u fun e w' => ∃ ad cp, e = .returned (.tuple #[.slice ad 0 cp, .int .i64 G]) ∧ IntsIn w' ad [] ∧ Below u.heap.size u w') := hid (fun u hu => cleave_in a n cap l hn hm id u hu [] 0 G hLe rfl eG.symm)
  have HF := hid (conf_cells w (.int .i64 ep) (.slice a n cap))
  have HI := hid (hI.alloc (.cells #[.int .i64 ep, .slice a n cap] 30))
  clear hI hn hm eE eG hJe hLe
  go_enter Try.func8, Try.ntmps8
  go_wp2_with (first
    | (go_at_call 9; refine (clives_any _).mono ?_; rintro e w1 ⟨rfl, hb1⟩; have H1 := hid hb1; clear hb1; obtain ⟨c1, d1⟩ := conf_stay HF.out H1.out (by simp))
    | (go_at_call 23; refine (HJ.out _ (HI.out.keep H1.out (Nat.le_refl _))).mono ?_; rintro e w2 ⟨ad2, cp2, rfl, hi2, hb2⟩; have H2 := hid (H1.out.trans (hb2.mono H1.out.size)); clear hb2 hi2 c1 d1; obtain ⟨c1, d1⟩ := conf_stay HF.out H2.out (by simp))
    | (go_at_call 25; refine (HL.out _ (HI.out.keep H2.out (Nat.le_refl _))).mono ?_; rintro e w3 ⟨ad3, cp3, rfl, hi3, hb3⟩; have H3 := hid (H2.out.trans (hb3.mono H2.out.size)); clear hb3 hi3 c1 d1))
  go_ret
  exact ⟨rfl, ((Below.refl w.heap.size w).alloc (Nat.le_refl _) _).trans (H3.out.mono (by simp))⟩
theorem councilBack_walk (ep : Int) (a : Option Addr) (n cap : Nat) (l : List Int) (hn : l.length = n) (hm : n ≤ maxLen) (id other : Int) (w : World) (hI : IntsIn w a l) :
    Calls Try.prog 8 #[.agg #[.int .i64 ep, .slice a n cap], .int .i64 id, .int .i64 other] w fun e w' => e = .returned (.bool true) ∧ Below w.heap.size w w' := by
  by_cases hj : joinE l id = 0
  · by_cases ho : other = id
    · subst ho; exact cback_join_same ep a n cap l hn hm other w hI hj
    · exact cback_join ep a n cap l hn hm id other w hI hj ho
  · by_cases hl : leaveE l id = 0
    · by_cases ho : other = id
      · subst ho; exact cback_leave_same ep a n cap l hn hm other w hI hl
      · exact cback_leave ep a n cap l hn hm id other w hI hl ho
    · exact cback_none ep a n cap l hn hm id other w hI hj hl
end Go.Proofs.Ytfcbngdhbmifeaa
