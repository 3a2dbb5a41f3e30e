/- TermsEnough, walked. -/
import Derived.Test.YtgnapfgiefdlaaaTeS
import Derived.Test.YtgnapfgiefdlaaaTeL
import Derived.Test.YtgnapfgiefdlaaaTeR
import Derived.Test.YtgnapfgiefdlaaaCoV
namespace Go.Proofs.Ytgnapfgiefdlaaa
open Go.RowKit

set_option maxRecDepth 100000 in
set_option maxHeartbeats 6400000 in
theorem termsEnough_walk (ep : Int) (a : Option Addr) (n cap : Nat) (l : List Int) (hn : l.length = n) (hm8 : n * 8 ≤ 140737488355328) (t : ByteArray) (b : Option Addr) (m cp : Nat) (ss : List (Int × ByteArray)) (hsn : ss.length = m) (hsm : (m + m) * 24 ≤ 140737488355328) (hcp : m ≤ cp) (hcc : cp ≤ maxLen) (cut : Int) (w : World) (hI : IntsIn w a l) (hP : PairsIn w b ss) :
    Calls Try.prog 5 #[.agg #[.int .i64 ep, .slice a n cap, .string t, .slice b m cp], .int .i64 cut] w fun e w' => e = .returned (.bool true) ∧ Below w.heap.size w w' := by
  have hm : n ≤ maxLen := by unfold maxLen; omega
  have HM8 := hid hm8
  clear hm8
  have hm63 : (n : Int) ≤ 9223372036854775807 := by unfold maxLen at hm; omega
  have hs63 : (m : Int) + 1 ≤ 9223372036854775807 := by omega
  have hc63 : (cp : Int) ≤ 9223372036854775807 := by unfold maxLen at hcc; omega
  obtain ⟨k, hk, ek⟩ := cut_n cut m (by omega)
  have hk0 : (0 : Int) ≤ (k : Int) := Int.natCast_nonneg _
  have hk1 : (k : Int) ≤ (m : Int) := by omega
  have hkc : k ≤ cp := by omega
  have hmc : (m : Int) ≤ (cp : Int) := by omega
  obtain ⟨K0, eK⟩ : ∃ K0, K0 = (gathL l t ss).length := ⟨_, rfl⟩
  have HG : Hid (K0 ≤ m) := hid (by rw [eK, ← hsn]; exact gathL_le l t ss)
  have HKc : Hid (k ≤ m ∧ m ≤ cp) := hid ⟨hk, hcp⟩
  have HW : Hid (HdAt (w.alloc (.cells #[.int .i64 ep, .slice a n cap, .string t, .slice b m cp] 27)) w.heap.size ep (.slice a n cap) t (.slice b m cp) ∧ Below w.heap.size w (w.alloc (.cells #[.int .i64 ep, .slice a n cap, .string t, .slice b m cp] 27))) := hid ⟨heap_alloc_last w _, (Below.refl _ _).alloc (Nat.le_refl _) _⟩
  have HGt : Hid (∀ u : World, IntsIn u a l → PairsIn u b ss → Calls Try.prog 14 #[.agg #[.int .i64 ep, .slice a n cap], .string t, .slice b m cp] u fun e w' => ∃ v, e = .returned v ∧ w'.ownsRow u.heap.size 34 2 v (gathL l t ss).length (pC (gP t (gathL l t ss))) ∧ Below u.heap.size u w') := hid (fun u hu hv => tgather_any ep a n cap l hn HM8.out t b m cp ss hsn (by omega) u hu hv)
  have HGu : Hid (∀ (u : World) (ad : Option Addr) (M c : Nat), (ss.drop k ++ ss).length = M → IntsIn u a l → PairsIn u ad (ss.drop k ++ ss) → Calls Try.prog 14 #[.agg #[.int .i64 ep, .slice a n cap], .string t, .slice ad M c] u fun e w' => ∃ v, e = .returned v ∧ w'.ownsRow u.heap.size 34 2 v (gathL l t ss).length (pC (gP t (gathL l t ss))) ∧ Below u.heap.size u w') := hid (fun u ad M c hM hu hv => by
    have := tgather_any ep a n cap l hn HM8.out t ad M c (ss.drop k ++ ss) hM (by rw [List.length_append, List.length_drop, hsn] at hM; omega) u hu hv
    rw [gath_again] at this
    exact this)
  have HCt : Hid (∀ u : World, IntsIn u a l → PairsIn u b ss → Calls Try.prog 12 #[.agg #[.int .i64 ep, .slice a n cap], .string t, .slice b m cp] u fun e w' => e = .returned (.int .i64 (K0 : Int)) ∧ Below u.heap.size u w') := hid (fun u hu hv => by rw [eK]; exact tcount_any ep a n cap l hn HM8.out t b m cp ss hsn (by omega) u hu hv)
  have HQ0 : Hid (∀ u : World, Calls Try.prog 17 #[.int .i64 (n : Int)] u fun e w' => e = .returned (.int .i64 (quoZ (n : Int))) ∧ Below u.heap.size u w') := hid (fun u => cquorum_any (n : Int) hm63 u)
  have HPr0 : Hid (∀ (D : Bool), provesB ep l t (gP t (gathL l t ss)) = D → ∀ (u : World) (ad : Option Addr) (c : Nat), IntsIn u a l → PairsIn u ad (gP t (gathL l t ss)) → Calls Try.prog 10 #[.agg #[.int .i64 ep, .slice a n cap], .string t, .slice ad K0 c] u fun e w' => e = .returned (.bool D) ∧ Below u.heap.size u w') := hid (fun D hD u ad c hu hv => by rw [← hD]; exact tproves_any ep a n cap l hn hm t ad K0 c (gP t (gathL l t ss)) (by rw [gP_len, eK]) (by have := HG.out; unfold maxLen; omega) u hu hv)
  have HRt : Hid (∀ (B : Bool), rightC ep l = B → ∀ u : World, IntsIn u a l → Calls Try.prog 16 #[.agg #[.int .i64 ep, .slice a n cap]] u fun e w' => e = .returned (.bool B) ∧ Below u.heap.size u w') := hid (fun B hB u hu => by rw [← hB]; exact cright_any ep a n cap l hn hm u hu)
  have HPv : Hid (rightC ep l = true → provesB ep l t (gP t (gathL l t ss)) = decide (quoZ (n : Int) ≤ (K0 : Int))) := hid (fun h => by rw [gath_proves ep l t ss h, hn, eK])
  have HD := hid (And.intro hI hP)
  have HL := hid (And.intro (And.intro hn hm) (And.intro hsn hsm))
  generalize quoZ (n : Int) = Q at HQ0 HPv
  have HQ := hid HQ0.out
  have HEK := hid eK
  clear hI hP hn hm hsn hsm hk hcp hcc HQ0 eK
  cases hr : rightC ep l with
  | false =>
    have HRb := hid (HRt.out false hr)
    have HPr := hid (HPr0.out _ rfl)
    clear hr
    go_enter Try.func5, Try.ntmps5
    go_wp2_with (first
      | (go_at_call 9; refine (tlives_any _).mono ?_; rintro e w1 ⟨rfl, hb1⟩; have H1 : Hid (HdAt w1 w.heap.size ep (.slice a n cap) t (.slice b m cp) ∧ Below w.heap.size w w1) := hid ⟨HW.out.1.keep hb1, HW.out.2.trans (hb1.mono HW.out.2.size)⟩; clear hb1; have z0 := H1.out.1.cells.1; have z1 := H1.out.1.cells.2.1; have z2 := H1.out.1.cells.2.2.1; have z3 := H1.out.1.cells.2.2.2)
      | (go_at_call 14; refine (HGt.out _ (by exact HD.out.1.keep H1.out.2 (Nat.le_refl _)) (by exact HD.out.2.keep H1.out.2 (Nat.le_refl _))).mono ?_; rintro e w2 ⟨v2, rfl, hown2, hb2⟩
         obtain ⟨ad2, cp2, hv2, hp2⟩ := own_pairsT (ps := gP t (gathL l t ss)) (by rw [gP_len]; exact hown2)
         rw [gP_len] at hv2
         subst hv2
         have H2 : Hid (HdAt w2 w.heap.size ep (.slice a n cap) t (.slice b m cp) ∧ Below w.heap.size w w2 ∧ PairsIn w2 ad2 (gP t (gathL l t ss))) := hid ⟨H1.out.1.keep hb2, H1.out.2.trans (hb2.mono H1.out.2.size), hp2⟩
         clear hb2 hown2 hp2 z0 z1 z2 z3))
    rw [← HEK.out]
    clear H1
    have q0 : ∀ x : Cls w2, x.1.cell? ⟨w.heap.size, 0, none⟩ = some (.int .i64 ep) := fun x => (H2.out.1.keep x.2).cells.1
    have q1 : ∀ x : Cls w2, x.1.cell? ⟨w.heap.size, 1, none⟩ = some (.slice a n cap) := fun x => (H2.out.1.keep x.2).cells.2.1
    have q2 : ∀ x : Cls w2, x.1.cell? ⟨w.heap.size, 2, none⟩ = some (.string t) := fun x => (H2.out.1.keep x.2).cells.2.2.1
    have q3 : ∀ x : Cls w2, x.1.cell? ⟨w.heap.size, 3, none⟩ = some (.slice b m cp) := fun x => (H2.out.1.keep x.2).cells.2.2.2
    have HPp : Hid (∀ u : World, Below w2.heap.size w2 u → IntsIn u a l ∧ PairsIn u b ss ∧ PairsIn u ad2 (gP t (gathL l t ss))) := hid (fun u hu => ⟨HD.out.1.keep (H2.out.2.1.trans (hu.mono H2.out.2.1.size)) (Nat.le_refl _), HD.out.2.keep (H2.out.2.1.trans (hu.mono H2.out.2.1.size)) (Nat.le_refl _), H2.out.2.2.keep hu (Nat.le_refl _)⟩)
    haveI := Cls.ne w2
    refine wp_region_cls w2 (by kernel_rfl) (by kernel_rfl) ?_
    repeat (go_big_quiet_step ((first
      | (go_at_call 16; exact Cls.of _ (fun u hu => HRb.out u (HPp.out u hu).1))
      | (go_at_call 10; exact Cls.of _ (fun u hu => HPr.out u ad2 cp2 (HPp.out u hu).1 (HPp.out u hu).2.2))
      | (go_at_call 12; exact Cls.of _ (fun u hu => HCt.out u (HPp.out u hu).1 (HPp.out u hu).2.1))
      | (go_at_call 17; exact Cls.of _ (fun u _ => HQ.out u)))))
    refine wpQuiet_nil ?_
    rintro _ ⟨x, rfl⟩
    have H3 : Hid (HdAt x.1 w.heap.size ep (.slice a n cap) t (.slice b m cp) ∧ Below w.heap.size w x.1 ∧ PairsIn x.1 ad2 (gP t (gathL l t ss))) := hid ⟨H2.out.1.keep x.2, H2.out.2.1.trans (x.2.mono H2.out.2.1.size), H2.out.2.2.keep x.2 (Nat.le_refl _)⟩
    obtain ⟨w3, ew3⟩ : ∃ w3, w3 = x.1 := ⟨_, rfl⟩
    rw [← ew3] at H3 ⊢
    clear q0 q1 q2 q3 HPp H2 ew3
    have z0 := H3.out.1.cells.1
    have z1 := H3.out.1.cells.2.1
    have z2 := H3.out.1.cells.2.2.1
    have z3 := H3.out.1.cells.2.2.2
    go_wp2
    have HS3 : Hid (HdAt w3.drew w.heap.size ep (.slice a n cap) t (.slice b m cp)) := hid H3.out.1
    have HB3 : Hid (Below w.heap.size w w3.drew ∧ PairsIn w3.drew ad2 (gP t (gathL l t ss))) := hid ⟨H3.out.2.1.drew, H3.out.2.2.keep ((Below.refl w3.heap.size w3).drew) (Nat.le_refl _)⟩
    clear z0 z1 z2 z3
    refine wp_region_held (S := fun ww => HdAt ww w.heap.size ep (.slice a n cap) t (.slice b m cp)) (by kernel_rfl) ?_
    try (change wpAnyH _ _ _ _ _ _ _ _ (World.drew _))
    refine wpAnyH_take (i := 0) (v := ?v1) rfl (by kernel_rfl) (by kernel_rfl) (by kernel_rfl) (fun _ _ _ h => h) (Or.inl ⟨by rfl, ?hy1⟩) HS3.out ?rest1
    case hy1 => (intro ww _; go_simp; try with_reducible rfl)
    go_simp
    refine wpAnyH_take (i := 1) (v := ?v2) rfl (by kernel_rfl) (by kernel_rfl) (by kernel_rfl) (fun _ _ _ h => h) (Or.inl ⟨by rfl, ?hy2⟩) HS3.out ?rest2
    case hy2 => (intro ww hS; obtain ⟨z0, z1, z2, z3⟩ := hS.cells; go_simp; try with_reducible rfl)
    go_simp
    refine wpAnyH_take (i := 2) (v := ?v3) rfl (by kernel_rfl) (by kernel_rfl) (by kernel_rfl) (fun _ _ _ h => h) (Or.inl ⟨by rfl, ?hy3⟩) HS3.out ?rest3
    case hy3 => (intro ww _; go_simp; try with_reducible rfl)
    go_simp
    refine wpAnyH_take (i := 3) (v := ?v4) rfl (by kernel_rfl) (by kernel_rfl) (by kernel_rfl) (fun _ _ _ h => h) (Or.inl ⟨by rfl, ?hy4⟩) HS3.out ?rest4
    case hy4 => (intro ww _; go_simp; try with_reducible rfl)
    go_simp
    refine wpAnyH_take (i := 5) (v := ?v5) rfl (by kernel_rfl) (by kernel_rfl) (by kernel_rfl) (fun _ _ _ h => h) (Or.inl ⟨by rfl, ?hy5⟩) HS3.out ?rest5
    case hy5 => (intro ww _; go_simp; try with_reducible rfl)
    go_simp
    refine wpAnyH_take (i := 6) (v := ?v6) rfl (by kernel_rfl) (by kernel_rfl) (by kernel_rfl) (fun _ _ _ h => h) (Or.inl ⟨by rfl, ?hy6⟩) HS3.out ?rest6
    case hy6 => (intro ww hS; obtain ⟨z0, z1, z2, z3⟩ := hS.cells; go_simp; try with_reducible rfl)
    go_simp
    refine wpAnyH_all (rs := [4]) (by kernel_rfl) (by simp) ?_
    intro i hi
    obtain rfl := List.mem_singleton.1 hi
    clear hi
    refine wpOp_h rfl (by rfl) (fun K hK => ?_)
    refine owp_ownT _ _ rfl (by rfl) (restP b cp k) (m - k) (cp - k) (ss.drop k) (by first | rfl | (unfold restP; rfl)) (by rw [List.length_drop, HL.out.2.1]) ((HD.out.2.keep HB3.out.1 (Nat.le_refl _)).rest cp k (by rw [HL.out.2.1]; intro e; have := HKc.out; omega)) (by have := HL.out.2.2; omega) ?_
    intro v6 w6 H6
    have H6b : Hid (HdAt w6 w.heap.size ep (.slice a n cap) t (.slice b m cp) ∧ Below w.heap.size w w6 ∧ PairsIn w6 ad2 (gP t (gathL l t ss))) := hid ⟨HS3.out.keep H6.out.bel, HB3.out.1.trans (H6.out.bel.mono HB3.out.1.size), HB3.out.2.keep H6.out.bel (Nat.le_refl _)⟩
    refine hK _ _ ⟨H6b.out.1, ?_⟩
    clear hK K
    go_simp
    refine wpAnyH_all (rs := [7]) (by kernel_rfl) (by simp) ?_
    intro i hi
    obtain rfl := List.mem_singleton.1 hi
    clear hi
    refine wpOp_h rfl (by rfl) (fun K hK => ?_)
    refine owp_moreT _ _ rfl _ w3.drew v6 (ss.drop k) (by rfl) H6.out b m cp ss (by rfl) HL.out.2.1 (HD.out.2.keep H6b.out.2.1 (Nat.le_refl _)) (by rw [List.length_drop, HL.out.2.1]; have := HL.out.2.2; omega) ?_
    intro v7 w7 H7
    have H7b : Hid (HdAt w7 w.heap.size ep (.slice a n cap) t (.slice b m cp) ∧ Below w.heap.size w w7 ∧ PairsIn w7 ad2 (gP t (gathL l t ss))) := hid ⟨HS3.out.keep H7.out.bel, HB3.out.1.trans (H7.out.bel.mono HB3.out.1.size), HB3.out.2.keep H7.out.bel (Nat.le_refl _)⟩
    obtain ⟨ad7, cp7, hv7, hp7⟩ := own_pairsT H7.out.own
    obtain ⟨M, eM⟩ : ∃ M, M = (ss.drop k ++ ss).length := ⟨_, rfl⟩
    rw [← eM] at hv7
    subst hv7
    have H7p := hid (And.intro hp7 eM.symm)
    clear hp7 eM
    refine hK _ _ ⟨H7b.out.1, ?_⟩
    clear hK K
    go_simp
    refine wpAnyH_take (i := 8) (v := ?v7) rfl (by kernel_rfl) (by kernel_rfl) (by kernel_rfl) (fun _ _ _ h => h) (Or.inl ⟨by rfl, ?hy7⟩) H7b.out.1 ?rest7
    case hy7 => (intro ww _; go_simp; try with_reducible rfl)
    go_simp
    refine wpAnyH_done (by kernel_rfl) ?_ _
    go_simp
    have y0 := H7b.out.1.cells.1
    have y1 := H7b.out.1.cells.2.1
    have y2 := H7b.out.1.cells.2.2.1
    clear hm63 hs63 hc63 ek hk0 hk1 hkc hmc
    generalize (if cp = k then b else Option.map (fun x => x.add (k * 2)) b) = R0
    go_wp2_with (first
      | (go_at_call 14; refine (HGu.out _ ad7 M cp7 H7p.out.2 (by exact HD.out.1.keep H7b.out.2.1 (Nat.le_refl _)) (by exact H7p.out.1)).mono ?_; rintro e w8 ⟨v8, rfl, hown8, hb8⟩
         obtain ⟨ad8, cp8, hv8, hp8⟩ := own_pairsT (ps := gP t (gathL l t ss)) (by rw [gP_len]; exact hown8)
         rw [gP_len, ← HEK.out] at hv8
         subst hv8
         have H8 := hid (And.intro (H7b.out.2.1.trans (hb8.mono H7b.out.2.1.size)) (And.intro (H7b.out.2.2.keep hb8 (Nat.le_refl _)) hp8))
         clear hb8 hown8 hp8)
      | (go_at_call 15; refine (wsame_yes _ _ _ _ _ (gP t (gathL l t ss)) (by rw [gP_len, HEK.out]) (by have := HG.out; have := HL.out.2.2; unfold maxLen; omega) _ (by exact H8.out.2.1) (by exact H8.out.2.2)).mono ?_; rintro e w9 ⟨rfl, hb9⟩; have H9 := hid (H8.out.1.trans (hb9.mono H8.out.1.size)); clear hb9))
    go_ret
    exact ⟨rfl, H9.out⟩
  | true =>
    have HRb := hid (HRt.out true hr)
    by_cases hq : Q ≤ (K0 : Int)
    · have HPr := hid (HPr0.out true (by rw [HPv.out hr, decide_eq_true hq]))
      have dq : decide (Q ≤ (K0 : Int)) = true := decide_eq_true hq
      clear hr hq
      go_enter Try.func5, Try.ntmps5
      go_wp2_with (first
        | (go_at_call 9; refine (tlives_any _).mono ?_; rintro e w1 ⟨rfl, hb1⟩; have H1 : Hid (HdAt w1 w.heap.size ep (.slice a n cap) t (.slice b m cp) ∧ Below w.heap.size w w1) := hid ⟨HW.out.1.keep hb1, HW.out.2.trans (hb1.mono HW.out.2.size)⟩; clear hb1; have z0 := H1.out.1.cells.1; have z1 := H1.out.1.cells.2.1; have z2 := H1.out.1.cells.2.2.1; have z3 := H1.out.1.cells.2.2.2)
        | (go_at_call 14; refine (HGt.out _ (by exact HD.out.1.keep H1.out.2 (Nat.le_refl _)) (by exact HD.out.2.keep H1.out.2 (Nat.le_refl _))).mono ?_; rintro e w2 ⟨v2, rfl, hown2, hb2⟩
           obtain ⟨ad2, cp2, hv2, hp2⟩ := own_pairsT (ps := gP t (gathL l t ss)) (by rw [gP_len]; exact hown2)
           rw [gP_len] at hv2
           subst hv2
           have H2 : Hid (HdAt w2 w.heap.size ep (.slice a n cap) t (.slice b m cp) ∧ Below w.heap.size w w2 ∧ PairsIn w2 ad2 (gP t (gathL l t ss))) := hid ⟨H1.out.1.keep hb2, H1.out.2.trans (hb2.mono H1.out.2.size), hp2⟩
           clear hb2 hown2 hp2 z0 z1 z2 z3))
      rw [← HEK.out]
      clear H1
      have q0 : ∀ x : Cls w2, x.1.cell? ⟨w.heap.size, 0, none⟩ = some (.int .i64 ep) := fun x => (H2.out.1.keep x.2).cells.1
      have q1 : ∀ x : Cls w2, x.1.cell? ⟨w.heap.size, 1, none⟩ = some (.slice a n cap) := fun x => (H2.out.1.keep x.2).cells.2.1
      have q2 : ∀ x : Cls w2, x.1.cell? ⟨w.heap.size, 2, none⟩ = some (.string t) := fun x => (H2.out.1.keep x.2).cells.2.2.1
      have q3 : ∀ x : Cls w2, x.1.cell? ⟨w.heap.size, 3, none⟩ = some (.slice b m cp) := fun x => (H2.out.1.keep x.2).cells.2.2.2
      have HPp : Hid (∀ u : World, Below w2.heap.size w2 u → IntsIn u a l ∧ PairsIn u b ss ∧ PairsIn u ad2 (gP t (gathL l t ss))) := hid (fun u hu => ⟨HD.out.1.keep (H2.out.2.1.trans (hu.mono H2.out.2.1.size)) (Nat.le_refl _), HD.out.2.keep (H2.out.2.1.trans (hu.mono H2.out.2.1.size)) (Nat.le_refl _), H2.out.2.2.keep hu (Nat.le_refl _)⟩)
      haveI := Cls.ne w2
      refine wp_region_cls w2 (by kernel_rfl) (by kernel_rfl) ?_
      repeat (go_big_quiet_step ((first
        | (go_at_call 16; exact Cls.of _ (fun u hu => HRb.out u (HPp.out u hu).1))
        | (go_at_call 10; exact Cls.of _ (fun u hu => HPr.out u ad2 cp2 (HPp.out u hu).1 (HPp.out u hu).2.2))
        | (go_at_call 12; exact Cls.of _ (fun u hu => HCt.out u (HPp.out u hu).1 (HPp.out u hu).2.1))
        | (go_at_call 17; exact Cls.of _ (fun u _ => HQ.out u)))))
      refine wpQuiet_nil ?_
      rintro _ ⟨x, rfl⟩
      have H3 : Hid (HdAt x.1 w.heap.size ep (.slice a n cap) t (.slice b m cp) ∧ Below w.heap.size w x.1 ∧ PairsIn x.1 ad2 (gP t (gathL l t ss))) := hid ⟨H2.out.1.keep x.2, H2.out.2.1.trans (x.2.mono H2.out.2.1.size), H2.out.2.2.keep x.2 (Nat.le_refl _)⟩
      obtain ⟨w3, ew3⟩ : ∃ w3, w3 = x.1 := ⟨_, rfl⟩
      rw [← ew3] at H3 ⊢
      clear q0 q1 q2 q3 HPp H2 ew3
      have z0 := H3.out.1.cells.1
      have z1 := H3.out.1.cells.2.1
      have z2 := H3.out.1.cells.2.2.1
      have z3 := H3.out.1.cells.2.2.2
      go_wp2
      have HS3 : Hid (HdAt w3.drew w.heap.size ep (.slice a n cap) t (.slice b m cp)) := hid H3.out.1
      have HB3 : Hid (Below w.heap.size w w3.drew ∧ PairsIn w3.drew ad2 (gP t (gathL l t ss))) := hid ⟨H3.out.2.1.drew, H3.out.2.2.keep ((Below.refl w3.heap.size w3).drew) (Nat.le_refl _)⟩
      clear z0 z1 z2 z3
      refine wp_region_held (S := fun ww => HdAt ww w.heap.size ep (.slice a n cap) t (.slice b m cp)) (by kernel_rfl) ?_
      try (change wpAnyH _ _ _ _ _ _ _ _ (World.drew _))
      refine wpAnyH_take (i := 0) (v := ?v8) rfl (by kernel_rfl) (by kernel_rfl) (by kernel_rfl) (fun _ _ _ h => h) (Or.inl ⟨by rfl, ?hy8⟩) HS3.out ?rest8
      case hy8 => (intro ww _; go_simp; try with_reducible rfl)
      go_simp
      refine wpAnyH_take (i := 1) (v := ?v9) rfl (by kernel_rfl) (by kernel_rfl) (by kernel_rfl) (fun _ _ _ h => h) (Or.inl ⟨by rfl, ?hy9⟩) HS3.out ?rest9
      case hy9 => (intro ww hS; obtain ⟨z0, z1, z2, z3⟩ := hS.cells; go_simp; try with_reducible rfl)
      go_simp
      refine wpAnyH_take (i := 2) (v := ?v10) rfl (by kernel_rfl) (by kernel_rfl) (by kernel_rfl) (fun _ _ _ h => h) (Or.inl ⟨by rfl, ?hy10⟩) HS3.out ?rest10
      case hy10 => (intro ww _; go_simp; try with_reducible rfl)
      go_simp
      refine wpAnyH_take (i := 3) (v := ?v11) rfl (by kernel_rfl) (by kernel_rfl) (by kernel_rfl) (fun _ _ _ h => h) (Or.inl ⟨by rfl, ?hy11⟩) HS3.out ?rest11
      case hy11 => (intro ww _; go_simp; try with_reducible rfl)
      go_simp
      refine wpAnyH_take (i := 5) (v := ?v12) rfl (by kernel_rfl) (by kernel_rfl) (by kernel_rfl) (fun _ _ _ h => h) (Or.inl ⟨by rfl, ?hy12⟩) HS3.out ?rest12
      case hy12 => (intro ww _; go_simp; try with_reducible rfl)
      go_simp
      refine wpAnyH_take (i := 6) (v := ?v13) rfl (by kernel_rfl) (by kernel_rfl) (by kernel_rfl) (fun _ _ _ h => h) (Or.inl ⟨by rfl, ?hy13⟩) HS3.out ?rest13
      case hy13 => (intro ww hS; obtain ⟨z0, z1, z2, z3⟩ := hS.cells; go_simp; try with_reducible rfl)
      go_simp
      refine wpAnyH_all (rs := [4]) (by kernel_rfl) (by simp) ?_
      intro i hi
      obtain rfl := List.mem_singleton.1 hi
      clear hi
      refine wpOp_h rfl (by rfl) (fun K hK => ?_)
      refine owp_ownT _ _ rfl (by rfl) (restP b cp k) (m - k) (cp - k) (ss.drop k) (by first | rfl | (unfold restP; rfl)) (by rw [List.length_drop, HL.out.2.1]) ((HD.out.2.keep HB3.out.1 (Nat.le_refl _)).rest cp k (by rw [HL.out.2.1]; intro e; have := HKc.out; omega)) (by have := HL.out.2.2; omega) ?_
      intro v6 w6 H6
      have H6b : Hid (HdAt w6 w.heap.size ep (.slice a n cap) t (.slice b m cp) ∧ Below w.heap.size w w6 ∧ PairsIn w6 ad2 (gP t (gathL l t ss))) := hid ⟨HS3.out.keep H6.out.bel, HB3.out.1.trans (H6.out.bel.mono HB3.out.1.size), HB3.out.2.keep H6.out.bel (Nat.le_refl _)⟩
      refine hK _ _ ⟨H6b.out.1, ?_⟩
      clear hK K
      go_simp
      refine wpAnyH_all (rs := [7]) (by kernel_rfl) (by simp) ?_
      intro i hi
      obtain rfl := List.mem_singleton.1 hi
      clear hi
      refine wpOp_h rfl (by rfl) (fun K hK => ?_)
      refine owp_moreT _ _ rfl _ w3.drew v6 (ss.drop k) (by rfl) H6.out b m cp ss (by rfl) HL.out.2.1 (HD.out.2.keep H6b.out.2.1 (Nat.le_refl _)) (by rw [List.length_drop, HL.out.2.1]; have := HL.out.2.2; omega) ?_
      intro v7 w7 H7
      have H7b : Hid (HdAt w7 w.heap.size ep (.slice a n cap) t (.slice b m cp) ∧ Below w.heap.size w w7 ∧ PairsIn w7 ad2 (gP t (gathL l t ss))) := hid ⟨HS3.out.keep H7.out.bel, HB3.out.1.trans (H7.out.bel.mono HB3.out.1.size), HB3.out.2.keep H7.out.bel (Nat.le_refl _)⟩
      obtain ⟨ad7, cp7, hv7, hp7⟩ := own_pairsT H7.out.own
      obtain ⟨M, eM⟩ : ∃ M, M = (ss.drop k ++ ss).length := ⟨_, rfl⟩
      rw [← eM] at hv7
      subst hv7
      have H7p := hid (And.intro hp7 eM.symm)
      clear hp7 eM
      refine hK _ _ ⟨H7b.out.1, ?_⟩
      clear hK K
      go_simp
      refine wpAnyH_take (i := 8) (v := ?v14) rfl (by kernel_rfl) (by kernel_rfl) (by kernel_rfl) (fun _ _ _ h => h) (Or.inl ⟨by rfl, ?hy14⟩) H7b.out.1 ?rest14
      case hy14 => (intro ww _; go_simp; try with_reducible rfl)
      go_simp
      refine wpAnyH_done (by kernel_rfl) ?_ _
      go_simp
      have y0 := H7b.out.1.cells.1
      have y1 := H7b.out.1.cells.2.1
      have y2 := H7b.out.1.cells.2.2.1
      clear hm63 hs63 hc63 ek hk0 hk1 hkc hmc
      generalize (if cp = k then b else Option.map (fun x => x.add (k * 2)) b) = R0
      go_wp2_with (first
        | (go_at_call 14; refine (HGu.out _ ad7 M cp7 H7p.out.2 (by exact HD.out.1.keep H7b.out.2.1 (Nat.le_refl _)) (by exact H7p.out.1)).mono ?_; rintro e w8 ⟨v8, rfl, hown8, hb8⟩
           obtain ⟨ad8, cp8, hv8, hp8⟩ := own_pairsT (ps := gP t (gathL l t ss)) (by rw [gP_len]; exact hown8)
           rw [gP_len, ← HEK.out] at hv8
           subst hv8
           have H8 := hid (And.intro (H7b.out.2.1.trans (hb8.mono H7b.out.2.1.size)) (And.intro (H7b.out.2.2.keep hb8 (Nat.le_refl _)) hp8))
           clear hb8 hown8 hp8)
        | (go_at_call 15; refine (wsame_yes _ _ _ _ _ (gP t (gathL l t ss)) (by rw [gP_len, HEK.out]) (by have := HG.out; have := HL.out.2.2; unfold maxLen; omega) _ (by exact H8.out.2.1) (by exact H8.out.2.2)).mono ?_; rintro e w9 ⟨rfl, hb9⟩; have H9 := hid (H8.out.1.trans (hb9.mono H8.out.1.size)); clear hb9))
      go_ret
      exact ⟨rfl, H9.out⟩
    · have HPr := hid (HPr0.out false (by rw [HPv.out hr, decide_eq_false hq]))
      have dq : decide (Q ≤ (K0 : Int)) = false := decide_eq_false hq
      clear hr hq
      go_enter Try.func5, Try.ntmps5
      go_wp2_with (first
        | (go_at_call 9; refine (tlives_any _).mono ?_; rintro e w1 ⟨rfl, hb1⟩; have H1 : Hid (HdAt w1 w.heap.size ep (.slice a n cap) t (.slice b m cp) ∧ Below w.heap.size w w1) := hid ⟨HW.out.1.keep hb1, HW.out.2.trans (hb1.mono HW.out.2.size)⟩; clear hb1; have z0 := H1.out.1.cells.1; have z1 := H1.out.1.cells.2.1; have z2 := H1.out.1.cells.2.2.1; have z3 := H1.out.1.cells.2.2.2)
        | (go_at_call 14; refine (HGt.out _ (by exact HD.out.1.keep H1.out.2 (Nat.le_refl _)) (by exact HD.out.2.keep H1.out.2 (Nat.le_refl _))).mono ?_; rintro e w2 ⟨v2, rfl, hown2, hb2⟩
           obtain ⟨ad2, cp2, hv2, hp2⟩ := own_pairsT (ps := gP t (gathL l t ss)) (by rw [gP_len]; exact hown2)
           rw [gP_len] at hv2
           subst hv2
           have H2 : Hid (HdAt w2 w.heap.size ep (.slice a n cap) t (.slice b m cp) ∧ Below w.heap.size w w2 ∧ PairsIn w2 ad2 (gP t (gathL l t ss))) := hid ⟨H1.out.1.keep hb2, H1.out.2.trans (hb2.mono H1.out.2.size), hp2⟩
           clear hb2 hown2 hp2 z0 z1 z2 z3))
      rw [← HEK.out]
      clear H1
      have q0 : ∀ x : Cls w2, x.1.cell? ⟨w.heap.size, 0, none⟩ = some (.int .i64 ep) := fun x => (H2.out.1.keep x.2).cells.1
      have q1 : ∀ x : Cls w2, x.1.cell? ⟨w.heap.size, 1, none⟩ = some (.slice a n cap) := fun x => (H2.out.1.keep x.2).cells.2.1
      have q2 : ∀ x : Cls w2, x.1.cell? ⟨w.heap.size, 2, none⟩ = some (.string t) := fun x => (H2.out.1.keep x.2).cells.2.2.1
      have q3 : ∀ x : Cls w2, x.1.cell? ⟨w.heap.size, 3, none⟩ = some (.slice b m cp) := fun x => (H2.out.1.keep x.2).cells.2.2.2
      have HPp : Hid (∀ u : World, Below w2.heap.size w2 u → IntsIn u a l ∧ PairsIn u b ss ∧ PairsIn u ad2 (gP t (gathL l t ss))) := hid (fun u hu => ⟨HD.out.1.keep (H2.out.2.1.trans (hu.mono H2.out.2.1.size)) (Nat.le_refl _), HD.out.2.keep (H2.out.2.1.trans (hu.mono H2.out.2.1.size)) (Nat.le_refl _), H2.out.2.2.keep hu (Nat.le_refl _)⟩)
      haveI := Cls.ne w2
      refine wp_region_cls w2 (by kernel_rfl) (by kernel_rfl) ?_
      repeat (go_big_quiet_step ((first
        | (go_at_call 16; exact Cls.of _ (fun u hu => HRb.out u (HPp.out u hu).1))
        | (go_at_call 10; exact Cls.of _ (fun u hu => HPr.out u ad2 cp2 (HPp.out u hu).1 (HPp.out u hu).2.2))
        | (go_at_call 12; exact Cls.of _ (fun u hu => HCt.out u (HPp.out u hu).1 (HPp.out u hu).2.1))
        | (go_at_call 17; exact Cls.of _ (fun u _ => HQ.out u)))))
      refine wpQuiet_nil ?_
      rintro _ ⟨x, rfl⟩
      have H3 : Hid (HdAt x.1 w.heap.size ep (.slice a n cap) t (.slice b m cp) ∧ Below w.heap.size w x.1 ∧ PairsIn x.1 ad2 (gP t (gathL l t ss))) := hid ⟨H2.out.1.keep x.2, H2.out.2.1.trans (x.2.mono H2.out.2.1.size), H2.out.2.2.keep x.2 (Nat.le_refl _)⟩
      obtain ⟨w3, ew3⟩ : ∃ w3, w3 = x.1 := ⟨_, rfl⟩
      rw [← ew3] at H3 ⊢
      clear q0 q1 q2 q3 HPp H2 ew3
      have z0 := H3.out.1.cells.1
      have z1 := H3.out.1.cells.2.1
      have z2 := H3.out.1.cells.2.2.1
      have z3 := H3.out.1.cells.2.2.2
      go_wp2
      have HS3 : Hid (HdAt w3.drew w.heap.size ep (.slice a n cap) t (.slice b m cp)) := hid H3.out.1
      have HB3 : Hid (Below w.heap.size w w3.drew ∧ PairsIn w3.drew ad2 (gP t (gathL l t ss))) := hid ⟨H3.out.2.1.drew, H3.out.2.2.keep ((Below.refl w3.heap.size w3).drew) (Nat.le_refl _)⟩
      clear z0 z1 z2 z3
      refine wp_region_held (S := fun ww => HdAt ww w.heap.size ep (.slice a n cap) t (.slice b m cp)) (by kernel_rfl) ?_
      try (change wpAnyH _ _ _ _ _ _ _ _ (World.drew _))
      refine wpAnyH_take (i := 0) (v := ?v15) rfl (by kernel_rfl) (by kernel_rfl) (by kernel_rfl) (fun _ _ _ h => h) (Or.inl ⟨by rfl, ?hy15⟩) HS3.out ?rest15
      case hy15 => (intro ww _; go_simp; try with_reducible rfl)
      go_simp
      refine wpAnyH_take (i := 1) (v := ?v16) rfl (by kernel_rfl) (by kernel_rfl) (by kernel_rfl) (fun _ _ _ h => h) (Or.inl ⟨by rfl, ?hy16⟩) HS3.out ?rest16
      case hy16 => (intro ww hS; obtain ⟨z0, z1, z2, z3⟩ := hS.cells; go_simp; try with_reducible rfl)
      go_simp
      refine wpAnyH_take (i := 2) (v := ?v17) rfl (by kernel_rfl) (by kernel_rfl) (by kernel_rfl) (fun _ _ _ h => h) (Or.inl ⟨by rfl, ?hy17⟩) HS3.out ?rest17
      case hy17 => (intro ww _; go_simp; try with_reducible rfl)
      go_simp
      refine wpAnyH_take (i := 3) (v := ?v18) rfl (by kernel_rfl) (by kernel_rfl) (by kernel_rfl) (fun _ _ _ h => h) (Or.inl ⟨by rfl, ?hy18⟩) HS3.out ?rest18
      case hy18 => (intro ww _; go_simp; try with_reducible rfl)
      go_simp
      refine wpAnyH_take (i := 5) (v := ?v19) rfl (by kernel_rfl) (by kernel_rfl) (by kernel_rfl) (fun _ _ _ h => h) (Or.inl ⟨by rfl, ?hy19⟩) HS3.out ?rest19
      case hy19 => (intro ww _; go_simp; try with_reducible rfl)
      go_simp
      refine wpAnyH_take (i := 6) (v := ?v20) rfl (by kernel_rfl) (by kernel_rfl) (by kernel_rfl) (fun _ _ _ h => h) (Or.inl ⟨by rfl, ?hy20⟩) HS3.out ?rest20
      case hy20 => (intro ww hS; obtain ⟨z0, z1, z2, z3⟩ := hS.cells; go_simp; try with_reducible rfl)
      go_simp
      refine wpAnyH_all (rs := [4]) (by kernel_rfl) (by simp) ?_
      intro i hi
      obtain rfl := List.mem_singleton.1 hi
      clear hi
      refine wpOp_h rfl (by rfl) (fun K hK => ?_)
      refine owp_ownT _ _ rfl (by rfl) (restP b cp k) (m - k) (cp - k) (ss.drop k) (by first | rfl | (unfold restP; rfl)) (by rw [List.length_drop, HL.out.2.1]) ((HD.out.2.keep HB3.out.1 (Nat.le_refl _)).rest cp k (by rw [HL.out.2.1]; intro e; have := HKc.out; omega)) (by have := HL.out.2.2; omega) ?_
      intro v6 w6 H6
      have H6b : Hid (HdAt w6 w.heap.size ep (.slice a n cap) t (.slice b m cp) ∧ Below w.heap.size w w6 ∧ PairsIn w6 ad2 (gP t (gathL l t ss))) := hid ⟨HS3.out.keep H6.out.bel, HB3.out.1.trans (H6.out.bel.mono HB3.out.1.size), HB3.out.2.keep H6.out.bel (Nat.le_refl _)⟩
      refine hK _ _ ⟨H6b.out.1, ?_⟩
      clear hK K
      go_simp
      refine wpAnyH_all (rs := [7]) (by kernel_rfl) (by simp) ?_
      intro i hi
      obtain rfl := List.mem_singleton.1 hi
      clear hi
      refine wpOp_h rfl (by rfl) (fun K hK => ?_)
      refine owp_moreT _ _ rfl _ w3.drew v6 (ss.drop k) (by rfl) H6.out b m cp ss (by rfl) HL.out.2.1 (HD.out.2.keep H6b.out.2.1 (Nat.le_refl _)) (by rw [List.length_drop, HL.out.2.1]; have := HL.out.2.2; omega) ?_
      intro v7 w7 H7
      have H7b : Hid (HdAt w7 w.heap.size ep (.slice a n cap) t (.slice b m cp) ∧ Below w.heap.size w w7 ∧ PairsIn w7 ad2 (gP t (gathL l t ss))) := hid ⟨HS3.out.keep H7.out.bel, HB3.out.1.trans (H7.out.bel.mono HB3.out.1.size), HB3.out.2.keep H7.out.bel (Nat.le_refl _)⟩
      obtain ⟨ad7, cp7, hv7, hp7⟩ := own_pairsT H7.out.own
      obtain ⟨M, eM⟩ : ∃ M, M = (ss.drop k ++ ss).length := ⟨_, rfl⟩
      rw [← eM] at hv7
      subst hv7
      have H7p := hid (And.intro hp7 eM.symm)
      clear hp7 eM
      refine hK _ _ ⟨H7b.out.1, ?_⟩
      clear hK K
      go_simp
      refine wpAnyH_take (i := 8) (v := ?v21) rfl (by kernel_rfl) (by kernel_rfl) (by kernel_rfl) (fun _ _ _ h => h) (Or.inl ⟨by rfl, ?hy21⟩) H7b.out.1 ?rest21
      case hy21 => (intro ww _; go_simp; try with_reducible rfl)
      go_simp
      refine wpAnyH_done (by kernel_rfl) ?_ _
      go_simp
      have y0 := H7b.out.1.cells.1
      have y1 := H7b.out.1.cells.2.1
      have y2 := H7b.out.1.cells.2.2.1
      clear hm63 hs63 hc63 ek hk0 hk1 hkc hmc
      generalize (if cp = k then b else Option.map (fun x => x.add (k * 2)) b) = R0
      go_wp2_with (first
        | (go_at_call 14; refine (HGu.out _ ad7 M cp7 H7p.out.2 (by exact HD.out.1.keep H7b.out.2.1 (Nat.le_refl _)) (by exact H7p.out.1)).mono ?_; rintro e w8 ⟨v8, rfl, hown8, hb8⟩
           obtain ⟨ad8, cp8, hv8, hp8⟩ := own_pairsT (ps := gP t (gathL l t ss)) (by rw [gP_len]; exact hown8)
           rw [gP_len, ← HEK.out] at hv8
           subst hv8
           have H8 := hid (And.intro (H7b.out.2.1.trans (hb8.mono H7b.out.2.1.size)) (And.intro (H7b.out.2.2.keep hb8 (Nat.le_refl _)) hp8))
           clear hb8 hown8 hp8)
        | (go_at_call 15; refine (wsame_yes _ _ _ _ _ (gP t (gathL l t ss)) (by rw [gP_len, HEK.out]) (by have := HG.out; have := HL.out.2.2; unfold maxLen; omega) _ (by exact H8.out.2.1) (by exact H8.out.2.2)).mono ?_; rintro e w9 ⟨rfl, hb9⟩; have H9 := hid (H8.out.1.trans (hb9.mono H8.out.1.size)); clear hb9))
      go_ret
      exact ⟨rfl, H9.out⟩
end Go.Proofs.Ytgnapfgiefdlaaa
