/- The law: what is known only grows. -/
import Derived.Test.YtpholamobedkhaaTrIM
namespace Go.Proofs.Ytpholamobedkhaa
open Go.RowKit

set_option maxRecDepth 100000 in
set_option maxHeartbeats 6400000 in
theorem lgrows_any (ep : Int) (a : Option Addr) (n cap : Nat) (l : List Int) (hn : l.length = n) (hm : n ≤ maxLen) (Gs : Nat → Prop) (sv : Value) (os : List Cl) (hol : os.length ≤ maxLen) (hos : ∀ o, o ∈ os → ∀ k, k ∈ o.2 → k.2.1.length ≤ maxLen ∧ k.2.2.length ≤ maxLen) (hoc : ∀ o, o ∈ os → o.2.length ≤ maxLen) (w : World) (hI : IntsIn w a l) (hS : Reads Gs w sv (.l 2 (dOps os))) (hCp : Caps w sv (.l 2 (dOps os))) :
    Calls Try.prog 5 #[.agg #[.int .i64 ep, .slice a n cap], sv] w fun r w' => r = .returned (.bool true) ∧ Below w.heap.size w w' := by
  obtain ⟨sa, sc, hv⟩ := ops_form hS
  subst hv
  have hl2 : (os.length : Int) ≤ 9223372036854775807 := by unfold maxLen at hol; omega
  have H0 : Hid (Below w.heap.size w (w.alloc (.cells #[.int .i64 ep, .slice a n cap] 24)) ∧ CfAt (w.alloc (.cells #[.int .i64 ep, .slice a n cap] 24)) w.heap.size ep (.slice a n cap)) := hid ⟨(Below.refl _ _).alloc (Nat.le_refl _) _, heap_alloc_last w _⟩
  have HI := hid (And.intro hI (And.intro hn hm))
  have HD := hid (And.intro hS hos)
  have HCp := hid (And.intro hCp hoc)
  clear hI hn hm hS hos hol hCp hoc
  by_cases hr : rightC ep l = true ∧ ep = 0
  · obtain ⟨hr, rfl⟩ := hr
    have HR := hid hr
    clear hr
    go_enter Try.func5, Try.ntmps5
    go_wp2_with (first
      | (go_at_call 9; refine (jlives_any _).mono ?_; rintro r w1 ⟨rfl, hb1⟩
         have H1 : Hid (Below w.heap.size w w1 ∧ CfAt w1 w.heap.size 0 (.slice a n cap)) := hid ⟨H0.out.1.trans (hb1.mono H0.out.1.size), H0.out.2.keep hb1⟩
         clear hb1
         have x0 := H1.out.2.cells.1
         have x1 := H1.out.2.cells.2)
      | (go_at_call 12; refine (lnew_any 0 a n cap l HI.out.2.1 HI.out.2.2 _ (HI.out.1.keep H1.out.1 (Nat.le_refl _))).mono ?_; rintro r w2 ⟨hb2, h2, _⟩; obtain ⟨v, O, rfl, ht2, hO2⟩ := h2 ⟨HR.out, rfl⟩; obtain ⟨gt, rfl⟩ := ht2.isptr
         have H2 : Hid (GrSt w w2 O (.pointer (some ⟨gt, 0, none⟩)) l []) := hid ⟨ht2, H1.out.1.trans (hb2.mono H1.out.1.size), fun k hk => Nat.le_trans H1.out.1.size (hO2 k hk)⟩
         clear hb2 h2 ht2 hO2 x0 x1))
    go_loopw [7] (fun i wr => ∃ (j : Nat) (O : Nat → Prop) (ls : List Lk), j ≤ os.length ∧ i = .int .i64 (j : Int) ∧ chainE 0 l [] ls = 0 ∧ GrSt w wr O (.pointer (some ⟨gt, 0, none⟩)) l ls)
      (fun i _ => ((os.length : Int) - intOf i).toNat)
    case atStart => exact ⟨0, _, _, by omega, rfl, rfl, H2.out⟩
    case round =>
      obtain ⟨j, Oj, ls, hj, rfl, hch, hP⟩ := hrel
      have HP := hid (And.intro hP hch)
      clear hP hch
      by_cases hjn : j = os.length
      · have hj1 : ¬ ((j : Int) < (os.length : Int)) := by omega
        clear hj hjn
        go_wp2
        go_ret
        exact ⟨rfl, HP.out.1.bel⟩
      · have hj1 : (j : Int) < (os.length : Int) := by omega
        have hj0 : (0 : Int) ≤ (j : Int) := Int.natCast_nonneg _
        obtain ⟨o, ho⟩ : ∃ o, os[j]? = some o := ⟨_, List.getElem?_eq_getElem (by omega)⟩
        obtain ⟨g, off, _, cv, hv, hg, k0, k1, hcv⟩ := ops_at HD.out.1 j o ho
        cases hv
        obtain ⟨one, cs⟩ := o
        obtain ⟨ca, cc, hv⟩ := lks_form hcv
        subst hv
        have HG := hid (And.intro hg (And.intro k0 k1))
        have HC : Hid (Reads Gs w (.slice ca cs.length cc) (.l 3 (dLks cs)) ∧ ∀ k, k ∈ cs → k.2.1.length ≤ maxLen ∧ k.2.2.length ≤ maxLen) := hid ⟨hcv, HD.out.2 _ (List.mem_of_getElem? ho)⟩
        have HRm := hid (And.intro (HCp.out.2 _ (List.mem_of_getElem? ho)) (ops_room HCp.out.1 ho k1))
        have HJ := hid (And.intro hj hjn)
        have hgd := good_of HP.out.2
        have hgd2 := good_of (callL_ok (one := one) (cs := cs) HP.out.2)
        have HGd := hid (And.intro hgd hgd2)
        have hls2 : (ls.length : Int) ≤ 60 := by have := hgd.len; omega
        have hls0 : (0 : Int) ≤ (ls.length : Int) := Int.natCast_nonneg _
        have hll2 : ((callL l ls one cs).length : Int) ≤ 60 := by have := hgd2.len; omega
        clear hg hcv ho hj hjn hgd hgd2 k0 k1
        have HCall : Hid (∀ (E : Int) (L : List Lk), callE l ls one cs = E → callL l ls one cs = L → ∀ (O : Nat → Prop) (u : World), GrSt w u O (.pointer (some ⟨gt, 0, none⟩)) l ls → Calls Try.prog 14 #[.pointer (some ⟨gt, 0, none⟩), .agg #[.bool one, .slice ca cs.length cc]] u fun r w' => r = .returned (.int .i64 E) ∧ Outs O u w' ∧ ∃ O', TrAt O' w' (.pointer (some ⟨gt, 0, none⟩)) l L ∧ ∀ k, O' k → O k ∨ u.heap.size ≤ k) := hid (fun E L hE hL O u hu => by rw [← hE, ← hL]; exact jcall_any O _ l HR.out ls HP.out.2 Gs one _ cs HC.out.2 HRm.out.1 HRm.out.2 u hu.tr (HC.out.1.under hu.bel (Nat.le_refl _)))
        have HSt := hid (call_stays (fm := l) (one := one) (cs := cs) HGd.out.1)
        have HOk := hid (callL_ok (fm := l) (one := one) (cs := cs) HP.out.2)
        by_cases hE : callE l ls one cs = 0
        · have hmore : (ls.length : Int) < ((callL l ls one cs).length : Int) := by have := call_more hE; omega
          have HMr := hid (Nat.le_of_lt (call_more hE))
          have HCb := hid (HCall.out 0 _ hE rfl)
          have hmore2 : ¬ (((callL l ls one cs).length : Int) ≤ (ls.length : Int)) := by omega
          have hdec : decide ((callL l ls one cs).length ≤ ls.length) = false := decide_eq_false (by have := call_more hE; omega)
          clear hE
          generalize callL l ls one cs = L at *
          go_wp2_with (first
            | (go_at_call 17; have := H6; refine (lchainO_any O6 _ l L (by omega) (fun k hk => HGd.out.2.small k hk) _ H6.out.1.tr).mono ?_; rintro r w7 ⟨v7, F7, rfl, ho7, hF7, hb7⟩
               have H7 := hid (And.intro (H6.out.1.keep hb7) (And.intro (H6.out.2.under hb7 (Nat.le_refl _)) (And.intro ho7 hF7)))
               clear ho7 hF7 hb7
               obtain ⟨a7, c7, hv7⟩ := H7.out.2.2.1.form
               rw [dLks_len] at hv7
               subst hv7)
            | (go_at_call 17; refine (lchainO_any Oj _ l ls (by omega) (fun k hk => HGd.out.1.small k hk) _ HP.out.1.tr).mono ?_; rintro r w4 ⟨v4, F4, rfl, ho4, hF4, hb4⟩
               have H4 := hid (And.intro (HP.out.1.keep hb4) (And.intro ho4 hF4))
               clear ho4 hF4 hb4
               obtain ⟨a4, c4, hv4⟩ := H4.out.2.1.form
               rw [dLks_len] at hv4
               subst hv4)
            | (go_at_call 18; have := H7; refine (lepoch_any O6 _ l L (by omega) _ (by exact H7.out.1.tr)).mono ?_; rintro r w8 ⟨rfl, hb8⟩
               have H8 := hid (And.intro (H7.out.1.keep hb8) (And.intro (H7.out.2.1.under hb8 (Nat.le_refl _)) (H7.out.2.2.1.under hb8 (Nat.le_refl _))))
               clear hb8)
            | (go_at_call 18; refine (lepoch_any Oj _ l ls (by omega) _ (by exact H4.out.1.tr)).mono ?_; rintro r w5 ⟨rfl, hb5⟩
               have H5 := hid (And.intro (H4.out.1.keep hb5) (H4.out.2.1.under hb5 (Nat.le_refl _)))
               clear hb5
               have y0 := (H5.out.1.bel.cell (p := ⟨g, off + j * 2, none⟩) HG.out.1).trans HG.out.2.1
               have y1 := (H5.out.1.bel.cell (p := ⟨g, off + j * 2 + 1, none⟩) HG.out.1).trans HG.out.2.2)
            | (go_at_call 14; refine (HCb.out Oj _ (by exact H5.out.1)).mono ?_; rintro r w6 ⟨rfl, ho6, O6, ht6, hO6⟩
               have H6 := hid (And.intro (H5.out.1.step ho6 ht6 hO6) (H5.out.2.apart ho6 (fun k hk => (H4.out.2.2 k hk).1) (fun k hk => HP.out.1.tr.lt k hk)))
               clear ho6 ht6 hO6))
          try rw [hdec]
          go_loopw [12] (fun i wr => ∃ q : Nat, q ≤ ls.length ∧ i = .int .i64 (q : Int) ∧ Below w8.heap.size w8 wr)
            (fun i _ => ((ls.length : Int) - intOf i).toNat)
          case atStart => exact ⟨0, by omega, rfl, Below.refl _ _⟩
          case round =>
            obtain ⟨q, hq, rfl, hbq⟩ := hrel
            have HQ := hid (H8.out.1.keep hbq)
            have HBq := hid hbq
            clear hbq
            by_cases hqn : q = ls.length
            · have hq1 : ¬ ((q : Int) < (ls.length : Int)) := by omega
              clear hq hqn
              go_wp2
              go_roundw
              case rel => exact ⟨j + 1, O6, L, by have := HJ.out; omega, rfl, HOk.out, HQ.out⟩
              case measure => have := HJ.out; simp [intOf]; omega
            · have hq1 : (q : Int) < (ls.length : Int) := by omega
              have hq0 : (0 : Int) ≤ (q : Int) := Int.natCast_nonneg _
              have hq2 : (q : Int) < (L.length : Int) := by have := HMr.out; omega
              obtain ⟨k1, hk1⟩ : ∃ k, ls[q]? = some k := ⟨_, List.getElem?_eq_getElem (by omega)⟩
              obtain ⟨k2, hk2⟩ : ∃ k, L[q]? = some k := ⟨_, List.getElem?_eq_getElem (by omega)⟩
              obtain ⟨g1, o1, _, a1, c1, _, _, hv1, hg1, p0, p1, _, hi1, _⟩ := lks_at (HBq.out |> fun hb => (H8.out.2.1.under hb (Nat.le_refl _)).reads) q k1 hk1
              obtain ⟨g2, o2, _, b1, d1, _, _, hv2, hg2, q0, q1, _, hi2, _⟩ := lks_at (HBq.out |> fun hb => (H8.out.2.2.under hb (Nat.le_refl _)).reads) q k2 hk2
              cases hv1
              cases hv2
              obtain ⟨e1, e2⟩ := HSt.out q k1 k2 hk1 hk2
              rw [← e1] at q0
              rw [← e2] at q1 hi2
              have HZ := hid (HGd.out.1.small k1 (List.mem_of_getElem? hk1)).1
              have HW : Hid (∀ u, Below wr.heap.size wr u → (u.cell? ⟨g1, o1 + q * 3, none⟩ = some (.int .i64 k1.1) ∧ u.cell? ⟨g1, o1 + q * 3 + 1, none⟩ = some (.slice a1 k1.2.1.length c1)) ∧ u.cell? ⟨g2, o2 + q * 3, none⟩ = some (.int .i64 k1.1) ∧ u.cell? ⟨g2, o2 + q * 3 + 1, none⟩ = some (.slice b1 k1.2.1.length d1)) := hid (fun u hu => ⟨⟨(hu.cell (p := ⟨g1, _, none⟩) hg1).trans p0, (hu.cell (p := ⟨g1, _, none⟩) hg1).trans p1⟩, (hu.cell (p := ⟨g2, _, none⟩) hg2).trans q0, (hu.cell (p := ⟨g2, _, none⟩) hg2).trans q1⟩)
              have HIn : Hid (∀ u, Below wr.heap.size wr u → IntsIn u a1 k1.2.1 ∧ IntsIn u b1 k1.2.1) := hid (fun u hu => ⟨hi1.keep hu (Nat.le_refl _), hi2.keep hu (Nat.le_refl _)⟩)
              have HS : Hid (Below wr.heap.size wr wr.drew) := hid (Below.refl _ _).drew
              have HQq := hid (And.intro hq hqn)
              clear p0 p1 q0 q1 hi1 hi2 e1 e2 hk1 hk2 hg1 hg2 hq hqn
              go_wp2
              refine wp_region_held (S := fun ww => Below wr.heap.size wr ww) (by kernel_rfl) ?_
              try (change wpAnyH _ _ _ _ _ _ _ _ (World.drew _))
              refine wpAnyH_take (i := 0) (v := ?v1) rfl (by kernel_rfl) (by kernel_rfl) (by kernel_rfl) (fun _ _ _ h => h) (Or.inl ⟨by rfl, ?hy1⟩) HS.out ?rest1
              case hy1 => (intro ww _; go_simp; try with_reducible rfl)
              go_simp
              refine wpAnyH_take (i := 1) (v := ?v2) rfl (by kernel_rfl) (by kernel_rfl) (by kernel_rfl) (fun _ _ _ h => h) (Or.inl ⟨by rfl, ?hy2⟩) HS.out ?rest2
              case hy2 => (intro ww _; go_simp; try with_reducible rfl)
              go_simp
              refine wpAnyH_take (i := 2) (v := ?v3) rfl (by kernel_rfl) (by kernel_rfl) (by kernel_rfl) (fun _ _ _ h => h) (Or.inl ⟨by rfl, ?hy3⟩) HS.out ?rest3
              case hy3 => (intro ww _; go_simp; try with_reducible rfl)
              go_simp
              refine wpAnyH_take (i := 3) (v := ?v4) rfl (by kernel_rfl) (by kernel_rfl) (by kernel_rfl) (fun _ _ _ h => h) (Or.inl ⟨by rfl, ?hy4⟩) HS.out ?rest4
              case hy4 => (intro ww _; go_simp; try with_reducible rfl)
              go_simp
              refine wpAnyH_take (i := 4) (v := ?v5) rfl (by kernel_rfl) (by kernel_rfl) (by kernel_rfl) (fun _ _ _ h => h) (Or.inl ⟨by rfl, ?hy5⟩) HS.out ?rest5
              case hy5 => (intro ww hS; obtain ⟨⟨y0, y1⟩, y2, y3⟩ := HW.out ww hS; go_simp; try with_reducible rfl)
              go_simp
              refine wpAnyH_take (i := 5) (v := ?v6) rfl (by kernel_rfl) (by kernel_rfl) (by kernel_rfl) (fun _ _ _ h => h) (Or.inl ⟨by rfl, ?hy6⟩) HS.out ?rest6
              case hy6 => (intro ww _; go_simp; try with_reducible rfl)
              go_simp
              refine wpAnyH_take (i := 6) (v := ?v7) rfl (by kernel_rfl) (by kernel_rfl) (by kernel_rfl) (fun _ _ _ h => h) (Or.inl ⟨by rfl, ?hy7⟩) HS.out ?rest7
              case hy7 => (intro ww _; go_simp; try with_reducible rfl)
              go_simp
              refine wpAnyH_take (i := 7) (v := ?v8) rfl (by kernel_rfl) (by kernel_rfl) (by kernel_rfl) (fun _ _ _ h => h) (Or.inl ⟨by rfl, ?hy8⟩) HS.out ?rest8
              case hy8 => (intro ww _; go_simp; try with_reducible rfl)
              go_simp
              refine wpAnyH_take (i := 8) (v := ?v9) rfl (by kernel_rfl) (by kernel_rfl) (by kernel_rfl) (fun _ _ _ h => h) (Or.inl ⟨by rfl, ?hy9⟩) HS.out ?rest9
              case hy9 => (intro ww _; go_simp; try with_reducible rfl)
              go_simp
              refine wpAnyH_take (i := 9) (v := ?v10) rfl (by kernel_rfl) (by kernel_rfl) (by kernel_rfl) (fun _ _ _ h => h) (Or.inl ⟨by rfl, ?hy10⟩) HS.out ?rest10
              case hy10 => (intro ww hS; obtain ⟨⟨y0, y1⟩, y2, y3⟩ := HW.out ww hS; go_simp; try with_reducible rfl)
              go_simp
              refine wpAnyH_all (rs := [10]) (by kernel_rfl) (by simp) ?_
              intro i hi
              obtain rfl := List.mem_singleton.1 hi
              clear hi
              refine wpOp_k rfl (by rfl) (fun K hK => ?_)
              go_simp
              refine (vsame_eq k1.1 a1 b1 _ c1 d1 k1.2.1 rfl (by have := HZ.out; unfold maxLen; omega) _ (HIn.out _ HS.out).1 (HIn.out _ HS.out).2).mono ?_
              rintro r w9 ⟨rfl, hb9⟩
              have HSn := hid (HS.out.trans (hb9.mono HS.out.size))
              clear hb9 HS
              have HS := HSn
              clear HSn
              refine hK _ _ ⟨HS.out, ?_⟩
              clear hK K
              go_simp
              refine wpAnyH_take (i := 11) (v := ?v11) rfl (by kernel_rfl) (by kernel_rfl) (by kernel_rfl) (fun _ _ _ h => h) (Or.inl ⟨by rfl, ?hy11⟩) HS.out ?rest11
              case hy11 => (intro ww _; go_simp; try with_reducible rfl)
              go_simp
              refine wpAnyH_done (by kernel_rfl) ?_ _
              go_simp
              go_wp2
              go_roundw
              case rel => exact ⟨q + 1, by have := HQq.out; omega, rfl, HBq.out.trans (HS.out.mono HBq.out.size)⟩
              case measure => have := HQq.out; simp [intOf]; omega
        · have HCb := hid (HCall.out _ _ rfl (call_less hE))
          have HMr : Hid (ls.length ≤ (callL l ls one cs).length) := hid (by rw [call_less hE]; exact Nat.le_refl _)
          have HL : Hid (callL l ls one cs = ls) := hid (call_less hE)
          rw [HL.out] at HSt HOk HMr HGd
          generalize callE l ls one cs = E at *
          have hEb : (E != 0) = true := by simpa using hE
          have hEc : (E == 0) = false := by simpa using hE
          clear hE hll2 HL HCall
          obtain ⟨L, eL⟩ : ∃ L, L = ls := ⟨_, rfl⟩
          have hll2 : (L.length : Int) ≤ 60 := by rw [eL]; exact hls2
          have HLe := hid eL
          have hlen : ((L.length : Int) != (ls.length : Int)) = false := by simp [eL]
          clear eL
          go_wp2_with (first
            | (go_at_call 17; have := H6; refine (lchainO_any O6 _ l ls (by omega) (fun k hk => HGd.out.2.small k hk) _ H6.out.1.tr).mono ?_; rintro r w7 ⟨v7, F7, rfl, ho7, hF7, hb7⟩
               have H7 := hid (And.intro (H6.out.1.keep hb7) (And.intro (H6.out.2.under hb7 (Nat.le_refl _)) (And.intro ho7 hF7)))
               clear ho7 hF7 hb7
               obtain ⟨a7, c7, hv7⟩ := H7.out.2.2.1.form
               rw [dLks_len] at hv7
               subst hv7)
            | (go_at_call 17; refine (lchainO_any Oj _ l ls (by omega) (fun k hk => HGd.out.1.small k hk) _ HP.out.1.tr).mono ?_; rintro r w4 ⟨v4, F4, rfl, ho4, hF4, hb4⟩
               have H4 := hid (And.intro (HP.out.1.keep hb4) (And.intro ho4 hF4))
               clear ho4 hF4 hb4
               obtain ⟨a4, c4, hv4⟩ := H4.out.2.1.form
               rw [dLks_len] at hv4
               subst hv4)
            | (go_at_call 18; have := H7; refine (lepoch_any O6 _ l ls (by omega) _ (by exact H7.out.1.tr)).mono ?_; rintro r w8 ⟨rfl, hb8⟩
               have H8 := hid (And.intro (H7.out.1.keep hb8) (And.intro (H7.out.2.1.under hb8 (Nat.le_refl _)) (H7.out.2.2.1.under hb8 (Nat.le_refl _))))
               clear hb8)
            | (go_at_call 18; refine (lepoch_any Oj _ l ls (by omega) _ (by exact H4.out.1.tr)).mono ?_; rintro r w5 ⟨rfl, hb5⟩
               have H5 := hid (And.intro (H4.out.1.keep hb5) (H4.out.2.1.under hb5 (Nat.le_refl _)))
               clear hb5
               have y0 := (H5.out.1.bel.cell (p := ⟨g, off + j * 2, none⟩) HG.out.1).trans HG.out.2.1
               have y1 := (H5.out.1.bel.cell (p := ⟨g, off + j * 2 + 1, none⟩) HG.out.1).trans HG.out.2.2)
            | (go_at_call 14; refine (HCb.out Oj _ (by exact H5.out.1)).mono ?_; rintro r w6 ⟨rfl, ho6, O6, ht6, hO6⟩
               have H6 := hid (And.intro (H5.out.1.step ho6 ht6 hO6) (H5.out.2.apart ho6 (fun k hk => (H4.out.2.2 k hk).1) (fun k hk => HP.out.1.tr.lt k hk)))
               clear ho6 ht6 hO6)
            | (go_at_call 19; refine (wsames_eq _ _ _ _ ls (by unfold maxLen; omega) (fun k hk => by have := HGd.out.1.small k hk; unfold maxLen; omega) _ (by exact H8.out.2.1.reads) (by exact H8.out.2.2.reads)).mono ?_; rintro r w8s ⟨rfl, hb8s⟩
               have H8s := hid hb8s
               clear hb8s))
          go_loopw [12] (fun i wr => ∃ q : Nat, q ≤ ls.length ∧ i = .int .i64 (q : Int) ∧ Below w8.heap.size w8 wr)
            (fun i _ => ((ls.length : Int) - intOf i).toNat)
          case atStart => exact ⟨0, by omega, rfl, H8s.out⟩
          case round =>
            obtain ⟨q, hq, rfl, hbq⟩ := hrel
            have HQ := hid (H8.out.1.keep hbq)
            have HBq := hid hbq
            clear hbq
            by_cases hqn : q = ls.length
            · have hq1 : ¬ ((q : Int) < (ls.length : Int)) := by omega
              clear hq hqn
              go_wp2
              go_roundw
              case rel => exact ⟨j + 1, O6, ls, by have := HJ.out; omega, rfl, HOk.out, HQ.out⟩
              case measure => have := HJ.out; simp [intOf]; omega
            · have hq1 : (q : Int) < (ls.length : Int) := by omega
              have hq0 : (0 : Int) ≤ (q : Int) := Int.natCast_nonneg _
              have hq2 : (q : Int) < (ls.length : Int) := by have := HMr.out; omega
              obtain ⟨k1, hk1⟩ : ∃ k, ls[q]? = some k := ⟨_, List.getElem?_eq_getElem (by omega)⟩
              obtain ⟨k2, hk2⟩ : ∃ k, ls[q]? = some k := ⟨_, List.getElem?_eq_getElem (by omega)⟩
              obtain ⟨g1, o1, _, a1, c1, _, _, hv1, hg1, p0, p1, _, hi1, _⟩ := lks_at (HBq.out |> fun hb => (H8.out.2.1.under hb (Nat.le_refl _)).reads) q k1 hk1
              obtain ⟨g2, o2, _, b1, d1, _, _, hv2, hg2, q0, q1, _, hi2, _⟩ := lks_at (HBq.out |> fun hb => (H8.out.2.2.under hb (Nat.le_refl _)).reads) q k2 hk2
              cases hv1
              cases hv2
              obtain ⟨e1, e2⟩ := HSt.out q k1 k2 hk1 hk2
              rw [← e1] at q0
              rw [← e2] at q1 hi2
              have HZ := hid (HGd.out.1.small k1 (List.mem_of_getElem? hk1)).1
              have HW : Hid (∀ u, Below wr.heap.size wr u → (u.cell? ⟨g1, o1 + q * 3, none⟩ = some (.int .i64 k1.1) ∧ u.cell? ⟨g1, o1 + q * 3 + 1, none⟩ = some (.slice a1 k1.2.1.length c1)) ∧ u.cell? ⟨g2, o2 + q * 3, none⟩ = some (.int .i64 k1.1) ∧ u.cell? ⟨g2, o2 + q * 3 + 1, none⟩ = some (.slice b1 k1.2.1.length d1)) := hid (fun u hu => ⟨⟨(hu.cell (p := ⟨g1, _, none⟩) hg1).trans p0, (hu.cell (p := ⟨g1, _, none⟩) hg1).trans p1⟩, (hu.cell (p := ⟨g2, _, none⟩) hg2).trans q0, (hu.cell (p := ⟨g2, _, none⟩) hg2).trans q1⟩)
              have HIn : Hid (∀ u, Below wr.heap.size wr u → IntsIn u a1 k1.2.1 ∧ IntsIn u b1 k1.2.1) := hid (fun u hu => ⟨hi1.keep hu (Nat.le_refl _), hi2.keep hu (Nat.le_refl _)⟩)
              have HS : Hid (Below wr.heap.size wr wr.drew) := hid (Below.refl _ _).drew
              have HQq := hid (And.intro hq hqn)
              clear p0 p1 q0 q1 hi1 hi2 e1 e2 hk1 hk2 hg1 hg2 hq hqn
              go_wp2
              refine wp_region_held (S := fun ww => Below wr.heap.size wr ww) (by kernel_rfl) ?_
              try (change wpAnyH _ _ _ _ _ _ _ _ (World.drew _))
              refine wpAnyH_take (i := 0) (v := ?v15) rfl (by kernel_rfl) (by kernel_rfl) (by kernel_rfl) (fun _ _ _ h => h) (Or.inl ⟨by rfl, ?hy15⟩) HS.out ?rest15
              case hy15 => (intro ww _; go_simp; try with_reducible rfl)
              go_simp
              refine wpAnyH_take (i := 1) (v := ?v16) rfl (by kernel_rfl) (by kernel_rfl) (by kernel_rfl) (fun _ _ _ h => h) (Or.inl ⟨by rfl, ?hy16⟩) HS.out ?rest16
              case hy16 => (intro ww _; go_simp; try with_reducible rfl)
              go_simp
              refine wpAnyH_take (i := 2) (v := ?v17) rfl (by kernel_rfl) (by kernel_rfl) (by kernel_rfl) (fun _ _ _ h => h) (Or.inl ⟨by rfl, ?hy17⟩) HS.out ?rest17
              case hy17 => (intro ww _; go_simp; try with_reducible rfl)
              go_simp
              refine wpAnyH_take (i := 3) (v := ?v18) rfl (by kernel_rfl) (by kernel_rfl) (by kernel_rfl) (fun _ _ _ h => h) (Or.inl ⟨by rfl, ?hy18⟩) HS.out ?rest18
              case hy18 => (intro ww _; go_simp; try with_reducible rfl)
              go_simp
              refine wpAnyH_take (i := 4) (v := ?v19) rfl (by kernel_rfl) (by kernel_rfl) (by kernel_rfl) (fun _ _ _ h => h) (Or.inl ⟨by rfl, ?hy19⟩) HS.out ?rest19
              case hy19 => (intro ww hS; obtain ⟨⟨y0, y1⟩, y2, y3⟩ := HW.out ww hS; go_simp; try with_reducible rfl)
              go_simp
              refine wpAnyH_take (i := 5) (v := ?v20) rfl (by kernel_rfl) (by kernel_rfl) (by kernel_rfl) (fun _ _ _ h => h) (Or.inl ⟨by rfl, ?hy20⟩) HS.out ?rest20
              case hy20 => (intro ww _; go_simp; try with_reducible rfl)
              go_simp
              refine wpAnyH_take (i := 6) (v := ?v21) rfl (by kernel_rfl) (by kernel_rfl) (by kernel_rfl) (fun _ _ _ h => h) (Or.inl ⟨by rfl, ?hy21⟩) HS.out ?rest21
              case hy21 => (intro ww _; go_simp; try with_reducible rfl)
              go_simp
              refine wpAnyH_take (i := 7) (v := ?v22) rfl (by kernel_rfl) (by kernel_rfl) (by kernel_rfl) (fun _ _ _ h => h) (Or.inl ⟨by rfl, ?hy22⟩) HS.out ?rest22
              case hy22 => (intro ww _; go_simp; try with_reducible rfl)
              go_simp
              refine wpAnyH_take (i := 8) (v := ?v23) rfl (by kernel_rfl) (by kernel_rfl) (by kernel_rfl) (fun _ _ _ h => h) (Or.inl ⟨by rfl, ?hy23⟩) HS.out ?rest23
              case hy23 => (intro ww _; go_simp; try with_reducible rfl)
              go_simp
              refine wpAnyH_take (i := 9) (v := ?v24) rfl (by kernel_rfl) (by kernel_rfl) (by kernel_rfl) (fun _ _ _ h => h) (Or.inl ⟨by rfl, ?hy24⟩) HS.out ?rest24
              case hy24 => (intro ww hS; obtain ⟨⟨y0, y1⟩, y2, y3⟩ := HW.out ww hS; go_simp; try with_reducible rfl)
              go_simp
              refine wpAnyH_all (rs := [10]) (by kernel_rfl) (by simp) ?_
              intro i hi
              obtain rfl := List.mem_singleton.1 hi
              clear hi
              refine wpOp_k rfl (by rfl) (fun K hK => ?_)
              go_simp
              refine (vsame_eq k1.1 a1 b1 _ c1 d1 k1.2.1 rfl (by have := HZ.out; unfold maxLen; omega) _ (HIn.out _ HS.out).1 (HIn.out _ HS.out).2).mono ?_
              rintro r w9 ⟨rfl, hb9⟩
              have HSn := hid (HS.out.trans (hb9.mono HS.out.size))
              clear hb9 HS
              have HS := HSn
              clear HSn
              refine hK _ _ ⟨HS.out, ?_⟩
              clear hK K
              go_simp
              refine wpAnyH_take (i := 11) (v := ?v25) rfl (by kernel_rfl) (by kernel_rfl) (by kernel_rfl) (fun _ _ _ h => h) (Or.inl ⟨by rfl, ?hy25⟩) HS.out ?rest25
              case hy25 => (intro ww _; go_simp; try with_reducible rfl)
              go_simp
              refine wpAnyH_done (by kernel_rfl) ?_ _
              go_simp
              go_wp2
              go_roundw
              case rel => exact ⟨q + 1, by have := HQq.out; omega, rfl, HBq.out.trans (HS.out.mono HBq.out.size)⟩
              case measure => have := HQq.out; simp [intOf]; omega
  · have HR := hid hr
    clear hr
    go_enter Try.func5, Try.ntmps5
    go_wp2_with (first
      | (go_at_call 9; refine (jlives_any _).mono ?_; rintro r w1 ⟨rfl, hb1⟩
         have H1 : Hid (Below w.heap.size w w1 ∧ CfAt w1 w.heap.size ep (.slice a n cap)) := hid ⟨H0.out.1.trans (hb1.mono H0.out.1.size), H0.out.2.keep hb1⟩
         clear hb1
         have x0 := H1.out.2.cells.1
         have x1 := H1.out.2.cells.2)
      | (go_at_call 12; refine (lnew_any ep a n cap l HI.out.2.1 HI.out.2.2 _ (HI.out.1.keep H1.out.1 (Nat.le_refl _))).mono ?_; rintro r w2 ⟨hb2, _, h2⟩; have h2r := h2 HR.out; subst h2r
         have H2 := hid (H1.out.1.trans (hb2.mono H1.out.1.size))
         clear hb2 h2 x0 x1))
    go_ret
    exact ⟨rfl, H2.out⟩
end Go.Proofs.Ytpholamobedkhaa
