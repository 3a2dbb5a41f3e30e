/- The law: what one knows another one takes. -/
import Derived.Test.YtpholamobedkhaaTrIM
namespace Go.Proofs.Ytpholamobedkhaa
open Go.RowKit

/-- Two trackers of the program, apart from each other. -/
structure TwSt (w0 w : World) (O : Nat → Prop) (v : Value) (ls : List Lk) (O2 : Nat → Prop) (v2 : Value) (l2 : List Lk) (fm : List Int) : Prop where
  one : GrSt w0 w O v fm ls
  two : GrSt w0 w O2 v2 fm l2
  ap : ∀ k, O k → ¬ O2 k
  ok1 : chainE 0 fm [] ls = 0
  ok2 : chainE 0 fm [] l2 = 0
theorem TwSt.keep {w0 w w' : World} {O : Nat → Prop} {v : Value} {ls : List Lk} {O2 : Nat → Prop} {v2 : Value} {l2 : List Lk} {fm : List Int} (h : TwSt w0 w O v ls O2 v2 l2 fm) (hb : Below w.heap.size w w') : TwSt w0 w' O v ls O2 v2 l2 fm :=
  ⟨h.one.keep hb, h.two.keep hb, h.ap, h.ok1, h.ok2⟩
/-- The one takes a step. -/
theorem TwSt.step1 {w0 w w' : World} {O O' : Nat → Prop} {v : Value} {ls ls' : List Lk} {O2 : Nat → Prop} {v2 : Value} {l2 : List Lk} {fm : List Int} (h : TwSt w0 w O v ls O2 v2 l2 fm) (ho : Outs O w w') (ht : TrAt O' w' v fm ls') (hO : ∀ k, O' k → O k ∨ w.heap.size ≤ k) (hok : chainE 0 fm [] ls' = 0) : TwSt w0 w' O' v ls' O2 v2 l2 fm :=
  ⟨h.one.step ho ht hO, ⟨h.two.tr.keep ho.size (fun k hk hq => ho.block k hk (fun h1 => h.ap k h1 hq)), (h.one.step ho ht hO).bel, h.two.oN⟩, fun k hk hq => by
    rcases hO k hk with h1 | h1
    · exact h.ap k h1 hq
    · have := h.two.tr.lt k hq; omega, hok, h.ok2⟩
/-- The other takes a step. -/
theorem TwSt.step2 {w0 w w' : World} {O : Nat → Prop} {v : Value} {ls : List Lk} {O2 O' : Nat → Prop} {v2 : Value} {l2 l2' : List Lk} {fm : List Int} (h : TwSt w0 w O v ls O2 v2 l2 fm) (ho : Outs O2 w w') (ht : TrAt O' w' v2 fm l2') (hO : ∀ k, O' k → O2 k ∨ w.heap.size ≤ k) (hok : chainE 0 fm [] l2' = 0) : TwSt w0 w' O v ls O' v2 l2' fm :=
  ⟨⟨h.one.tr.keep ho.size (fun k hk hq => ho.block k hk (fun h1 => h.ap k hq h1)), (h.two.step ho ht hO).bel, h.one.oN⟩, h.two.step ho ht hO, fun k hq hk => by
    rcases hO k hk with h1 | h1
    · exact h.ap k hq h1
    · have := h.one.tr.lt k hq; omega, h.ok1, hok⟩
set_option maxRecDepth 100000 in
set_option maxHeartbeats 6400000 in
theorem lteaches_any (ep : Int) (a : Option Addr) (n cap : Nat) (l : List Int) (hn : l.length = n) (hm : n ≤ maxLen) (Gs : Nat → Prop) (sv : Value) (os : List Cl) (hol : os.length ≤ maxLen) (hos : ∀ o, o ∈ os → ∀ k, k ∈ o.2 → k.2.1.length ≤ maxLen ∧ k.2.2.length ≤ maxLen) (hoc : ∀ o, o ∈ os → o.2.length ≤ maxLen) (Gs2 : Nat → Prop) (sv2 : Value) (os2 : List Cl) (hol2 : os2.length ≤ maxLen) (hos2 : ∀ o, o ∈ os2 → ∀ k, k ∈ o.2 → k.2.1.length ≤ maxLen ∧ k.2.2.length ≤ maxLen) (hoc2 : ∀ o, o ∈ os2 → o.2.length ≤ maxLen) (w : World) (hI : IntsIn w a l) (hS : Reads Gs w sv (.l 2 (dOps os))) (hCp : Caps w sv (.l 2 (dOps os))) (hS2 : Reads Gs2 w sv2 (.l 2 (dOps os2))) (hCp2 : Caps w sv2 (.l 2 (dOps os2))) :
    Calls Try.prog 6 #[.agg #[.int .i64 ep, .slice a n cap], sv, sv2] w fun r w' => r = .returned (.bool true) ∧ Below w.heap.size w w' := by
  obtain ⟨sa, sc, hv⟩ := ops_form hS
  subst hv
  obtain ⟨sa2, sc2, hv⟩ := ops_form hS2
  subst hv
  have hl2 : (os.length : Int) ≤ 9223372036854775807 := by unfold maxLen at hol; omega
  have hl3 : (os2.length : Int) ≤ 9223372036854775807 := by unfold maxLen at hol2; omega
  have H0 : Hid (Below w.heap.size w (w.alloc (.cells #[.int .i64 ep, .slice a n cap] 24)) ∧ CfAt (w.alloc (.cells #[.int .i64 ep, .slice a n cap] 24)) w.heap.size ep (.slice a n cap)) := hid ⟨(Below.refl _ _).alloc (Nat.le_refl _) _, heap_alloc_last w _⟩
  have HI := hid (And.intro hI (And.intro hn hm))
  have HD := hid (And.intro hS hos)
  have HCp := hid (And.intro hCp hoc)
  have HD2 := hid (And.intro hS2 hos2)
  have HCp2 := hid (And.intro hCp2 hoc2)
  clear hI hn hm hS hos hol hCp hoc hS2 hos2 hol2 hCp2 hoc2
  by_cases hr : rightC ep l = true ∧ ep = 0
  · obtain ⟨hr, rfl⟩ := hr
    have HR := hid hr
    clear hr
    go_enter Try.func6, Try.ntmps6
    go_wp2_with (first
      | (go_at_call 9; refine (jlives_any _).mono ?_; rintro r w1 ⟨rfl, hb1⟩
         have H1 : Hid (Below w.heap.size w w1 ∧ CfAt w1 w.heap.size 0 (.slice a n cap)) := hid ⟨H0.out.1.trans (hb1.mono H0.out.1.size), H0.out.2.keep hb1⟩
         clear hb1
         have x0 := H1.out.2.cells.1
         have x1 := H1.out.2.cells.2)
      | (go_at_call 12; have := H2; refine (lnew_any 0 a n cap l HI.out.2.1 HI.out.2.2 _ (HI.out.1.keep H2.out.1.bel (Nat.le_refl _))).mono ?_; rintro r w3 ⟨hb3, h3, _⟩; obtain ⟨v3, O3, rfl, ht3, hO3⟩ := h3 ⟨HR.out, rfl⟩; obtain ⟨gu, rfl⟩ := ht3.isptr
         have H3 : Hid (TwSt w w3 O (.pointer (some ⟨gt, 0, none⟩)) [] O3 (.pointer (some ⟨gu, 0, none⟩)) [] l) := hid ⟨H2.out.1.keep hb3, ⟨ht3, H2.out.1.bel.trans (hb3.mono H2.out.1.bel.size), fun k hk => Nat.le_trans H2.out.1.bel.size (hO3 k hk)⟩, fun k hk hq => by have := H2.out.1.tr.lt k hk; have := hO3 k hq; omega, rfl, rfl⟩
         clear hb3 h3 ht3 hO3 x0 x1)
      | (go_at_call 12; refine (lnew_any 0 a n cap l HI.out.2.1 HI.out.2.2 _ (HI.out.1.keep H1.out.1 (Nat.le_refl _))).mono ?_; rintro r w2 ⟨hb2, h2, _⟩; obtain ⟨v, O, rfl, ht2, hO2⟩ := h2 ⟨HR.out, rfl⟩; obtain ⟨gt, rfl⟩ := ht2.isptr
         have H2 : Hid (GrSt w w2 O (.pointer (some ⟨gt, 0, none⟩)) l [] ∧ CfAt w2 w.heap.size 0 (.slice a n cap)) := hid ⟨⟨ht2, H1.out.1.trans (hb2.mono H1.out.1.size), fun k hk => Nat.le_trans H1.out.1.size (hO2 k hk)⟩, H1.out.2.keep hb2⟩
         clear hb2 h2 ht2 hO2 x0 x1
         have x0 := H2.out.2.cells.1
         have x1 := H2.out.2.cells.2))
    go_loopw [11] (fun i wr => ∃ (j : Nat) (O : Nat → Prop) (ls : List Lk) (O2 : Nat → Prop) (l2 : List Lk), j ≤ os.length ∧ i = .int .i64 (j : Int) ∧ TwSt w wr O (.pointer (some ⟨gt, 0, none⟩)) ls O2 (.pointer (some ⟨gu, 0, none⟩)) l2 l)
      (fun i _ => ((os.length : Int) - intOf i).toNat)
    case atStart => exact ⟨0, _, _, _, _, by omega, rfl, H3.out⟩
    case round =>
      obtain ⟨j, Oj, ls, Ok, l2, hj, rfl, hP⟩ := hrel
      have HP := hid hP
      clear hP
      by_cases hjn : j = os.length
      · have hj1 : ¬ ((j : Int) < (os.length : Int)) := by omega
        clear hj hjn
        go_wp2
        go_loopw [12] (fun i wr => ∃ (j : Nat) (O : Nat → Prop) (ls : List Lk) (O2 : Nat → Prop) (l2 : List Lk), j ≤ os2.length ∧ i = .int .i64 (j : Int) ∧ TwSt w wr O (.pointer (some ⟨gt, 0, none⟩)) ls O2 (.pointer (some ⟨gu, 0, none⟩)) l2 l)
          (fun i _ => ((os2.length : Int) - intOf i).toNat)
        case atStart => exact ⟨0, _, _, _, _, by omega, rfl, HP.out⟩
        case round =>
          obtain ⟨p, Op, lp, Oq, lq, hp, rfl, hP⟩ := hrel
          have HPp := hid hP
          clear hP
          by_cases hpn : p = os2.length
          · have hp1 : ¬ ((p : Int) < (os2.length : Int)) := by omega
            have hgd := good_of HPp.out.ok1
            have hgd2 := good_of HPp.out.ok2
            have HGd := hid (And.intro hgd hgd2)
            have hlp2 : (lp.length : Int) ≤ 60 := by have := hgd.len; omega
            have hlq2 : (lq.length : Int) ≤ 60 := by have := hgd2.len; omega
            clear hp hpn hgd hgd2
            have HTk : Hid (∀ (E : Int) (known : List Lk), takeE 0 l known lp = E → chainE 0 l [] known = 0 → ∀ (O O2 : Nat → Prop) (C : Nat) (F : Nat → Prop) (u : World) (a4 : Option Addr) (c4 : Nat), TwSt w u O (.pointer (some ⟨gt, 0, none⟩)) lp O2 (.pointer (some ⟨gu, 0, none⟩)) known l → OwnD 27 3 C F u (.slice a4 lp.length c4) (dLks lp) → Calls Try.prog 21 #[.pointer (some ⟨gu, 0, none⟩), .slice a4 lp.length c4] u fun r w' => r = .returned (.int .i64 E) ∧ Outs O2 u w' ∧ ∃ O', TrAt O' w' (.pointer (some ⟨gu, 0, none⟩)) l (if E = 0 then lp else known) ∧ ∀ k, O' k → O2 k ∨ u.heap.size ≤ k) := hid (fun E known hE hk O O2 C F u a4 c4 hu ho => by
              rw [← hE]
              refine ltake_any O2 _ l HR.out known hk _ _ lp (fun k hk => by have := HGd.out.1.small k hk; unfold maxLen; omega) (by unfold maxLen; omega) (fun ad n c hv => ?_) u hu.two.tr ho.reads
              obtain ⟨cs, hown, _⟩ := ho.own
              rcases hown.2 with ⟨_, h0⟩ | ⟨g, cap, cur, hv2, _, _, hnc, _⟩
              · rw [dLks_len] at h0; cases hv; omega
              · rw [dLks_len] at hv2 hnc; rw [hv2] at hv; cases hv; exact hnc)
            have hlp0 : (0 : Int) ≤ (lp.length : Int) := Int.natCast_nonneg _
            by_cases hE : takeE 0 l lq lp = 0
            · have HTb := hid (HTk.out 0 lq hE HPp.out.ok2)
              have HTc := hid (HTk.out 17 lp (take_self HPp.out.ok1) HPp.out.ok1)
              rw [if_pos rfl] at HTb
              clear hE HTk
              go_wp2_with (first
                | (go_at_call 17; have := H5; refine (lchainO_any O5 _ l lp (by omega) (fun k hk => HGd.out.1.small k hk) _ H5.out.1.two.tr).mono ?_; rintro r w6 ⟨v6, F6, rfl, ho6, hF6, hb6⟩
                   have H6 := hid (And.intro (H5.out.1.keep hb6) (And.intro (H5.out.2.under hb6 (Nat.le_refl _)) ho6))
                   clear ho6 hF6 hb6
                   obtain ⟨a6, c6, hv6⟩ := H6.out.2.2.form
                   rw [dLks_len] at hv6
                   subst hv6)
                | (go_at_call 17; refine (lchainO_any Op _ l lp (by omega) (fun k hk => HGd.out.1.small k hk) _ HPp.out.one.tr).mono ?_; rintro r w4 ⟨v4, F4, rfl, ho4, hF4, hb4⟩; have H4 := hid (And.intro (HPp.out.keep hb4) (And.intro ho4 hF4)); clear ho4 hF4 hb4; obtain ⟨a4, c4, hv4⟩ := H4.out.2.1.form; rw [dLks_len] at hv4; subst hv4)
                | (go_at_call 21; have := H7; refine (HTc.out Op O5 _ F4 _ a4 c4 (by exact H7.out.1) (by exact H7.out.2)).mono ?_; rintro r w8 ⟨rfl, ho8, O8, ht8, hO8⟩
                   have H8 := hid ((H7.out.1.step2 ho8 ht8 hO8 (by rw [if_neg (by decide)]; exact HPp.out.ok1)).two.bel)
                   clear ho8 ht8 hO8)
                | (go_at_call 21; refine (HTb.out Op Oq _ F4 _ a4 c4 (by exact H4.out.1) (by exact H4.out.2.1)).mono ?_; rintro r w5 ⟨rfl, ho5, O5, ht5, hO5⟩
                   have H5 := hid (And.intro (H4.out.1.step2 ho5 ht5 hO5 HPp.out.ok1) (H4.out.2.1.apart ho5 (fun k hk => (H4.out.2.2 k hk).1) (fun k hk => HPp.out.two.tr.lt k hk)))
                   clear ho5 ht5 hO5)
                | (go_at_call 19; refine (wsames_eq _ _ _ _ lp (by unfold maxLen; omega) (fun k hk => by have := HGd.out.1.small k hk; unfold maxLen; omega) _ (by exact H6.out.2.2.reads) (by exact H6.out.2.1.reads)).mono ?_; rintro r w7 ⟨rfl, hb7⟩
                   have H7 := hid (And.intro (H6.out.1.keep hb7) (H6.out.2.1.under hb7 (Nat.le_refl _)))
                   clear hb7))
              go_ret
              exact ⟨rfl, H8.out⟩
            · have HTb := hid (HTk.out _ lq rfl HPp.out.ok2)
              have HKn := hid (take_known (ls := lq) HPp.out.ok1 hE)
              generalize takeE 0 l lq lp = E at *
              rw [if_neg hE] at HTb
              rcases HKn.out with hE2 | ⟨hE2, hle⟩
              · subst hE2
                clear HTk hE HKn
                go_wp2_with (first
                  | (go_at_call 17; refine (lchainO_any Op _ l lp (by omega) (fun k hk => HGd.out.1.small k hk) _ HPp.out.one.tr).mono ?_; rintro r w4 ⟨v4, F4, rfl, ho4, hF4, hb4⟩; have H4 := hid (And.intro (HPp.out.keep hb4) (And.intro ho4 hF4)); clear ho4 hF4 hb4; obtain ⟨a4, c4, hv4⟩ := H4.out.2.1.form; rw [dLks_len] at hv4; subst hv4)
                  | (go_at_call 21; refine (HTb.out Op Oq _ F4 _ a4 c4 (by exact H4.out.1) (by exact H4.out.2.1)).mono ?_; rintro r w5 ⟨rfl, ho5, O5, ht5, hO5⟩
                     have H5 := hid (H4.out.1.step2 ho5 ht5 hO5 HPp.out.ok2)
                     clear ho5 ht5 hO5))
                go_ret
                exact ⟨rfl, H5.out.two.bel⟩
              · subst hE2
                have hlei : (lp.length : Int) ≤ (lq.length : Int) := by omega
                clear HTk hE HKn hle
                go_wp2_with (first
                  | (go_at_call 17; refine (lchainO_any Op _ l lp (by omega) (fun k hk => HGd.out.1.small k hk) _ HPp.out.one.tr).mono ?_; rintro r w4 ⟨v4, F4, rfl, ho4, hF4, hb4⟩; have H4 := hid (And.intro (HPp.out.keep hb4) (And.intro ho4 hF4)); clear ho4 hF4 hb4; obtain ⟨a4, c4, hv4⟩ := H4.out.2.1.form; rw [dLks_len] at hv4; subst hv4)
                  | (go_at_call 21; refine (HTb.out Op Oq _ F4 _ a4 c4 (by exact H4.out.1) (by exact H4.out.2.1)).mono ?_; rintro r w5 ⟨rfl, ho5, O5, ht5, hO5⟩
                     have H5 := hid (H4.out.1.step2 ho5 ht5 hO5 HPp.out.ok2)
                     clear ho5 ht5 hO5)
                  | (go_at_call 18; have := H6; refine (lepoch_any Op _ l lp (by omega) _ (by exact H6.out.one.tr)).mono ?_; rintro r w7 ⟨rfl, hb7⟩
                     have H7 := hid (H6.out.keep hb7)
                     clear hb7)
                  | (go_at_call 18; refine (lepoch_any O5 _ l lq (by omega) _ (by exact H5.out.two.tr)).mono ?_; rintro r w6 ⟨rfl, hb6⟩
                     have H6 := hid (H5.out.keep hb6)
                     clear hb6))
                go_ret
                first | exact ⟨rfl, H7.out.two.bel⟩ | (refine ⟨?_, H7.out.two.bel⟩; simp [hlei]) | (refine ⟨?_, H7.out.two.bel⟩; simp; omega)
          · have hp1 : (p : Int) < (os2.length : Int) := by omega
            have hp0 : (0 : Int) ≤ (p : Int) := Int.natCast_nonneg _
            obtain ⟨o, ho⟩ : ∃ o, os2[p]? = some o := ⟨_, List.getElem?_eq_getElem (by omega)⟩
            obtain ⟨g, off, _, cv, hv, hg, k0, k1, hcv⟩ := ops_at HD2.out.1 p o ho
            cases hv
            obtain ⟨one, cs⟩ := o
            obtain ⟨ca, cc, hv⟩ := lks_form hcv
            subst hv
            have HC := hid (jcall_any Oq (.pointer (some ⟨gu, 0, none⟩)) l HR.out lq HPp.out.ok2 Gs2 one _ cs (HD2.out.2 _ (List.mem_of_getElem? ho)) (HCp2.out.2 _ (List.mem_of_getElem? ho)) (ops_room HCp2.out.1 ho k1) wr HPp.out.two.tr (hcv.under HPp.out.two.bel (Nat.le_refl _)))
            have y0 := (HPp.out.two.bel.cell (p := ⟨g, off + p * 2, none⟩) hg).trans k0
            have y1 := (HPp.out.two.bel.cell (p := ⟨g, off + p * 2 + 1, none⟩) hg).trans k1
            have HJ := hid (And.intro hp hpn)
            clear hg hcv ho hp hpn k0 k1
            go_wp2_with (go_at_call 14; refine HC.out.mono ?_; rintro r w4 ⟨rfl, ho4, O4, ht4, hO4⟩; have H4 := hid (HPp.out.step2 ho4 ht4 hO4 (callL_ok HPp.out.ok2)); clear ho4 ht4 hO4)
            go_roundw
            case rel => exact ⟨p + 1, Op, lp, O4, _, by have := HJ.out; omega, rfl, H4.out⟩
            case measure => have := HJ.out; simp [intOf]; omega
      · have hj1 : (j : Int) < (os.length : Int) := by omega
        have hj0 : (0 : Int) ≤ (j : Int) := Int.natCast_nonneg _
        obtain ⟨o, ho⟩ : ∃ o, os[j]? = some o := ⟨_, List.getElem?_eq_getElem (by omega)⟩
        obtain ⟨g, off, _, cv, hv, hg, k0, k1, hcv⟩ := ops_at HD.out.1 j o ho
        cases hv
        obtain ⟨one, cs⟩ := o
        obtain ⟨ca, cc, hv⟩ := lks_form hcv
        subst hv
        have HC := hid (jcall_any Oj (.pointer (some ⟨gt, 0, none⟩)) l HR.out ls HP.out.ok1 Gs one _ cs (HD.out.2 _ (List.mem_of_getElem? ho)) (HCp.out.2 _ (List.mem_of_getElem? ho)) (ops_room HCp.out.1 ho k1) wr HP.out.one.tr (hcv.under HP.out.one.bel (Nat.le_refl _)))
        have y0 := (HP.out.one.bel.cell (p := ⟨g, off + j * 2, none⟩) hg).trans k0
        have y1 := (HP.out.one.bel.cell (p := ⟨g, off + j * 2 + 1, none⟩) hg).trans k1
        have HJ := hid (And.intro hj hjn)
        clear hg hcv ho hj hjn k0 k1
        go_wp2_with (go_at_call 14; refine HC.out.mono ?_; rintro r w4 ⟨rfl, ho4, O4, ht4, hO4⟩; have H4 := hid (HP.out.step1 ho4 ht4 hO4 (callL_ok HP.out.ok1)); clear ho4 ht4 hO4)
        go_roundw
        case rel => exact ⟨j + 1, O4, _, Ok, l2, by have := HJ.out; omega, rfl, H4.out⟩
        case measure => have := HJ.out; simp [intOf]; omega
  · have HR := hid hr
    clear hr
    go_enter Try.func6, Try.ntmps6
    go_wp2_with (first
      | (go_at_call 9; refine (jlives_any _).mono ?_; rintro r w1 ⟨rfl, hb1⟩
         have H1 : Hid (Below w.heap.size w w1 ∧ CfAt w1 w.heap.size ep (.slice a n cap)) := hid ⟨H0.out.1.trans (hb1.mono H0.out.1.size), H0.out.2.keep hb1⟩
         clear hb1
         have x0 := H1.out.2.cells.1
         have x1 := H1.out.2.cells.2)
      | (go_at_call 12; have := H2; refine (lnew_any ep a n cap l HI.out.2.1 HI.out.2.2 _ (HI.out.1.keep H2.out.1 (Nat.le_refl _))).mono ?_; rintro r w3 ⟨hb3, _, h3⟩; have h3r := h3 HR.out; subst h3r
         have H3 := hid (H2.out.1.trans (hb3.mono H2.out.1.size))
         clear hb3 h3 x0 x1)
      | (go_at_call 12; refine (lnew_any ep a n cap l HI.out.2.1 HI.out.2.2 _ (HI.out.1.keep H1.out.1 (Nat.le_refl _))).mono ?_; rintro r w2 ⟨hb2, _, h2⟩; have h2r := h2 HR.out; subst h2r
         have H2 := hid (And.intro (H1.out.1.trans (hb2.mono H1.out.1.size)) (H1.out.2.keep hb2))
         clear hb2 h2 x0 x1
         have x0 := H2.out.2.cells.1
         have x1 := H2.out.2.cells.2))
    go_ret
    exact ⟨rfl, H3.out⟩
end Go.Proofs.Ytpholamobedkhaa
