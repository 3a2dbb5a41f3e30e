/- The law: whatever row of calls, both say and know the same. -/
import Derived.Test.YtpholamobedkhaaMg13
namespace Go.Proofs.Ytpholamobedkhaa
open Go.RowKit

theorem pl_start {w w2 w3 : World} {O : Nat → Prop} {v : Value} {a : Option Addr} {cap : Nat} {l : List Int} {b : Nat} (hI : IntsIn w a l) (h2 : Below w.heap.size w w2) (ht : TrAt O w2 v l []) (hO : ∀ k, O k → w.heap.size ≤ k) (hb3 : Below w2.heap.size w2 w3) (hbb : w2.heap.size ≤ b) (hm3 : MtAt w.heap.size (confF a l) w3 b 0 a cap l (.slice none 0 0) []) : PlSt w w3 O v (confF a l) b a cap l (.slice none 0 0) [] := by
  refine ⟨ht.under hb3, hm3, h2.trans (hb3.mono h2.size), hO, Nat.le_trans h2.size hbb, fun hq => ?_, fun g hg => ?_, fun k hF hq => ?_⟩
  · have := ht.lt b hq
    omega
  · cases hg
  · have := confF_lt hI k hF
    have := hO k hq
    omega
set_option maxRecDepth 100000 in
set_option maxHeartbeats 6400000 in
theorem lplays_any (ep : Int) (a : Option Addr) (n cap : Nat) (l : List Int) (hn : l.length = n) (hm : n ≤ maxLen) (Gs : Nat → Prop) (sv : Value) (os : List Cl) (hol : os.length ≤ maxLen) (hos : ∀ o, o ∈ os → ∀ k, k ∈ o.2 → k.2.1.length ≤ maxLen ∧ k.2.2.length ≤ maxLen) (hoc : ∀ o, o ∈ os → o.2.length ≤ maxLen) (w : World) (hI : IntsIn w a l) (hS : Reads Gs w sv (.l 2 (dOps os))) (hCp : Caps w sv (.l 2 (dOps os))) :
    Calls Try.prog 4 #[.agg #[.int .i64 ep, .slice a n cap], sv] w fun r w' => r = .returned (.bool true) ∧ Below w.heap.size w w' := by
  obtain ⟨sa, sc, hv⟩ := ops_form hS
  subst hv
  have hl2 : (os.length : Int) ≤ 9223372036854775807 := by unfold maxLen at hol; omega
  have H0 : Hid (Below w.heap.size w (w.alloc (.cells #[.int .i64 ep, .slice a n cap] 24)) ∧ (w.alloc (.cells #[.int .i64 ep, .slice a n cap] 24)).heap[w.heap.size]? = some (.cells #[.int .i64 ep, .slice a n cap] 24 (0, 0))) := hid ⟨(Below.refl _ _).alloc (Nat.le_refl _) _, heap_alloc_last w _⟩
  have HI := hid (And.intro hI (And.intro hn hm))
  have HD := hid (And.intro hS hos)
  have HCp := hid (And.intro hCp hoc)
  clear hI hn hm hS hos hol hCp hoc
  by_cases hr : rightC ep l = true ∧ ep = 0
  · obtain ⟨hr, rfl⟩ := hr
    have HR := hid hr
    clear hr
    go_enter Try.func4, Try.ntmps4
    go_wp2_with (first
      | (go_at_call 9; refine (jlives_any _).mono ?_; rintro r w1 ⟨rfl, hb1⟩
         have H1 : Hid (Below w.heap.size w w1 ∧ w1.heap[w.heap.size]? = some (.cells #[.int .i64 0, .slice a n cap] 24 (0, 0))) := hid ⟨H0.out.1.trans (hb1.mono H0.out.1.size), (hb1.block _ (lt_of_blk H0.out.2)).trans H0.out.2⟩
         clear hb1
         have x0 := (cell_two H1.out.2).1
         have x1 := (cell_two H1.out.2).2)
      | (go_at_call 12; refine (lnew_any 0 a n cap l HI.out.2.1 HI.out.2.2 _ (HI.out.1.keep H1.out.1 (Nat.le_refl _))).mono ?_; rintro r w2 ⟨hb2, h2, _⟩; obtain ⟨v, O, rfl, ht2, hO2⟩ := h2 ⟨HR.out, rfl⟩; obtain ⟨gt, rfl⟩ := ht2.isptr
         have H2 := hid (And.intro (H1.out.1.trans (hb2.mono H1.out.1.size)) (And.intro ht2 (And.intro (fun k hk => Nat.le_trans H1.out.1.size (hO2 k hk)) ((hb2.block _ (lt_of_blk H1.out.2)).trans H1.out.2))))
         clear hb2 h2 ht2 hO2 x0 x1
         have x0 := (cell_two H2.out.2.2.2).1
         have x1 := (cell_two H2.out.2.2.2).2)
      | (go_at_call 13; refine (wnew_any w.heap.size 0 a n cap l HI.out.2.1 HI.out.2.2 _ (HI.out.1.keep H2.out.1 (Nat.le_refl _))).mono ?_; rintro r w3 ⟨hb3, h3, _⟩; obtain ⟨b, rfl, hbb, hm3⟩ := h3 ⟨HR.out, rfl⟩
         have H3 := hid (pl_start HI.out.1 H2.out.1 H2.out.2.1 H2.out.2.2.1 hb3 hbb hm3)
         clear hb3 h3 hbb hm3))
    clear x0 x1
    go_loopw [9] (fun i wr => ∃ (j : Nat) (O : Nat → Prop) (F : Nat → Prop) (vl : Value) (ls : List Lk), j ≤ os.length ∧ i = .int .i64 (j : Int) ∧ chainE 0 l [] ls = 0 ∧ PlSt w wr O (.pointer (some ⟨gt, 0, none⟩)) F b a cap l vl ls)
      (fun i _ => ((os.length : Int) - intOf i).toNat)
    case atStart => exact ⟨0, _, _, _, _, by omega, rfl, rfl, H3.out⟩
    case round =>
      obtain ⟨j, Oj, Fj, vl, ls, hj, rfl, hch, hP⟩ := hrel
      have HP := hid (And.intro hP hch)
      clear hP hch
      by_cases hjn : j = os.length
      · have hj1 : ¬ ((j : Int) < (os.length : Int)) := by omega
        clear hj hjn
        go_wp2_with (go_at_call 16; refine (jsame_any Oj _ w.heap.size Fj b a cap vl l HR.out ls HP.out.2 _ HP.out.1.tr HP.out.1.md).mono ?_; rintro r w4 ⟨rfl, hb4⟩; have H4 := hid (HP.out.1.bel.trans (hb4.mono HP.out.1.bel.size)); clear hb4)
        go_ret
        exact ⟨rfl, H4.out⟩
      · have hj1 : (j : Int) < (os.length : Int) := by omega
        have hj0 : (0 : Int) ≤ (j : Int) := Int.natCast_nonneg _
        obtain ⟨o, ho⟩ : ∃ o, os[j]? = some o := ⟨_, List.getElem?_eq_getElem (by omega)⟩
        obtain ⟨g, off, _, cv, hv, hg, k0, k1, hcv⟩ := ops_at HD.out.1 j o ho
        cases hv
        obtain ⟨one, cs⟩ := o
        obtain ⟨ca, cc, hv⟩ := lks_form hcv
        subst hv
        have HG := hid hg
        have HC : Hid (Reads Gs w (.slice ca cs.length cc) (.l 3 (dLks cs)) ∧ ∀ k, k ∈ cs → k.2.1.length ≤ maxLen ∧ k.2.2.length ≤ maxLen) := hid ⟨hcv, HD.out.2 _ (List.mem_of_getElem? ho)⟩
        have HRm := hid (And.intro (HCp.out.2 _ (List.mem_of_getElem? ho)) (ops_room HCp.out.1 ho k1))
        have HJ := hid (And.intro hj hjn)
        clear hg hcv ho hj hjn
        go_wp2
        have HS : Hid (Below w.heap.size w wr.drew) := hid HP.out.1.bel.drew
        have HPd : Hid (PlSt w wr.drew Oj (.pointer (some ⟨gt, 0, none⟩)) Fj b a cap l vl ls) := hid (HP.out.1.keep (Below.refl _ _).drew)
        refine wp_region_held (S := fun ww => Below w.heap.size w ww) (by kernel_rfl) ?_
        try (change wpAnyH _ _ _ _ _ _ _ _ (World.drew _))
        refine wpAnyH_take (i := 0) (v := ?v1) rfl (by kernel_rfl) (by kernel_rfl) (by kernel_rfl) (fun _ _ _ h => h) (Or.inl ⟨by rfl, ?hy1⟩) HS.out ?rest1
        case hy1 => (intro ww _; go_simp; try with_reducible rfl)
        go_simp
        refine wpAnyH_take (i := 1) (v := ?v2) rfl (by kernel_rfl) (by kernel_rfl) (by kernel_rfl) (fun _ _ _ h => h) (Or.inl ⟨by rfl, ?hy2⟩) HS.out ?rest2
        case hy2 => (intro ww _; go_simp; try with_reducible rfl)
        go_simp
        refine wpAnyH_take (i := 2) (v := ?v3) rfl (by kernel_rfl) (by kernel_rfl) (by kernel_rfl) (fun _ _ _ h => h) (Or.inl ⟨by rfl, ?hy3⟩) HS.out ?rest3
        case hy3 => (intro ww _; go_simp; try with_reducible rfl)
        go_simp
        refine wpAnyH_take (i := 3) (v := ?v4) rfl (by kernel_rfl) (by kernel_rfl) (by kernel_rfl) (fun _ _ _ h => h) (Or.inl ⟨by rfl, ?hy4⟩) HS.out ?rest4
        case hy4 => (intro ww _; go_simp; try with_reducible rfl)
        go_simp
        refine wpAnyH_take (i := 4) (v := ?v5) rfl (by kernel_rfl) (by kernel_rfl) (by kernel_rfl) (fun _ _ _ h => h) (Or.inl ⟨by rfl, ?hy5⟩) HS.out ?rest5
        case hy5 => (intro ww hS; have y0 := (hS.cell (p := ⟨g, off + j * 2, none⟩) HG.out).trans k0; have y1 := (hS.cell (p := ⟨g, off + j * 2 + 1, none⟩) HG.out).trans k1; go_simp; try with_reducible rfl)
        go_simp
        refine wpAnyH_take (i := 6) (v := ?v6) rfl (by kernel_rfl) (by kernel_rfl) (by kernel_rfl) (fun _ _ _ h => h) (Or.inl ⟨by rfl, ?hy6⟩) HS.out ?rest6
        case hy6 => (intro ww _; go_simp; try with_reducible rfl)
        go_simp
        refine wpAnyH_take (i := 7) (v := ?v7) rfl (by kernel_rfl) (by kernel_rfl) (by kernel_rfl) (fun _ _ _ h => h) (Or.inl ⟨by rfl, ?hy7⟩) HS.out ?rest7
        case hy7 => (intro ww _; go_simp; try with_reducible rfl)
        go_simp
        refine wpAnyH_take (i := 8) (v := ?v8) rfl (by kernel_rfl) (by kernel_rfl) (by kernel_rfl) (fun _ _ _ h => h) (Or.inl ⟨by rfl, ?hy8⟩) HS.out ?rest8
        case hy8 => (intro ww _; go_simp; try with_reducible rfl)
        go_simp
        refine wpAnyH_take (i := 9) (v := ?v9) rfl (by kernel_rfl) (by kernel_rfl) (by kernel_rfl) (fun _ _ _ h => h) (Or.inl ⟨by rfl, ?hy9⟩) HS.out ?rest9
        case hy9 => (intro ww _; go_simp; try with_reducible rfl)
        go_simp
        refine wpAnyH_take (i := 10) (v := ?v10) rfl (by kernel_rfl) (by kernel_rfl) (by kernel_rfl) (fun _ _ _ h => h) (Or.inl ⟨by rfl, ?hy10⟩) HS.out ?rest10
        case hy10 => (intro ww hS; have y0 := (hS.cell (p := ⟨g, off + j * 2, none⟩) HG.out).trans k0; have y1 := (hS.cell (p := ⟨g, off + j * 2 + 1, none⟩) HG.out).trans k1; go_simp; try with_reducible rfl)
        go_simp
        refine wpAnyH_all (rs := [5]) (by kernel_rfl) (by simp) ?_
        intro i hi
        obtain rfl := List.mem_singleton.1 hi
        clear hi
        refine wpOp_k rfl (by rfl) (fun K hK => ?_)
        go_simp
        refine (jcall_any Oj _ l HR.out ls HP.out.2 Gs one _ cs HC.out.2 HRm.out.1 HRm.out.2 _ HPd.out.tr (HC.out.1.under HS.out (Nat.le_refl _))).mono ?_
        rintro r w4 ⟨rfl, ho4, O4, ht4, hO4⟩
        have H4 := hid (HPd.out.half ho4 ht4 hO4)
        clear ho4 ht4 hO4 HS
        have HS := hid H4.out.bel
        refine hK _ _ ⟨HS.out, ?_⟩
        clear hK K
        go_simp
        refine wpAnyH_all (rs := [11]) (by kernel_rfl) (by simp) ?_
        intro i hi
        obtain rfl := List.mem_singleton.1 hi
        clear hi
        refine wpOp_k rfl (by rfl) (fun K hK => ?_)
        go_simp
        refine (jmodel_any w.heap.size Fj b a cap vl l HR.out ls HP.out.2 Gs one _ cs HC.out.2 _ H4.out.bel.size H4.out.md (HC.out.1.under HS.out (Nat.le_refl _))).mono ?_
        rintro r w5 ⟨rfl, hk5, F5, vl5, hm5, hF5, hv5⟩
        have H5 := hid (H4.out.whole hk5 hm5 hF5 hv5)
        clear hk5 hm5 hF5 hv5 HS
        have HS := hid H5.out.bel
        refine hK _ _ ⟨HS.out, ?_⟩
        clear hK K
        go_simp
        refine wpAnyH_take (i := 12) (v := ?v11) rfl (by kernel_rfl) (by kernel_rfl) (by kernel_rfl) (fun _ _ _ h => h) (Or.inl ⟨by rfl, ?hy11⟩) HS.out ?rest11
        case hy11 => (intro ww _; go_simp; try with_reducible rfl)
        go_simp
        refine wpAnyH_take (i := 13) (v := ?v12) rfl (by kernel_rfl) (by kernel_rfl) (by kernel_rfl) (fun _ _ _ h => h) (Or.inl ⟨by rfl, ?hy12⟩) HS.out ?rest12
        case hy12 => (intro ww _; go_simp; try with_reducible rfl)
        go_simp
        refine wpAnyH_take (i := 14) (v := ?v13) rfl (by kernel_rfl) (by kernel_rfl) (by kernel_rfl) (fun _ _ _ h => h) (Or.inl ⟨by rfl, ?hy13⟩) HS.out ?rest13
        case hy13 => (intro ww _; go_simp; try with_reducible rfl)
        go_simp
        refine wpAnyH_take (i := 15) (v := ?v14) rfl (by kernel_rfl) (by kernel_rfl) (by kernel_rfl) (fun _ _ _ h => h) (Or.inl ⟨by rfl, ?hy14⟩) HS.out ?rest14
        case hy14 => (intro ww _; go_simp; try with_reducible rfl)
        go_simp
        refine wpAnyH_all (rs := [16]) (by kernel_rfl) (by simp) ?_
        intro i hi
        obtain rfl := List.mem_singleton.1 hi
        clear hi
        refine wpOp_k rfl (by rfl) (fun K hK => ?_)
        go_simp
        refine (jsame_any O4 _ w.heap.size F5 b a cap vl5 l HR.out _ (callL_ok HP.out.2) _ H5.out.tr H5.out.md).mono ?_
        rintro r w6 ⟨rfl, hb6⟩
        have H6 := hid (H5.out.keep hb6)
        clear hb6 HS
        have HS := hid H6.out.bel
        refine hK _ _ ⟨HS.out, ?_⟩
        clear hK K
        go_simp
        refine wpAnyH_take (i := 17) (v := ?v15) rfl (by kernel_rfl) (by kernel_rfl) (by kernel_rfl) (fun _ _ _ h => h) (Or.inl ⟨by rfl, ?hy15⟩) HS.out ?rest15
        case hy15 => (intro ww _; go_simp; try with_reducible rfl)
        go_simp
        refine wpAnyH_take (i := 18) (v := ?v16) rfl (by kernel_rfl) (by kernel_rfl) (by kernel_rfl) (fun _ _ _ h => h) (Or.inl ⟨by rfl, ?hy16⟩) HS.out ?rest16
        case hy16 => (intro ww _; go_simp; try with_reducible rfl)
        go_simp
        refine wpAnyH_done (by kernel_rfl) ?_ _
        go_simp
        go_wp2
        go_roundw
        case rel => exact ⟨j + 1, O4, F5, vl5, callL l ls one cs, by have := HJ.out; omega, rfl, callL_ok HP.out.2, H6.out⟩
        case measure => have := HJ.out; simp [intOf]; omega
  · have HR := hid hr
    clear hr
    go_enter Try.func4, Try.ntmps4
    go_wp2_with (first
      | (go_at_call 9; refine (jlives_any _).mono ?_; rintro r w1 ⟨rfl, hb1⟩
         have H1 : Hid (Below w.heap.size w w1 ∧ w1.heap[w.heap.size]? = some (.cells #[.int .i64 ep, .slice a n cap] 24 (0, 0))) := hid ⟨H0.out.1.trans (hb1.mono H0.out.1.size), (hb1.block _ (lt_of_blk H0.out.2)).trans H0.out.2⟩
         clear hb1
         have x0 := (cell_two H1.out.2).1
         have x1 := (cell_two H1.out.2).2)
      | (go_at_call 12; refine (lnew_any ep a n cap l HI.out.2.1 HI.out.2.2 _ (HI.out.1.keep H1.out.1 (Nat.le_refl _))).mono ?_; rintro r w2 ⟨hb2, _, h2⟩; have h2r := h2 HR.out; subst h2r
         have H2 := hid (And.intro (H1.out.1.trans (hb2.mono H1.out.1.size)) ((hb2.block _ (lt_of_blk H1.out.2)).trans H1.out.2))
         clear hb2 h2 x0 x1
         have x0 := (cell_two H2.out.2).1
         have x1 := (cell_two H2.out.2).2)
      | (go_at_call 13; refine (wnew_any w.heap.size ep a n cap l HI.out.2.1 HI.out.2.2 _ (HI.out.1.keep H2.out.1 (Nat.le_refl _))).mono ?_; rintro r w3 ⟨hb3, _, h3⟩; have h3r := h3 HR.out; subst h3r
         have H3 := hid (H2.out.1.trans (hb3.mono H2.out.1.size))
         clear hb3 h3))
    go_ret
    exact ⟨rfl, H3.out⟩
end Go.Proofs.Ytpholamobedkhaa
