/- The program's test of a list of changes. -/
import Derived.Test.YtepcdbmdfpaomaaWiHM
namespace Go.Proofs.Ytepcdbmdfpaomaa
open Go.RowKit
theorem cg_at {F : Nat → Prop} {w : World} {v : Value} {l : List Cg} (h : Reads F w v (dCgs l)) (j : Nat) (hj : j < l.length) :
    ∃ g off cap a n k, v = .slice (some ⟨g, off, none⟩) l.length cap ∧ Reads F w (.slice a n k) (dCts (l.getD j cg0).2.2.1) ∧ g < w.heap.size ∧ ∀ (q : Nat) (u : Value), (cgC (l.getD j cg0) (.slice a n k))[q]? = some u → w.cell? ⟨g, off + j * 5 + q, none⟩ = some u := by
  have hx : (l.map dCg)[j]? = some (dCg (l.getD j cg0)) := by rw [List.getElem?_map]; simp [hj]
  obtain ⟨g, off, cap, hv, _, hg, _, hc⟩ := h.at j _ hx
  obtain ⟨u2, k2, r2⟩ := hc 2 _ rfl
  obtain ⟨a, k, hu⟩ := Reads.form r2
  subst hu
  rw [List.length_map] at hv
  refine ⟨g, off, cap, a, _, k, hv, r2, hg, fun q u hq => ?_⟩
  match q, hq with
  | 0, hq => obtain ⟨x, k0, r0⟩ := hc 0 _ rfl; rw [r0.int] at k0; cases hq; exact k0
  | 1, hq => obtain ⟨x, k0, r0⟩ := hc 1 _ rfl; rw [r0.int] at k0; cases hq; exact k0
  | 2, hq => cases hq; exact k2
  | 3, hq => obtain ⟨x, k0, r0⟩ := hc 3 _ rfl; rw [r0.int] at k0; cases hq; exact k0
  | 4, hq => obtain ⟨x, k0, r0⟩ := hc 4 _ rfl; rw [r0.str] at k0; cases hq; exact k0
  | q + 5, hq => cases hq

set_option maxRecDepth 100000 in
set_option maxHeartbeats 6400000 in
theorem ichanges_any {F : Nat → Prop} (m : Ms) (h0 : 0 ≤ m.ep) (h1 : m.ep ≤ 60) (ad : Option Addr) (n cap : Nat) (v13 v14 v16 : Value) (most : Nat) (hm : most ≤ 10) (hl : m.cg.length ≤ maxLen) (en : n = m.cg.length) (hb : ∀ x, x ∈ m.cg → cgR x) (w : World) (hR : Reads F w (.slice ad n cap) (dCgs m.cg)) :
    Calls Try.prog 35 #[.agg #[.int .i64 m.k, .int .i64 m.ep, .int .i64 m.v, .int .i64 m.sl, .int .i64 m.rq.c, .int .i64 m.rq.st, .int .i64 m.rq.k, .string m.rq.key, .float .f64 m.rq.b, .int .i64 m.rq.id, .int .i64 m.rs.1, .float .f64 m.rs.2, .string m.tx, v13, v14, .slice ad n cap, v16], .int .i64 (most : Int)] w fun e w' => e = .returned (.bool (cgsB m.ep m.v m.cg most)) ∧ Below w.heap.size w w' := by
  obtain ⟨V, eV⟩ : ∃ V, V = cgsB m.ep m.v m.cg most := ⟨_, rfl⟩
  rw [← eV]
  have HR := hid hR
  rw [← en] at hl
  have hmi : (n : Int) ≤ 9223372036854775807 := by unfold maxLen at hl; omega
  have HE := hid (And.intro h0 h1)
  clear hR h0 h1
  have HW : Hid (inB (n : Int) 1 (most : Int) = (decide (1 ≤ n) && decide (n ≤ most))) := hid (by
    rw [inB]; congr 1
    · exact decide_eq_decide.2 (by omega)
    · exact decide_eq_decide.2 (by omega))
  have H0 : Hid (BxAt (w.alloc (.cells #[.int .i64 m.k, .int .i64 m.ep, .int .i64 m.v, .int .i64 m.sl, .int .i64 m.rq.c, .int .i64 m.rq.st, .int .i64 m.rq.k, .string m.rq.key, .float .f64 m.rq.b, .int .i64 m.rq.id, .int .i64 m.rs.1, .float .f64 m.rs.2, .string m.tx, v13, v14, .slice ad n cap, v16] 34)) w.heap.size [.int .i64 m.k, .int .i64 m.ep, .int .i64 m.v, .int .i64 m.sl, .int .i64 m.rq.c, .int .i64 m.rq.st, .int .i64 m.rq.k, .string m.rq.key, .float .f64 m.rq.b, .int .i64 m.rq.id, .int .i64 m.rs.1, .float .f64 m.rs.2, .string m.tx, v13, v14, .slice ad n cap, v16] 34 ∧ Below w.heap.size w (w.alloc (.cells #[.int .i64 m.k, .int .i64 m.ep, .int .i64 m.v, .int .i64 m.sl, .int .i64 m.rq.c, .int .i64 m.rq.st, .int .i64 m.rq.k, .string m.rq.key, .float .f64 m.rq.b, .int .i64 m.rq.id, .int .i64 m.rs.1, .float .f64 m.rs.2, .string m.tx, v13, v14, .slice ad n cap, v16] 34))) := hid ⟨heap_alloc_last w _, (Below.refl w.heap.size w).alloc (Nat.le_refl _) _⟩
  have y1 := H0.out.1.cell 1 _ rfl
  have y2 := H0.out.1.cell 2 _ rfl
  have y15 := H0.out.1.cell 15 _ rfl
  by_cases h4 : ¬ (1 ≤ n ∧ n ≤ most)
  · have hf : V = false := by
      rw [eV, cgsB, ← en]
      by_cases h5 : 1 ≤ n
      · rw [decide_eq_true h5, decide_eq_false (fun h => h4 ⟨h5, h⟩)]; rfl
      · rw [decide_eq_false h5]; rfl
    subst hf
    have HW2 : Hid (inB (n : Int) 1 (most : Int) = false) := hid (by
      rw [HW.out]
      by_cases h5 : 1 ≤ n
      · rw [decide_eq_true h5, decide_eq_false (fun h => h4 ⟨h5, h⟩)]; rfl
      · rw [decide_eq_false h5]; rfl)
    clear eV hl hb en h4 HR
    go_enter Try.func35, Try.ntmps35
    go_wp2_with (go_at_call 26; refine (iwithin_any _ _ _ _).mono ?_; rintro e w1 ⟨rfl, hw⟩; rw [HW2.out]; replace hw := hw.symm; subst hw)
    go_ret
    exact ⟨rfl, H0.out.2⟩
  · have h4 : 1 ≤ n ∧ n ≤ most := Classical.not_not.1 h4
    have HV : Hid (V = allTo (cgAt m.ep m.v m.cg) n) := hid (by rw [eV, cgsB, ← en, decide_eq_true h4.1, decide_eq_true h4.2]; rfl)
    have HW2 : Hid (inB (n : Int) 1 (most : Int) = true) := hid (by rw [HW.out, decide_eq_true h4.1, decide_eq_true h4.2]; rfl)
    have HN := hid en
    have HL : Hid (n ≤ 10) := hid (by omega)
    have HBd := hid hb
    clear eV hl hb en h4
    go_enter Try.func35, Try.ntmps35
    go_wp2_with (go_at_call 26; refine (iwithin_any _ _ _ _).mono ?_; rintro e w1 ⟨rfl, hw⟩; rw [HW2.out]; replace hw := hw.symm; subst hw)
    generalize w.alloc (.cells #[.int .i64 m.k, .int .i64 m.ep, .int .i64 m.v, .int .i64 m.sl, .int .i64 m.rq.c, .int .i64 m.rq.st, .int .i64 m.rq.k, .string m.rq.key, .float .f64 m.rq.b, .int .i64 m.rq.id, .int .i64 m.rs.1, .float .f64 m.rs.2, .string m.tx, v13, v14, .slice ad n cap, v16] 34) = wa at H0 y1 y2 y15 ⊢
    go_loopw [16] (fun i wr => ∃ j : Nat, j ≤ n ∧ i = .int .i64 (j : Int) ∧ allTo (cgAt m.ep m.v m.cg) j = true ∧ Below wa.heap.size wa wr)
      (fun i _ => ((n : Int) - intOf i).toNat)
    case atStart => exact ⟨0, Nat.zero_le _, rfl, rfl, Below.refl _ _⟩
    case round =>
      obtain ⟨j, hj, rfl, hok, hB⟩ := hrel
      have HB := hid hB
      have HBw := hid (H0.out.2.trans (hB.mono H0.out.2.size))
      have HOk := hid hok
      clear hok hB y1 y2 y15
      have hj0 : (0 : Int) ≤ (j : Int) := Int.natCast_nonneg _
      by_cases hjn : j = n
      · have hj1 : ¬ ((j : Int) < (n : Int)) := by omega
        have hv : Hid (V = true) := hid (by rw [HV.out, ← hjn]; exact HOk.out)
        clear hj hjn
        go_wp2
        go_ret
        exact ⟨by rw [hv.out]; rfl, HBw.out⟩
      · have hj1 : (j : Int) < (n : Int) := by omega
        have hjl : j < m.cg.length := by have := HN.out; omega
        have hR2 := HR.out
        rw [HN.out] at hR2
        obtain ⟨g, off, cp, a8, n8, k8, hv, hp, hg, hc⟩ := cg_at (hR2.under HBw.out (Nat.le_refl _)) j hjl
        cases hv
        have HP := hid hp
        have hprev : j ≠ 0 → wr.cell? ⟨g, off + (j - 1) * 5, none⟩ = some (.int .i64 (m.cg.getD (j - 1) cg0).1) := fun hz => by
          obtain ⟨g2, o2, c2, a2, n2, k2, hv2, _, _, hc2⟩ := cg_at (hR2.under HBw.out (Nat.le_refl _)) (j - 1) (by omega)
          cases hv2
          exact hc2 0 _ rfl
        have HPr := hid (And.intro hprev hg)
        have HJ := hid (And.intro hj hjn)
        have HT : Hid (cgAt m.ep m.v m.cg j = ((decide ((m.cg.getD j cg0).2.1 = m.v) && cgB m.ep (m.cg.getD j cg0)) && (decide (j = 0) || decide ((m.cg.getD (j - 1) cg0).1 < (m.cg.getD j cg0).1)))) := hid rfl
        have HFa : Hid (cgAt m.ep m.v m.cg j = false → V = false) := hid (fun e => by rw [HV.out]; exact allTo_no j (by omega) e)
        have HTr : Hid (cgAt m.ep m.v m.cg j = true → allTo (cgAt m.ep m.v m.cg) (j + 1) = true) := hid (fun e => by rw [allTo, HOk.out, e]; rfl)
        have HYb := hid (HBd.out (m.cg.getD j cg0) (by rw [List.getD_eq_getElem?_getD, List.getElem?_eq_getElem hjl]; exact List.getElem_mem hjl))
        generalize m.cg.getD j cg0 = y at hc HP HT HYb
        generalize (m.cg.getD (j - 1) cg0).1 = ps at HPr HT
        have k0 : wr.cell? ⟨g, off + j * 5, none⟩ = some (.int .i64 y.1) := hc 0 _ rfl
        have k1 : wr.cell? ⟨g, off + j * 5 + 1, none⟩ = some (.int .i64 y.2.1) := hc 1 _ rfl
        have k2 : wr.cell? ⟨g, off + j * 5 + 2, none⟩ = some (.slice a8 n8 k8) := hc 2 _ rfl
        have k3 : wr.cell? ⟨g, off + j * 5 + 3, none⟩ = some (.int .i64 y.2.2.2.1) := hc 3 _ rfl
        have k4 : wr.cell? ⟨g, off + j * 5 + 4, none⟩ = some (.string y.2.2.2.2) := hc 4 _ rfl
        have hz : (j : Int) ≤ 10 := by have := HL.out; omega
        clear hj hjn hjl hR2 hp hg hc hprev
        go_wp2_with (refine wl_store_blk rfl 70 _ _ rfl wr.heap.size 0 rfl #[.int .i64 y.1, .int .i64 y.2.1, .slice a8 n8 k8, .int .i64 y.2.2.2.1, .string y.2.2.2.2] rfl [.int .i64 0, .int .i64 0, .slice none 0 0, .int .i64 0, .string ⟨#[]⟩] 70 (heap_alloc_last wr _) (by simp) (by kernel_rfl) (by simp [Value.oneCell']) ?_; intro w1 Hz; have H1 : Hid (BxAt w1 wr.heap.size (cgC y (.slice a8 n8 k8)) 70 ∧ Below wr.heap.size wr w1) := hid ⟨Hz.out.1, Hz.out.2.below ((Below.refl wr.heap.size wr).alloc (Nat.le_refl _) _) (Nat.le_refl _)⟩; clear Hz)
        clear k0 k1 k2 k3 k4
        go_simp
        have HBx : Hid (∀ x : Cls w1, BxAt x.1 wr.heap.size (cgC y (.slice a8 n8 k8)) 70) := hid (fun x => H1.out.1.keep x.2)
        have HMx : Hid (∀ x : Cls w1, BxAt x.1 w.heap.size [.int .i64 m.k, .int .i64 m.ep, .int .i64 m.v, .int .i64 m.sl, .int .i64 m.rq.c, .int .i64 m.rq.st, .int .i64 m.rq.k, .string m.rq.key, .float .f64 m.rq.b, .int .i64 m.rq.id, .int .i64 m.rs.1, .float .f64 m.rs.2, .string m.tx, v13, v14, .slice (some ⟨g, off, none⟩) n cap, v16] 34) := hid (fun x => ((H0.out.1.keep HB.out).keep H1.out.2).keep x.2)
        have d0 : ∀ x : Cls w1, x.1.cell? ⟨wr.heap.size, 0, none⟩ = some (.int .i64 y.1) := fun x => (HBx.out x).cell 0 _ rfl
        have d1 : ∀ x : Cls w1, x.1.cell? ⟨wr.heap.size, 1, none⟩ = some (.int .i64 y.2.1) := fun x => (HBx.out x).cell 1 _ rfl
        have d2 : ∀ x : Cls w1, x.1.cell? ⟨wr.heap.size, 2, none⟩ = some (.slice a8 n8 k8) := fun x => (HBx.out x).cell 2 _ rfl
        have d3 : ∀ x : Cls w1, x.1.cell? ⟨wr.heap.size, 3, none⟩ = some (.int .i64 y.2.2.2.1) := fun x => (HBx.out x).cell 3 _ rfl
        have d4 : ∀ x : Cls w1, x.1.cell? ⟨wr.heap.size, 4, none⟩ = some (.string y.2.2.2.2) := fun x => (HBx.out x).cell 4 _ rfl
        have m1 : ∀ x : Cls w1, x.1.cell? ⟨w.heap.size, 1, none⟩ = some (.int .i64 m.ep) := fun x => (HMx.out x).cell 1 _ rfl
        have m2 : ∀ x : Cls w1, x.1.cell? ⟨w.heap.size, 2, none⟩ = some (.int .i64 m.v) := fun x => (HMx.out x).cell 2 _ rfl
        have m15 : ∀ x : Cls w1, x.1.cell? ⟨w.heap.size, 15, none⟩ = some (.slice (some ⟨g, off, none⟩) n cap) := fun x => (HMx.out x).cell 15 _ rfl
        have HCe : Hid (∀ u : World, Below w1.heap.size w1 u → Calls Try.prog 60 #[.int .i64 m.ep, .agg #[.int .i64 y.1, .int .i64 y.2.1, .slice a8 n8 k8, .int .i64 y.2.2.2.1, .string y.2.2.2.2]] u fun e w' => e = .returned (.bool (cgB m.ep y)) ∧ Below u.heap.size u w') := hid (fun u hu => ichange_any m.ep HE.out.1 HE.out.2 y a8 _ k8 HYb.out.2.1.1 HYb.out.2.1.2 u ((HP.out.under H1.out.2 (Nat.le_refl _)).under hu (Nat.le_refl _)))
        haveI := Cls.ne w1
        by_cases hvw : ¬ y.2.1 = m.v
        · have hf := hid (HFa.out (by rw [HT.out, decide_eq_false hvw]; rfl))
          have hvd : decide (y.2.1 = m.v) = false := decide_eq_false hvw
          have hvb : (y.2.1 == m.v) = false := by simpa using hvw
          have hvn : (y.2.1 != m.v) = true := by rw [bne, hvb]; rfl
          refine wp_region_cls w1 (by kernel_rfl) (by kernel_rfl) ?_
          repeat (go_big_quiet_step ((first
            | (go_at_call 60; exact Cls.of _ (fun u hu => HCe.out u hu)))))
          refine wpQuiet_nil ?_
          rintro _ ⟨x, rfl⟩
          go_wp2
          go_ret
          exact ⟨by rw [hf.out]; rfl, HBw.out.trans ((H1.out.2.trans (x.2.mono H1.out.2.size)).mono HBw.out.size)⟩
        have hvw : y.2.1 = m.v := Classical.not_not.1 hvw
        have HT1 : Hid (cgAt m.ep m.v m.cg j = (cgB m.ep y && (decide (j = 0) || decide (ps < y.1)))) := hid (by rw [HT.out, decide_eq_true hvw]; rfl)
        clear HT
        have hvd : decide (y.2.1 = m.v) = true := decide_eq_true hvw
        have hvb : (y.2.1 == m.v) = true := by simpa using hvw
        have hvn : (y.2.1 != m.v) = false := by rw [bne, hvb]; rfl
        clear hvw
        cases hct : cgB m.ep y with
        | false =>
          rw [hct] at HCe HT1
          have hf := hid (HFa.out HT1.out)
          clear hct
          refine wp_region_cls w1 (by kernel_rfl) (by kernel_rfl) ?_
          repeat (go_big_quiet_step ((first
            | (go_at_call 60; exact Cls.of _ (fun u hu => HCe.out u hu)))))
          refine wpQuiet_nil ?_
          rintro _ ⟨x, rfl⟩
          go_wp2
          go_ret
          exact ⟨by rw [hf.out]; rfl, HBw.out.trans ((H1.out.2.trans (x.2.mono H1.out.2.size)).mono HBw.out.size)⟩
        | true =>
          rw [hct] at HCe HT1
          clear hct
          by_cases hj00 : j = 0
          · have hp := hid (HTr.out (by rw [HT1.out, decide_eq_true hj00]; rfl))
            have hd : decide ((0 : Int) < (j : Int)) = false := decide_eq_false (by omega)
            have hd2 : decide (0 < j) = false := decide_eq_false (by omega)
            clear hj00
            refine wp_region_cls w1 (by kernel_rfl) (by kernel_rfl) ?_
            repeat (go_big_quiet_step ((first
              | (go_at_call 60; exact Cls.of _ (fun u hu => HCe.out u hu)))))
            refine wpQuiet_nil ?_
            rintro _ ⟨x, rfl⟩
            go_wp2
            go_roundw
            case rel => exact ⟨j + 1, by have := HJ.out; omega, by go_num, hp.out, HB.out.trans ((H1.out.2.trans (x.2.mono H1.out.2.size)).mono HB.out.size)⟩
            case measure => simp [intOf]; omega
          · obtain ⟨jm, ejm⟩ : ∃ jm : Nat, jm = j - 1 := ⟨_, rfl⟩
            have dp : ∀ x : Cls w1, x.1.cell? ⟨g, off + jm * 5, none⟩ = some (.int .i64 ps) := fun x => (World.cell?_of_block (a := ⟨g, off + jm * 5, none⟩) ((x.2.block g (Nat.lt_of_lt_of_le HPr.out.2 H1.out.2.size)).trans (H1.out.2.block g HPr.out.2))).trans (by rw [ejm]; exact HPr.out.1 hj00)
            have hw : IntKind.i64.wrap ((j : Int) - 1) = (jm : Int) := by rw [show (j : Int) - 1 = (jm : Int) by omega]; exact wrap_small _ (by omega) (by omega)
            have hjm0 : (0 : Int) ≤ (jm : Int) := Int.natCast_nonneg _
            have hjm1 : (jm : Int) < (n : Int) := by omega
            have hd : decide ((0 : Int) < (j : Int)) = true := decide_eq_true (by omega)
            have hd2 : decide (0 < j) = true := decide_eq_true (by omega)
            have HT2 : Hid (cgAt m.ep m.v m.cg j = decide (ps < y.1)) := hid (by rw [HT1.out, decide_eq_false hj00]; rfl)
            clear ejm hj00
            by_cases hlt : ps < y.1
            · have hp := hid (HTr.out (by rw [HT2.out, decide_eq_true hlt]))
              have hle : decide (y.1 ≤ ps) = false := decide_eq_false (by omega)
              have hle2 : ¬ (y.1 ≤ ps) := by omega
              refine wp_region_cls w1 (by kernel_rfl) (by kernel_rfl) ?_
              repeat (go_big_quiet_step ((first
                | (go_at_call 60; exact Cls.of _ (fun u hu => HCe.out u hu)))))
              refine wpQuiet_nil ?_
              rintro _ ⟨x, rfl⟩
              go_wp2
              go_roundw
              case rel => exact ⟨j + 1, by have := HJ.out; omega, by go_num, hp.out, HB.out.trans ((H1.out.2.trans (x.2.mono H1.out.2.size)).mono HB.out.size)⟩
              case measure => simp [intOf]; omega
            · have hf := hid (HFa.out (by rw [HT2.out, decide_eq_false hlt]))
              have hle : decide (y.1 ≤ ps) = true := decide_eq_true (by omega)
              have hle2 : y.1 ≤ ps := by omega
              refine wp_region_cls w1 (by kernel_rfl) (by kernel_rfl) ?_
              repeat (go_big_quiet_step ((first
                | (go_at_call 60; exact Cls.of _ (fun u hu => HCe.out u hu)))))
              refine wpQuiet_nil ?_
              rintro _ ⟨x, rfl⟩
              go_wp2
              go_ret
              exact ⟨by rw [hf.out]; rfl, HBw.out.trans ((H1.out.2.trans (x.2.mono H1.out.2.size)).mono HBw.out.size)⟩
end Go.Proofs.Ytepcdbmdfpaomaa
