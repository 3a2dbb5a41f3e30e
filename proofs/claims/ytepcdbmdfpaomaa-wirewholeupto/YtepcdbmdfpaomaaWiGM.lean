/- The program's test of a list of certificates. -/
import Derived.Test.YtepcdbmdfpaomaaWiFM
namespace Go.Proofs.Ytepcdbmdfpaomaa
open Go.RowKit

set_option maxRecDepth 100000 in
set_option maxHeartbeats 6400000 in
theorem icerts_any {F : Nat → Prop} (ep : Int) (h0 : 0 ≤ ep) (h1 : ep ≤ 60) (v : Value) (l : List Ct) (hl : l.length ≤ maxLen) (hb : ∀ x, x ∈ l → ctR x) (w : World) (hR : Reads F w v (dCts l)) :
    Calls Try.prog 84 #[.int .i64 ep, v] w fun e w' => e = .returned (.bool (ctsB ep l)) ∧ Below w.heap.size w w' := by
  obtain ⟨V, eV⟩ : ∃ V, V = ctsB ep l := ⟨_, rfl⟩
  rw [← eV]
  obtain ⟨ad, cap, hv⟩ := hR.form
  rw [List.length_map] at hv
  subst hv
  obtain ⟨n, en⟩ : ∃ n, n = l.length := ⟨_, rfl⟩
  have HR := hid hR
  rw [← en] at hl HR
  have hmi : (n : Int) ≤ 9223372036854775807 := by unfold maxLen at hl; omega
  have HE := hid (And.intro h0 h1)
  clear hR h0 h1
  rw [← en]
  by_cases h4 : 4 < n
  · have h4i : (4 : Int) < (n : Int) := by omega
    have hf : V = false := by rw [eV, ctsB, decide_eq_false (by omega)]; rfl
    subst hf
    clear eV hl hb en h4 HR
    go_enter Try.func84, Try.ntmps84
    go_wp2
    go_ret
    exact ⟨rfl, Below.refl _ _⟩
  · have h4i : ¬ ((4 : Int) < (n : Int)) := by omega
    have HV : Hid (V = allTo (ctAt ep l) n) := hid (by rw [eV, ctsB, decide_eq_true (by omega), en]; rfl)
    have HN := hid en
    have HL : Hid (n ≤ 4) := hid (by omega)
    have HBd := hid hb
    clear eV hl hb en h4
    go_enter Try.func84, Try.ntmps84
    go_wp2
    go_loopw [12] (fun i wr => ∃ j : Nat, j ≤ n ∧ i = .int .i64 (j : Int) ∧ allTo (ctAt ep l) j = true ∧ Below w.heap.size w wr)
      (fun i _ => ((n : Int) - intOf i).toNat)
    case atStart => exact ⟨0, Nat.zero_le _, rfl, rfl, Below.refl _ _⟩
    case round =>
      obtain ⟨j, hj, rfl, hok, hB⟩ := hrel
      have HB := hid hB
      have HOk := hid hok
      clear hok hB
      have hj0 : (0 : Int) ≤ (j : Int) := Int.natCast_nonneg _
      by_cases hjn : j = n
      · have hj1 : ¬ ((j : Int) < (n : Int)) := by omega
        have hv : Hid (V = true) := hid (by rw [HV.out, ← hjn]; exact HOk.out)
        clear hj hjn
        go_wp2
        go_ret
        exact ⟨by rw [hv.out]; rfl, HB.out⟩
      · have hj1 : (j : Int) < (n : Int) := by omega
        have hjl : j < l.length := by have := HN.out; omega
        have hR2 := HR.out
        rw [HN.out] at hR2
        obtain ⟨g, off, cp, a8, k8, hv, hp, hg, hc⟩ := ct_at (hR2.under HB.out (Nat.le_refl _)) j hjl
        cases hv
        have HP := hid hp
        have hprev : j ≠ 0 → wr.cell? ⟨g, off + (j - 1) * 9 + 1, none⟩ = some (.int .i64 (l.getD (j - 1) ct0).2.1) := fun hz => by
          obtain ⟨g2, o2, c2, a2, k2, hv2, _, _, hc2⟩ := ct_at (hR2.under HB.out (Nat.le_refl _)) (j - 1) (by omega)
          cases hv2
          exact hc2 1 _ rfl
        have HPr := hid (And.intro hprev hg)
        have HJ := hid (And.intro hj hjn)
        have HT : Hid (ctAt ep l j = (ctB ep (l.getD j ct0) && (decide (j = 0) || decide ((l.getD (j - 1) ct0).2.1 < (l.getD j ct0).2.1)))) := hid rfl
        have HFa : Hid (ctAt ep l j = false → V = false) := hid (fun e => by rw [HV.out]; exact allTo_no j (by omega) e)
        have HTr : Hid (ctAt ep l j = true → allTo (ctAt ep l) (j + 1) = true) := hid (fun e => by rw [allTo, HOk.out, e]; rfl)
        have HYb := hid (HBd.out (l.getD j ct0) (by rw [List.getD_eq_getElem?_getD, List.getElem?_eq_getElem hjl]; exact List.getElem_mem hjl))
        generalize l.getD j ct0 = y at hc HP HT HYb
        generalize (l.getD (j - 1) ct0).2.1 = ps at HPr HT
        have k0 : wr.cell? ⟨g, off + j * 9, none⟩ = some (.int .i64 y.1) := hc 0 _ rfl
        have k1 : wr.cell? ⟨g, off + j * 9 + 1, none⟩ = some (.int .i64 y.2.1) := hc 1 _ rfl
        have k2 : wr.cell? ⟨g, off + j * 9 + 2, none⟩ = some (.int .i64 y.2.2.1.c) := hc 2 _ rfl
        have k3 : wr.cell? ⟨g, off + j * 9 + 3, none⟩ = some (.int .i64 y.2.2.1.st) := hc 3 _ rfl
        have k4 : wr.cell? ⟨g, off + j * 9 + 4, none⟩ = some (.int .i64 y.2.2.1.k) := hc 4 _ rfl
        have k5 : wr.cell? ⟨g, off + j * 9 + 5, none⟩ = some (.string y.2.2.1.key) := hc 5 _ rfl
        have k6 : wr.cell? ⟨g, off + j * 9 + 6, none⟩ = some (.float .f64 y.2.2.1.b) := hc 6 _ rfl
        have k7 : wr.cell? ⟨g, off + j * 9 + 7, none⟩ = some (.int .i64 y.2.2.1.id) := hc 7 _ rfl
        have k8' : wr.cell? ⟨g, off + j * 9 + 8, none⟩ = some (.slice a8 y.2.2.2.length k8) := hc 8 _ rfl
        have hz : (j : Int) ≤ 4 := by have := HL.out; omega
        clear hj hjn hjl hR2 hp hg hc hprev
        go_wp2_with (refine wl_store_blk rfl 72 _ _ rfl wr.heap.size 0 rfl #[.int .i64 y.1, .int .i64 y.2.1, .int .i64 y.2.2.1.c, .int .i64 y.2.2.1.st, .int .i64 y.2.2.1.k, .string y.2.2.1.key, .float .f64 y.2.2.1.b, .int .i64 y.2.2.1.id, .slice a8 y.2.2.2.length k8] rfl [.int .i64 0, .int .i64 0, .int .i64 0, .int .i64 0, .int .i64 0, .string ⟨#[]⟩, .float .f64 0, .int .i64 0, .slice none 0 0] 72 (heap_alloc_last wr _) (by simp) (by kernel_rfl) (by simp [Value.oneCell']) ?_; intro w1 Hz; have H1 : Hid (BxAt w1 wr.heap.size (ctC y (.slice a8 y.2.2.2.length k8)) 72 ∧ Below wr.heap.size wr w1) := hid ⟨Hz.out.1, Hz.out.2.below ((Below.refl wr.heap.size wr).alloc (Nat.le_refl _) _) (Nat.le_refl _)⟩; clear Hz)
        clear k0 k1 k2 k3 k4 k5 k6 k7 k8'
        go_simp
        have HBx : Hid (∀ x : Cls w1, BxAt x.1 wr.heap.size (ctC y (.slice a8 y.2.2.2.length k8)) 72) := hid (fun x => H1.out.1.keep x.2)
        have d0 : ∀ x : Cls w1, x.1.cell? ⟨wr.heap.size, 0, none⟩ = some (.int .i64 y.1) := fun x => (HBx.out x).cell 0 _ rfl
        have d1 : ∀ x : Cls w1, x.1.cell? ⟨wr.heap.size, 1, none⟩ = some (.int .i64 y.2.1) := fun x => (HBx.out x).cell 1 _ rfl
        have d2 : ∀ x : Cls w1, x.1.cell? ⟨wr.heap.size, 2, none⟩ = some (.int .i64 y.2.2.1.c) := fun x => (HBx.out x).cell 2 _ rfl
        have d3 : ∀ x : Cls w1, x.1.cell? ⟨wr.heap.size, 3, none⟩ = some (.int .i64 y.2.2.1.st) := fun x => (HBx.out x).cell 3 _ rfl
        have d4 : ∀ x : Cls w1, x.1.cell? ⟨wr.heap.size, 4, none⟩ = some (.int .i64 y.2.2.1.k) := fun x => (HBx.out x).cell 4 _ rfl
        have d5 : ∀ x : Cls w1, x.1.cell? ⟨wr.heap.size, 5, none⟩ = some (.string y.2.2.1.key) := fun x => (HBx.out x).cell 5 _ rfl
        have d6 : ∀ x : Cls w1, x.1.cell? ⟨wr.heap.size, 6, none⟩ = some (.float .f64 y.2.2.1.b) := fun x => (HBx.out x).cell 6 _ rfl
        have d7 : ∀ x : Cls w1, x.1.cell? ⟨wr.heap.size, 7, none⟩ = some (.int .i64 y.2.2.1.id) := fun x => (HBx.out x).cell 7 _ rfl
        have d8 : ∀ x : Cls w1, x.1.cell? ⟨wr.heap.size, 8, none⟩ = some (.slice a8 y.2.2.2.length k8) := fun x => (HBx.out x).cell 8 _ rfl
        have HCe : Hid (∀ u : World, Below w1.heap.size w1 u → Calls Try.prog 96 #[.int .i64 ep, .agg #[.int .i64 y.1, .int .i64 y.2.1, .int .i64 y.2.2.1.c, .int .i64 y.2.2.1.st, .int .i64 y.2.2.1.k, .string y.2.2.1.key, .float .f64 y.2.2.1.b, .int .i64 y.2.2.1.id, .slice a8 y.2.2.2.length k8]] u fun e w' => e = .returned (.bool (ctB ep y)) ∧ Below u.heap.size u w') := hid (fun u hu => icert_any ep HE.out.1 HE.out.2 y a8 _ k8 rfl HYb.out.2.2.1 u ((HP.out.keep H1.out.2 (Nat.le_refl _)).keep hu (Nat.le_refl _)))
        haveI := Cls.ne w1
        cases hct : ctB ep y with
        | false =>
          rw [hct] at HCe HT
          have hf := hid (HFa.out HT.out)
          clear hct
          refine wp_region_cls w1 (by kernel_rfl) (by kernel_rfl) ?_
          repeat (go_big_quiet_step ((first
            | (go_at_call 96; exact Cls.of _ (fun u hu => HCe.out u hu)))))
          refine wpQuiet_nil ?_
          rintro _ ⟨x, rfl⟩
          go_wp2
          go_ret
          exact ⟨by rw [hf.out]; rfl, HB.out.trans ((H1.out.2.trans (x.2.mono H1.out.2.size)).mono HB.out.size)⟩
        | true =>
          rw [hct] at HCe HT
          clear hct
          by_cases hj00 : j = 0
          · have hp := hid (HTr.out (by rw [HT.out, decide_eq_true hj00]; rfl))
            have hd : decide ((0 : Int) < (j : Int)) = false := decide_eq_false (by omega)
            have hd2 : decide (0 < j) = false := decide_eq_false (by omega)
            clear hj00
            refine wp_region_cls w1 (by kernel_rfl) (by kernel_rfl) ?_
            repeat (go_big_quiet_step ((first
              | (go_at_call 96; exact Cls.of _ (fun u hu => HCe.out u hu)))))
            refine wpQuiet_nil ?_
            rintro _ ⟨x, rfl⟩
            go_wp2
            go_roundw
            case rel => exact ⟨j + 1, by have := HJ.out; omega, by go_num, hp.out, HB.out.trans ((H1.out.2.trans (x.2.mono H1.out.2.size)).mono HB.out.size)⟩
            case measure => simp [intOf]; omega
          · obtain ⟨jm, ejm⟩ : ∃ jm : Nat, jm = j - 1 := ⟨_, rfl⟩
            have dp : ∀ x : Cls w1, x.1.cell? ⟨g, off + jm * 9 + 1, none⟩ = some (.int .i64 ps) := fun x => (World.cell?_of_block (a := ⟨g, off + jm * 9 + 1, none⟩) ((x.2.block g (Nat.lt_of_lt_of_le HPr.out.2 H1.out.2.size)).trans (H1.out.2.block g HPr.out.2))).trans (by rw [ejm]; exact HPr.out.1 hj00)
            have hw : IntKind.i64.wrap ((j : Int) - 1) = (jm : Int) := by rw [show (j : Int) - 1 = (jm : Int) by omega]; exact wrap_small _ (by omega) (by omega)
            have hjm0 : (0 : Int) ≤ (jm : Int) := Int.natCast_nonneg _
            have hjm1 : (jm : Int) < (n : Int) := by omega
            have hd : decide ((0 : Int) < (j : Int)) = true := decide_eq_true (by omega)
            have hd2 : decide (0 < j) = true := decide_eq_true (by omega)
            have HT2 : Hid (ctAt ep l j = decide (ps < y.2.1)) := hid (by rw [HT.out, decide_eq_false hj00]; rfl)
            clear ejm hj00
            by_cases hlt : ps < y.2.1
            · have hp := hid (HTr.out (by rw [HT2.out, decide_eq_true hlt]))
              have hle : decide (y.2.1 ≤ ps) = false := decide_eq_false (by omega)
              have hle2 : ¬ (y.2.1 ≤ ps) := by omega
              refine wp_region_cls w1 (by kernel_rfl) (by kernel_rfl) ?_
              repeat (go_big_quiet_step ((first
                | (go_at_call 96; exact Cls.of _ (fun u hu => HCe.out u hu)))))
              refine wpQuiet_nil ?_
              rintro _ ⟨x, rfl⟩
              go_wp2
              go_roundw
              case rel => exact ⟨j + 1, by have := HJ.out; omega, by go_num, hp.out, HB.out.trans ((H1.out.2.trans (x.2.mono H1.out.2.size)).mono HB.out.size)⟩
              case measure => simp [intOf]; omega
            · have hf := hid (HFa.out (by rw [HT2.out, decide_eq_false hlt]))
              have hle : decide (y.2.1 ≤ ps) = true := decide_eq_true (by omega)
              have hle2 : y.2.1 ≤ ps := by omega
              refine wp_region_cls w1 (by kernel_rfl) (by kernel_rfl) ?_
              repeat (go_big_quiet_step ((first
                | (go_at_call 96; exact Cls.of _ (fun u hu => HCe.out u hu)))))
              refine wpQuiet_nil ?_
              rintro _ ⟨x, rfl⟩
              go_wp2
              go_ret
              exact ⟨by rw [hf.out]; rfl, HB.out.trans ((H1.out.2.trans (x.2.mono H1.out.2.size)).mono HB.out.size)⟩
end Go.Proofs.Ytepcdbmdfpaomaa
