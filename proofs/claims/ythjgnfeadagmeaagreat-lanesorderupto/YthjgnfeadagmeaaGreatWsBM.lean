/- The document's test of two lists of certificates. -/
import Derived.Test.YthjgnfeadagmeaaGreatOa4
import Derived.Test.YthjgnfeadagmeaaGreatOa8
namespace Go.Proofs.YthjgnfeadagmeaaGreat
open Go.RowKit

def ctSame (a b : Ct) : Bool := decide (a.1 = b.1) && (decide (a.2.1 = b.2.1) && (wholeB a.2.2.1 b.2.2.1 && decide (a.2.2.2 = b.2.2.2)))
def ctsSame (l1 l2 : List Ct) : Bool := decide (l1.length = l2.length) && allTo (fun i => ctSame (l1.getD i ct0) (l2.getD i ct0)) l1.length
set_option maxRecDepth 100000 in
set_option maxHeartbeats 6400000 in
theorem wsameCerts_any {F1 F2 : Nat → Prop} (a1 a2 : Option Addr) (n1 n2 c1 c2 : Nat) (l1 l2 : List Ct) (hn1 : l1.length = n1) (hn2 : l2.length = n2) (hm1 : n1 ≤ maxLen) (hb1 : ∀ x, x ∈ l1 → x.2.2.2.length ≤ maxLen) (hb2 : ∀ x, x ∈ l2 → x.2.2.2.length ≤ maxLen) (w : World) (h1 : Reads F1 w (.slice a1 n1 c1) (dCts l1)) (h2 : Reads F2 w (.slice a2 n2 c2) (dCts l2)) :
    Calls Tryz.prog 127 #[.slice a1 n1 c1, .slice a2 n2 c2] w fun e w' => e = .returned (.bool (ctsSame l1 l2)) ∧ Below w.heap.size w w' := by
  obtain ⟨V, eV⟩ : ∃ V, V = ctsSame l1 l2 := ⟨_, rfl⟩
  rw [← eV]
  by_cases hne : n1 = n2
  · subst hne
    have hm3 : (n1 : Int) ≤ 9223372036854775807 := by unfold maxLen at hm1; omega
    have HV : Hid (V = allTo (fun i => ctSame (l1.getD i ct0) (l2.getD i ct0)) n1) := hid (by rw [eV, ctsSame, hn1, hn2, decide_eq_true rfl]; rfl)
    have HZ := hid (And.intro h1 (And.intro h2 (And.intro hn1 hn2)))
    have HBd := hid (And.intro hb1 hb2)
    clear h1 h2 hn1 hn2 hm1 eV hb1 hb2
    go_enter Tryz.func127, Tryz.ntmps127
    go_wp2
    go_loopw [5] (fun i wr => ∃ j : Nat, j ≤ n1 ∧ i = .int .i64 (j : Int) ∧ Below w.heap.size w wr ∧ allTo (fun i => ctSame (l1.getD i ct0) (l2.getD i ct0)) j = true)
      (fun i _ => ((n1 : Int) - intOf i).toNat)
    case atStart => exact ⟨0, by omega, rfl, Below.refl _ _, rfl⟩
    case round =>
      obtain ⟨j, hj, rfl, hbel, hok⟩ := hrel
      have HB := hid hbel
      have HOk := hid hok
      clear hbel hok
      have hj0 : (0 : Int) ≤ (j : Int) := Int.natCast_nonneg _
      by_cases hjn : j = n1
      · have hj1 : ¬ ((j : Int) < (n1 : Int)) := by omega
        have hv : Hid (V = true) := hid (by rw [HV.out, ← hjn]; exact HOk.out)
        clear hj hjn
        go_wp2
        go_ret
        exact ⟨by rw [hv.out]; rfl, HB.out⟩
      · have hj1 : (j : Int) < (n1 : Int) := by omega
        have hjl1 : j < l1.length := by have := HZ.out.2.2.1; omega
        have hjl2 : j < l2.length := by have := HZ.out.2.2.2; omega
        obtain ⟨g1, off1, cp1, ax, kx, hv1, hP1, hg1, hc1⟩ := ct_at (HZ.out.1.under HB.out (Nat.le_refl _)) j hjl1
        obtain ⟨g2, off2, cp2, ay, ky, hv2, hP2, hg2, hc2⟩ := ct_at (HZ.out.2.1.under HB.out (Nat.le_refl _)) j hjl2
        simp only [Value.slice.injEq] at hv1 hv2
        obtain ⟨rfl, -, rfl⟩ := hv1
        obtain ⟨rfl, -, rfl⟩ := hv2
        have HP := hid (And.intro hP1 hP2)
        have HFa : Hid (ctSame (l1.getD j ct0) (l2.getD j ct0) = false → V = false) := hid (fun e => by rw [HV.out]; exact allTo_no j (by omega) e)
        have HTr : Hid (ctSame (l1.getD j ct0) (l2.getD j ct0) = true → allTo (fun i => ctSame (l1.getD i ct0) (l2.getD i ct0)) (j + 1) = true) := hid (fun e => by rw [allTo, HOk.out, e]; rfl)
        have HBx := hid (And.intro (HBd.out.1 (l1.getD j ct0) (by rw [List.getD_eq_getElem?_getD, List.getElem?_eq_getElem hjl1]; exact List.getElem_mem hjl1)) (HBd.out.2 (l2.getD j ct0) (by rw [List.getD_eq_getElem?_getD, List.getElem?_eq_getElem hjl2]; exact List.getElem_mem hjl2)))
        have HJ := hid (And.intro hj hjn)
        have HG := hid (And.intro (And.intro hg1 hc1) (And.intro hg2 hc2))
        generalize l1.getD j ct0 = x at HP HFa HTr HBx HG
        generalize l2.getD j ct0 = y at HP HFa HTr HBx HG
        clear hj hjn hjl1 hjl2 hP1 hP2 hg1 hc1 hg2 hc2
        have p0 : ∀ cx : Cls wr, cx.1.cell? ⟨g1, off1 + j * 9, none⟩ = some (.int .i64 x.1) := fun cx => (cx.2.cell (p := ⟨g1, off1 + j * 9 + 0, none⟩) HG.out.1.1).trans (HG.out.1.2 0 _ rfl)
        have p1 : ∀ cx : Cls wr, cx.1.cell? ⟨g1, off1 + j * 9 + 1, none⟩ = some (.int .i64 x.2.1) := fun cx => (cx.2.cell (p := ⟨g1, off1 + j * 9 + 1, none⟩) HG.out.1.1).trans (HG.out.1.2 1 _ rfl)
        have p2 : ∀ cx : Cls wr, cx.1.cell? ⟨g1, off1 + j * 9 + 2, none⟩ = some (.int .i64 x.2.2.1.c) := fun cx => (cx.2.cell (p := ⟨g1, off1 + j * 9 + 2, none⟩) HG.out.1.1).trans (HG.out.1.2 2 _ rfl)
        have p3 : ∀ cx : Cls wr, cx.1.cell? ⟨g1, off1 + j * 9 + 3, none⟩ = some (.int .i64 x.2.2.1.st) := fun cx => (cx.2.cell (p := ⟨g1, off1 + j * 9 + 3, none⟩) HG.out.1.1).trans (HG.out.1.2 3 _ rfl)
        have p4 : ∀ cx : Cls wr, cx.1.cell? ⟨g1, off1 + j * 9 + 4, none⟩ = some (.int .i64 x.2.2.1.k) := fun cx => (cx.2.cell (p := ⟨g1, off1 + j * 9 + 4, none⟩) HG.out.1.1).trans (HG.out.1.2 4 _ rfl)
        have p5 : ∀ cx : Cls wr, cx.1.cell? ⟨g1, off1 + j * 9 + 5, none⟩ = some (.string x.2.2.1.key) := fun cx => (cx.2.cell (p := ⟨g1, off1 + j * 9 + 5, none⟩) HG.out.1.1).trans (HG.out.1.2 5 _ rfl)
        have p6 : ∀ cx : Cls wr, cx.1.cell? ⟨g1, off1 + j * 9 + 6, none⟩ = some (.float .f64 x.2.2.1.b) := fun cx => (cx.2.cell (p := ⟨g1, off1 + j * 9 + 6, none⟩) HG.out.1.1).trans (HG.out.1.2 6 _ rfl)
        have p7 : ∀ cx : Cls wr, cx.1.cell? ⟨g1, off1 + j * 9 + 7, none⟩ = some (.int .i64 x.2.2.1.id) := fun cx => (cx.2.cell (p := ⟨g1, off1 + j * 9 + 7, none⟩) HG.out.1.1).trans (HG.out.1.2 7 _ rfl)
        have p8 : ∀ cx : Cls wr, cx.1.cell? ⟨g1, off1 + j * 9 + 8, none⟩ = some (.slice ax x.2.2.2.length kx) := fun cx => (cx.2.cell (p := ⟨g1, off1 + j * 9 + 8, none⟩) HG.out.1.1).trans (HG.out.1.2 8 _ rfl)
        have q0 : ∀ cx : Cls wr, cx.1.cell? ⟨g2, off2 + j * 9, none⟩ = some (.int .i64 y.1) := fun cx => (cx.2.cell (p := ⟨g2, off2 + j * 9 + 0, none⟩) HG.out.2.1).trans (HG.out.2.2 0 _ rfl)
        have q1 : ∀ cx : Cls wr, cx.1.cell? ⟨g2, off2 + j * 9 + 1, none⟩ = some (.int .i64 y.2.1) := fun cx => (cx.2.cell (p := ⟨g2, off2 + j * 9 + 1, none⟩) HG.out.2.1).trans (HG.out.2.2 1 _ rfl)
        have q2 : ∀ cx : Cls wr, cx.1.cell? ⟨g2, off2 + j * 9 + 2, none⟩ = some (.int .i64 y.2.2.1.c) := fun cx => (cx.2.cell (p := ⟨g2, off2 + j * 9 + 2, none⟩) HG.out.2.1).trans (HG.out.2.2 2 _ rfl)
        have q3 : ∀ cx : Cls wr, cx.1.cell? ⟨g2, off2 + j * 9 + 3, none⟩ = some (.int .i64 y.2.2.1.st) := fun cx => (cx.2.cell (p := ⟨g2, off2 + j * 9 + 3, none⟩) HG.out.2.1).trans (HG.out.2.2 3 _ rfl)
        have q4 : ∀ cx : Cls wr, cx.1.cell? ⟨g2, off2 + j * 9 + 4, none⟩ = some (.int .i64 y.2.2.1.k) := fun cx => (cx.2.cell (p := ⟨g2, off2 + j * 9 + 4, none⟩) HG.out.2.1).trans (HG.out.2.2 4 _ rfl)
        have q5 : ∀ cx : Cls wr, cx.1.cell? ⟨g2, off2 + j * 9 + 5, none⟩ = some (.string y.2.2.1.key) := fun cx => (cx.2.cell (p := ⟨g2, off2 + j * 9 + 5, none⟩) HG.out.2.1).trans (HG.out.2.2 5 _ rfl)
        have q6 : ∀ cx : Cls wr, cx.1.cell? ⟨g2, off2 + j * 9 + 6, none⟩ = some (.float .f64 y.2.2.1.b) := fun cx => (cx.2.cell (p := ⟨g2, off2 + j * 9 + 6, none⟩) HG.out.2.1).trans (HG.out.2.2 6 _ rfl)
        have q7 : ∀ cx : Cls wr, cx.1.cell? ⟨g2, off2 + j * 9 + 7, none⟩ = some (.int .i64 y.2.2.1.id) := fun cx => (cx.2.cell (p := ⟨g2, off2 + j * 9 + 7, none⟩) HG.out.2.1).trans (HG.out.2.2 7 _ rfl)
        have q8 : ∀ cx : Cls wr, cx.1.cell? ⟨g2, off2 + j * 9 + 8, none⟩ = some (.slice ay y.2.2.2.length ky) := fun cx => (cx.2.cell (p := ⟨g2, off2 + j * 9 + 8, none⟩) HG.out.2.1).trans (HG.out.2.2 8 _ rfl)
        have HWh : Hid (∀ u : World, Below wr.heap.size wr u → Calls Tryz.prog 81 #[.agg #[.int .i64 x.2.2.1.c, .int .i64 x.2.2.1.st, .int .i64 x.2.2.1.k, .string x.2.2.1.key, .float .f64 x.2.2.1.b, .int .i64 x.2.2.1.id], .agg #[.int .i64 y.2.2.1.c, .int .i64 y.2.2.1.st, .int .i64 y.2.2.1.k, .string y.2.2.1.key, .float .f64 y.2.2.1.b, .int .i64 y.2.2.1.id]] u fun e w' => e = .returned (.bool (wholeB x.2.2.1 y.2.2.1)) ∧ Below u.heap.size u w') := hid (fun u hu => qwhole_any x.2.2.1 y.2.2.1 u)
        have HSg : Hid (∀ u : World, Below wr.heap.size wr u → Calls Tryz.prog 80 #[.slice ax x.2.2.2.length kx, .slice ay y.2.2.2.length ky] u fun e w' => e = .returned (.bool (decide (x.2.2.2 = y.2.2.2))) ∧ Below u.heap.size u w') := hid (fun u hu => wsame_dec ax ay _ _ kx ky x.2.2.2 y.2.2.2 rfl rfl HBx.out.1 HBx.out.2 u (HP.out.1.keep hu (Nat.le_refl _)) (HP.out.2.keep hu (Nat.le_refl _)))
        go_wp2_with fail
        by_cases hs1 : ¬ x.1 = y.1
        · have hb : (x.1 != y.1) = true := by simpa using hs1
          have HF := hid (HFa.out (by rw [ctSame, decide_eq_false hs1]; rfl))
          clear hs1
          haveI := Cls.ne wr
          refine wp_region_cls wr (by kernel_rfl) (by kernel_rfl) ?_
          repeat (go_big_quiet_step ((first
            | (go_at_call 81; exact Cls.of _ (fun u hu => HWh.out u hu))
            | (go_at_call 80; exact Cls.of _ (fun u hu => HSg.out u hu)))))
          refine wpQuiet_nil ?_
          rintro _ ⟨cx, rfl⟩
          go_wp2
          go_ret
          exact ⟨by rw [HF.out]; rfl, HB.out.trans (cx.2.mono HB.out.size)⟩
        have hs1 : x.1 = y.1 := Classical.not_not.1 hs1
        have hb1 : (x.1 != y.1) = false := by simpa using hs1
        by_cases hs2 : ¬ x.2.1 = y.2.1
        · have hb : (x.2.1 != y.2.1) = true := by simpa using hs2
          have HF := hid (HFa.out (by rw [ctSame, decide_eq_false hs2, Bool.false_and, Bool.and_false]))
          clear hs1 hs2
          haveI := Cls.ne wr
          refine wp_region_cls wr (by kernel_rfl) (by kernel_rfl) ?_
          repeat (go_big_quiet_step ((first
            | (go_at_call 81; exact Cls.of _ (fun u hu => HWh.out u hu))
            | (go_at_call 80; exact Cls.of _ (fun u hu => HSg.out u hu)))))
          refine wpQuiet_nil ?_
          rintro _ ⟨cx, rfl⟩
          go_wp2
          go_ret
          exact ⟨by rw [HF.out]; rfl, HB.out.trans (cx.2.mono HB.out.size)⟩
        have hs2 : x.2.1 = y.2.1 := Classical.not_not.1 hs2
        have hb2 : (x.2.1 != y.2.1) = false := by simpa using hs2
        have HC : Hid (ctSame x y = (wholeB x.2.2.1 y.2.2.1 && decide (x.2.2.2 = y.2.2.2))) := hid (by rw [ctSame, decide_eq_true hs1, decide_eq_true hs2]; rfl)
        clear hs1 hs2
        cases hw : wholeB x.2.2.1 y.2.2.1 with
        | false =>
          rw [hw] at HWh HC
          have HF := hid (HFa.out HC.out)
          clear hw
          haveI := Cls.ne wr
          refine wp_region_cls wr (by kernel_rfl) (by kernel_rfl) ?_
          repeat (go_big_quiet_step ((first
            | (go_at_call 81; exact Cls.of _ (fun u hu => HWh.out u hu))
            | (go_at_call 80; exact Cls.of _ (fun u hu => HSg.out u hu)))))
          refine wpQuiet_nil ?_
          rintro _ ⟨cx, rfl⟩
          go_wp2
          go_ret
          exact ⟨by rw [HF.out]; rfl, HB.out.trans (cx.2.mono HB.out.size)⟩
        | true =>
          rw [hw] at HWh HC
          clear hw
          cases hg : decide (x.2.2.2 = y.2.2.2) with
          | false =>
            rw [hg] at HSg HC
            have HF := hid (HFa.out HC.out)
            clear hg
            haveI := Cls.ne wr
            refine wp_region_cls wr (by kernel_rfl) (by kernel_rfl) ?_
            repeat (go_big_quiet_step ((first
              | (go_at_call 81; exact Cls.of _ (fun u hu => HWh.out u hu))
              | (go_at_call 80; exact Cls.of _ (fun u hu => HSg.out u hu)))))
            refine wpQuiet_nil ?_
            rintro _ ⟨cx, rfl⟩
            go_wp2
            go_ret
            exact ⟨by rw [HF.out]; rfl, HB.out.trans (cx.2.mono HB.out.size)⟩
          | true =>
            rw [hg] at HSg HC
            have HT := hid (HTr.out HC.out)
            clear hg
            haveI := Cls.ne wr
            refine wp_region_cls wr (by kernel_rfl) (by kernel_rfl) ?_
            repeat (go_big_quiet_step ((first
              | (go_at_call 81; exact Cls.of _ (fun u hu => HWh.out u hu))
              | (go_at_call 80; exact Cls.of _ (fun u hu => HSg.out u hu)))))
            refine wpQuiet_nil ?_
            rintro _ ⟨cx, rfl⟩
            go_wp2
            go_roundw
            case rel => exact ⟨j + 1, by have := HJ.out; omega, by go_num, HB.out.trans (cx.2.mono HB.out.size), HT.out⟩
            case measure => simp [intOf]; omega
  · have hz : ¬ ((n1 : Int) = (n2 : Int)) := by omega
    have HN : Hid (V = false) := hid (by rw [eV, ctsSame, decide_eq_false (by omega)]; rfl)
    clear hne hn1 hn2 h1 h2 hm1 eV hb1 hb2
    go_enter Tryz.func127, Tryz.ntmps127
    go_wp2
    go_ret
    exact ⟨by rw [HN.out]; rfl, Below.refl _ _⟩
end Go.Proofs.YthjgnfeadagmeaaGreat
