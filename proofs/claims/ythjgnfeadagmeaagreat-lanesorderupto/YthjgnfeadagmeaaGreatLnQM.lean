/- The document's test of two rows of packets. -/
import Derived.Test.YthjgnfeadagmeaaGreatOpLM
import Derived.Test.YthjgnfeadagmeaaGreatWsEM
namespace Go.Proofs.YthjgnfeadagmeaaGreat
open Go.RowKit

theorem cls_row {wr : World} {g o : Nat} {L : List Value} (hg : g < wr.heap.size) (hc : ∀ (i : Nat) (u : Value), L[i]? = some u → wr.cell? ⟨g, o + i, none⟩ = some u) (i : Nat) (u : Value) (hu : L[i]? = some u) (cx : Cls wr) : cx.1.cell? ⟨g, o + i, none⟩ = some u := (cx.2.cell (p := ⟨g, o + i, none⟩) hg).trans (hc i u hu)
def samePk (a b : Pkt) : Bool := decide (a.1 = b.1) && (decide (a.2.1 = b.2.1) && sameMs a.2.2 b.2.2)
def samePks (l1 l2 : List Pkt) : Bool := decide (l1.length = l2.length) && allTo (fun i => samePk (l1.getD i zPt) (l2.getD i zPt)) l1.length
set_option maxRecDepth 100000 in
set_option maxHeartbeats 12800000 in
theorem wsamePks_any {F1 F2 : Nat → Prop} (a1 a2 : Option Addr) (n1 n2 c1 c2 : Nat) (l1 l2 : List Pkt) (hn1 : l1.length = n1) (hn2 : l2.length = n2) (hm1 : n1 ≤ maxLen) (hb1 : ∀ x, x ∈ l1 → MsN x.2.2) (hb2 : ∀ x, x ∈ l2 → MsN x.2.2) (w : World) (h1 : Reads F1 w (.slice a1 n1 c1) (.l 19 (l1.map dPk))) (h2 : Reads F2 w (.slice a2 n2 c2) (.l 19 (l2.map dPk))) :
    Calls Tryz.prog 19 #[.slice a1 n1 c1, .slice a2 n2 c2] w fun e w' => e = .returned (.bool (samePks l1 l2)) ∧ Below w.heap.size w w' := by
  obtain ⟨V, eV⟩ : ∃ V, V = samePks l1 l2 := ⟨_, rfl⟩
  rw [← eV]
  by_cases hne : n1 = n2
  · subst hne
    have hm3 : (n1 : Int) ≤ 9223372036854775807 := by unfold maxLen at hm1; omega
    have HV : Hid (V = allTo (fun i => samePk (l1.getD i zPt) (l2.getD i zPt)) n1) := hid (by rw [eV, samePks, hn1, hn2, decide_eq_true rfl]; rfl)
    have HZ := hid (And.intro h1 (And.intro h2 (And.intro hn1 hn2)))
    have HBd := hid (And.intro hb1 hb2)
    clear h1 h2 hn1 hn2 hm1 eV hb1 hb2
    go_enter Tryz.func19, Tryz.ntmps19
    go_wp2
    go_loopw [5] (fun i wr => ∃ j : Nat, j ≤ n1 ∧ i = .int .i64 (j : Int) ∧ Below w.heap.size w wr ∧ allTo (fun i => samePk (l1.getD i zPt) (l2.getD i zPt)) j = true)
      (fun i _ => ((n1 : Int) - intOf i).toNat)
    case atStart => exact ⟨0, by omega, rfl, Below.refl _ _, rfl⟩
    case round =>
      obtain ⟨j, hj, rfl, hbel, hok⟩ := hrel
      have HB := hid hbel
      have HOk := hid hok
      clear hbel hok
      have hj0 : (0 : Int) ≤ (j : Int) := Int.natCast_nonneg _
      by_cases hjn : j = n1
      · have hj1 : ¬ ((j : Int) < (n1 : Int)) := by omega
        have hv : Hid (V = true) := hid (by rw [HV.out, ← hjn]; exact HOk.out)
        clear hj hjn
        go_wp2
        go_ret
        exact ⟨by rw [hv.out]; rfl, HB.out⟩
      · have hj1 : (j : Int) < (n1 : Int) := by omega
        have hjl1 : j < l1.length := by have := HZ.out.2.2.1; omega
        have hjl2 : j < l2.length := by have := HZ.out.2.2.2; omega
        obtain ⟨x, hx⟩ : ∃ x, l1[j]? = some x := ⟨_, List.getElem?_eq_getElem hjl1⟩
        obtain ⟨y, hy⟩ : ∃ y, l2[j]? = some y := ⟨_, List.getElem?_eq_getElem hjl2⟩
        obtain ⟨g1, off1, cp1, a13, c13, a14, c14, a15, c15, a16, c16, hv1, _, hg1, hc1, hP1⟩ := pk_at (HZ.out.1.under HB.out (Nat.le_refl _)) j x hx
        obtain ⟨g2, off2, cp2, b13, d13, b14, d14, b15, d15, b16, d16, hv2, _, hg2, hc2, hP2⟩ := pk_at (HZ.out.2.1.under HB.out (Nat.le_refl _)) j y hy
        simp only [Value.slice.injEq] at hv1 hv2
        obtain ⟨rfl, -, rfl⟩ := hv1
        obtain ⟨rfl, -, rfl⟩ := hv2
        have ex : l1.getD j zPt = x := by rw [List.getD_eq_getElem?_getD, hx]; rfl
        have ey : l2.getD j zPt = y := by rw [List.getD_eq_getElem?_getD, hy]; rfl
        have HFa : Hid (samePk x y = false → V = false) := hid (fun e => by rw [HV.out]; exact allTo_no j (by omega) (by show samePk (l1.getD j zPt) (l2.getD j zPt) = false; rw [ex, ey]; exact e))
        have HTr : Hid (samePk x y = true → allTo (fun i => samePk (l1.getD i zPt) (l2.getD i zPt)) (j + 1) = true) := hid (fun e => by rw [← ex, ← ey] at e; rw [allTo, HOk.out, e]; rfl)
        have HSm : Hid (∀ u : World, Below wr.heap.size wr u → Calls Tryz.prog 43 #[.agg #[.int .i64 x.2.2.k, .int .i64 x.2.2.ep, .int .i64 x.2.2.v, .int .i64 x.2.2.sl, .int .i64 x.2.2.rq.c, .int .i64 x.2.2.rq.st, .int .i64 x.2.2.rq.k, .string x.2.2.rq.key, .float .f64 x.2.2.rq.b, .int .i64 x.2.2.rq.id, .int .i64 x.2.2.rs.1, .float .f64 x.2.2.rs.2, .string x.2.2.tx, .slice a13 x.2.2.nx.length c13, .slice a14 x.2.2.sg.length c14, .slice a15 x.2.2.cg.length c15, .slice a16 x.2.2.ln.length c16], .agg #[.int .i64 y.2.2.k, .int .i64 y.2.2.ep, .int .i64 y.2.2.v, .int .i64 y.2.2.sl, .int .i64 y.2.2.rq.c, .int .i64 y.2.2.rq.st, .int .i64 y.2.2.rq.k, .string y.2.2.rq.key, .float .f64 y.2.2.rq.b, .int .i64 y.2.2.rq.id, .int .i64 y.2.2.rs.1, .float .f64 y.2.2.rs.2, .string y.2.2.tx, .slice b13 y.2.2.nx.length d13, .slice b14 y.2.2.sg.length d14, .slice b15 y.2.2.cg.length d15, .slice b16 y.2.2.ln.length d16]] u fun e w' => e = .returned (.bool (sameMs x.2.2 y.2.2)) ∧ Below u.heap.size u w') := hid (fun u hu => wsameMs_any x.2.2 y.2.2 a13 a14 a15 a16 b13 b14 b15 b16 c13 c14 c15 c16 d13 d14 d15 d16 u (HBd.out.1 x (List.mem_of_getElem? hx)) (HBd.out.2 y (List.mem_of_getElem? hy)) (hP1.under hu) (hP2.under hu))
        have HJ := hid (And.intro hj hjn)
        have HG := hid (And.intro (And.intro hg1 hc1) (And.intro hg2 hc2))
        clear hj hjn hjl1 hjl2 hP1 hP2 hg1 hc1 hg2 hc2 hx hy ex ey
        have p0 : ∀ cx : Cls wr, cx.1.cell? ⟨g1, off1 + j * 19, none⟩ = some (.int .i64 x.1) := fun cx => cls_row HG.out.1.1 HG.out.1.2 0 _ rfl cx
        have p1 : ∀ cx : Cls wr, cx.1.cell? ⟨g1, off1 + j * 19 + 1, none⟩ = some (.int .i64 x.2.1) := fun cx => cls_row HG.out.1.1 HG.out.1.2 1 _ rfl cx
        have p2 : ∀ cx : Cls wr, cx.1.cell? ⟨g1, off1 + j * 19 + 2, none⟩ = some (.int .i64 x.2.2.k) := fun cx => cls_row HG.out.1.1 HG.out.1.2 2 _ rfl cx
        have p3 : ∀ cx : Cls wr, cx.1.cell? ⟨g1, off1 + j * 19 + 3, none⟩ = some (.int .i64 x.2.2.ep) := fun cx => cls_row HG.out.1.1 HG.out.1.2 3 _ rfl cx
        have p4 : ∀ cx : Cls wr, cx.1.cell? ⟨g1, off1 + j * 19 + 4, none⟩ = some (.int .i64 x.2.2.v) := fun cx => cls_row HG.out.1.1 HG.out.1.2 4 _ rfl cx
        have p5 : ∀ cx : Cls wr, cx.1.cell? ⟨g1, off1 + j * 19 + 5, none⟩ = some (.int .i64 x.2.2.sl) := fun cx => cls_row HG.out.1.1 HG.out.1.2 5 _ rfl cx
        have p6 : ∀ cx : Cls wr, cx.1.cell? ⟨g1, off1 + j * 19 + 6, none⟩ = some (.int .i64 x.2.2.rq.c) := fun cx => cls_row HG.out.1.1 HG.out.1.2 6 _ rfl cx
        have p7 : ∀ cx : Cls wr, cx.1.cell? ⟨g1, off1 + j * 19 + 7, none⟩ = some (.int .i64 x.2.2.rq.st) := fun cx => cls_row HG.out.1.1 HG.out.1.2 7 _ rfl cx
        have p8 : ∀ cx : Cls wr, cx.1.cell? ⟨g1, off1 + j * 19 + 8, none⟩ = some (.int .i64 x.2.2.rq.k) := fun cx => cls_row HG.out.1.1 HG.out.1.2 8 _ rfl cx
        have p9 : ∀ cx : Cls wr, cx.1.cell? ⟨g1, off1 + j * 19 + 9, none⟩ = some (.string x.2.2.rq.key) := fun cx => cls_row HG.out.1.1 HG.out.1.2 9 _ rfl cx
        have p10 : ∀ cx : Cls wr, cx.1.cell? ⟨g1, off1 + j * 19 + 10, none⟩ = some (.float .f64 x.2.2.rq.b) := fun cx => cls_row HG.out.1.1 HG.out.1.2 10 _ rfl cx
        have p11 : ∀ cx : Cls wr, cx.1.cell? ⟨g1, off1 + j * 19 + 11, none⟩ = some (.int .i64 x.2.2.rq.id) := fun cx => cls_row HG.out.1.1 HG.out.1.2 11 _ rfl cx
        have p12 : ∀ cx : Cls wr, cx.1.cell? ⟨g1, off1 + j * 19 + 12, none⟩ = some (.int .i64 x.2.2.rs.1) := fun cx => cls_row HG.out.1.1 HG.out.1.2 12 _ rfl cx
        have p13 : ∀ cx : Cls wr, cx.1.cell? ⟨g1, off1 + j * 19 + 13, none⟩ = some (.float .f64 x.2.2.rs.2) := fun cx => cls_row HG.out.1.1 HG.out.1.2 13 _ rfl cx
        have p14 : ∀ cx : Cls wr, cx.1.cell? ⟨g1, off1 + j * 19 + 14, none⟩ = some (.string x.2.2.tx) := fun cx => cls_row HG.out.1.1 HG.out.1.2 14 _ rfl cx
        have p15 : ∀ cx : Cls wr, cx.1.cell? ⟨g1, off1 + j * 19 + 15, none⟩ = some (.slice a13 x.2.2.nx.length c13) := fun cx => cls_row HG.out.1.1 HG.out.1.2 15 _ rfl cx
        have p16 : ∀ cx : Cls wr, cx.1.cell? ⟨g1, off1 + j * 19 + 16, none⟩ = some (.slice a14 x.2.2.sg.length c14) := fun cx => cls_row HG.out.1.1 HG.out.1.2 16 _ rfl cx
        have p17 : ∀ cx : Cls wr, cx.1.cell? ⟨g1, off1 + j * 19 + 17, none⟩ = some (.slice a15 x.2.2.cg.length c15) := fun cx => cls_row HG.out.1.1 HG.out.1.2 17 _ rfl cx
        have p18 : ∀ cx : Cls wr, cx.1.cell? ⟨g1, off1 + j * 19 + 18, none⟩ = some (.slice a16 x.2.2.ln.length c16) := fun cx => cls_row HG.out.1.1 HG.out.1.2 18 _ rfl cx
        have q0 : ∀ cx : Cls wr, cx.1.cell? ⟨g2, off2 + j * 19, none⟩ = some (.int .i64 y.1) := fun cx => cls_row HG.out.2.1 HG.out.2.2 0 _ rfl cx
        have q1 : ∀ cx : Cls wr, cx.1.cell? ⟨g2, off2 + j * 19 + 1, none⟩ = some (.int .i64 y.2.1) := fun cx => cls_row HG.out.2.1 HG.out.2.2 1 _ rfl cx
        have q2 : ∀ cx : Cls wr, cx.1.cell? ⟨g2, off2 + j * 19 + 2, none⟩ = some (.int .i64 y.2.2.k) := fun cx => cls_row HG.out.2.1 HG.out.2.2 2 _ rfl cx
        have q3 : ∀ cx : Cls wr, cx.1.cell? ⟨g2, off2 + j * 19 + 3, none⟩ = some (.int .i64 y.2.2.ep) := fun cx => cls_row HG.out.2.1 HG.out.2.2 3 _ rfl cx
        have q4 : ∀ cx : Cls wr, cx.1.cell? ⟨g2, off2 + j * 19 + 4, none⟩ = some (.int .i64 y.2.2.v) := fun cx => cls_row HG.out.2.1 HG.out.2.2 4 _ rfl cx
        have q5 : ∀ cx : Cls wr, cx.1.cell? ⟨g2, off2 + j * 19 + 5, none⟩ = some (.int .i64 y.2.2.sl) := fun cx => cls_row HG.out.2.1 HG.out.2.2 5 _ rfl cx
        have q6 : ∀ cx : Cls wr, cx.1.cell? ⟨g2, off2 + j * 19 + 6, none⟩ = some (.int .i64 y.2.2.rq.c) := fun cx => cls_row HG.out.2.1 HG.out.2.2 6 _ rfl cx
        have q7 : ∀ cx : Cls wr, cx.1.cell? ⟨g2, off2 + j * 19 + 7, none⟩ = some (.int .i64 y.2.2.rq.st) := fun cx => cls_row HG.out.2.1 HG.out.2.2 7 _ rfl cx
        have q8 : ∀ cx : Cls wr, cx.1.cell? ⟨g2, off2 + j * 19 + 8, none⟩ = some (.int .i64 y.2.2.rq.k) := fun cx => cls_row HG.out.2.1 HG.out.2.2 8 _ rfl cx
        have q9 : ∀ cx : Cls wr, cx.1.cell? ⟨g2, off2 + j * 19 + 9, none⟩ = some (.string y.2.2.rq.key) := fun cx => cls_row HG.out.2.1 HG.out.2.2 9 _ rfl cx
        have q10 : ∀ cx : Cls wr, cx.1.cell? ⟨g2, off2 + j * 19 + 10, none⟩ = some (.float .f64 y.2.2.rq.b) := fun cx => cls_row HG.out.2.1 HG.out.2.2 10 _ rfl cx
        have q11 : ∀ cx : Cls wr, cx.1.cell? ⟨g2, off2 + j * 19 + 11, none⟩ = some (.int .i64 y.2.2.rq.id) := fun cx => cls_row HG.out.2.1 HG.out.2.2 11 _ rfl cx
        have q12 : ∀ cx : Cls wr, cx.1.cell? ⟨g2, off2 + j * 19 + 12, none⟩ = some (.int .i64 y.2.2.rs.1) := fun cx => cls_row HG.out.2.1 HG.out.2.2 12 _ rfl cx
        have q13 : ∀ cx : Cls wr, cx.1.cell? ⟨g2, off2 + j * 19 + 13, none⟩ = some (.float .f64 y.2.2.rs.2) := fun cx => cls_row HG.out.2.1 HG.out.2.2 13 _ rfl cx
        have q14 : ∀ cx : Cls wr, cx.1.cell? ⟨g2, off2 + j * 19 + 14, none⟩ = some (.string y.2.2.tx) := fun cx => cls_row HG.out.2.1 HG.out.2.2 14 _ rfl cx
        have q15 : ∀ cx : Cls wr, cx.1.cell? ⟨g2, off2 + j * 19 + 15, none⟩ = some (.slice b13 y.2.2.nx.length d13) := fun cx => cls_row HG.out.2.1 HG.out.2.2 15 _ rfl cx
        have q16 : ∀ cx : Cls wr, cx.1.cell? ⟨g2, off2 + j * 19 + 16, none⟩ = some (.slice b14 y.2.2.sg.length d14) := fun cx => cls_row HG.out.2.1 HG.out.2.2 16 _ rfl cx
        have q17 : ∀ cx : Cls wr, cx.1.cell? ⟨g2, off2 + j * 19 + 17, none⟩ = some (.slice b15 y.2.2.cg.length d15) := fun cx => cls_row HG.out.2.1 HG.out.2.2 17 _ rfl cx
        have q18 : ∀ cx : Cls wr, cx.1.cell? ⟨g2, off2 + j * 19 + 18, none⟩ = some (.slice b16 y.2.2.ln.length d16) := fun cx => cls_row HG.out.2.1 HG.out.2.2 18 _ rfl cx
        go_wp2_with fail
        by_cases hs1 : ¬ x.1 = y.1
        · have hb : (x.1 != y.1) = true := by simpa using hs1
          have HF := hid (HFa.out (by rw [samePk, decide_eq_false hs1]; rfl))
          clear hs1 p2 q2 p3 q3 p4 q4 p5 q5 p6 q6 p7 q7 p8 q8 p9 q9 p10 q10 p11 q11 p12 q12 p13 q13 p14 q14 p15 q15 p16 q16 p17 q17 p18 q18 HSm
          as_aux_lemma =>
            haveI := Cls.ne wr
            refine wp_region_cls wr (by kernel_rfl) (by kernel_rfl) ?_
            repeat (go_big_quiet_step (fail))
            refine wpQuiet_nil ?_
            rintro _ ⟨cx, rfl⟩
            go_wp2
            go_ret
            exact ⟨by rw [HF.out]; rfl, HB.out.trans (cx.2.mono HB.out.size)⟩
        have hs1 : x.1 = y.1 := Classical.not_not.1 hs1
        have hb1 : (x.1 != y.1) = false := by simpa using hs1
        by_cases hs2 : ¬ x.2.1 = y.2.1
        · have hb : (x.2.1 != y.2.1) = true := by simpa using hs2
          have HF := hid (HFa.out (by rw [samePk, decide_eq_false hs2, Bool.false_and, Bool.and_false]))
          clear hs1 hs2 p2 q2 p3 q3 p4 q4 p5 q5 p6 q6 p7 q7 p8 q8 p9 q9 p10 q10 p11 q11 p12 q12 p13 q13 p14 q14 p15 q15 p16 q16 p17 q17 p18 q18 HSm
          as_aux_lemma =>
            haveI := Cls.ne wr
            refine wp_region_cls wr (by kernel_rfl) (by kernel_rfl) ?_
            repeat (go_big_quiet_step (fail))
            refine wpQuiet_nil ?_
            rintro _ ⟨cx, rfl⟩
            go_wp2
            go_ret
            exact ⟨by rw [HF.out]; rfl, HB.out.trans (cx.2.mono HB.out.size)⟩
        have hs2 : x.2.1 = y.2.1 := Classical.not_not.1 hs2
        have hb2 : (x.2.1 != y.2.1) = false := by simpa using hs2
        have HC : Hid (samePk x y = sameMs x.2.2 y.2.2) := hid (by rw [samePk, decide_eq_true hs1, decide_eq_true hs2]; rfl)
        clear hs1 hs2
        obtain ⟨b, eb⟩ : ∃ b, b = sameMs x.2.2 y.2.2 := ⟨_, rfl⟩
        rw [← eb] at HSm HC
        clear eb
        haveI := Cls.ne wr
        refine wp_region_cls wr (by kernel_rfl) (by kernel_rfl) ?_
        iterate 13 (go_big_quiet_step ((first
          | (go_at_call 43; exact Cls.of _ (fun u hu => HSm.out u hu)))))
        as_aux_lemma =>
          iterate 12 (go_big_quiet_step ((first
            | (go_at_call 43; exact Cls.of _ (fun u hu => HSm.out u hu)))))
          as_aux_lemma =>
            repeat (go_big_quiet_step ((first
              | (go_at_call 43; exact Cls.of _ (fun u hu => HSm.out u hu)))))
            refine wpQuiet_nil ?_
            rintro _ ⟨cx, rfl⟩
            clear p0 q0 p1 q1 p2 q2 p3 q3 p4 q4 p5 q5 p6 q6 p7 q7 p8 q8 p9 q9 p10 q10 p11 q11 p12 q12 p13 q13 p14 q14 p15 q15 p16 q16 p17 q17 p18 q18
            cases b with
            | false =>
              have HF := hid (HFa.out HC.out)
              go_wp2
              go_ret
              exact ⟨by rw [HF.out]; rfl, HB.out.trans (cx.2.mono HB.out.size)⟩
            | true =>
              have HT := hid (HTr.out HC.out)
              go_wp2
              go_roundw
              case rel => exact ⟨j + 1, by have := HJ.out; omega, by go_num, HB.out.trans (cx.2.mono HB.out.size), HT.out⟩
              case measure => have := HJ.out; simp [intOf]; omega
  · have hz : ¬ ((n1 : Int) = (n2 : Int)) := by omega
    have HN : Hid (V = false) := hid (by rw [eV, samePks, decide_eq_false (by omega)]; rfl)
    clear hne hn1 hn2 h1 h2 hm1 eV hb1 hb2
    go_enter Tryz.func19, Tryz.ntmps19
    go_wp2
    go_ret
    exact ⟨by rw [HN.out]; rfl, Below.refl _ _⟩
end Go.Proofs.YthjgnfeadagmeaaGreat
