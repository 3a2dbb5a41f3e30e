/- The program's test of a list of links. -/
import Derived.Test.YthjgnfeadagmeaaGreatOa8
namespace Go.Proofs.YthjgnfeadagmeaaGreat
open Go.RowKit
def lnC (k : Ln) (v1 v2 : Value) : List Value := [.int .i64 k.1.1, v1, v2]
theorem ln_at {F : Nat → Prop} {w : World} {v : Value} {l : List Ln} (h : Reads F w v (dLns l)) (j : Nat) (hj : j < l.length) :
    ∃ g off cap a1 k1 a2 k2, v = .slice (some ⟨g, off, none⟩) l.length cap ∧ (IntsIn w a1 (l.getD j ln0).1.2 ∧ PairsIn w a2 (l.getD j ln0).2) ∧ g < w.heap.size ∧ ∀ (q : Nat) (u : Value), (lnC (l.getD j ln0) (.slice a1 (l.getD j ln0).1.2.length k1) (.slice a2 (l.getD j ln0).2.length k2))[q]? = some u → w.cell? ⟨g, off + j * 3 + q, none⟩ = some u := by
  have hx : (l.map dLn)[j]? = some (dLn (l.getD j ln0)) := by rw [List.getElem?_map]; simp [hj]
  obtain ⟨g, off, cap, hv, _, hg, _, hc⟩ := h.at j _ hx
  obtain ⟨u1, e1, r1⟩ := hc 1 _ rfl
  obtain ⟨u2, e2, r2⟩ := hc 2 _ rfl
  obtain ⟨a1, k1, rfl, i1, _⟩ := reads_ints r1
  obtain ⟨a2, k2, rfl, i2, _⟩ := reads_pairs r2
  rw [List.length_map] at hv
  refine ⟨g, off, cap, a1, k1, a2, k2, hv, ⟨i1, i2⟩, hg, fun q u hq => ?_⟩
  match q, hq with
  | 0, hq => obtain ⟨x, k0, r0⟩ := hc 0 _ rfl; rw [r0.int] at k0; cases hq; exact k0
  | 1, hq => cases hq; exact e1
  | 2, hq => cases hq; exact e2
  | q + 3, hq => cases hq

set_option maxRecDepth 100000 in
set_option maxHeartbeats 6400000 in
theorem ilinks_any {F : Nat → Prop} (m : Ms) (h1 : m.ep ≤ 60) (ad : Option Addr) (n cap : Nat) (v13 v14 v15 : Value) (hl : m.ln.length ≤ maxLen) (en : n = m.ln.length) (hb : ∀ x, x ∈ m.ln → lnR x) (w : World) (hR : Reads F w (.slice ad n cap) (dLns m.ln)) :
    Calls Tryz.prog 111 #[.agg #[.int .i64 m.k, .int .i64 m.ep, .int .i64 m.v, .int .i64 m.sl, .int .i64 m.rq.c, .int .i64 m.rq.st, .int .i64 m.rq.k, .string m.rq.key, .float .f64 m.rq.b, .int .i64 m.rq.id, .int .i64 m.rs.1, .float .f64 m.rs.2, .string m.tx, v13, v14, v15, .slice ad n cap]] w fun e w' => e = .returned (.bool (decide ((m.ln.length : Int) = m.ep) && lnsB m.ln)) ∧ Below w.heap.size w w' := by
  obtain ⟨V, eV⟩ : ∃ V, V = (decide ((m.ln.length : Int) = m.ep) && lnsB m.ln) := ⟨_, rfl⟩
  rw [← eV]
  have HR := hid hR
  rw [← en] at hl
  have hmi : (n : Int) ≤ 9223372036854775807 := by unfold maxLen at hl; omega
  clear hR
  have H0 : Hid (BxAt (w.alloc (.cells #[.int .i64 m.k, .int .i64 m.ep, .int .i64 m.v, .int .i64 m.sl, .int .i64 m.rq.c, .int .i64 m.rq.st, .int .i64 m.rq.k, .string m.rq.key, .float .f64 m.rq.b, .int .i64 m.rq.id, .int .i64 m.rs.1, .float .f64 m.rs.2, .string m.tx, v13, v14, v15, .slice ad n cap] 48)) w.heap.size [.int .i64 m.k, .int .i64 m.ep, .int .i64 m.v, .int .i64 m.sl, .int .i64 m.rq.c, .int .i64 m.rq.st, .int .i64 m.rq.k, .string m.rq.key, .float .f64 m.rq.b, .int .i64 m.rq.id, .int .i64 m.rs.1, .float .f64 m.rs.2, .string m.tx, v13, v14, v15, .slice ad n cap] 48 ∧ Below w.heap.size w (w.alloc (.cells #[.int .i64 m.k, .int .i64 m.ep, .int .i64 m.v, .int .i64 m.sl, .int .i64 m.rq.c, .int .i64 m.rq.st, .int .i64 m.rq.k, .string m.rq.key, .float .f64 m.rq.b, .int .i64 m.rq.id, .int .i64 m.rs.1, .float .f64 m.rs.2, .string m.tx, v13, v14, v15, .slice ad n cap] 48))) := hid ⟨heap_alloc_last w _, (Below.refl w.heap.size w).alloc (Nat.le_refl _) _⟩
  have y1 := H0.out.1.cell 1 _ rfl
  have y16 := H0.out.1.cell 16 _ rfl
  by_cases h4 : ¬ (n : Int) = m.ep
  · have hf : V = false := by rw [eV, ← en, decide_eq_false h4]; rfl
    subst hf
    have hvb : ((n : Int) == m.ep) = false := by simpa using h4
    have hvn : ((n : Int) != m.ep) = true := by rw [bne, hvb]; rfl
    clear eV hl hb en HR
    go_enter Tryz.func111, Tryz.ntmps111
    go_wp2
    go_ret
    exact ⟨rfl, H0.out.2⟩
  · replace h4 : (n : Int) = m.ep := Classical.not_not.1 h4
    have hn60 : (n : Int) ≤ 60 := by omega
    clear h1
    have HV : Hid (V = allTo (lnAt m.ln) n) := hid (by rw [eV, lnsB, ← en, decide_eq_true h4]; rfl)
    have hvb : ((n : Int) == m.ep) = true := by simpa using h4
    have hvn : ((n : Int) != m.ep) = false := by rw [bne, hvb]; rfl
    have HN := hid en
    have HLn := hid hl
    have HBd := hid hb
    clear eV hl hb en h4
    go_enter Tryz.func111, Tryz.ntmps111
    go_wp2
    generalize w.alloc (.cells #[.int .i64 m.k, .int .i64 m.ep, .int .i64 m.v, .int .i64 m.sl, .int .i64 m.rq.c, .int .i64 m.rq.st, .int .i64 m.rq.k, .string m.rq.key, .float .f64 m.rq.b, .int .i64 m.rq.id, .int .i64 m.rs.1, .float .f64 m.rs.2, .string m.tx, v13, v14, v15, .slice ad n cap] 48) = wa at H0 y1 y16 ⊢
    clear hvb hvn
    go_loopw [14] (fun i wr => ∃ j : Nat, j ≤ n ∧ i = .int .i64 (j : Int) ∧ allTo (lnAt m.ln) j = true ∧ Below wa.heap.size wa wr)
      (fun i _ => ((n : Int) - intOf i).toNat)
    case atStart => exact ⟨0, Nat.zero_le _, rfl, rfl, Below.refl _ _⟩
    case round =>
      obtain ⟨j, hj, rfl, hok, hB⟩ := hrel
      have HB := hid hB
      have HBw := hid (H0.out.2.trans (hB.mono H0.out.2.size))
      have HOk := hid hok
      clear hok hB y1 y16
      have hj0 : (0 : Int) ≤ (j : Int) := Int.natCast_nonneg _
      by_cases hjn : j = n
      · have hj1 : ¬ ((j : Int) < (n : Int)) := by omega
        have hv : Hid (V = true) := hid (by rw [HV.out, ← hjn]; exact HOk.out)
        clear hj hjn
        go_wp2
        go_ret
        exact ⟨by rw [hv.out]; rfl, HBw.out⟩
      · have hj1 : (j : Int) < (n : Int) := by omega
        have hjl : j < m.ln.length := by have := HN.out; omega
        have hR2 := HR.out
        rw [HN.out] at hR2
        obtain ⟨g, off, cp, a1, k1, a2, k2, hv, hp, hg, hc⟩ := ln_at (hR2.under HBw.out (Nat.le_refl _)) j hjl
        cases hv
        have HP := hid hp
        have HJ := hid (And.intro hj hjn)
        have HT : Hid (lnAt m.ln j = ((decide ((m.ln.getD j ln0).1.1 = (j : Int) + 1) && rightC (m.ln.getD j ln0).1.1 (m.ln.getD j ln0).1.2) && sigsB (m.ln.getD j ln0).2)) := hid rfl
        have HFa : Hid (lnAt m.ln j = false → V = false) := hid (fun e => by rw [HV.out]; exact allTo_no j (by omega) e)
        have HTr : Hid (lnAt m.ln j = true → allTo (lnAt m.ln) (j + 1) = true) := hid (fun e => by rw [allTo, HOk.out, e]; rfl)
        have HYb := hid (HBd.out (m.ln.getD j ln0) (by rw [List.getD_eq_getElem?_getD, List.getElem?_eq_getElem hjl]; exact List.getElem_mem hjl))
        generalize m.ln.getD j ln0 = y at hc HP HT HYb
        have q0 : wr.cell? ⟨g, off + j * 3, none⟩ = some (.int .i64 y.1.1) := hc 0 _ rfl
        have q1 : wr.cell? ⟨g, off + j * 3 + 1, none⟩ = some (.slice a1 y.1.2.length k1) := hc 1 _ rfl
        have q2 : wr.cell? ⟨g, off + j * 3 + 2, none⟩ = some (.slice a2 y.2.length k2) := hc 2 _ rfl
        have hw : IntKind.i64.wrap ((j : Int) + 1) = (j : Int) + 1 := wrap_small _ (by omega) (by omega)
        clear hj hjn hjl hR2 hp hg hc
        have HC1 : Hid (∀ u : World, Below wr.heap.size wr u → Calls Tryz.prog 139 #[.agg #[.int .i64 y.1.1, .slice a1 y.1.2.length k1]] u fun e w' => e = .returned (.bool (rightC y.1.1 y.1.2)) ∧ Below u.heap.size u w') := hid (fun u hu => cright_any _ _ _ _ _ rfl HYb.out.2.1.1 u (HP.out.1.keep hu (Nat.le_refl _)))
        have HC2 : Hid (∀ u : World, Below wr.heap.size wr u → Calls Tryz.prog 112 #[.slice a2 y.2.length k2] u fun e w' => e = .returned (.bool (sigsB y.2)) ∧ Below u.heap.size u w') := hid (fun u hu => ifitSigs_any _ _ _ _ rfl HYb.out.2.2.1 u (HP.out.2.keep hu (Nat.le_refl _)))
        by_cases hvw : ¬ y.1.1 = (j : Int) + 1
        · have hf := hid (HFa.out (by rw [HT.out, decide_eq_false hvw]; rfl))
          have hvb : (y.1.1 == (j : Int) + 1) = false := by simpa using hvw
          have hvn : (y.1.1 != (j : Int) + 1) = true := by rw [bne, hvb]; rfl
          go_wp2_with (first
            | (refine wl_store_blk rfl 96 _ _ rfl wr.heap.size 0 rfl #[.int .i64 y.1.1, .slice a1 y.1.2.length k1, .slice a2 y.2.length k2] rfl [.int .i64 0, .slice none 0 0, .slice none 0 0] 96 (heap_alloc_last wr _) (by simp) (by kernel_rfl) (by simp [Value.oneCell']) ?_; intro w1 Hz; have H1 : Hid (BxAt w1 wr.heap.size [.int .i64 y.1.1, .slice a1 y.1.2.length k1, .slice a2 y.2.length k2] 96 ∧ Below wr.heap.size wr w1) := hid ⟨Hz.out.1, Hz.out.2.below ((Below.refl wr.heap.size wr).alloc (Nat.le_refl _) _) (Nat.le_refl _)⟩; clear Hz q0 q1 q2; have d0 := H1.out.1.cell 0 _ rfl; have d1 := H1.out.1.cell 1 _ rfl; have d2 := H1.out.1.cell 2 _ rfl))
          go_ret
          exact ⟨by rw [hf.out]; rfl, HBw.out.trans (H1.out.2.mono HBw.out.size)⟩
        replace hvw : y.1.1 = (j : Int) + 1 := Classical.not_not.1 hvw
        have HT1 : Hid (lnAt m.ln j = (rightC y.1.1 y.1.2 && sigsB y.2)) := hid (by rw [HT.out, decide_eq_true hvw]; rfl)
        have hvb : (y.1.1 == (j : Int) + 1) = true := by simpa using hvw
        have hvn : (y.1.1 != (j : Int) + 1) = false := by rw [bne, hvb]; rfl
        clear HT hvw
        cases hct : rightC y.1.1 y.1.2 with
        | false =>
          rw [hct] at HC1 HT1
          have hf := hid (HFa.out HT1.out)
          clear hct
          go_wp2_with (first
            | (refine wl_store_blk rfl 96 _ _ rfl wr.heap.size 0 rfl #[.int .i64 y.1.1, .slice a1 y.1.2.length k1, .slice a2 y.2.length k2] rfl [.int .i64 0, .slice none 0 0, .slice none 0 0] 96 (heap_alloc_last wr _) (by simp) (by kernel_rfl) (by simp [Value.oneCell']) ?_; intro w1 Hz; have H1 : Hid (BxAt w1 wr.heap.size [.int .i64 y.1.1, .slice a1 y.1.2.length k1, .slice a2 y.2.length k2] 96 ∧ Below wr.heap.size wr w1) := hid ⟨Hz.out.1, Hz.out.2.below ((Below.refl wr.heap.size wr).alloc (Nat.le_refl _) _) (Nat.le_refl _)⟩; clear Hz q0 q1 q2; have d0 := H1.out.1.cell 0 _ rfl; have d1 := H1.out.1.cell 1 _ rfl; have d2 := H1.out.1.cell 2 _ rfl)
            | (go_at_call 139; refine (HC1.out _ H1.out.2).mono ?_; rintro e w2 ⟨rfl, hb⟩; have H2 := hid (And.intro (H1.out.1.keep hb) (H1.out.2.trans (hb.mono H1.out.2.size))); clear hb d0 d1 d2; have d0 := H2.out.1.cell 0 _ rfl; have d1 := H2.out.1.cell 1 _ rfl; have d2 := H2.out.1.cell 2 _ rfl))
          go_ret
          exact ⟨by rw [hf.out]; rfl, HBw.out.trans (H2.out.2.mono HBw.out.size)⟩
        | true =>
          rw [hct] at HC1 HT1
          clear hct
          cases hcs : sigsB y.2 with
          | false =>
            rw [hcs] at HC2 HT1
            have hf := hid (HFa.out HT1.out)
            clear hcs
            go_wp2_with (first
              | (refine wl_store_blk rfl 96 _ _ rfl wr.heap.size 0 rfl #[.int .i64 y.1.1, .slice a1 y.1.2.length k1, .slice a2 y.2.length k2] rfl [.int .i64 0, .slice none 0 0, .slice none 0 0] 96 (heap_alloc_last wr _) (by simp) (by kernel_rfl) (by simp [Value.oneCell']) ?_; intro w1 Hz; have H1 : Hid (BxAt w1 wr.heap.size [.int .i64 y.1.1, .slice a1 y.1.2.length k1, .slice a2 y.2.length k2] 96 ∧ Below wr.heap.size wr w1) := hid ⟨Hz.out.1, Hz.out.2.below ((Below.refl wr.heap.size wr).alloc (Nat.le_refl _) _) (Nat.le_refl _)⟩; clear Hz q0 q1 q2; have d0 := H1.out.1.cell 0 _ rfl; have d1 := H1.out.1.cell 1 _ rfl; have d2 := H1.out.1.cell 2 _ rfl)
              | (go_at_call 139; refine (HC1.out _ H1.out.2).mono ?_; rintro e w2 ⟨rfl, hb⟩; have H2 := hid (And.intro (H1.out.1.keep hb) (H1.out.2.trans (hb.mono H1.out.2.size))); clear hb d0 d1 d2; have d0 := H2.out.1.cell 0 _ rfl; have d1 := H2.out.1.cell 1 _ rfl; have d2 := H2.out.1.cell 2 _ rfl)
              | (go_at_call 112; refine (HC2.out _ H2.out.2).mono ?_; rintro e w3 ⟨rfl, hb⟩; have H3 := hid (H2.out.2.trans (hb.mono H2.out.2.size)); clear hb d0 d1 d2))
            go_ret
            exact ⟨by rw [hf.out]; rfl, HBw.out.trans (H3.out.mono HBw.out.size)⟩
          | true =>
            rw [hcs] at HC2 HT1
            have hp := hid (HTr.out HT1.out)
            clear hcs
            go_wp2_with (first
              | (refine wl_store_blk rfl 96 _ _ rfl wr.heap.size 0 rfl #[.int .i64 y.1.1, .slice a1 y.1.2.length k1, .slice a2 y.2.length k2] rfl [.int .i64 0, .slice none 0 0, .slice none 0 0] 96 (heap_alloc_last wr _) (by simp) (by kernel_rfl) (by simp [Value.oneCell']) ?_; intro w1 Hz; have H1 : Hid (BxAt w1 wr.heap.size [.int .i64 y.1.1, .slice a1 y.1.2.length k1, .slice a2 y.2.length k2] 96 ∧ Below wr.heap.size wr w1) := hid ⟨Hz.out.1, Hz.out.2.below ((Below.refl wr.heap.size wr).alloc (Nat.le_refl _) _) (Nat.le_refl _)⟩; clear Hz q0 q1 q2; have d0 := H1.out.1.cell 0 _ rfl; have d1 := H1.out.1.cell 1 _ rfl; have d2 := H1.out.1.cell 2 _ rfl)
              | (go_at_call 139; refine (HC1.out _ H1.out.2).mono ?_; rintro e w2 ⟨rfl, hb⟩; have H2 := hid (And.intro (H1.out.1.keep hb) (H1.out.2.trans (hb.mono H1.out.2.size))); clear hb d0 d1 d2; have d0 := H2.out.1.cell 0 _ rfl; have d1 := H2.out.1.cell 1 _ rfl; have d2 := H2.out.1.cell 2 _ rfl)
              | (go_at_call 112; refine (HC2.out _ H2.out.2).mono ?_; rintro e w3 ⟨rfl, hb⟩; have H3 := hid (H2.out.2.trans (hb.mono H2.out.2.size)); clear hb d0 d1 d2))
            go_roundw
            case rel => exact ⟨j + 1, by have := HJ.out; omega, by go_num, hp.out, HB.out.trans (H3.out.mono HB.out.size)⟩
            case measure => simp [intOf]; omega
end Go.Proofs.YthjgnfeadagmeaaGreat
