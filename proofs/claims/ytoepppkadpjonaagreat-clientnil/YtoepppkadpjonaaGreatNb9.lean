/- Texts laid together: WiH WiI WsC WsP WiV WiW WiX WiY. -/
import Derived.Test.YtoepppkadpjonaaGreatNb8
import Derived.Test.YtoepppkadpjonaaGreatNb6
import Derived.Test.YtoepppkadpjonaaGreatNb5
namespace Go.Proofs.YtoepppkadpjonaaGreat
section
set_option maxRecDepth 100000
open Go.RowKit
set_option maxHeartbeats 3200000 in
theorem ichange_any {F : Nat → Prop} (ep : Int) (h0 : 0 ≤ ep) (h1 : ep ≤ 60) (c : Cg) (a : Option Addr) (n cap : Nat) (hl : c.2.2.1.length ≤ maxLen) (hb : ∀ x, x ∈ c.2.2.1 → ctR x) (w : World) (hR : Reads F w (.slice a n cap) (dCts c.2.2.1)) :
   Calls Tryz.prog 186 #[.int .i64 ep, .agg #[.int .i64 c.1, .int .i64 c.2.1, .slice a n cap, .int .i64 c.2.2.2.1, .string c.2.2.2.2]] w fun e w' => e = .returned (.bool (cgB ep c)) ∧ Below w.heap.size w w' := by
 have H0 : Hid (BxAt (w.alloc (.cells #[.int .i64 c.1, .int .i64 c.2.1, .slice a n cap, .int .i64 c.2.2.2.1, .string c.2.2.2.2] 161)) w.heap.size [.int .i64 c.1, .int .i64 c.2.1, .slice a n cap, .int .i64 c.2.2.2.1, .string c.2.2.2.2] 161 ∧ Below w.heap.size w (w.alloc (.cells #[.int .i64 c.1, .int .i64 c.2.1, .slice a n cap, .int .i64 c.2.2.2.1, .string c.2.2.2.2] 161))) := hid ⟨heap_alloc_last w _, (Below.refl w.heap.size w).alloc (Nat.le_refl _) _⟩
 have y0 := H0.out.1.cell 0 _ rfl; have y1 := H0.out.1.cell 1 _ rfl; have y2 := H0.out.1.cell 2 _ rfl; have y3 := H0.out.1.cell 3 _ rfl; have y4 := H0.out.1.cell 4 _ rfl
 obtain ⟨B1, e1⟩ : ∃ B, B = inB c.1 0 15 := ⟨_, rfl⟩
 have HT1 : Hid (∀ u : World, Below w.heap.size w u → Calls Tryz.prog 160 #[.int .i64 c.1, .int .i64 0, .int .i64 15] u fun e w' => e = .returned (.bool B1) ∧ Below u.heap.size u w') := hid (fun u hu => by rw [e1]; exact (iwithin_any _ _ _ u).mono fun e w' ⟨h1, h2⟩ => ⟨h1, by rw [h2]; exact Below.refl _ _⟩)
 obtain ⟨B2, e2⟩ : ∃ B, B = inB c.2.1 1 15 := ⟨_, rfl⟩
 have HT2 : Hid (∀ u : World, Below w.heap.size w u → Calls Tryz.prog 160 #[.int .i64 c.2.1, .int .i64 1, .int .i64 15] u fun e w' => e = .returned (.bool B2) ∧ Below u.heap.size u w') := hid (fun u hu => by rw [e2]; exact (iwithin_any _ _ _ u).mono fun e w' ⟨h1, h2⟩ => ⟨h1, by rw [h2]; exact Below.refl _ _⟩)
 obtain ⟨B3, e3⟩ : ∃ B, B = ctsB ep c.2.2.1 := ⟨_, rfl⟩
 have HT3 : Hid (∀ u : World, Below w.heap.size w u → Calls Tryz.prog 199 #[.int .i64 ep, .slice a n cap] u fun e w' => e = .returned (.bool B3) ∧ Below u.heap.size u w') := hid (fun u hu => by rw [e3]; exact icerts_any ep h0 h1 _ _ hl hb u (hR.under hu (Nat.le_refl _)))
 obtain ⟨B4, e4⟩ : ∃ B, B = sigB c.2.2.2 := ⟨_, rfl⟩
 have HT4 : Hid (∀ u : World, Below w.heap.size w u → Calls Tryz.prog 187 #[.agg #[.int .i64 c.2.2.2.1, .string c.2.2.2.2]] u fun e w' => e = .returned (.bool B4) ∧ Below u.heap.size u w') := hid (fun u hu => by rw [e4]; exact isig_any _ u)
 rw [show cgB ep c = ((B1 && B2) && (B3 && B4)) by rw [e1, e2, e3, e4]; rfl]
 clear e1 e2 e3 e4 hR hl hb h0 h1
 cases B1 with
 | false =>
   go_enter Tryz.func186, Tryz.ntmps186
   go_wp2_with (first
     | (have := H0; go_at_call 160; refine (HT1.out _ H0.out.2).mono ?_; rintro e w1 ⟨rfl, hb⟩; have H1 := hid (And.intro (H0.out.1.keep hb) (H0.out.2.trans (hb.mono H0.out.2.size))); clear hb y0 y1 y2 y3 y4; have y0 := H1.out.1.cell 0 _ rfl; have y1 := H1.out.1.cell 1 _ rfl; have y2 := H1.out.1.cell 2 _ rfl; have y3 := H1.out.1.cell 3 _ rfl; have y4 := H1.out.1.cell 4 _ rfl))
   go_ret
   exact ⟨by simp, H1.out.2⟩
 | true =>
   cases B2 with
   | false =>
     go_enter Tryz.func186, Tryz.ntmps186
     go_wp2_with (first
       | (have := H1; go_at_call 160; refine (HT2.out _ H1.out.2).mono ?_; rintro e w2 ⟨rfl, hb⟩; have H2 := hid (And.intro (H1.out.1.keep hb) (H1.out.2.trans (hb.mono H1.out.2.size))); clear hb y0 y1 y2 y3 y4; have y0 := H2.out.1.cell 0 _ rfl; have y1 := H2.out.1.cell 1 _ rfl; have y2 := H2.out.1.cell 2 _ rfl; have y3 := H2.out.1.cell 3 _ rfl; have y4 := H2.out.1.cell 4 _ rfl)
       | (have := H0; go_at_call 160; refine (HT1.out _ H0.out.2).mono ?_; rintro e w1 ⟨rfl, hb⟩; have H1 := hid (And.intro (H0.out.1.keep hb) (H0.out.2.trans (hb.mono H0.out.2.size))); clear hb y0 y1 y2 y3 y4; have y0 := H1.out.1.cell 0 _ rfl; have y1 := H1.out.1.cell 1 _ rfl; have y2 := H1.out.1.cell 2 _ rfl; have y3 := H1.out.1.cell 3 _ rfl; have y4 := H1.out.1.cell 4 _ rfl))
     go_ret
     exact ⟨by simp, H2.out.2⟩
   | true =>
     cases B3 with
     | false =>
       go_enter Tryz.func186, Tryz.ntmps186
       go_wp2_with (first
         | (have := H2; go_at_call 199; refine (HT3.out _ H2.out.2).mono ?_; rintro e w3 ⟨rfl, hb⟩; have H3 := hid (And.intro (H2.out.1.keep hb) (H2.out.2.trans (hb.mono H2.out.2.size))); clear hb y0 y1 y2 y3 y4; have y0 := H3.out.1.cell 0 _ rfl; have y1 := H3.out.1.cell 1 _ rfl; have y2 := H3.out.1.cell 2 _ rfl; have y3 := H3.out.1.cell 3 _ rfl; have y4 := H3.out.1.cell 4 _ rfl)
         | (have := H1; go_at_call 160; refine (HT2.out _ H1.out.2).mono ?_; rintro e w2 ⟨rfl, hb⟩; have H2 := hid (And.intro (H1.out.1.keep hb) (H1.out.2.trans (hb.mono H1.out.2.size))); clear hb y0 y1 y2 y3 y4; have y0 := H2.out.1.cell 0 _ rfl; have y1 := H2.out.1.cell 1 _ rfl; have y2 := H2.out.1.cell 2 _ rfl; have y3 := H2.out.1.cell 3 _ rfl; have y4 := H2.out.1.cell 4 _ rfl)
         | (have := H0; go_at_call 160; refine (HT1.out _ H0.out.2).mono ?_; rintro e w1 ⟨rfl, hb⟩; have H1 := hid (And.intro (H0.out.1.keep hb) (H0.out.2.trans (hb.mono H0.out.2.size))); clear hb y0 y1 y2 y3 y4; have y0 := H1.out.1.cell 0 _ rfl; have y1 := H1.out.1.cell 1 _ rfl; have y2 := H1.out.1.cell 2 _ rfl; have y3 := H1.out.1.cell 3 _ rfl; have y4 := H1.out.1.cell 4 _ rfl))
       go_ret
       exact ⟨by simp, H3.out.2⟩
     | true =>
       cases B4 with
       | false =>
         go_enter Tryz.func186, Tryz.ntmps186
         go_wp2_with (first
           | (have := H3; go_at_call 187; refine (HT4.out _ H3.out.2).mono ?_; rintro e w4 ⟨rfl, hb⟩; have H4 := hid (And.intro (H3.out.1.keep hb) (H3.out.2.trans (hb.mono H3.out.2.size))); clear hb y0 y1 y2 y3 y4; have y0 := H4.out.1.cell 0 _ rfl; have y1 := H4.out.1.cell 1 _ rfl; have y2 := H4.out.1.cell 2 _ rfl; have y3 := H4.out.1.cell 3 _ rfl; have y4 := H4.out.1.cell 4 _ rfl)
           | (have := H2; go_at_call 199; refine (HT3.out _ H2.out.2).mono ?_; rintro e w3 ⟨rfl, hb⟩; have H3 := hid (And.intro (H2.out.1.keep hb) (H2.out.2.trans (hb.mono H2.out.2.size))); clear hb y0 y1 y2 y3 y4; have y0 := H3.out.1.cell 0 _ rfl; have y1 := H3.out.1.cell 1 _ rfl; have y2 := H3.out.1.cell 2 _ rfl; have y3 := H3.out.1.cell 3 _ rfl; have y4 := H3.out.1.cell 4 _ rfl)
           | (have := H1; go_at_call 160; refine (HT2.out _ H1.out.2).mono ?_; rintro e w2 ⟨rfl, hb⟩; have H2 := hid (And.intro (H1.out.1.keep hb) (H1.out.2.trans (hb.mono H1.out.2.size))); clear hb y0 y1 y2 y3 y4; have y0 := H2.out.1.cell 0 _ rfl; have y1 := H2.out.1.cell 1 _ rfl; have y2 := H2.out.1.cell 2 _ rfl; have y3 := H2.out.1.cell 3 _ rfl; have y4 := H2.out.1.cell 4 _ rfl)
           | (have := H0; go_at_call 160; refine (HT1.out _ H0.out.2).mono ?_; rintro e w1 ⟨rfl, hb⟩; have H1 := hid (And.intro (H0.out.1.keep hb) (H0.out.2.trans (hb.mono H0.out.2.size))); clear hb y0 y1 y2 y3 y4; have y0 := H1.out.1.cell 0 _ rfl; have y1 := H1.out.1.cell 1 _ rfl; have y2 := H1.out.1.cell 2 _ rfl; have y3 := H1.out.1.cell 3 _ rfl; have y4 := H1.out.1.cell 4 _ rfl))
         go_ret
         exact ⟨by simp, H4.out.2⟩
       | true =>
         go_enter Tryz.func186, Tryz.ntmps186
         go_wp2_with (first
           | (have := H3; go_at_call 187; refine (HT4.out _ H3.out.2).mono ?_; rintro e w4 ⟨rfl, hb⟩; have H4 := hid (And.intro (H3.out.1.keep hb) (H3.out.2.trans (hb.mono H3.out.2.size))); clear hb y0 y1 y2 y3 y4; have y0 := H4.out.1.cell 0 _ rfl; have y1 := H4.out.1.cell 1 _ rfl; have y2 := H4.out.1.cell 2 _ rfl; have y3 := H4.out.1.cell 3 _ rfl; have y4 := H4.out.1.cell 4 _ rfl)
           | (have := H2; go_at_call 199; refine (HT3.out _ H2.out.2).mono ?_; rintro e w3 ⟨rfl, hb⟩; have H3 := hid (And.intro (H2.out.1.keep hb) (H2.out.2.trans (hb.mono H2.out.2.size))); clear hb y0 y1 y2 y3 y4; have y0 := H3.out.1.cell 0 _ rfl; have y1 := H3.out.1.cell 1 _ rfl; have y2 := H3.out.1.cell 2 _ rfl; have y3 := H3.out.1.cell 3 _ rfl; have y4 := H3.out.1.cell 4 _ rfl)
           | (have := H1; go_at_call 160; refine (HT2.out _ H1.out.2).mono ?_; rintro e w2 ⟨rfl, hb⟩; have H2 := hid (And.intro (H1.out.1.keep hb) (H1.out.2.trans (hb.mono H1.out.2.size))); clear hb y0 y1 y2 y3 y4; have y0 := H2.out.1.cell 0 _ rfl; have y1 := H2.out.1.cell 1 _ rfl; have y2 := H2.out.1.cell 2 _ rfl; have y3 := H2.out.1.cell 3 _ rfl; have y4 := H2.out.1.cell 4 _ rfl)
           | (have := H0; go_at_call 160; refine (HT1.out _ H0.out.2).mono ?_; rintro e w1 ⟨rfl, hb⟩; have H1 := hid (And.intro (H0.out.1.keep hb) (H0.out.2.trans (hb.mono H0.out.2.size))); clear hb y0 y1 y2 y3 y4; have y0 := H1.out.1.cell 0 _ rfl; have y1 := H1.out.1.cell 1 _ rfl; have y2 := H1.out.1.cell 2 _ rfl; have y3 := H1.out.1.cell 3 _ rfl; have y4 := H1.out.1.cell 4 _ rfl))
         go_ret
         exact ⟨by simp, H4.out.2⟩
end
section
set_option maxRecDepth 100000
open Go.RowKit
set_option maxHeartbeats 6400000 in
theorem ichanges_any {F : Nat → Prop} (m : Ms) (h0 : 0 ≤ m.ep) (h1 : m.ep ≤ 60) (ad : Option Addr) (n cap : Nat) (v13 v14 v16 : Value) (most : Nat) (hm : most ≤ 10) (hl : m.cg.length ≤ maxLen) (en : n = m.cg.length) (hb : ∀ x, x ∈ m.cg → cgR x) (w : World) (hR : Reads F w (.slice ad n cap) (dCgs m.cg)) :
   Calls Tryz.prog 168 #[.agg #[.int .i64 m.k, .int .i64 m.ep, .int .i64 m.v, .int .i64 m.sl, .int .i64 m.rq.c, .int .i64 m.rq.st, .int .i64 m.rq.k, .string m.rq.key, .float .f64 m.rq.b, .int .i64 m.rq.id, .int .i64 m.rs.1, .float .f64 m.rs.2, .string m.tx, v13, v14, .slice ad n cap, v16], .int .i64 (most : Int)] w fun e w' => e = .returned (.bool (cgsB m.ep m.v m.cg most)) ∧ Below w.heap.size w w' := by
 obtain ⟨V, eV⟩ : ∃ V, V = cgsB m.ep m.v m.cg most := ⟨_, rfl⟩
 rw [← eV]
 have HR := hid hR
 rw [← en] at hl
 have hmi : (n : Int) ≤ 9223372036854775807 := by unfold maxLen at hl; omega
 have HE := hid (And.intro h0 h1)
 clear hR h0 h1
 have HW : Hid (inB (n : Int) 1 (most : Int) = (decide (1 ≤ n) && decide (n ≤ most))) := hid (by
   rw [inB]; congr 1
   · exact decide_eq_decide.2 (by omega)
   · exact decide_eq_decide.2 (by omega))
 have H0 : Hid (BxAt (w.alloc (.cells #[.int .i64 m.k, .int .i64 m.ep, .int .i64 m.v, .int .i64 m.sl, .int .i64 m.rq.c, .int .i64 m.rq.st, .int .i64 m.rq.k, .string m.rq.key, .float .f64 m.rq.b, .int .i64 m.rq.id, .int .i64 m.rs.1, .float .f64 m.rs.2, .string m.tx, v13, v14, .slice ad n cap, v16] 48)) w.heap.size [.int .i64 m.k, .int .i64 m.ep, .int .i64 m.v, .int .i64 m.sl, .int .i64 m.rq.c, .int .i64 m.rq.st, .int .i64 m.rq.k, .string m.rq.key, .float .f64 m.rq.b, .int .i64 m.rq.id, .int .i64 m.rs.1, .float .f64 m.rs.2, .string m.tx, v13, v14, .slice ad n cap, v16] 48 ∧ Below w.heap.size w (w.alloc (.cells #[.int .i64 m.k, .int .i64 m.ep, .int .i64 m.v, .int .i64 m.sl, .int .i64 m.rq.c, .int .i64 m.rq.st, .int .i64 m.rq.k, .string m.rq.key, .float .f64 m.rq.b, .int .i64 m.rq.id, .int .i64 m.rs.1, .float .f64 m.rs.2, .string m.tx, v13, v14, .slice ad n cap, v16] 48))) := hid ⟨heap_alloc_last w _, (Below.refl w.heap.size w).alloc (Nat.le_refl _) _⟩
 have y1 := H0.out.1.cell 1 _ rfl
 have y2 := H0.out.1.cell 2 _ rfl
 have y15 := H0.out.1.cell 15 _ rfl
 by_cases h4 : ¬ (1 ≤ n ∧ n ≤ most)
 · have hf : V = false := by
     rw [eV, cgsB, ← en]
     by_cases h5 : 1 ≤ n
     · rw [decide_eq_true h5, decide_eq_false (fun h => h4 ⟨h5, h⟩)]; rfl
     · rw [decide_eq_false h5]; rfl
   subst hf
   have HW2 : Hid (inB (n : Int) 1 (most : Int) = false) := hid (by
     rw [HW.out]
     by_cases h5 : 1 ≤ n
     · rw [decide_eq_true h5, decide_eq_false (fun h => h4 ⟨h5, h⟩)]; rfl
     · rw [decide_eq_false h5]; rfl)
   clear eV hl hb en h4 HR
   go_enter Tryz.func168, Tryz.ntmps168
   go_wp2_with (go_at_call 160; refine (iwithin_any _ _ _ _).mono ?_; rintro e w1 ⟨rfl, hw⟩; rw [HW2.out]; replace hw := hw.symm; subst hw)
   go_ret
   exact ⟨rfl, H0.out.2⟩
 · have h4 : 1 ≤ n ∧ n ≤ most := Classical.not_not.1 h4
   have HV : Hid (V = allTo (cgAt m.ep m.v m.cg) n) := hid (by rw [eV, cgsB, ← en, decide_eq_true h4.1, decide_eq_true h4.2]; rfl)
   have HW2 : Hid (inB (n : Int) 1 (most : Int) = true) := hid (by rw [HW.out, decide_eq_true h4.1, decide_eq_true h4.2]; rfl)
   have HN := hid en
   have HL : Hid (n ≤ 10) := hid (by omega)
   have HBd := hid hb
   clear eV hl hb en h4
   go_enter Tryz.func168, Tryz.ntmps168
   go_wp2_with (go_at_call 160; refine (iwithin_any _ _ _ _).mono ?_; rintro e w1 ⟨rfl, hw⟩; rw [HW2.out]; replace hw := hw.symm; subst hw)
   generalize w.alloc (.cells #[.int .i64 m.k, .int .i64 m.ep, .int .i64 m.v, .int .i64 m.sl, .int .i64 m.rq.c, .int .i64 m.rq.st, .int .i64 m.rq.k, .string m.rq.key, .float .f64 m.rq.b, .int .i64 m.rq.id, .int .i64 m.rs.1, .float .f64 m.rs.2, .string m.tx, v13, v14, .slice ad n cap, v16] 48) = wa at H0 y1 y2 y15 ⊢
   go_loopw [16] (fun i wr => ∃ j : Nat, j ≤ n ∧ i = .int .i64 (j : Int) ∧ allTo (cgAt m.ep m.v m.cg) j = true ∧ Below wa.heap.size wa wr)
     (fun i _ => ((n : Int) - intOf i).toNat)
   case atStart => exact ⟨0, Nat.zero_le _, rfl, rfl, Below.refl _ _⟩
   case round =>
     obtain ⟨j, hj, rfl, hok, hB⟩ := hrel
     have HB := hid hB
     have HBw := hid (H0.out.2.trans (hB.mono H0.out.2.size))
     have HOk := hid hok
     clear hok hB y1 y2 y15
     have hj0 : (0 : Int) ≤ (j : Int) := Int.natCast_nonneg _
     by_cases hjn : j = n
     · have hj1 : ¬ ((j : Int) < (n : Int)) := by omega
       have hv : Hid (V = true) := hid (by rw [HV.out, ← hjn]; exact HOk.out)
       clear hj hjn
       go_wp2
       go_ret
       exact ⟨by rw [hv.out]; rfl, HBw.out⟩
     · have hj1 : (j : Int) < (n : Int) := by omega
       have hjl : j < m.cg.length := by have := HN.out; omega
       have hR2 := HR.out
       rw [HN.out] at hR2
       obtain ⟨g, off, cp, a8, n8, k8, hv, hp, hg, hc⟩ := cg_at (hR2.under HBw.out (Nat.le_refl _)) j hjl
       cases hv
       have HP := hid hp
       have hprev : j ≠ 0 → wr.cell? ⟨g, off + (j - 1) * 5, none⟩ = some (.int .i64 (m.cg.getD (j - 1) cg0).1) := fun hz => by
         obtain ⟨g2, o2, c2, a2, n2, k2, hv2, _, _, hc2⟩ := cg_at (hR2.under HBw.out (Nat.le_refl _)) (j - 1) (by omega)
         cases hv2
         exact hc2 0 _ rfl
       have HPr := hid (And.intro hprev hg)
       have HJ := hid (And.intro hj hjn)
       have HT : Hid (cgAt m.ep m.v m.cg j = ((decide ((m.cg.getD j cg0).2.1 = m.v) && cgB m.ep (m.cg.getD j cg0)) && (decide (j = 0) || decide ((m.cg.getD (j - 1) cg0).1 < (m.cg.getD j cg0).1)))) := hid rfl
       have HFa : Hid (cgAt m.ep m.v m.cg j = false → V = false) := hid (fun e => by rw [HV.out]; exact allTo_no j (by omega) e)
       have HTr : Hid (cgAt m.ep m.v m.cg j = true → allTo (cgAt m.ep m.v m.cg) (j + 1) = true) := hid (fun e => by rw [allTo, HOk.out, e]; rfl)
       have HYb := hid (HBd.out (m.cg.getD j cg0) (by rw [List.getD_eq_getElem?_getD, List.getElem?_eq_getElem hjl]; exact List.getElem_mem hjl))
       generalize m.cg.getD j cg0 = y at hc HP HT HYb
       generalize (m.cg.getD (j - 1) cg0).1 = ps at HPr HT
       have k0 : wr.cell? ⟨g, off + j * 5, none⟩ = some (.int .i64 y.1) := hc 0 _ rfl
       have k1 : wr.cell? ⟨g, off + j * 5 + 1, none⟩ = some (.int .i64 y.2.1) := hc 1 _ rfl
       have k2 : wr.cell? ⟨g, off + j * 5 + 2, none⟩ = some (.slice a8 n8 k8) := hc 2 _ rfl
       have k3 : wr.cell? ⟨g, off + j * 5 + 3, none⟩ = some (.int .i64 y.2.2.2.1) := hc 3 _ rfl
       have k4 : wr.cell? ⟨g, off + j * 5 + 4, none⟩ = some (.string y.2.2.2.2) := hc 4 _ rfl
       have hz : (j : Int) ≤ 10 := by have := HL.out; omega
       clear hj hjn hjl hR2 hp hg hc hprev
       go_wp2_with (refine wl_store_blk rfl 161 _ _ rfl wr.heap.size 0 rfl #[.int .i64 y.1, .int .i64 y.2.1, .slice a8 n8 k8, .int .i64 y.2.2.2.1, .string y.2.2.2.2] rfl [.int .i64 0, .int .i64 0, .slice none 0 0, .int .i64 0, .string ⟨#[]⟩] 161 (heap_alloc_last wr _) (by simp) (by kernel_rfl) (by simp [Value.oneCell']) ?_; intro w1 Hz; have H1 : Hid (BxAt w1 wr.heap.size (cgC y (.slice a8 n8 k8)) 161 ∧ Below wr.heap.size wr w1) := hid ⟨Hz.out.1, Hz.out.2.below ((Below.refl wr.heap.size wr).alloc (Nat.le_refl _) _) (Nat.le_refl _)⟩; clear Hz)
       clear k0 k1 k2 k3 k4
       go_simp
       have HBx : Hid (∀ x : Cls w1, BxAt x.1 wr.heap.size (cgC y (.slice a8 n8 k8)) 161) := hid (fun x => H1.out.1.keep x.2)
       have HMx : Hid (∀ x : Cls w1, BxAt x.1 w.heap.size [.int .i64 m.k, .int .i64 m.ep, .int .i64 m.v, .int .i64 m.sl, .int .i64 m.rq.c, .int .i64 m.rq.st, .int .i64 m.rq.k, .string m.rq.key, .float .f64 m.rq.b, .int .i64 m.rq.id, .int .i64 m.rs.1, .float .f64 m.rs.2, .string m.tx, v13, v14, .slice (some ⟨g, off, none⟩) n cap, v16] 48) := hid (fun x => ((H0.out.1.keep HB.out).keep H1.out.2).keep x.2)
       have d0 : ∀ x : Cls w1, x.1.cell? ⟨wr.heap.size, 0, none⟩ = some (.int .i64 y.1) := fun x => (HBx.out x).cell 0 _ rfl
       have d1 : ∀ x : Cls w1, x.1.cell? ⟨wr.heap.size, 1, none⟩ = some (.int .i64 y.2.1) := fun x => (HBx.out x).cell 1 _ rfl
       have d2 : ∀ x : Cls w1, x.1.cell? ⟨wr.heap.size, 2, none⟩ = some (.slice a8 n8 k8) := fun x => (HBx.out x).cell 2 _ rfl
       have d3 : ∀ x : Cls w1, x.1.cell? ⟨wr.heap.size, 3, none⟩ = some (.int .i64 y.2.2.2.1) := fun x => (HBx.out x).cell 3 _ rfl
       have d4 : ∀ x : Cls w1, x.1.cell? ⟨wr.heap.size, 4, none⟩ = some (.string y.2.2.2.2) := fun x => (HBx.out x).cell 4 _ rfl
       have m1 : ∀ x : Cls w1, x.1.cell? ⟨w.heap.size, 1, none⟩ = some (.int .i64 m.ep) := fun x => (HMx.out x).cell 1 _ rfl
       have m2 : ∀ x : Cls w1, x.1.cell? ⟨w.heap.size, 2, none⟩ = some (.int .i64 m.v) := fun x => (HMx.out x).cell 2 _ rfl
       have m15 : ∀ x : Cls w1, x.1.cell? ⟨w.heap.size, 15, none⟩ = some (.slice (some ⟨g, off, none⟩) n cap) := fun x => (HMx.out x).cell 15 _ rfl
       have HCe : Hid (∀ u : World, Below w1.heap.size w1 u → Calls Tryz.prog 186 #[.int .i64 m.ep, .agg #[.int .i64 y.1, .int .i64 y.2.1, .slice a8 n8 k8, .int .i64 y.2.2.2.1, .string y.2.2.2.2]] u fun e w' => e = .returned (.bool (cgB m.ep y)) ∧ Below u.heap.size u w') := hid (fun u hu => ichange_any m.ep HE.out.1 HE.out.2 y a8 _ k8 HYb.out.2.1.1 HYb.out.2.1.2 u ((HP.out.under H1.out.2 (Nat.le_refl _)).under hu (Nat.le_refl _)))
       haveI := Cls.ne w1
       by_cases hvw : ¬ y.2.1 = m.v
       · have hf := hid (HFa.out (by rw [HT.out, decide_eq_false hvw]; rfl))
         have hvd : decide (y.2.1 = m.v) = false := decide_eq_false hvw
         have hvb : (y.2.1 == m.v) = false := by simpa using hvw
         have hvn : (y.2.1 != m.v) = true := by rw [bne, hvb]; rfl
         refine wp_region_cls w1 (by kernel_rfl) (by kernel_rfl) ?_
         repeat (go_big_quiet_step ((first
           | (go_at_call 186; exact Cls.of _ (fun u hu => HCe.out u hu)))))
         refine wpQuiet_nil ?_
         rintro _ ⟨x, rfl⟩
         go_wp2
         go_ret
         exact ⟨by rw [hf.out]; rfl, HBw.out.trans ((H1.out.2.trans (x.2.mono H1.out.2.size)).mono HBw.out.size)⟩
       have hvw : y.2.1 = m.v := Classical.not_not.1 hvw
       have HT1 : Hid (cgAt m.ep m.v m.cg j = (cgB m.ep y && (decide (j = 0) || decide (ps < y.1)))) := hid (by rw [HT.out, decide_eq_true hvw]; rfl)
       clear HT
       have hvd : decide (y.2.1 = m.v) = true := decide_eq_true hvw
       have hvb : (y.2.1 == m.v) = true := by simpa using hvw
       have hvn : (y.2.1 != m.v) = false := by rw [bne, hvb]; rfl
       clear hvw
       cases hct : cgB m.ep y with
       | false =>
         rw [hct] at HCe HT1
         have hf := hid (HFa.out HT1.out)
         clear hct
         refine wp_region_cls w1 (by kernel_rfl) (by kernel_rfl) ?_
         repeat (go_big_quiet_step ((first
           | (go_at_call 186; exact Cls.of _ (fun u hu => HCe.out u hu)))))
         refine wpQuiet_nil ?_
         rintro _ ⟨x, rfl⟩
         go_wp2
         go_ret
         exact ⟨by rw [hf.out]; rfl, HBw.out.trans ((H1.out.2.trans (x.2.mono H1.out.2.size)).mono HBw.out.size)⟩
       | true =>
         rw [hct] at HCe HT1
         clear hct
         by_cases hj00 : j = 0
         · have hp := hid (HTr.out (by rw [HT1.out, decide_eq_true hj00]; rfl))
           have hd : decide ((0 : Int) < (j : Int)) = false := decide_eq_false (by omega)
           have hd2 : decide (0 < j) = false := decide_eq_false (by omega)
           clear hj00
           refine wp_region_cls w1 (by kernel_rfl) (by kernel_rfl) ?_
           repeat (go_big_quiet_step ((first
             | (go_at_call 186; exact Cls.of _ (fun u hu => HCe.out u hu)))))
           refine wpQuiet_nil ?_
           rintro _ ⟨x, rfl⟩
           go_wp2
           go_roundw
           case rel => exact ⟨j + 1, by have := HJ.out; omega, by go_num, hp.out, HB.out.trans ((H1.out.2.trans (x.2.mono H1.out.2.size)).mono HB.out.size)⟩
           case measure => simp [intOf]; omega
         · obtain ⟨jm, ejm⟩ : ∃ jm : Nat, jm = j - 1 := ⟨_, rfl⟩
           have dp : ∀ x : Cls w1, x.1.cell? ⟨g, off + jm * 5, none⟩ = some (.int .i64 ps) := fun x => (World.cell?_of_block (a := ⟨g, off + jm * 5, none⟩) ((x.2.block g (Nat.lt_of_lt_of_le HPr.out.2 H1.out.2.size)).trans (H1.out.2.block g HPr.out.2))).trans (by rw [ejm]; exact HPr.out.1 hj00)
           have hw : IntKind.i64.wrap ((j : Int) - 1) = (jm : Int) := by rw [show (j : Int) - 1 = (jm : Int) by omega]; exact wrap_small _ (by omega) (by omega)
           have hjm0 : (0 : Int) ≤ (jm : Int) := Int.natCast_nonneg _
           have hjm1 : (jm : Int) < (n : Int) := by omega
           have hd : decide ((0 : Int) < (j : Int)) = true := decide_eq_true (by omega)
           have hd2 : decide (0 < j) = true := decide_eq_true (by omega)
           have HT2 : Hid (cgAt m.ep m.v m.cg j = decide (ps < y.1)) := hid (by rw [HT1.out, decide_eq_false hj00]; rfl)
           clear ejm hj00
           by_cases hlt : ps < y.1
           · have hp := hid (HTr.out (by rw [HT2.out, decide_eq_true hlt]))
             have hle : decide (y.1 ≤ ps) = false := decide_eq_false (by omega)
             have hle2 : ¬ (y.1 ≤ ps) := by omega
             refine wp_region_cls w1 (by kernel_rfl) (by kernel_rfl) ?_
             repeat (go_big_quiet_step ((first
               | (go_at_call 186; exact Cls.of _ (fun u hu => HCe.out u hu)))))
             refine wpQuiet_nil ?_
             rintro _ ⟨x, rfl⟩
             go_wp2
             go_roundw
             case rel => exact ⟨j + 1, by have := HJ.out; omega, by go_num, hp.out, HB.out.trans ((H1.out.2.trans (x.2.mono H1.out.2.size)).mono HB.out.size)⟩
             case measure => simp [intOf]; omega
           · have hf := hid (HFa.out (by rw [HT2.out, decide_eq_false hlt]))
             have hle : decide (y.1 ≤ ps) = true := decide_eq_true (by omega)
             have hle2 : y.1 ≤ ps := by omega
             refine wp_region_cls w1 (by kernel_rfl) (by kernel_rfl) ?_
             repeat (go_big_quiet_step ((first
               | (go_at_call 186; exact Cls.of _ (fun u hu => HCe.out u hu)))))
             refine wpQuiet_nil ?_
             rintro _ ⟨x, rfl⟩
             go_wp2
             go_ret
             exact ⟨by rw [hf.out]; rfl, HBw.out.trans ((H1.out.2.trans (x.2.mono H1.out.2.size)).mono HBw.out.size)⟩
end
section
open Go.RowKit
end
section
open Go.RowKit
end
section
set_option maxRecDepth 100000
open Go.RowKit
structure PrAt (b : Nat) (w0 w : World) (s : ByteArray) (Z : List Value) (TR : TypeId) : Prop where
 rd : RdAt w b s false
 kept : Kept b none w0 w
 box : BxAt w w0.heap.size [.pointer (some ⟨b, 0, none⟩)] 222
 res : BxAt w (w0.heap.size + 1) Z TR
 lt : b < w0.heap.size
theorem PrAt.call {b : Nat} {w0 w w' : World} {s s' : ByteArray} {Z : List Value} {TR : TypeId} (h : PrAt b w0 w s Z TR) (hk : Kept b none w w') (hr : RdAt w' b s' false) : PrAt b w0 w' s' Z TR :=
 ⟨hr, h.kept.trans hk (.inl rfl), h.box.kept hk (by have := h.lt; omega), h.res.kept hk (by have := h.lt; omega), h.lt⟩
theorem PrAt.ans {b : Nat} {w0 w w' : World} {s : ByteArray} {Z Z' : List Value} {TR : TypeId} (h : PrAt b w0 w s Z TR) (ho : One (w0.heap.size + 1) w w') (hz : w'.heap[w0.heap.size + 1]? = some (.cells Z'.toArray TR (0, 0))) : PrAt b w0 w' s Z' TR :=
 ⟨h.rd.one ho (by have := h.lt; omega), h.kept.one ho (by omega), h.box.one ho (by omega), hz, h.lt⟩
theorem PrAt.other {b k : Nat} {w0 w w' : World} {s : ByteArray} {Z : List Value} {TR : TypeId} (h : PrAt b w0 w s Z TR) (ho : One k w w') (hk : w0.heap.size + 1 < k) : PrAt b w0 w' s Z TR :=
 ⟨h.rd.one ho (by have := h.lt; omega), h.kept.one ho (by omega), h.box.one ho (by omega), h.res.one ho (by omega), h.lt⟩
theorem PrAt.under {b : Nat} {w0 w w' : World} {s : ByteArray} {Z : List Value} {TR : TypeId} (h : PrAt b w0 w s Z TR) (hb : Below w.heap.size w w') : PrAt b w0 w' s Z TR :=
 h.call ⟨hb.os, hb.tape, hb.output, hb.size, fun k hk _ _ => hb.block k hk⟩ ((hb.block b h.rd.lt).trans h.rd)
theorem pr_begin {b : Nat} {w : World} {s : ByteArray} (h : RdAt w b s false) (Z : List Value) (TR : TypeId) : PrAt b w ((w.alloc (.cells #[.pointer (some ⟨b, 0, none⟩)] 222)).alloc (.cells Z.toArray TR)) s Z TR := by
 have h1 : (w.alloc (.cells #[.pointer (some ⟨b, 0, none⟩)] 222)).heap.size = w.heap.size + 1 := by simp
 refine ⟨(h.alloc _).alloc _, ((Kept.refl b none w).alloc _).alloc _, ?_, ?_, h.lt⟩
 · exact (Below.heap_alloc _ _ _ (by rw [h1]; omega)).trans (heap_alloc_last w _)
 · have := heap_alloc_last (w.alloc (.cells #[.pointer (some ⟨b, 0, none⟩)] 222)) (.cells Z.toArray TR)
   rw [h1] at this
   exact this
structure PlAt (b : Nat) (w0 w : World) (s : ByteArray) : Prop where
 rd : RdAt w b s false
 kept : Kept b none w0 w
 box : BxAt w w0.heap.size [.pointer (some ⟨b, 0, none⟩)] 222
 lt : b < w0.heap.size
theorem PlAt.call {b : Nat} {w0 w w' : World} {s s' : ByteArray} (h : PlAt b w0 w s) (hk : Kept b none w w') (hr : RdAt w' b s' false) : PlAt b w0 w' s' :=
 ⟨hr, h.kept.trans hk (.inl rfl), h.box.kept hk (by have := h.lt; omega), h.lt⟩
theorem PlAt.under {b : Nat} {w0 w w' : World} {s : ByteArray} (h : PlAt b w0 w s) (hb : Below w.heap.size w w') : PlAt b w0 w' s :=
 h.call ⟨hb.os, hb.tape, hb.output, hb.size, fun k hk _ _ => hb.block k hk⟩ ((hb.block b h.rd.lt).trans h.rd)
theorem pl_begin {b : Nat} {w : World} {s : ByteArray} (h : RdAt w b s false) : PlAt b w (w.alloc (.cells #[.pointer (some ⟨b, 0, none⟩)] 222)) s :=
 ⟨h.alloc _, (Kept.refl b none w).alloc _, heap_alloc_last w _, h.lt⟩
theorem PlAt.grown {b : Nat} {w0 w w' : World} {s : ByteArray} {o : Obj} {r : Option Nat} (h : PlAt b w0 w s) (hg : (w.alloc o).grownBy w' r) (hr : ∀ g, r = some g → w0.heap.size < g) : PlAt b w0 w' s := by
 have hlt := h.rd.lt
 have hbx := lt_of_blk h.box
 have hb : ∀ k, k < w.heap.size → some k ≠ r → w'.heap[k]? = w.heap[k]? := fun k hk hn => (hg.block k (by simp; omega) hn).trans (Below.heap_alloc w o k hk)
 exact ⟨(hb b hlt (fun e => by have := hr b e.symm; have := h.lt; omega)).trans h.rd,
   ⟨hg.os.trans h.kept.os, hg.tape.trans h.kept.tape, hg.output.trans h.kept.output, Nat.le_trans h.kept.size (Nat.le_trans (by simp) hg.size), fun k hk h1 h2 => (hb k (Nat.lt_of_lt_of_le hk h.kept.size) (fun e => by have := hr k e.symm; omega)).trans (h.kept.block k hk h1 h2)⟩,
   (hb w0.heap.size hbx (fun e => by have := hr _ e.symm; omega)).trans h.box, h.lt⟩
def vSg (x : Sg) (v : Value) (_ _ : World) : Prop := v = .agg #[.int .i64 x.1, .string x.2]
set_option maxHeartbeats 1600000 in
theorem ipsig_got (b : Nat) (s : ByteArray) (w : World) (h : RdAt w b s false) : Calls Tryz.prog 203 #[.agg #[.pointer (some ⟨b, 0, none⟩)]] w (Got pSg b s vSg w) := by
 have H0 := hid (pr_begin h [.int .i64 0, .string ⟨#[]⟩] 139)
 have y0 := H0.out.box.cell 0 _ rfl
 clear h
 go_enter Tryz.func203, Tryz.ntmps203
 go_wp2_with fail
 refine (ipbyte_got b s _ H0.out.rd).mono ?_
 rintro e w1 ⟨hk, hor⟩
 rcases hor with ⟨x, s1, v1, hp, rfl, rfl, hr⟩ | ⟨hp, rfl⟩
 rotate_left
 · have HX := hid (And.intro hp hk)
   clear hp hk
   go_wp2
   exact ⟨rfl, H0.out.kept.trans HX.out.2 (.inl rfl), .inr ⟨by have ql := HX.out.1; simp [pSg, pSeq, ql], rfl⟩⟩
 have N1 := hid (H0.out.call hk hr)
 have HP1 := hid hp
 have HKc1 := hid hk
 clear hk hr hp y0
 have y0 := N1.out.box.cell 0 _ rfl
 go_wp2_with fail
 refine (iptext_got b s1 _ N1.out.rd).mono ?_
 rintro e w2 ⟨hk, hor⟩
 rcases hor with ⟨t, s2, v2, hp, rfl, rfl, hr⟩ | ⟨hp, rfl⟩
 rotate_left
 · have HX := hid (And.intro hp hk)
   clear hp hk
   go_wp2
   exact ⟨rfl, N1.out.kept.trans HX.out.2 (.inl rfl), .inr ⟨by have q0 := HP1.out; have ql := HX.out.1; simp [pSg, pSeq, q0, ql], rfl⟩⟩
 have N2 := hid (N1.out.call hk hr)
 have HP2 := hid hp
 have HKc2 := hid hk
 clear hk hr hp y0
 have y0 := N2.out.box.cell 0 _ rfl
 go_wp2_with (refine wl_store_blk rfl 139 _ _ rfl (w.heap.size + 1) 0 rfl #[.int .i64 x, .string t] rfl [.int .i64 0, .string ⟨#[]⟩] 139 N2.out.res (by simp) (by kernel_rfl) (by simp [Value.oneCell']) ?_; intro w3 Hz; have H4 : Hid (PrAt b w w3 s2 [.int .i64 x, .string t] 139) := hid (N2.out.ans Hz.out.2 Hz.out.1); clear Hz)
 have x0 := H4.out.res.cell 0 _ rfl
 have x1 := H4.out.res.cell 1 _ rfl
 refine bodyPost_ret (v := .agg #[.int .i64 x, .string t]) (by simp [results, Tryz.results203, go_sem, x0, x1]) rfl ?_
 exact ⟨H4.out.kept, .inl ⟨(x, t), s2, _, by have q0 := HP1.out; have q1 := HP2.out; simp [pSg, pSeq, q0, q1], rfl, rfl, H4.out.rd⟩⟩
def vL {α : Type} (d : List α → Dat) (x : List α) (v : Value) (w w' : World) : Prop := Reads (fun k => w.heap.size ≤ k) w' v (d x)
set_option maxHeartbeats 3200000 in
theorem ipmembers_got (b : Nat) (s : ByteArray) (w : World) (h : RdAt w b s false) : Calls Tryz.prog 194 #[.agg #[.pointer (some ⟨b, 0, none⟩)]] w (Got (pList (pI 1)) b s (vL dInts) w) := by
 have H0 := hid (pl_begin h)
 have y0 := H0.out.box.cell 0 _ rfl
 clear h
 go_enter Tryz.func194, Tryz.ntmps194
 go_wp2_with fail
 refine (ipbyte_got b s _ H0.out.rd).mono ?_
 rintro e w1 ⟨hk, hor⟩
 rcases hor with ⟨x, s1, v1, hp, rfl, rfl, hr⟩ | ⟨hp, rfl⟩
 rotate_left
 · have HX := hid (And.intro hp hk)
   clear hp hk
   go_wp2
   exact ⟨rfl, H0.out.kept.trans HX.out.2 (.inl rfl), .inr ⟨list_no HX.out.1, rfl⟩⟩
 obtain ⟨n, rfl, hn, hl⟩ := list_of (p := (pI 1)) hp
 have N1 := hid (H0.out.call hk hr)
 have HL := hid hl
 have hn1 : (n : Int) < 256 := by omega
 clear hk hr hp hl y0 hn
 go_wp2_with fail
 go_loopw [3, 6] (fun v i wr => ∃ (j : Nat) (l : List Int) (s2 : ByteArray) (vv : Value), j ≤ n ∧ i = .int .i64 (j : Int) ∧ vv = v ∧ pMany (pI 1) j s1 = some (l, s2) ∧ PlAt b w wr s2 ∧ OwnD 3 1 (w.heap.size + 1) (fun _ => False) wr vv (l.map (fun z : Int => [Dat.i z])))
   (fun _ i _ => ((n : Int) - intOf i).toNat)
 case atStart => exact ⟨0, [], s1, _, Nat.zero_le _, rfl, rfl, rfl, N1.out, OwnD.nil _ _ _ _ _⟩
 case round =>
   obtain ⟨j, l, s2, v, hj, rfl, rfl, hm, hpl, hO⟩ := hrel
   have HS := hid (And.intro hpl hO)
   have HM := hid hm
   clear hm hpl hO
   have hj0 : (0 : Int) ≤ (j : Int) := Int.natCast_nonneg _
   have y0 := HS.out.1.box.cell 0 _ rfl
   by_cases hjn : j = n
   · have hj1 : ¬ ((j : Int) < (n : Int)) := by omega
     have HE : Hid (j = n) := hid hjn
     clear hj hjn
     go_wp2
     go_ret
     refine ⟨HS.out.1.kept, .inl ⟨l, s2, _, ?_, rfl, ?_, HS.out.1.rd⟩⟩
     · rw [HL.out, ← HE.out]
       exact HM.out
     · exact (HS.out.2.reads).mono (fun k _ hk => by
         rcases hk with hk | hk
         · exact hk.elim
         · exact Nat.le_of_succ_le (HS.out.2.lt k hk).1)
   · have hj1 : (j : Int) < (n : Int) := by omega
     have HJ := hid (And.intro hj hjn)
     clear hj hjn
     go_wp2_with fail
     refine (ipbyte_got b s2 _ HS.out.1.rd).mono ?_
     rintro e w2 ⟨hk, hor⟩
     rcases hor with ⟨x, s3, v2, hp, rfl, rfl, hr⟩ | ⟨hp, rfl⟩
     rotate_left
     · have HX := hid (And.intro hp hk)
       clear hp hk
       go_wp2
       exact ⟨rfl, HS.out.1.kept.trans HX.out.2 (.inl rfl), .inr ⟨by rw [HL.out]; exact many_none (many_fail HM.out HX.out.1) n (by have := HJ.out; omega), rfl⟩⟩
     have M2 := hid (many_snoc HM.out hp)
     have hlen := many_len M2.out
     have S2 := hid (HS.out.1.call hk hr)
     have O2 := hid (HS.out.2.kept hk (fun hFb => hFb) (by have := HS.out.1.lt; omega))
     clear hk hr hp y0
     have hll : l.length + 1 ≤ 256 := by rw [List.length_append] at hlen; simp at hlen; omega
     go_wp2_with (first
       | (at_builtin; refine wl_add_D rfl _ _ 22 3 rfl (.int .i64 0) 1 8 Tryz.underlying22 (by kernel_rfl) rfl (by decide) (w.heap.size + 1) (fun _ => False) (fun _ => False) v (l.map (fun z : Int => [Dat.i z])) rfl (O2.out.under ((Below.refl w2.heap.size w2).alloc (Nat.le_refl _) _) (Nat.le_refl _)) (by have := lt_of_blk S2.out.box; simp; omega) w2.heap.size rfl ((fun z : Int => [Dat.i z]) x) [.int .i64 x] rfl rfl (fun j u hu => cell_at (heap_alloc_last w2 _) j u hu) (fun q dd hq => by match q, hq with | 0, hq => cases hq; exact ⟨_, rfl, .i _⟩ | q + 1, hq => cases hq) (by simp [Value.oneCell']) (fun _ _ h => h) O2.out.sep (fun _ h => h.elim) (by rw [List.length_map]; omega) (by rw [List.length_map]; unfold maxLen; omega) ?_; intro v' w' Hz; have H5 := hid Hz.out; clear Hz))
     go_roundw
     case rel => exact ⟨j + 1, l ++ [x], s3, _, by have := HJ.out; omega, by go_num, rfl, M2.out, S2.out.grown H5.out.2.1 (fun g hg => (O2.out.lt g hg).1), by rw [List.map_append]; exact H5.out.1⟩
     case measure => simp [intOf]; omega
set_option maxHeartbeats 3200000 in
theorem ipsigs_got (b : Nat) (s : ByteArray) (w : World) (h : RdAt w b s false) : Calls Tryz.prog 195 #[.agg #[.pointer (some ⟨b, 0, none⟩)]] w (Got (pList pSg) b s (vL dPairs) w) := by
 have H0 := hid (pl_begin h)
 have y0 := H0.out.box.cell 0 _ rfl
 clear h
 go_enter Tryz.func195, Tryz.ntmps195
 go_wp2_with fail
 refine (ipbyte_got b s _ H0.out.rd).mono ?_
 rintro e w1 ⟨hk, hor⟩
 rcases hor with ⟨x, s1, v1, hp, rfl, rfl, hr⟩ | ⟨hp, rfl⟩
 rotate_left
 · have HX := hid (And.intro hp hk)
   clear hp hk
   go_wp2
   exact ⟨rfl, H0.out.kept.trans HX.out.2 (.inl rfl), .inr ⟨list_no HX.out.1, rfl⟩⟩
 obtain ⟨n, rfl, hn, hl⟩ := list_of (p := pSg) hp
 have N1 := hid (H0.out.call hk hr)
 have HL := hid hl
 have hn1 : (n : Int) < 256 := by omega
 clear hk hr hp hl y0 hn
 go_wp2_with fail
 go_loopw [3, 6] (fun v i wr => ∃ (j : Nat) (l : List Sg) (s2 : ByteArray) (vv : Value), j ≤ n ∧ i = .int .i64 (j : Int) ∧ vv = v ∧ pMany pSg j s1 = some (l, s2) ∧ PlAt b w wr s2 ∧ OwnD 139 2 (w.heap.size + 1) (fun _ => False) wr vv (l.map (fun p : Sg => [Dat.i p.1, Dat.s p.2])))
   (fun _ i _ => ((n : Int) - intOf i).toNat)
 case atStart => exact ⟨0, [], s1, _, Nat.zero_le _, rfl, rfl, rfl, N1.out, OwnD.nil _ _ _ _ _⟩
 case round =>
   obtain ⟨j, l, s2, v, hj, rfl, rfl, hm, hpl, hO⟩ := hrel
   have HS := hid (And.intro hpl hO)
   have HM := hid hm
   clear hm hpl hO
   have hj0 : (0 : Int) ≤ (j : Int) := Int.natCast_nonneg _
   have y0 := HS.out.1.box.cell 0 _ rfl
   by_cases hjn : j = n
   · have hj1 : ¬ ((j : Int) < (n : Int)) := by omega
     have HE : Hid (j = n) := hid hjn
     clear hj hjn
     go_wp2
     go_ret
     refine ⟨HS.out.1.kept, .inl ⟨l, s2, _, ?_, rfl, ?_, HS.out.1.rd⟩⟩
     · rw [HL.out, ← HE.out]
       exact HM.out
     · exact (HS.out.2.reads).mono (fun k _ hk => by
         rcases hk with hk | hk
         · exact hk.elim
         · exact Nat.le_of_succ_le (HS.out.2.lt k hk).1)
   · have hj1 : (j : Int) < (n : Int) := by omega
     have HJ := hid (And.intro hj hjn)
     clear hj hjn
     go_wp2_with fail
     refine (ipsig_got b s2 _ HS.out.1.rd).mono ?_
     rintro e w2 ⟨hk, hor⟩
     rcases hor with ⟨x, s3, v2, hp, rfl, rfl, hr⟩ | ⟨hp, rfl⟩
     rotate_left
     · have HX := hid (And.intro hp hk)
       clear hp hk
       go_wp2
       exact ⟨rfl, HS.out.1.kept.trans HX.out.2 (.inl rfl), .inr ⟨by rw [HL.out]; exact many_none (many_fail HM.out HX.out.1) n (by have := HJ.out; omega), rfl⟩⟩
     have M2 := hid (many_snoc HM.out hp)
     have hlen := many_len M2.out
     have S2 := hid (HS.out.1.call hk hr)
     have O2 := hid (HS.out.2.kept hk (fun hFb => hFb) (by have := HS.out.1.lt; omega))
     clear hk hr hp y0
     have hll : l.length + 1 ≤ 256 := by rw [List.length_append] at hlen; simp at hlen; omega
     go_wp2_with (first
       | (at_builtin; refine wl_add_D rfl _ _ 44 139 rfl (.agg #[.int .i64 0, .string ⟨#[]⟩]) 2 24 Tryz.underlying44 (by kernel_rfl) rfl (by decide) (w.heap.size + 1) (fun _ => False) (fun _ => False) v (l.map (fun p : Sg => [Dat.i p.1, Dat.s p.2])) rfl (O2.out.under ((Below.refl w2.heap.size w2).alloc (Nat.le_refl _) _) (Nat.le_refl _)) (by have := lt_of_blk S2.out.box; simp; omega) w2.heap.size rfl ((fun p : Sg => [Dat.i p.1, Dat.s p.2]) x) [.int .i64 x.1, .string x.2] rfl rfl (fun j u hu => cell_at (heap_alloc_last w2 _) j u hu) (fun q dd hq => by match q, hq with | 0, hq => cases hq; exact ⟨_, rfl, .i _⟩ | 1, hq => cases hq; exact ⟨_, rfl, .s _⟩ | q + 2, hq => cases hq) (by simp [Value.oneCell']) (fun _ _ h => h) O2.out.sep (fun _ h => h.elim) (by rw [List.length_map]; omega) (by rw [List.length_map]; unfold maxLen; omega) ?_; intro v' w' Hz; have H5 := hid Hz.out; clear Hz))
     go_roundw
     case rel => exact ⟨j + 1, l ++ [x], s3, _, by have := HJ.out; omega, by go_num, rfl, M2.out, S2.out.grown H5.out.2.1 (fun g hg => (O2.out.lt g hg).1), by rw [List.map_append]; exact H5.out.1⟩
     case measure => simp [intOf]; omega
end
section
set_option maxRecDepth 100000
open Go.RowKit
theorem pT_sz {s t s' : ByteArray} (h : pT s = some (t, s')) : t.size ≤ 65535 := (inv_T.back s t s' h).1
theorem map_of {α β : Type} {d : α → Option β} {p : Ps α} {s s' : ByteArray} {x : α} (h : p s = some (x, s')) : pMap d p s = (d x).map fun y => (y, s') := by rw [pMap, h]; rfl
theorem map_no {α β : Type} {d : α → Option β} {p : Ps α} {s : ByteArray} (h : p s = none) : pMap d p s = none := by rw [pMap, h]; rfl
def vRq (r : Rq) (v : Value) (_ _ : World) : Prop := v = .agg #[.int .i64 r.c, .int .i64 r.st, .int .i64 r.k, .string r.key, .float .f64 r.b, .int .i64 r.id]
def vRs (x : Int × Nat) (v : Value) (_ _ : World) : Prop := v = .agg #[.int .i64 x.1, .float .f64 x.2]
def vCf (x : Int × List Int) (v : Value) (w w' : World) : Prop := ∃ v2, v = .agg #[.int .i64 x.1, v2] ∧ Reads (fun k => w.heap.size ≤ k) w' v2 (dInts x.2)
set_option maxHeartbeats 3200000 in
theorem iprequest_got (b : Nat) (s : ByteArray) (w : World) (h : RdAt w b s false) : Calls Tryz.prog 191 #[.agg #[.pointer (some ⟨b, 0, none⟩)]] w (Got pRq b s vRq w) := by
 have H0 := hid (pr_begin h [.int .i64 0, .int .i64 0, .int .i64 0, .string ⟨#[]⟩, .float .f64 0, .int .i64 0] 41)
 have y0 := H0.out.box.cell 0 _ rfl
 clear h
 go_enter Tryz.func191, Tryz.ntmps191
 go_wp2_with fail
 refine (iptext_got b s _ H0.out.rd).mono ?_
 rintro e w1 ⟨hk, hor⟩
 rcases hor with ⟨t, s1, v1, hp, rfl, rfl, hr⟩ | ⟨hp, rfl⟩
 rotate_left
 · have HX := hid (And.intro hp hk)
   clear hp hk
   go_wp2
   exact ⟨rfl, H0.out.kept.trans HX.out.2 (.inl rfl), .inr ⟨map_no HX.out.1, rfl⟩⟩
 have N1 := hid (H0.out.call hk hr)
 have HP1 := hid hp
 have hsz := pT_sz hp
 clear hk hr hp y0
 go_wp2_with fail
 refine (dread_any t (by omega) _).mono ?_
 rintro e w2 ⟨rfl, hb⟩
 have N2 := hid (N1.out.under hb)
 clear hb hsz
 by_cases he : rdE t = 0
 · have hd : (rdE t == 0) = true := by rw [he]; rfl
   have HE := hid he
   clear he
   go_wp2_with (first
     | (have := N4; refine wl_store_blk rfl 41 _ _ rfl (w.heap.size + 1) 0 rfl #[.int .i64 (rdR t).c, .int .i64 (rdR t).st, .int .i64 (rdR t).k, .string (rdR t).key, .float .f64 (rdR t).b, .int .i64 (rdR t).id] rfl [.int .i64 0, .int .i64 0, .int .i64 0, .string ⟨#[]⟩, .float .f64 0, .int .i64 0] 41 N4.out.1.res (by simp) (by kernel_rfl) (by simp [Value.oneCell']) ?_; intro w5 Hz; have N5 : Hid (PrAt b w w5 s1 [.int .i64 (rdR t).c, .int .i64 (rdR t).st, .int .i64 (rdR t).k, .string (rdR t).key, .float .f64 (rdR t).b, .int .i64 (rdR t).id] 41 ∧ One (w.heap.size + 1) w3 w5) := hid ⟨N4.out.1.ans Hz.out.2 Hz.out.1, Hz.out.2⟩; clear Hz)
     | (refine wl_store_blk rfl 41 _ _ rfl w2.heap.size 0 rfl #[.int .i64 (rdR t).c, .int .i64 (rdR t).st, .int .i64 (rdR t).k, .string (rdR t).key, .float .f64 (rdR t).b, .int .i64 (rdR t).id] rfl [.int .i64 0, .int .i64 0, .int .i64 0, .string ⟨#[]⟩, .float .f64 0, .int .i64 0] 41 (heap_alloc_last w2 _) (by simp) (by kernel_rfl) (by simp [Value.oneCell']) ?_; intro w3 Hz; have N4 : Hid (PrAt b w w3 s1 [.int .i64 0, .int .i64 0, .int .i64 0, .string ⟨#[]⟩, .float .f64 0, .int .i64 0] 41 ∧ BxAt w3 w2.heap.size [.int .i64 (rdR t).c, .int .i64 (rdR t).st, .int .i64 (rdR t).k, .string (rdR t).key, .float .f64 (rdR t).b, .int .i64 (rdR t).id] 41 ∧ Below w2.heap.size w2 w3) := hid (by have hb := Hz.out.2.below ((Below.refl w2.heap.size w2).alloc (Nat.le_refl _) _) (Nat.le_refl _); exact ⟨N2.out.under hb, Hz.out.1, hb⟩); clear Hz; have c0 := N4.out.2.1.cell 0 _ rfl; have c1 := N4.out.2.1.cell 1 _ rfl; have c2 := N4.out.2.1.cell 2 _ rfl; have c3 := N4.out.2.1.cell 3 _ rfl; have c4 := N4.out.2.1.cell 4 _ rfl; have c5 := N4.out.2.1.cell 5 _ rfl)
     | (go_at_call 178; refine (ineed_yes _).mono ?_; rintro e wz ⟨rfl, hw⟩; replace hw := hw.symm; subst hw))
   have x0 := N5.out.1.res.cell 0 _ rfl; have x1 := N5.out.1.res.cell 1 _ rfl; have x2 := N5.out.1.res.cell 2 _ rfl; have x3 := N5.out.1.res.cell 3 _ rfl; have x4 := N5.out.1.res.cell 4 _ rfl; have x5 := N5.out.1.res.cell 5 _ rfl
   refine bodyPost_ret (v := .agg #[.int .i64 (rdR t).c, .int .i64 (rdR t).st, .int .i64 (rdR t).k, .string (rdR t).key, .float .f64 (rdR t).b, .int .i64 (rdR t).id]) (by simp [results, Tryz.results191, go_sem, x0, x1, x2, x3, x4, x5]) rfl ?_
   refine ⟨N5.out.1.kept, .inl ⟨rdR t, s1, _, ?_, rfl, rfl, N5.out.1.rd⟩⟩
   have := HP1.out
   rw [pRq, map_of this, if_pos HE.out]
   rfl
 · have hd : (rdE t == 0) = false := by rw [beq_eq_false_iff_ne]; exact he
   have HE := hid he
   clear he
   go_wp2_with (first
     | (refine wl_store_blk rfl 41 _ _ rfl w2.heap.size 0 rfl #[.int .i64 (rdR t).c, .int .i64 (rdR t).st, .int .i64 (rdR t).k, .string (rdR t).key, .float .f64 (rdR t).b, .int .i64 (rdR t).id] rfl [.int .i64 0, .int .i64 0, .int .i64 0, .string ⟨#[]⟩, .float .f64 0, .int .i64 0] 41 (heap_alloc_last w2 _) (by simp) (by kernel_rfl) (by simp [Value.oneCell']) ?_; intro w3 Hz; have N4 : Hid (PrAt b w w3 s1 [.int .i64 0, .int .i64 0, .int .i64 0, .string ⟨#[]⟩, .float .f64 0, .int .i64 0] 41 ∧ True) := hid (by have hb := Hz.out.2.below ((Below.refl w2.heap.size w2).alloc (Nat.le_refl _) _) (Nat.le_refl _); exact ⟨N2.out.under hb, trivial⟩); clear Hz)
     | (go_at_call 178; refine (ineed_no _).mono ?_; rintro e wz ⟨rfl, hw⟩; replace hw := hw.symm; subst hw))
   exact ⟨rfl, N4.out.1.kept, .inr ⟨by have := HP1.out; rw [pRq, map_of this, if_neg HE.out]; rfl, rfl⟩⟩
set_option maxHeartbeats 3200000 in
theorem ipresult_got (b : Nat) (s : ByteArray) (w : World) (h : RdAt w b s false) : Calls Tryz.prog 192 #[.agg #[.pointer (some ⟨b, 0, none⟩)]] w (Got pRs b s vRs w) := by
 have H0 := hid (pr_begin h [.int .i64 0, .float .f64 0] 43)
 have y0 := H0.out.box.cell 0 _ rfl
 clear h
 go_enter Tryz.func192, Tryz.ntmps192
 go_wp2_with fail
 refine (iptext_got b s _ H0.out.rd).mono ?_
 rintro e w1 ⟨hk, hor⟩
 rcases hor with ⟨t, s1, v1, hp, rfl, rfl, hr⟩ | ⟨hp, rfl⟩
 rotate_left
 · have HX := hid (And.intro hp hk)
   clear hp hk
   go_wp2
   exact ⟨rfl, H0.out.kept.trans HX.out.2 (.inl rfl), .inr ⟨map_no HX.out.1, rfl⟩⟩
 have N1 := hid (H0.out.call hk hr)
 have HP1 := hid hp
 have hsz := pT_sz hp
 clear hk hr hp y0
 go_wp2_with fail
 refine (dreadResult_any t _).mono ?_
 rintro e w2 ⟨rfl, hb⟩
 have N2 := hid (N1.out.under hb)
 clear hb hsz
 by_cases he : rsR t = 0
 · have hd : (rsR t == 0) = true := by rw [he]; rfl
   have HE := hid he
   clear he
   go_wp2_with (first
     | (have := N4; refine wl_store_blk rfl 43 _ _ rfl (w.heap.size + 1) 0 rfl #[.int .i64 (rsC t), .float .f64 (rsF t)] rfl [.int .i64 0, .float .f64 0] 43 N4.out.1.res (by simp) (by kernel_rfl) (by simp [Value.oneCell']) ?_; intro w5 Hz; have N5 : Hid (PrAt b w w5 s1 [.int .i64 (rsC t), .float .f64 (rsF t)] 43 ∧ One (w.heap.size + 1) w3 w5) := hid ⟨N4.out.1.ans Hz.out.2 Hz.out.1, Hz.out.2⟩; clear Hz)
     | (refine wl_store_blk rfl 43 _ _ rfl w2.heap.size 0 rfl #[.int .i64 (rsC t), .float .f64 (rsF t)] rfl [.int .i64 0, .float .f64 0] 43 (heap_alloc_last w2 _) (by simp) (by kernel_rfl) (by simp [Value.oneCell']) ?_; intro w3 Hz; have N4 : Hid (PrAt b w w3 s1 [.int .i64 0, .float .f64 0] 43 ∧ BxAt w3 w2.heap.size [.int .i64 (rsC t), .float .f64 (rsF t)] 43 ∧ Below w2.heap.size w2 w3) := hid (by have hb := Hz.out.2.below ((Below.refl w2.heap.size w2).alloc (Nat.le_refl _) _) (Nat.le_refl _); exact ⟨N2.out.under hb, Hz.out.1, hb⟩); clear Hz; have c0 := N4.out.2.1.cell 0 _ rfl; have c1 := N4.out.2.1.cell 1 _ rfl)
     | (go_at_call 178; refine (ineed_yes _).mono ?_; rintro e wz ⟨rfl, hw⟩; replace hw := hw.symm; subst hw))
   have x0 := N5.out.1.res.cell 0 _ rfl; have x1 := N5.out.1.res.cell 1 _ rfl
   refine bodyPost_ret (v := .agg #[.int .i64 (rsC t), .float .f64 (rsF t)]) (by simp [results, Tryz.results192, go_sem, x0, x1]) rfl ?_
   refine ⟨N5.out.1.kept, .inl ⟨(rsC t, rsF t), s1, _, ?_, rfl, rfl, N5.out.1.rd⟩⟩
   have := HP1.out
   rw [pRs, map_of this, if_pos HE.out]
   rfl
 · have hd : (rsR t == 0) = false := by rw [beq_eq_false_iff_ne]; exact he
   have HE := hid he
   clear he
   go_wp2_with (first
     | (refine wl_store_blk rfl 43 _ _ rfl w2.heap.size 0 rfl #[.int .i64 (rsC t), .float .f64 (rsF t)] rfl [.int .i64 0, .float .f64 0] 43 (heap_alloc_last w2 _) (by simp) (by kernel_rfl) (by simp [Value.oneCell']) ?_; intro w3 Hz; have N4 : Hid (PrAt b w w3 s1 [.int .i64 0, .float .f64 0] 43 ∧ True) := hid (by have hb := Hz.out.2.below ((Below.refl w2.heap.size w2).alloc (Nat.le_refl _) _) (Nat.le_refl _); exact ⟨N2.out.under hb, trivial⟩); clear Hz)
     | (go_at_call 178; refine (ineed_no _).mono ?_; rintro e wz ⟨rfl, hw⟩; replace hw := hw.symm; subst hw))
   exact ⟨rfl, N4.out.1.kept, .inr ⟨by have := HP1.out; rw [pRs, map_of this, if_neg HE.out]; rfl, rfl⟩⟩
set_option maxHeartbeats 3200000 in
theorem ipconf_got (b : Nat) (s : ByteArray) (w : World) (h : RdAt w b s false) : Calls Tryz.prog 205 #[.agg #[.pointer (some ⟨b, 0, none⟩)]] w (Got pCf b s vCf w) := by
 have H0 := hid (pr_begin h [.int .i64 0, .slice none 0 0] 24)
 have y0 := H0.out.box.cell 0 _ rfl
 clear h
 go_enter Tryz.func205, Tryz.ntmps205
 go_wp2_with fail
 refine (iptext_got b s _ H0.out.rd).mono ?_
 rintro e w1 ⟨hk, hor⟩
 rcases hor with ⟨t, s1, v1, hp, rfl, rfl, hr⟩ | ⟨hp, rfl⟩
 rotate_left
 · have HX := hid (And.intro hp hk)
   clear hp hk
   go_wp2
   exact ⟨rfl, H0.out.kept.trans HX.out.2 (.inl rfl), .inr ⟨map_no HX.out.1, rfl⟩⟩
 have N1 := hid (H0.out.call hk hr)
 have HP1 := hid hp
 have hsz := pT_sz hp
 clear hk hr hp y0
 go_wp2_with fail
 refine (cread_any t _).mono ?_
 rintro e w2 ⟨v2, rfl, hO⟩
 have hb : Below w1.heap.size w1 w2 := hO.bel
 obtain ⟨ad, cp, rfl, hI⟩ := own_ints hO.own
 have HO := hid (And.intro hO hI)
 have HZ : Hid (w.heap.size + 1 < w1.heap.size) := hid (lt_of_blk N1.out.res)
 clear hO hI
 have N2 := hid (N1.out.under hb)
 clear hb hsz
 by_cases he : readE t = 0
 · have hd : (readE t == 0) = true := by rw [he]; rfl
   have HE := hid he
   clear he
   go_wp2_with (first
     | (have := N4; refine wl_store_blk rfl 24 _ _ rfl (w.heap.size + 1) 0 rfl #[.int .i64 (readZ t), .slice ad (readM t).length cp] rfl [.int .i64 0, .slice none 0 0] 24 N4.out.1.res (by simp) (by kernel_rfl) (by simp [Value.oneCell']) ?_; intro w5 Hz; have N5 : Hid (PrAt b w w5 s1 [.int .i64 (readZ t), .slice ad (readM t).length cp] 24 ∧ One (w.heap.size + 1) w3 w5) := hid ⟨N4.out.1.ans Hz.out.2 Hz.out.1, Hz.out.2⟩; clear Hz)
     | (refine wl_store_blk rfl 24 _ _ rfl w2.heap.size 0 rfl #[.int .i64 (readZ t), .slice ad (readM t).length cp] rfl [.int .i64 0, .slice none 0 0] 24 (heap_alloc_last w2 _) (by simp) (by kernel_rfl) (by simp [Value.oneCell']) ?_; intro w3 Hz; have N4 : Hid (PrAt b w w3 s1 [.int .i64 0, .slice none 0 0] 24 ∧ BxAt w3 w2.heap.size [.int .i64 (readZ t), .slice ad (readM t).length cp] 24 ∧ Below w2.heap.size w2 w3) := hid (by have hb := Hz.out.2.below ((Below.refl w2.heap.size w2).alloc (Nat.le_refl _) _) (Nat.le_refl _); exact ⟨N2.out.under hb, Hz.out.1, hb⟩); clear Hz; have c0 := N4.out.2.1.cell 0 _ rfl; have c1 := N4.out.2.1.cell 1 _ rfl)
     | (go_at_call 178; refine (ineed_yes _).mono ?_; rintro e wz ⟨rfl, hw⟩; replace hw := hw.symm; subst hw))
   have x0 := N5.out.1.res.cell 0 _ rfl; have x1 := N5.out.1.res.cell 1 _ rfl
   refine bodyPost_ret (v := .agg #[.int .i64 (readZ t), .slice ad (readM t).length cp]) (by simp [results, Tryz.results205, go_sem, x0, x1]) rfl ?_
   refine ⟨N5.out.1.kept, .inl ⟨(readZ t, readM t), s1, _, ?_, rfl, ⟨_, rfl, ?_⟩, N5.out.1.rd⟩⟩
   · have := HP1.out
     rw [pCf, map_of this, if_pos HE.out]
     rfl
   · have hR : Reads (fun k => w1.heap.size ≤ k) w2 (.slice ad (readM t).length cp) (dInts (readM t)) := ints_reads HO.out.2 (fun x hx _ => by
       rcases HO.out.1.own.2 with ⟨hv, _⟩ | ⟨g, cap, cur, hv, hB, _⟩
       · rw [hx] at hv; cases hv
       · rw [hx] at hv; cases hv; exact hB)
     exact ((hR.under N4.out.2.2 (Nat.le_refl _)).one N5.out.2 (by have := HZ.out; omega)).mono (fun k _ hk => by have := HZ.out; omega)
 · have hd : (readE t == 0) = false := by rw [beq_eq_false_iff_ne]; exact he
   have HE := hid he
   clear he
   go_wp2_with (first
     | (refine wl_store_blk rfl 24 _ _ rfl w2.heap.size 0 rfl #[.int .i64 (readZ t), .slice ad (readM t).length cp] rfl [.int .i64 0, .slice none 0 0] 24 (heap_alloc_last w2 _) (by simp) (by kernel_rfl) (by simp [Value.oneCell']) ?_; intro w3 Hz; have N4 : Hid (PrAt b w w3 s1 [.int .i64 0, .slice none 0 0] 24 ∧ True) := hid (by have hb := Hz.out.2.below ((Below.refl w2.heap.size w2).alloc (Nat.le_refl _) _) (Nat.le_refl _); exact ⟨N2.out.under hb, trivial⟩); clear Hz)
     | (go_at_call 178; refine (ineed_no _).mono ?_; rintro e wz ⟨rfl, hw⟩; replace hw := hw.symm; subst hw))
   exact ⟨rfl, N4.out.1.kept, .inr ⟨by have := HP1.out; rw [pCf, map_of this, if_neg HE.out]; rfl, rfl⟩⟩
end
section
set_option maxRecDepth 100000
open Go.RowKit
def vCt (c : Ct) (v : Value) (w w' : World) : Prop := ∃ v8, v = .agg #[.int .i64 c.1, .int .i64 c.2.1, .int .i64 c.2.2.1.c, .int .i64 c.2.2.1.st, .int .i64 c.2.2.1.k, .string c.2.2.1.key, .float .f64 c.2.2.1.b, .int .i64 c.2.2.1.id, v8] ∧ Reads (fun k => w.heap.size ≤ k) w' v8 (dPairs c.2.2.2)
set_option maxHeartbeats 6400000 in
theorem ipcert_got (b : Nat) (s : ByteArray) (w : World) (h : RdAt w b s false) : Calls Tryz.prog 207 #[.agg #[.pointer (some ⟨b, 0, none⟩)]] w (Got pCt b s vCt w) := by
 have M0 := hid ((pr_begin h [.int .i64 0, .int .i64 0, .int .i64 0, .int .i64 0, .int .i64 0, .string ⟨#[]⟩, .float .f64 0, .int .i64 0, .slice none 0 0] 163).under ((Below.refl _ _).alloc (Nat.le_refl _) (.cells #[.int .i64 0, .int .i64 0, .int .i64 0, .int .i64 0, .int .i64 0, .string ⟨#[]⟩, .float .f64 0, .int .i64 0, .slice none 0 0] 163)))
 have D0 : Hid (BxAt (((w.alloc (.cells #[.pointer (some ⟨b, 0, none⟩)] 222)).alloc (.cells #[.int .i64 0, .int .i64 0, .int .i64 0, .int .i64 0, .int .i64 0, .string ⟨#[]⟩, .float .f64 0, .int .i64 0, .slice none 0 0] 163)).alloc (.cells #[.int .i64 0, .int .i64 0, .int .i64 0, .int .i64 0, .int .i64 0, .string ⟨#[]⟩, .float .f64 0, .int .i64 0, .slice none 0 0] 163)) (w.heap.size + 2) [.int .i64 0, .int .i64 0, .int .i64 0, .int .i64 0, .int .i64 0, .string ⟨#[]⟩, .float .f64 0, .int .i64 0, .slice none 0 0] 163) := hid (by
   have := heap_alloc_last ((w.alloc (.cells #[.pointer (some ⟨b, 0, none⟩)] 222)).alloc (.cells #[.int .i64 0, .int .i64 0, .int .i64 0, .int .i64 0, .int .i64 0, .string ⟨#[]⟩, .float .f64 0, .int .i64 0, .slice none 0 0] 163)) (.cells #[.int .i64 0, .int .i64 0, .int .i64 0, .int .i64 0, .int .i64 0, .string ⟨#[]⟩, .float .f64 0, .int .i64 0, .slice none 0 0] 163)
   rw [show ((w.alloc (.cells #[.pointer (some ⟨b, 0, none⟩)] 222)).alloc (.cells #[.int .i64 0, .int .i64 0, .int .i64 0, .int .i64 0, .int .i64 0, .string ⟨#[]⟩, .float .f64 0, .int .i64 0, .slice none 0 0] 163)).heap.size = w.heap.size + 2 by simp] at this
   exact this)
 have y0 := M0.out.box.cell 0 _ rfl
 have hlt := h.lt
 clear h
 go_enter Tryz.func207, Tryz.ntmps207
 try simp only [List.append]
 try go_wp2_with fail
 refine (ipbyte_got b s _ M0.out.rd).mono ?_
 rintro e w1 ⟨hk, hor⟩
 rcases hor with ⟨x, s1, v1, hp, rfl, rfl, hr⟩ | ⟨hp, rfl⟩
 rotate_left
 · have HX := hid (And.intro hp hk)
   clear hp hk
   go_wp2
   exact ⟨rfl, M0.out.kept.trans HX.out.2 (.inl rfl), .inr ⟨by have ql := HX.out.1; simp [pCt, pSeq, pSgs, ql], rfl⟩⟩
 have N1 := hid (M0.out.call hk hr)
 have C1 := hid (D0.out.kept hk (by omega))
 have HP1 := hid hp
 clear hk hr hp y0
 have y0 := N1.out.box.cell 0 _ rfl
 go_wp2_with (refine wl_store1 rfl 3 _ _ rfl (w.heap.size + 2) 0 rfl (.int .i64 x) rfl rfl rfl [.int .i64 0, .int .i64 0, .int .i64 0, .int .i64 0, .int .i64 0, .string ⟨#[]⟩, .float .f64 0, .int .i64 0, .slice none 0 0] 163 C1.out (by simp) (by kernel_rfl) ?_; intro u1 Hz; have M1 : Hid (PrAt b w u1 s1 [.int .i64 0, .int .i64 0, .int .i64 0, .int .i64 0, .int .i64 0, .string ⟨#[]⟩, .float .f64 0, .int .i64 0, .slice none 0 0] 163) := hid (N1.out.other Hz.out.2 (by omega)); have D1 : Hid (BxAt u1 (w.heap.size + 2) [.int .i64 x, .int .i64 0, .int .i64 0, .int .i64 0, .int .i64 0, .string ⟨#[]⟩, .float .f64 0, .int .i64 0, .slice none 0 0] 163) := hid Hz.out.1; clear Hz y0; have y0 := M1.out.box.cell 0 _ rfl)
 try go_wp2_with fail
 refine (ipword_got b s1 _ M1.out.rd).mono ?_
 rintro e w2 ⟨hk, hor⟩
 rcases hor with ⟨y, s2, v2, hp, rfl, rfl, hr⟩ | ⟨hp, rfl⟩
 rotate_left
 · have HX := hid (And.intro hp hk)
   clear hp hk
   go_wp2
   exact ⟨rfl, M1.out.kept.trans HX.out.2 (.inl rfl), .inr ⟨by have q0 := HP1.out; have ql := HX.out.1; simp [pCt, pSeq, pSgs, q0, ql], rfl⟩⟩
 have N2 := hid (M1.out.call hk hr)
 have C2 := hid (D1.out.kept hk (by omega))
 have HP2 := hid hp
 clear hk hr hp y0
 have y0 := N2.out.box.cell 0 _ rfl
 go_wp2_with (refine wl_store1 rfl 3 _ _ rfl (w.heap.size + 2) 1 rfl (.int .i64 y) rfl rfl rfl [.int .i64 x, .int .i64 0, .int .i64 0, .int .i64 0, .int .i64 0, .string ⟨#[]⟩, .float .f64 0, .int .i64 0, .slice none 0 0] 163 C2.out (by simp) (by kernel_rfl) ?_; intro u2 Hz; have M2 : Hid (PrAt b w u2 s2 [.int .i64 0, .int .i64 0, .int .i64 0, .int .i64 0, .int .i64 0, .string ⟨#[]⟩, .float .f64 0, .int .i64 0, .slice none 0 0] 163) := hid (N2.out.other Hz.out.2 (by omega)); have D2 : Hid (BxAt u2 (w.heap.size + 2) [.int .i64 x, .int .i64 y, .int .i64 0, .int .i64 0, .int .i64 0, .string ⟨#[]⟩, .float .f64 0, .int .i64 0, .slice none 0 0] 163) := hid Hz.out.1; clear Hz y0; have y0 := M2.out.box.cell 0 _ rfl)
 try go_wp2_with fail
 refine (iprequest_got b s2 _ M2.out.rd).mono ?_
 rintro e w3 ⟨hk, hor⟩
 rcases hor with ⟨r, s3, v3, hp, rfl, rfl, hr⟩ | ⟨hp, rfl⟩
 rotate_left
 · have HX := hid (And.intro hp hk)
   clear hp hk
   go_wp2
   exact ⟨rfl, M2.out.kept.trans HX.out.2 (.inl rfl), .inr ⟨by have q0 := HP1.out; have q1 := HP2.out; have ql := HX.out.1; simp [pCt, pSeq, pSgs, q0, q1, ql], rfl⟩⟩
 have N3 := hid (M2.out.call hk hr)
 have C3 := hid (D2.out.kept hk (by omega))
 have HP3 := hid hp
 clear hk hr hp y0
 have y0 := N3.out.box.cell 0 _ rfl
 go_wp2_with (refine wl_store_blk rfl 41 _ _ rfl (w.heap.size + 2) 2 rfl #[.int .i64 r.c, .int .i64 r.st, .int .i64 r.k, .string r.key, .float .f64 r.b, .int .i64 r.id] rfl [.int .i64 x, .int .i64 y, .int .i64 0, .int .i64 0, .int .i64 0, .string ⟨#[]⟩, .float .f64 0, .int .i64 0, .slice none 0 0] 163 C3.out (by simp) (by kernel_rfl) (by simp [Value.oneCell']) ?_; intro u3 Hz; have M3 : Hid (PrAt b w u3 s3 [.int .i64 0, .int .i64 0, .int .i64 0, .int .i64 0, .int .i64 0, .string ⟨#[]⟩, .float .f64 0, .int .i64 0, .slice none 0 0] 163) := hid (N3.out.other Hz.out.2 (by omega)); have D3 : Hid (BxAt u3 (w.heap.size + 2) [.int .i64 x, .int .i64 y, .int .i64 r.c, .int .i64 r.st, .int .i64 r.k, .string r.key, .float .f64 r.b, .int .i64 r.id, .slice none 0 0] 163) := hid Hz.out.1; clear Hz y0; have y0 := M3.out.box.cell 0 _ rfl)
 try go_wp2_with fail
 refine (ipsigs_got b s3 _ M3.out.rd).mono ?_
 rintro e w4 ⟨hk, hor⟩
 rcases hor with ⟨g, s4, v4, hp, rfl, hl4, hr⟩ | ⟨hp, rfl⟩
 rotate_left
 · have HX := hid (And.intro hp hk)
   clear hp hk
   go_wp2
   exact ⟨rfl, M3.out.kept.trans HX.out.2 (.inl rfl), .inr ⟨by have q0 := HP1.out; have q1 := HP2.out; have q2 := HP3.out; have ql := HX.out.1; simp [pCt, pSeq, pSgs, q0, q1, q2, ql], rfl⟩⟩
 obtain ⟨ad4, cp4, hv4⟩ := Reads.form hl4
 rw [List.length_map] at hv4
 subst hv4
 have RL4 : Hid (Reads (fun k => w.heap.size + 3 ≤ k) w4 _ (dPairs g)) := hid (hl4.mono (fun k _ hkk => by have := lt_of_blk D3.out; omega))
 clear hl4
 have N4 := hid (M3.out.call hk hr)
 have C4 := hid (D3.out.kept hk (by omega))
 have HP4 := hid hp
 clear hk hr hp y0
 have y0 := N4.out.box.cell 0 _ rfl
 go_wp2_with (first
   | (have := D4; refine wl_store_blk rfl 163 _ _ rfl (w.heap.size + 1) 0 rfl #[.int .i64 x, .int .i64 y, .int .i64 r.c, .int .i64 r.st, .int .i64 r.k, .string r.key, .float .f64 r.b, .int .i64 r.id, .slice ad4 g.length cp4] rfl [.int .i64 0, .int .i64 0, .int .i64 0, .int .i64 0, .int .i64 0, .string ⟨#[]⟩, .float .f64 0, .int .i64 0, .slice none 0 0] 163 M4.out.res (by simp) (by kernel_rfl) (by simp [Value.oneCell']) ?_; intro ue Hz; have ME : Hid (PrAt b w ue s4 [.int .i64 x, .int .i64 y, .int .i64 r.c, .int .i64 r.st, .int .i64 r.k, .string r.key, .float .f64 r.b, .int .i64 r.id, .slice ad4 g.length cp4] 163) := hid (M4.out.ans Hz.out.2 Hz.out.1); have RL4 := hid (RL4.out.one Hz.out.2 (by omega)); clear Hz)
   | (refine wl_store1 rfl 44 _ _ rfl (w.heap.size + 2) 8 rfl (.slice ad4 g.length cp4) rfl rfl rfl [.int .i64 x, .int .i64 y, .int .i64 r.c, .int .i64 r.st, .int .i64 r.k, .string r.key, .float .f64 r.b, .int .i64 r.id, .slice none 0 0] 163 C4.out (by simp) (by kernel_rfl) ?_; intro u4 Hz; have M4 : Hid (PrAt b w u4 s4 [.int .i64 0, .int .i64 0, .int .i64 0, .int .i64 0, .int .i64 0, .string ⟨#[]⟩, .float .f64 0, .int .i64 0, .slice none 0 0] 163) := hid (N4.out.other Hz.out.2 (by omega)); have D4 : Hid (BxAt u4 (w.heap.size + 2) [.int .i64 x, .int .i64 y, .int .i64 r.c, .int .i64 r.st, .int .i64 r.k, .string r.key, .float .f64 r.b, .int .i64 r.id, .slice ad4 g.length cp4] 163) := hid Hz.out.1; have RL4 := hid (RL4.out.one Hz.out.2 (by omega)); clear Hz y0; have y0 := M4.out.box.cell 0 _ rfl; have z0 := D4.out.cell 0 _ rfl; have z1 := D4.out.cell 1 _ rfl; have z2 := D4.out.cell 2 _ rfl; have z3 := D4.out.cell 3 _ rfl; have z4 := D4.out.cell 4 _ rfl; have z5 := D4.out.cell 5 _ rfl; have z6 := D4.out.cell 6 _ rfl; have z7 := D4.out.cell 7 _ rfl; have z8 := D4.out.cell 8 _ rfl))
 have x0 := ME.out.res.cell 0 _ rfl
 have x1 := ME.out.res.cell 1 _ rfl
 have x2 := ME.out.res.cell 2 _ rfl
 have x3 := ME.out.res.cell 3 _ rfl
 have x4 := ME.out.res.cell 4 _ rfl
 have x5 := ME.out.res.cell 5 _ rfl
 have x6 := ME.out.res.cell 6 _ rfl
 have x7 := ME.out.res.cell 7 _ rfl
 have x8 := ME.out.res.cell 8 _ rfl
 refine bodyPost_ret (v := .agg #[.int .i64 x, .int .i64 y, .int .i64 r.c, .int .i64 r.st, .int .i64 r.k, .string r.key, .float .f64 r.b, .int .i64 r.id, .slice ad4 g.length cp4]) (by simp [results, Tryz.results207, go_sem, x0, x1, x2, x3, x4, x5, x6, x7, x8]) rfl ?_
 exact ⟨ME.out.kept, .inl ⟨(x, y, r, g), s4, _, by have q0 := HP1.out; have q1 := HP2.out; have q2 := HP3.out; have q3 := HP4.out; simp [pCt, pSeq, pSgs, q0, q1, q2, q3], rfl, ⟨_, rfl, RL4.out.mono (fun k _ hk => by omega)⟩, ME.out.rd⟩⟩
end
section
set_option maxRecDepth 100000
open Go.RowKit
theorem pr_grown {b : Nat} {w0 w w' : World} {s : ByteArray} {Z C : List Value} {TR TC : TypeId} {o : Obj} {r : Option Nat} (h : PrAt b w0 w s Z TR) (hC : BxAt w (w0.heap.size + 2) C TC) (hg : (w.alloc o).grownBy w' r) (hr : ∀ g, r = some g → w0.heap.size + 3 ≤ g) : PrAt b w0 w' s Z TR ∧ BxAt w' (w0.heap.size + 2) C TC := by
 have hlt := h.rd.lt
 have hb : ∀ k, k < w.heap.size → some k ≠ r → w'.heap[k]? = w.heap[k]? := fun k hk hn => (hg.block k (by simp; omega) hn).trans (Below.heap_alloc w o k hk)
 have hne : ∀ k, k < w0.heap.size + 3 → some k ≠ r := fun k hk e => by have := hr k e.symm; omega
 have hl := h.lt
 exact ⟨⟨(hb b hlt (hne b (by omega))).trans h.rd,
   ⟨hg.os.trans h.kept.os, hg.tape.trans h.kept.tape, hg.output.trans h.kept.output, Nat.le_trans h.kept.size (Nat.le_trans (by simp) hg.size), fun k hk h1 h2 => (hb k (Nat.lt_of_lt_of_le hk h.kept.size) (hne k (by omega))).trans (h.kept.block k hk h1 h2)⟩,
   (hb _ (lt_of_blk h.box) (hne _ (by omega))).trans h.box, (hb _ (lt_of_blk h.res) (hne _ (by omega))).trans h.res, h.lt⟩, (hb _ (lt_of_blk hC) (hne _ (by omega))).trans hC⟩
def vCg (c : Cg) (v : Value) (w w' : World) : Prop := ∃ v2, v = .agg #[.int .i64 c.1, .int .i64 c.2.1, v2, .int .i64 c.2.2.2.1, .string c.2.2.2.2] ∧ Reads (fun k => w.heap.size ≤ k) w' v2 (dCts c.2.2.1)
set_option maxHeartbeats 6400000 in
theorem ipchange_got (b : Nat) (s : ByteArray) (w : World) (h : RdAt w b s false) : Calls Tryz.prog 204 #[.agg #[.pointer (some ⟨b, 0, none⟩)]] w (Got pCg b s vCg w) := by
 have M0 := hid ((pr_begin h [.int .i64 0, .int .i64 0, .slice none 0 0, .int .i64 0, .string ⟨#[]⟩] 161).under ((Below.refl _ _).alloc (Nat.le_refl _) (.cells #[.int .i64 0, .int .i64 0, .slice none 0 0, .int .i64 0, .string ⟨#[]⟩] 161)))
 have D0 : Hid (BxAt (((w.alloc (.cells #[.pointer (some ⟨b, 0, none⟩)] 222)).alloc (.cells #[.int .i64 0, .int .i64 0, .slice none 0 0, .int .i64 0, .string ⟨#[]⟩] 161)).alloc (.cells #[.int .i64 0, .int .i64 0, .slice none 0 0, .int .i64 0, .string ⟨#[]⟩] 161)) (w.heap.size + 2) [.int .i64 0, .int .i64 0, .slice none 0 0, .int .i64 0, .string ⟨#[]⟩] 161) := hid (by
   have := heap_alloc_last ((w.alloc (.cells #[.pointer (some ⟨b, 0, none⟩)] 222)).alloc (.cells #[.int .i64 0, .int .i64 0, .slice none 0 0, .int .i64 0, .string ⟨#[]⟩] 161)) (.cells #[.int .i64 0, .int .i64 0, .slice none 0 0, .int .i64 0, .string ⟨#[]⟩] 161)
   rw [show ((w.alloc (.cells #[.pointer (some ⟨b, 0, none⟩)] 222)).alloc (.cells #[.int .i64 0, .int .i64 0, .slice none 0 0, .int .i64 0, .string ⟨#[]⟩] 161)).heap.size = w.heap.size + 2 by simp] at this
   exact this)
 have y0 := M0.out.box.cell 0 _ rfl
 have hlt := h.lt
 clear h
 go_enter Tryz.func204, Tryz.ntmps204
 try go_wp2_with fail
 refine (ipbyte_got b s _ M0.out.rd).mono ?_
 rintro e w1 ⟨hk, hor⟩
 rcases hor with ⟨x, s1, v1, hp, rfl, rfl, hr⟩ | ⟨hp, rfl⟩
 rotate_left
 · have HX := hid (And.intro hp hk)
   clear hp hk
   go_wp2
   exact ⟨rfl, M0.out.kept.trans HX.out.2 (.inl rfl), .inr ⟨by have ql := HX.out.1; simp [pCg, pSeq, ql], rfl⟩⟩
 have N1 := hid (M0.out.call hk hr)
 have C1 := hid (D0.out.kept hk (by omega))
 have HP1 := hid hp
 clear hk hr hp y0
 have y0 := N1.out.box.cell 0 _ rfl
 go_wp2_with (refine wl_store1 rfl 3 _ _ rfl (w.heap.size + 2) 0 rfl (.int .i64 x) rfl rfl rfl [.int .i64 0, .int .i64 0, .slice none 0 0, .int .i64 0, .string ⟨#[]⟩] 161 C1.out (by simp) (by kernel_rfl) ?_; intro u1 Hz; have M1 : Hid (PrAt b w u1 s1 [.int .i64 0, .int .i64 0, .slice none 0 0, .int .i64 0, .string ⟨#[]⟩] 161) := hid (N1.out.other Hz.out.2 (by omega)); have D1 : Hid (BxAt u1 (w.heap.size + 2) [.int .i64 x, .int .i64 0, .slice none 0 0, .int .i64 0, .string ⟨#[]⟩] 161) := hid Hz.out.1; clear Hz y0; have y0 := M1.out.box.cell 0 _ rfl)
 try go_wp2_with fail
 refine (ipbyte_got b s1 _ M1.out.rd).mono ?_
 rintro e w2 ⟨hk, hor⟩
 rcases hor with ⟨y, s2, v2, hp, rfl, rfl, hr⟩ | ⟨hp, rfl⟩
 rotate_left
 · have HX := hid (And.intro hp hk)
   clear hp hk
   go_wp2
   exact ⟨rfl, M1.out.kept.trans HX.out.2 (.inl rfl), .inr ⟨by have q0 := HP1.out; have ql := HX.out.1; simp [pCg, pSeq, q0, ql], rfl⟩⟩
 have N2 := hid (M1.out.call hk hr)
 have C2 := hid (D1.out.kept hk (by omega))
 have HP2 := hid hp
 clear hk hr hp y0
 have y0 := N2.out.box.cell 0 _ rfl
 go_wp2_with (refine wl_store1 rfl 3 _ _ rfl (w.heap.size + 2) 1 rfl (.int .i64 y) rfl rfl rfl [.int .i64 x, .int .i64 0, .slice none 0 0, .int .i64 0, .string ⟨#[]⟩] 161 C2.out (by simp) (by kernel_rfl) ?_; intro u2 Hz; have M2 : Hid (PrAt b w u2 s2 [.int .i64 0, .int .i64 0, .slice none 0 0, .int .i64 0, .string ⟨#[]⟩] 161) := hid (N2.out.other Hz.out.2 (by omega)); have D2 : Hid (BxAt u2 (w.heap.size + 2) [.int .i64 x, .int .i64 y, .slice none 0 0, .int .i64 0, .string ⟨#[]⟩] 161) := hid Hz.out.1; clear Hz y0; have y0 := M2.out.box.cell 0 _ rfl)
 try go_wp2_with fail
 refine (ipbyte_got b s2 _ M2.out.rd).mono ?_
 rintro e w3 ⟨hk, hor⟩
 rcases hor with ⟨z, s3, v3, hp, rfl, rfl, hr⟩ | ⟨hp, rfl⟩
 rotate_left
 · have HX := hid (And.intro hp hk)
   clear hp hk
   go_wp2
   exact ⟨rfl, M2.out.kept.trans HX.out.2 (.inl rfl), .inr ⟨by have q0 := HP1.out; have q1 := HP2.out; have ql := list_no (p := pCt) HX.out.1; simp [pCg, pSeq, q0, q1, ql], rfl⟩⟩
 obtain ⟨n, rfl, hn, hl⟩ := list_of (p := pCt) hp
 have N3 := hid (M2.out.call hk hr)
 have C3 := hid (D2.out.kept hk (by omega))
 have HLs := hid hl
 have hn1 : (n : Int) < 256 := by omega
 clear hk hr hp hl y0 hn
 go_wp2_with fail
 go_loopw [12] (fun i wr => ∃ (j : Nat) (l : List Ct) (s4 : ByteArray) (v : Value) (F : Nat → Prop), j ≤ n ∧ i = .int .i64 (j : Int) ∧ pMany pCt j s3 = some (l, s4) ∧ PrAt b w wr s4 [.int .i64 0, .int .i64 0, .slice none 0 0, .int .i64 0, .string ⟨#[]⟩] 161 ∧ BxAt wr (w.heap.size + 2) [.int .i64 x, .int .i64 y, v, .int .i64 0, .string ⟨#[]⟩] 161 ∧ OwnD 163 9 (w.heap.size + 3) F wr v (l.map dCt) ∧ ∀ k, F k → w.heap.size + 2 < k ∧ k < wr.heap.size)
   (fun i _ => ((n : Int) - intOf i).toNat)
 case atStart => exact ⟨0, [], s3, _, fun _ => False, Nat.zero_le _, rfl, rfl, N3.out, C3.out, OwnD.nil _ _ _ _ _, fun _ h => h.elim⟩
 case round =>
   obtain ⟨j, l, s4, v, F, hj, rfl, hm, hpr, hbx, hO, hF⟩ := hrel
   have HS := hid (And.intro hpr hbx)
   have HO := hid (And.intro hO hF)
   have HM := hid hm
   obtain ⟨ad, cp, hvf⟩ := hO.form
   rw [List.length_map] at hvf
   clear hm hpr hbx hO hF
   have hj0 : (0 : Int) ≤ (j : Int) := Int.natCast_nonneg _
   have y0 := HS.out.1.box.cell 0 _ rfl
   by_cases hjn : j = n
   · have hj1 : ¬ ((j : Int) < (n : Int)) := by omega
     have HE : Hid (j = n) := hid hjn
     have HLf : Hid (pList pCt s2 = some (l, s4)) := hid (by rw [HLs.out, ← hjn]; exact HM.out)
     subst hvf
     have RL : Hid (Reads (fun k => w.heap.size + 3 ≤ k) wr (.slice ad l.length cp) (dCts l)) := hid ((HO.out.1.reads).mono (fun k _ hk => by
       rcases hk with hk | hk
       · have := (HO.out.2 k hk).1; show w.heap.size + 3 ≤ k; omega
       · exact (HO.out.1.lt k hk).1))
     clear hj hjn HO
     try go_wp2_with fail
     refine (ipsig_got b s4 _ HS.out.1.rd).mono ?_
     rintro e w6 ⟨hk, hor⟩
     rcases hor with ⟨g, s6, v6, hp, rfl, rfl, hr⟩ | ⟨hp, rfl⟩
     rotate_left
     · have HX := hid (And.intro hp hk)
       clear hp hk
       go_wp2
       exact ⟨rfl, HS.out.1.kept.trans HX.out.2 (.inl rfl), .inr ⟨by have q0 := HP1.out; have q1 := HP2.out; have q2 := HLf.out; have ql := HX.out.1; simp [pCg, pSeq, q0, q1, q2, ql], rfl⟩⟩
     have N6 := hid (HS.out.1.call hk hr)
     have C6 := hid (HS.out.2.kept hk (by omega))
     have RL := hid (RL.out.kept hk (by omega))
     have HP6 := hid hp
     clear hk hr hp y0
     have y0 := N6.out.box.cell 0 _ rfl
     go_wp2_with (first
       | (have := D6; refine wl_store_blk rfl 161 _ _ rfl (w.heap.size + 1) 0 rfl #[.int .i64 x, .int .i64 y, .slice ad l.length cp, .int .i64 g.1, .string g.2] rfl [.int .i64 0, .int .i64 0, .slice none 0 0, .int .i64 0, .string ⟨#[]⟩] 161 M6.out.res (by simp) (by kernel_rfl) (by simp [Value.oneCell']) ?_; intro ue Hz; have ME : Hid (PrAt b w ue s6 [.int .i64 x, .int .i64 y, .slice ad l.length cp, .int .i64 g.1, .string g.2] 161) := hid (M6.out.ans Hz.out.2 Hz.out.1); have RL := hid (RL.out.one Hz.out.2 (by omega)); clear Hz)
       | (refine wl_store_blk rfl 139 _ _ rfl (w.heap.size + 2) 3 rfl #[.int .i64 g.1, .string g.2] rfl [.int .i64 x, .int .i64 y, .slice ad l.length cp, .int .i64 0, .string ⟨#[]⟩] 161 C6.out (by simp) (by kernel_rfl) (by simp [Value.oneCell']) ?_; intro u6 Hz; have M6 : Hid (PrAt b w u6 s6 [.int .i64 0, .int .i64 0, .slice none 0 0, .int .i64 0, .string ⟨#[]⟩] 161) := hid (N6.out.other Hz.out.2 (by omega)); have D6 : Hid (BxAt u6 (w.heap.size + 2) [.int .i64 x, .int .i64 y, .slice ad l.length cp, .int .i64 g.1, .string g.2] 161) := hid Hz.out.1; have RL := hid (RL.out.one Hz.out.2 (by omega)); clear Hz y0; have z0 := D6.out.cell 0 _ rfl; have z1 := D6.out.cell 1 _ rfl; have z2 := D6.out.cell 2 _ rfl; have z3 := D6.out.cell 3 _ rfl; have z4 := D6.out.cell 4 _ rfl))
     have x0 := ME.out.res.cell 0 _ rfl; have x1 := ME.out.res.cell 1 _ rfl; have x2 := ME.out.res.cell 2 _ rfl; have x3 := ME.out.res.cell 3 _ rfl; have x4 := ME.out.res.cell 4 _ rfl
     refine bodyPost_ret (v := .agg #[.int .i64 x, .int .i64 y, .slice ad l.length cp, .int .i64 g.1, .string g.2]) (by simp [results, Tryz.results204, go_sem, x0, x1, x2, x3, x4]) rfl ?_
     exact ⟨ME.out.kept, .inl ⟨(x, y, l, g), s6, _, by have q0 := HP1.out; have q1 := HP2.out; have q2 := HLf.out; have q3 := HP6.out; simp [pCg, pSeq, q0, q1, q2, q3], rfl, ⟨_, rfl, RL.out.mono (fun k _ hk => by show w.heap.size ≤ k; have : w.heap.size + 3 ≤ k := hk; omega)⟩, ME.out.rd⟩⟩
   · have hj1 : (j : Int) < (n : Int) := by omega
     have HJ := hid (And.intro hj hjn)
     have y2 := HS.out.2.cell 2 _ rfl
     clear hj hjn hvf
     go_wp2_with fail
     have HSd : Hid (wr.drew.cell? ⟨w.heap.size, 0, none⟩ = some (.pointer (some ⟨b, 0, none⟩)) ∧ wr.drew.cell? ⟨w.heap.size + 2, 2, none⟩ = some v) := hid ⟨y0, y2⟩
     clear y0 y2
     refine wp_region_G (S := fun ww => ww.cell? ⟨w.heap.size, 0, none⟩ = some (.pointer (some ⟨b, 0, none⟩)) ∧ ww.cell? ⟨w.heap.size + 2, 2, none⟩ = some v) (ex := [7]) (by kernel_rfl) ?_
     try (change wpAnyG _ _ _ _ _ _ _ _ _ (World.drew _))
     refine wpAnyG_take (i := 0) (v := ?v1) rfl (by kernel_rfl) (fun _ _ _ h => h) (Or.inl ⟨by rfl, ?hy1⟩) HSd.out ?rest1
     case hy1 => (intro ww _; go_simp; try with_reducible rfl)
     go_simp
     refine wpAnyG_take (i := 1) (v := ?v2) rfl (by kernel_rfl) (fun _ _ _ h => h) (Or.inl ⟨by rfl, ?hy2⟩) HSd.out ?rest2
     case hy2 => (intro ww hS; obtain ⟨k0, k2⟩ := hS; go_simp; try with_reducible rfl)
     go_simp
     refine wpAnyG_take (i := 2) (v := ?v3) rfl (by kernel_rfl) (fun _ _ _ h => h) (Or.inl ⟨by rfl, ?hy3⟩) HSd.out ?rest3
     case hy3 => (intro ww hS; obtain ⟨k0, k2⟩ := hS; go_simp; try with_reducible rfl)
     go_simp
     refine wpAnyG_all (rs := [3]) (by kernel_rfl) (by simp) ?_
     intro i hi
     obtain rfl := List.mem_singleton.1 hi
     clear hi
     refine wpOp_q rfl (by rfl) (fun K hK => ?_)
     go_simp
     refine (ipcert_got b s4 _ (HS.out.1.under (Below.refl _ _).drew).rd).mono ?_
     rintro e w5 ⟨hk, hor⟩
     rcases hor with ⟨c, s5, v5, hp, rfl, ⟨v8, rfl, hR8⟩, hr⟩ | ⟨hp, rfl⟩
     rotate_left
     · have HX := hid (And.intro hp hk)
       clear hp hk
       go_simp
       exact ⟨rfl, (HS.out.1.under (Below.refl _ _).drew).kept.trans HX.out.2 (.inl rfl), .inr ⟨by have q0 := HP1.out; have q1 := HP2.out; have ql : pList pCt s2 = none := (by rw [HLs.out]; exact many_none (many_fail HM.out HX.out.1) n (by have := HJ.out; omega)); simp [pCg, pSeq, q0, q1, ql], rfl⟩⟩
     have M5 := hid (many_snoc HM.out hp)
     have hlen := many_len M5.out
     have hll : l.length + 1 ≤ 256 := by rw [List.length_append] at hlen; simp at hlen; omega
     have S5 : Hid (PrAt b w w5 s5 [.int .i64 0, .int .i64 0, .slice none 0 0, .int .i64 0, .string ⟨#[]⟩] 161 ∧ BxAt w5 (w.heap.size + 2) [.int .i64 x, .int .i64 y, v, .int .i64 0, .string ⟨#[]⟩] 161) := hid ⟨(HS.out.1.under (Below.refl _ _).drew).call hk hr, BxAt.kept (w := wr.drew) HS.out.2 hk (by omega)⟩
     have O5 : Hid (OwnD 163 9 (w.heap.size + 3) F w5 v (l.map dCt)) := hid ((HO.out.1.under (Below.refl wr.heap.size wr).drew (Nat.le_refl _)).kept hk (fun hFb => by have := (HO.out.2 b hFb).1; omega) (by omega))
     have HR8 := hid hR8
     have HSz : Hid (wr.heap.size ≤ w5.heap.size ∧ w.heap.size + 2 < wr.heap.size) := hid ⟨hk.size, lt_of_blk HS.out.2⟩
     clear hk hr hp hR8 hlen
     obtain ⟨ad8, cp8, hv8⟩ := Reads.form HR8.out
     rw [List.length_map] at hv8
     subst hv8
     refine hK _ _ ⟨fun _ => ⟨S5.out.1.box.cell 0 _ rfl, S5.out.2.cell 2 _ rfl⟩, ?_⟩
     clear hK K
     go_simp
     refine wpAnyG_all (rs := [4]) (by kernel_rfl) (by simp) ?_
     intro i hi
     obtain rfl := List.mem_singleton.1 hi
     clear hi
     refine wpOp_q rfl (by rfl) (fun K hK => ?_)
     go_simp
     refine hK _ _ ⟨fun _ => ⟨(S5.out.1.under ((Below.refl w5.heap.size w5).alloc (Nat.le_refl _) _)).box.cell 0 _ rfl, (S5.out.2.keep ((Below.refl w5.heap.size w5).alloc (Nat.le_refl _) _)).cell 2 _ rfl⟩, ?_⟩
     clear hK K
     go_simp
     refine wpAnyG_all (rs := [5]) (by kernel_rfl) (by simp) ?_
     intro i hi
     obtain rfl := List.mem_singleton.1 hi
     clear hi
     refine wpOp_q rfl (by rfl) (fun K hK => ?_)
     refine owp_add_D _ _ 159 163 rfl (.agg #[.int .i64 0, .int .i64 0, .int .i64 0, .int .i64 0, .int .i64 0, .string ⟨#[]⟩, .float .f64 0, .int .i64 0, .slice none 0 0]) 9 96 Tryz.underlying159 (by kernel_rfl) rfl (by decide) (w.heap.size + 3) F (fun k => w.heap.size + 2 < k ∧ k < w5.heap.size ∧ v.ownBlock ≠ some k) v (l.map dCt) (by rfl) (O5.out.under ((Below.refl w5.heap.size w5).alloc (Nat.le_refl _) _) (Nat.le_refl _)) (by have := lt_of_blk S5.out.2; simp; omega) w5.heap.size (by rfl) (dCt c) [.int .i64 c.1, .int .i64 c.2.1, .int .i64 c.2.2.1.c, .int .i64 c.2.2.1.st, .int .i64 c.2.2.1.k, .string c.2.2.1.key, .float .f64 c.2.2.1.b, .int .i64 c.2.2.1.id, .slice ad8 c.2.2.2.length cp8] rfl rfl (fun j u hu => cell_at (heap_alloc_last w5 _) j u hu) (fun q dd hq => by
       match q, hq with
       | 0, hq => cases hq; exact ⟨_, rfl, .i _⟩
       | 1, hq => cases hq; exact ⟨_, rfl, .i _⟩
       | 2, hq => cases hq; exact ⟨_, rfl, .i _⟩
       | 3, hq => cases hq; exact ⟨_, rfl, .i _⟩
       | 4, hq => cases hq; exact ⟨_, rfl, .i _⟩
       | 5, hq => cases hq; exact ⟨_, rfl, .s _⟩
       | 6, hq => cases hq; exact ⟨_, rfl, .f _⟩
       | 7, hq => cases hq; exact ⟨_, rfl, .i _⟩
       | 8, hq =>
         cases hq
         exact ⟨_, rfl, (HR8.out.mono (fun k hk1 hk2 => ⟨by have := HSz.out; have : wr.heap.size ≤ k := hk2; omega, hk1, fun e => by have := (HO.out.1.lt k e).2; have : wr.heap.size ≤ k := hk2; omega⟩)).under ((Below.refl w5.heap.size w5).alloc (Nat.le_refl _) _) (Nat.le_refl _)⟩
       | q + 9, hq => cases hq) (by simp [Value.oneCell']) (fun k _ hk => ⟨(HO.out.2 k hk).1, by have := (HO.out.2 k hk).2; have := HSz.out; omega, fun e => O5.out.sep k e hk⟩) (fun k hk hF => hF.2.2 hk) (fun k hF => by have := hF.2.1; simp; omega) (by rw [List.length_map]; omega) (by rw [List.length_map]; unfold maxLen; omega) ?_
     intro v' w6 Hz
     have H6 := hid Hz.out
     have S6 : Hid (PrAt b w w6 s5 [.int .i64 0, .int .i64 0, .slice none 0 0, .int .i64 0, .string ⟨#[]⟩] 161 ∧ BxAt w6 (w.heap.size + 2) [.int .i64 x, .int .i64 y, v, .int .i64 0, .string ⟨#[]⟩] 161) := hid (pr_grown S5.out.1 S5.out.2 Hz.out.2.1 (fun g hg => (O5.out.lt g hg).1))
     clear Hz
     refine hK _ _ ⟨fun _ => ⟨S6.out.1.box.cell 0 _ rfl, S6.out.2.cell 2 _ rfl⟩, ?_⟩
     clear hK K
     go_simp
     refine wpAnyG_take (i := 6) (v := ?v4) rfl (by kernel_rfl) (fun _ _ _ h => h) (Or.inl ⟨by rfl, ?hy4⟩) ⟨S6.out.1.box.cell 0 _ rfl, S6.out.2.cell 2 _ rfl⟩ ?rest4
     case hy4 => (intro ww _; go_simp; try with_reducible rfl)
     go_simp
     refine wpAnyG_all (rs := [7]) (by kernel_rfl) (by simp) ?_
     intro i hi
     obtain rfl := List.mem_singleton.1 hi
     clear hi
     refine wpOp_q rfl (by rfl) (fun K hK => ?_)
     obtain ⟨ad6, cp6, hv6⟩ := H6.out.1.form
     subst hv6
     refine owp_store1 159 _ _ rfl (w.heap.size + 2) 2 (by rfl) _ (by rfl) rfl rfl [.int .i64 x, .int .i64 y, v, .int .i64 0, .string ⟨#[]⟩] 161 S6.out.2 (by simp) (by kernel_rfl) ?_
     intro w7 Hz
     have S7 : Hid (PrAt b w w7 s5 [.int .i64 0, .int .i64 0, .slice none 0 0, .int .i64 0, .string ⟨#[]⟩] 161 ∧ BxAt w7 (w.heap.size + 2) [.int .i64 x, .int .i64 y, (.slice ad6 (l.map dCt ++ [dCt c]).length cp6), .int .i64 0, .string ⟨#[]⟩] 161 ∧ One (w.heap.size + 2) w6 w7) := hid ⟨S6.out.1.other Hz.out.2 (by omega), Hz.out.1, Hz.out.2⟩
     clear Hz
     refine hK _ _ ⟨fun h => absurd (by simp) h, ?_⟩
     clear hK K
     go_simp
     refine wpAnyG_done (by kernel_rfl) ?_ _
     go_simp
     go_wp2
     go_roundw
     case rel =>
       refine ⟨j + 1, l ++ [c], s5, _, fun k => w.heap.size + 2 < k ∧ k < w5.heap.size ∧ v.ownBlock ≠ some k, by have := HJ.out; omega, by go_num, M5.out, S7.out.1, S7.out.2.1, ?_, fun k hk => ⟨hk.1, ?_⟩⟩
       · rw [List.map_append]
         exact H6.out.1.one S7.out.2.2 (fun hF => by have := hF.1; omega) (fun e => by have := (H6.out.1.lt _ e).1; omega)
       · have h1 := hk.2.1
         have h2 := H6.out.2.1.size
         have h3 := S7.out.2.2.size
         simp at h2
         omega
     case measure => simp [intOf]; omega
end
end Go.Proofs.YtoepppkadpjonaaGreat
