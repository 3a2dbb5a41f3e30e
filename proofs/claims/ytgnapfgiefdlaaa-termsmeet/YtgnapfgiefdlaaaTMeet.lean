/- TermsMeet, walked. -/
import Derived.Test.YtgnapfgiefdlaaaTeL
import Derived.Test.YtgnapfgiefdlaaaTeM
import Derived.Test.YtgnapfgiefdlaaaCoN
namespace Go.Proofs.Ytgnapfgiefdlaaa
open Go.RowKit

set_option maxRecDepth 100000 in
set_option maxHeartbeats 3200000 in
theorem termsMeet_walk (ep : Int) (a : Option Addr) (n cap : Nat) (l : List Int) (hn : l.length = n) (hm : n ≤ maxLen)
    (e1 : Int) (a1 : Option Addr) (n1 k1 : Nat) (t1 : ByteArray) (b1 : Option Addr) (m1 c1 : Nat) (s1 : List (Int × ByteArray)) (hs1 : s1.length = m1) (hm1 : m1 ≤ maxLen)
    (e2 : Int) (a2 : Option Addr) (n2 k2 : Nat) (t2 : ByteArray) (b2 : Option Addr) (m2 c2 : Nat) (s2 : List (Int × ByteArray)) (hs2 : s2.length = m2) (hm2 : m2 ≤ maxLen) (w : World) (hI : IntsIn w a l) (hP1 : PairsIn w b1 s1) (hP2 : PairsIn w b2 s2) :
    Calls Try.prog 6 #[.agg #[.int .i64 ep, .slice a n cap], .agg #[.int .i64 e1, .slice a1 n1 k1, .string t1, .slice b1 m1 c1], .agg #[.int .i64 e2, .slice a2 n2 k2, .string t2, .slice b2 m2 c2]] w fun e w' => e = .returned (.bool true) ∧ Below w.heap.size w w' := by
  obtain ⟨W, eW⟩ : ∃ W, W = ((w.alloc (.cells #[.int .i64 ep, .slice a n cap] 24)).alloc (.cells #[.int .i64 e1, .slice a1 n1 k1, .string t1, .slice b1 m1 c1] 27)).alloc (.cells #[.int .i64 e2, .slice a2 n2 k2, .string t2, .slice b2 m2 c2] 27) := ⟨_, rfl⟩
  have hs : W.heap.size = w.heap.size + 3 := by rw [eW]; simp <;> omega
  have hbw : Below w.heap.size w W := by rw [eW]; exact (((Below.refl w.heap.size w).alloc (Nat.le_refl _) _).alloc (by simp) _).alloc (by simp <;> omega) _
  have h0 : W.heap[w.heap.size]? = some (.cells #[.int .i64 ep, .slice a n cap] 24 (0, 0)) := by
    rw [eW, heap_alloc_old _ _ (by simp <;> omega), heap_alloc_old _ _ (by simp)]
    exact heap_alloc_last _ _
  have h1 : W.heap[w.heap.size + 1]? = some (.cells [.int .i64 e1, .slice a1 n1 k1, .string t1, .slice b1 m1 c1].toArray 27 (0, 0)) := by
    rw [eW, heap_alloc_old _ _ (by simp)]
    have := heap_alloc_last (w.alloc (.cells #[.int .i64 ep, .slice a n cap] 24)) (.cells #[.int .i64 e1, .slice a1 n1 k1, .string t1, .slice b1 m1 c1] 27)
    rw [show (w.alloc (.cells #[.int .i64 ep, .slice a n cap] 24)).heap.size = w.heap.size + 1 by simp] at this
    exact this
  have h2 : W.heap[w.heap.size + 1 + 1]? = some (.cells [.int .i64 e2, .slice a2 n2 k2, .string t2, .slice b2 m2 c2].toArray 27 (0, 0)) := by
    rw [eW]
    have := heap_alloc_last ((w.alloc (.cells #[.int .i64 ep, .slice a n cap] 24)).alloc (.cells #[.int .i64 e1, .slice a1 n1 k1, .string t1, .slice b1 m1 c1] 27)) (.cells #[.int .i64 e2, .slice a2 n2 k2, .string t2, .slice b2 m2 c2] 27)
    rw [show ((w.alloc (.cells #[.int .i64 ep, .slice a n cap] 24)).alloc (.cells #[.int .i64 e1, .slice a1 n1 k1, .string t1, .slice b1 m1 c1] 27)).heap.size = w.heap.size + 1 + 1 by simp] at this
    exact this
  have HW : Hid (∀ u, Below W.heap.size W u → (IntsIn u a l ∧ PairsIn u b1 s1 ∧ PairsIn u b2 s2) ∧ (u.cell? ⟨w.heap.size, 0, none⟩ = some (.int .i64 ep) ∧ u.cell? ⟨w.heap.size, 1, none⟩ = some (.slice a n cap)) ∧ (u.cell? ⟨w.heap.size + 1, 2, none⟩ = some (.string t1) ∧ u.cell? ⟨w.heap.size + 1, 3, none⟩ = some (.slice b1 m1 c1)) ∧ u.cell? ⟨w.heap.size + 1 + 1, 2, none⟩ = some (.string t2) ∧ u.cell? ⟨w.heap.size + 1 + 1, 3, none⟩ = some (.slice b2 m2 c2)) := hid (fun u hu =>
    have hw := hbw.trans (hu.mono hbw.size)
    ⟨⟨hI.keep hw (Nat.le_refl _), hP1.keep hw (Nat.le_refl _), hP2.keep hw (Nat.le_refl _)⟩, cell_two ((hu.block _ (lt_of_blk h0)).trans h0), ⟨cell_at ((hu.block _ (lt_of_blk h1)).trans h1) 2 _ rfl, cell_at ((hu.block _ (lt_of_blk h1)).trans h1) 3 _ rfl⟩, cell_at ((hu.block _ (lt_of_blk h2)).trans h2) 2 _ rfl, cell_at ((hu.block _ (lt_of_blk h2)).trans h2) 3 _ rfl⟩)
  have HZ := hid (And.intro hbw hs)
  have HE := hid eW
  have HP1 : Hid (∀ u, Below W.heap.size W u → Calls Try.prog 10 #[.agg #[.int .i64 ep, .slice a n cap], .string t1, .slice b1 m1 c1] u fun e w' => e = .returned (.bool (provesB ep l t1 s1)) ∧ Below W.heap.size W w') := hid (fun u hu => (tproves_any ep a n cap l hn hm t1 b1 m1 c1 s1 hs1 hm1 u (HW.out u hu).1.1 (HW.out u hu).1.2.1).mono fun _ _ ⟨he, hb⟩ => ⟨he, hu.trans (hb.mono hu.size)⟩)
  have HP2 : Hid (∀ u, Below W.heap.size W u → Calls Try.prog 10 #[.agg #[.int .i64 ep, .slice a n cap], .string t2, .slice b2 m2 c2] u fun e w' => e = .returned (.bool (provesB ep l t2 s2)) ∧ Below W.heap.size W w') := hid (fun u hu => (tproves_any ep a n cap l hn hm t2 b2 m2 c2 s2 hs2 hm2 u (HW.out u hu).1.1 (HW.out u hu).1.2.2).mono fun _ _ ⟨he, hb⟩ => ⟨he, hu.trans (hb.mono hu.size)⟩)
  have hg1 := @proves_parts ep l t1 s1
  have hg2 := @proves_parts ep l t2 s2
  have HN := hid (And.intro hn (And.intro hs1 hs2))
  have hmZ : (n : Int) ≤ 9223372036854775807 := by unfold maxLen at hm; omega
  clear hI hP1 hP2 hn hm hs1 hm1 hs2 hm2 hs hbw h0 h1 h2 eW
  cases r1 : provesB ep l t1 s1 with
  | false =>
    rw [r1] at HP1
    clear hg1 hg2 r1
    go_enter Try.func6, Try.ntmps6
    go_wp2_with (first
      | (go_at_call 9; refine (tlives_any _).mono ?_; rintro e w1 ⟨rfl, hb1⟩; rw [← HE.out] at hb1; have H1 := hid hb1; clear hb1; obtain ⟨⟨c10, c11⟩, ⟨d10, d11⟩, f10, f11⟩ := (HW.out _ H1.out).2)
      | (go_at_call 10; have := H1; refine (HP1.out _ H1.out).mono ?_; rintro e w2 ⟨rfl, hb2⟩; have H2 := hid hb2; clear hb2; obtain ⟨⟨c20, c21⟩, ⟨d20, d21⟩, f20, f21⟩ := (HW.out _ H2.out).2))
    go_ret
    exact ⟨rfl, HZ.out.1.trans (H2.out.mono (by have := HZ.out.2; omega))⟩
  | true =>
    rw [r1] at HP1
    replace hg1 := hg1 r1
    clear r1
    cases r2 : provesB ep l t2 s2 with
    | false =>
      rw [r2] at HP2
      clear hg1 hg2 r2
      go_enter Try.func6, Try.ntmps6
      go_wp2_with (first
        | (go_at_call 9; refine (tlives_any _).mono ?_; rintro e w1 ⟨rfl, hb1⟩; rw [← HE.out] at hb1; have H1 := hid hb1; clear hb1; obtain ⟨⟨c10, c11⟩, ⟨d10, d11⟩, f10, f11⟩ := (HW.out _ H1.out).2)
        | (go_at_call 10; have := H2; refine (HP2.out _ H2.out).mono ?_; rintro e w3 ⟨rfl, hb3⟩; have H3 := hid hb3; clear hb3; obtain ⟨⟨c30, c31⟩, ⟨d30, d31⟩, f30, f31⟩ := (HW.out _ H3.out).2)
        | (go_at_call 10; have := H1; refine (HP1.out _ H1.out).mono ?_; rintro e w2 ⟨rfl, hb2⟩; have H2 := hid hb2; clear hb2; obtain ⟨⟨c20, c21⟩, ⟨d20, d21⟩, f20, f21⟩ := (HW.out _ H2.out).2))
      go_ret
      exact ⟨rfl, HZ.out.1.trans (H3.out.mono (by have := HZ.out.2; omega))⟩
    | true =>
      rw [r2] at HP2
      replace hg2 := hg2 r2
      clear r2
      have HG := hid (And.intro hg1 hg2)
      clear hg1 hg2
      go_enter Try.func6, Try.ntmps6
      go_wp2_with (first
        | (go_at_call 9; refine (tlives_any _).mono ?_; rintro e w1 ⟨rfl, hb1⟩; rw [← HE.out] at hb1; have H1 := hid hb1; clear hb1; obtain ⟨⟨c10, c11⟩, ⟨d10, d11⟩, f10, f11⟩ := (HW.out _ H1.out).2)
        | (go_at_call 10; have := H2; refine (HP2.out _ H2.out).mono ?_; rintro e w3 ⟨rfl, hb3⟩; have H3 := hid hb3; clear hb3; obtain ⟨⟨c30, c31⟩, ⟨d30, d31⟩, f30, f31⟩ := (HW.out _ H3.out).2)
        | (go_at_call 10; have := H1; refine (HP1.out _ H1.out).mono ?_; rintro e w2 ⟨rfl, hb2⟩; have H2 := hid hb2; clear hb2; obtain ⟨⟨c20, c21⟩, ⟨d20, d21⟩, f20, f21⟩ := (HW.out _ H2.out).2))
      have hl1 : m1 ≤ 16 := by rw [← HN.out.2.1]; exact HG.out.1.2.2.2.2
      have hl2 : m2 ≤ 16 := by rw [← HN.out.2.2]; exact HG.out.2.2.2.2.2
      have hz1 : (m1 : Int) ≤ 16 := by omega
      have hz2 : (m2 : Int) ≤ 16 := by omega
      have HL := hid (And.intro hl1 hl2)
      clear hl1 hl2 c10 c11 d10 d11 f10 f11 c20 c21 d20 d21 f20 f21 c30 c31 d30 d31 f30 f31
      go_loopw [7, 8] (fun k i wr => ∃ j : Nat, j ≤ m1 ∧ i = .int .i64 (j : Int) ∧ k = .int .i64 (cntL (whoL s2) ((whoL s1).take j) : Int) ∧ Below W.heap.size W wr)
        (fun _ i _ => ((m1 : Int) - intOf i).toNat)
      case atStart => exact ⟨0, by omega, rfl, rfl, H3.out⟩
      case round =>
        obtain ⟨j, hj, rfl, rfl, hB⟩ := hrel
        have HB := hid hB
        clear hB
        obtain ⟨⟨c0, c1'⟩, ⟨d0, d1⟩, f0, f1⟩ := (HW.out _ HB.out).2
        by_cases hjn : j = m1
        · have hj1 : ¬ ((j : Int) < (m1 : Int)) := by omega
          have hnum := meet_num (n := n) (a := m1) (b := m2) (c := cntL (whoL s2) ((whoL s1).take j)) (by
              have := meet_len HG.out.1.2.1 HG.out.2.2.1 HG.out.1.1 HG.out.2.1
              rw [List.take_of_length_le (by rw [whoL_len, HN.out.2.1]; omega)]
              rw [whoL_len, whoL_len, HN.out.2.1, HN.out.2.2, HN.out.1] at this
              exact this) (by have := HG.out.1.2.2.2.1; rw [HN.out.1, HN.out.2.1] at this; exact this) (by have := HG.out.2.2.2.2.1; rw [HN.out.1, HN.out.2.2] at this; exact this) (by
              have := HG.out.1.2.2.1
              simp only [rightC, memB, Bool.and_eq_true, decide_eq_true_eq] at this
              have h4 := HN.out.1
              omega)
          obtain ⟨cc, ecc⟩ : ∃ cc : Int, cc = (cntL (whoL s2) ((whoL s1).take j) : Int) := ⟨_, rfl⟩
          rw [← ecc] at hnum ⊢
          obtain ⟨hu1, hu2⟩ := hnum
          have HQ1 : Hid (∀ u, Calls Try.prog 18 #[.int .i64 (n : Int)] u fun e w' => e = .returned (.int .i64 (wekZ (n : Int))) ∧ Below u.heap.size u w') := hid (fun u => cweak_any _ hmZ u)
          have HQ2 : Hid (∀ u, Calls Try.prog 19 #[.int .i64 (n : Int)] u fun e w' => e = .returned (.int .i64 (fltZ (n : Int))) ∧ Below u.heap.size u w') := hid (fun u => cfaults_any _ hmZ u)
          obtain ⟨wk, ewk⟩ : ∃ wk, wk = wekZ (n : Int) := ⟨_, rfl⟩
          obtain ⟨fl, efl⟩ : ∃ fl, fl = fltZ (n : Int) := ⟨_, rfl⟩
          rw [← ewk] at hu1 HQ1
          rw [← efl] at hu2 HQ2
          clear ecc ewk efl hj hjn
          go_wp2_with (first
            | (go_at_call 18; refine (HQ1.out _).mono ?_; rintro e w5 ⟨rfl, hb5⟩; have H5 := hid (HB.out.trans (hb5.mono HB.out.size)); clear hb5; obtain ⟨⟨c50, c51⟩, _, _⟩ := (HW.out _ H5.out).2)
            | (go_at_call 19; have := H5; refine (HQ2.out _).mono ?_; rintro e w6 ⟨rfl, hb6⟩; have H6 := hid (H5.out.trans (hb6.mono H5.out.size)); clear hb6))
          go_ret
          exact ⟨rfl, HZ.out.1.trans (H6.out.mono (by have := HZ.out.2; omega))⟩
        · have hj1 : (j : Int) < (m1 : Int) := by omega
          have hj0 : (0 : Int) ≤ (j : Int) := Int.natCast_nonneg _
          have hjl : j < s1.length := by rw [HN.out.2.1]; omega
          have htk : (whoL s1).take (j + 1) = (whoL s1).take j ++ [idOf s1 j] := by
            rw [List.take_add_one, List.getElem?_eq_getElem (by rw [whoL_len]; exact hjl), ← getD_get _ _ (by rw [whoL_len]; exact hjl), whoL_at]
            rfl
          have hsn := cntL_snoc (whoL s2) ((whoL s1).take j) (idOf s1 j)
          rw [← htk] at hsn
          have hle := cntL_le (whoL s2) ((whoL s1).take j)
          have hle2 : cntL (whoL s2) ((whoL s1).take j) ≤ 256 := by
            exact Nat.le_trans hle (Nat.mul_le_mul (show ((whoL s1).take j).length ≤ 16 by rw [List.length_take]; have := HL.out; omega) (show (whoL s2).length ≤ 16 by rw [whoL_len, HN.out.2.2]; have := HL.out; omega))
          obtain ⟨g1, o1, rfl, hg1, x1, _⟩ := (HW.out W (Below.refl _ _)).1.2.1.at j _ (getP_some hjl)
          obtain ⟨x, ex⟩ : ∃ x, x = idOf s1 j := ⟨_, rfl⟩
          obtain ⟨z, ez⟩ : ∃ z, z = cntL (whoL s2) ((whoL s1).take j) := ⟨_, rfl⟩
          rw [← ex] at x1 hsn
          rw [← ez] at hsn hle2 ⊢
          have HX := hid (And.intro hg1 x1)
          have HSn := hid hsn
          have HJ := hid (And.intro hj hjn)
          have hz3 : (z : Int) ≤ 256 := by omega
          have hz4 : (0 : Int) ≤ (z : Int) := Int.natCast_nonneg _
          clear hj hjn hjl htk hsn hle hle2 hg1 x1 ex ez
          go_wp2
          clear c0 c1' d0 d1 f0 f1
          go_loopw [7, 9] (fun k i wr => ∃ q : Nat, q ≤ m2 ∧ i = .int .i64 (q : Int) ∧ k = .int .i64 ((z + ((whoL s2).take q).count x : Nat) : Int) ∧ Below W.heap.size W wr)
            (fun _ i _ => ((m2 : Int) - intOf i).toNat)
          case atStart => exact ⟨0, by omega, rfl, by simp, HB.out⟩
          case round =>
            obtain ⟨q, hq, rfl, rfl, hB2⟩ := hrel
            have HB2 := hid hB2
            clear hB2
            obtain ⟨_, ⟨d0, d1⟩, f0, f1⟩ := (HW.out _ HB2.out).2
            by_cases hqn : q = m2
            · have hq1 : ¬ ((q : Int) < (m2 : Int)) := by omega
              have HT : Hid (z + ((whoL s2).take q).count x = cntL (whoL s2) ((whoL s1).take (j + 1))) := hid (by
                rw [HSn.out, List.take_of_length_le (by rw [whoL_len, HN.out.2.2]; omega)])
              obtain ⟨y, ey⟩ : ∃ y, y = z + ((whoL s2).take q).count x := ⟨_, rfl⟩
              rw [← ey] at HT ⊢
              clear hq hqn ey
              go_wp2
              go_roundw
              case rel => exact ⟨j + 1, by have := HJ.out; omega, by go_num, by rw [HT.out], HB2.out⟩
              case measure => simp [intOf]; omega
            · have hq1 : (q : Int) < (m2 : Int) := by omega
              have hq0 : (0 : Int) ≤ (q : Int) := Int.natCast_nonneg _
              have hql : q < s2.length := by rw [HN.out.2.2]; omega
              have htk : (whoL s2).take (q + 1) = (whoL s2).take q ++ [idOf s2 q] := by
                rw [List.take_add_one, List.getElem?_eq_getElem (by rw [whoL_len]; exact hql), ← getD_get _ _ (by rw [whoL_len]; exact hql), whoL_at]
                rfl
              have hct : ((whoL s2).take (q + 1)).count x = ((whoL s2).take q).count x + (if idOf s2 q = x then 1 else 0) := by
                rw [htk, List.count_append, List.count_singleton]
                simp
              have hcl : ((whoL s2).take q).count x ≤ 16 := Nat.le_trans List.count_le_length (by rw [List.length_take]; have := HL.out; omega)
              obtain ⟨g2, o2, rfl, hg2, x2, _⟩ := (HW.out W (Below.refl _ _)).1.2.2.at q _ (getP_some hql)
              generalize ((whoL s2).take q).count x = v at hct hcl
              obtain ⟨v2, ev2⟩ : ∃ v2, v2 = ((whoL s2).take (q + 1)).count x := ⟨_, rfl⟩
              rw [← ev2] at hct
              have HV2 : Hid (∀ k, z + v2 = k → z + ((whoL s2).take (q + 1)).count x = k) := hid (fun k hk => by rw [← ev2]; exact hk)
              generalize idOf s2 q = y at hct x2
              have p1 : wr.cell? ⟨g1, o1 + j * 2, none⟩ = some (.int .i64 x) := (HB2.out.cell (p := ⟨g1, _, none⟩) HX.out.1).trans HX.out.2
              have p2 : wr.cell? ⟨g2, o2 + q * 2, none⟩ = some (.int .i64 y) := (HB2.out.cell (p := ⟨g2, _, none⟩) hg2).trans x2
              have hv1 : (v : Int) ≤ 16 := by omega
              have hv0 : (0 : Int) ≤ (v : Int) := Int.natCast_nonneg _
              have HQ := hid (And.intro hq hqn)
              clear hg2 x2 htk hcl hq hqn hql ev2
              by_cases hxy : x = y
              · have HV : Hid (z + v2 = z + v + 1) := hid (by rw [hct, if_pos hxy.symm]; omega)
                clear hct
                subst hxy
                go_wp2
                go_quiet (fail)
                go_wp2
                go_roundw
                case rel => exact ⟨q + 1, by have := HQ.out; omega, by go_num, by rw [HV2.out _ HV.out]; go_num, HB2.out.trans ((below_drewN _ _).mono HB2.out.size)⟩
                case measure => simp [intOf]; omega
              · have HV : Hid (z + v2 = z + v) := hid (by rw [hct, if_neg (fun e => hxy e.symm)]; omega)
                clear hct
                go_wp2
                go_quiet (fail)
                go_wp2
                go_roundw
                case rel => exact ⟨q + 1, by have := HQ.out; omega, by go_num, by rw [HV2.out _ HV.out]; go_num, HB2.out.trans ((below_drewN _ _).mono HB2.out.size)⟩
                case measure => simp [intOf]; omega
end Go.Proofs.Ytgnapfgiefdlaaa
