/- OnetimeLacks: the walk. -/
import Derived.Test.YtcofadhflbiahabOtH
import Derived.Test.YtcofadhflbiahabOtL
namespace Go.Proofs.Ytcofadhflbiahab
open Go.RowKit

set_option maxRecDepth 100000 in
set_option maxHeartbeats 3200000 in
theorem onetimeLacks_walk (a b : ByteArray) (w : World) :
    Calls Try.prog 3 #[.string a, .string b] w fun e w' => e = .returned (.bool true) ∧ Below w.heap.size w w' := by
  by_cases hl : a.size ≤ 4096 ∧ b.size ≤ 4096
  · have HS := hid (decide_eq_true hl)
    obtain ⟨la, ela⟩ : ∃ la, la = (shaB a.data.toList).take 16 := ⟨_, rfl⟩
    obtain ⟨lb, elb⟩ : ∃ lb, lb = (shaB b.data.toList).take 16 := ⟨_, rfl⟩
    obtain ⟨D, eD⟩ : ∃ D, D = txtN a := ⟨_, rfl⟩
    obtain ⟨G, eG⟩ : ∃ G, G = txtN b := ⟨_, rfl⟩
    have eD2 : D = dgN la := by rw [eD, ela]; rfl
    have eG2 : G = dgN lb := by rw [eG, elb]; rfl
    have hla : la.length = 16 := by rw [ela, take16_len]
    have hlb : lb.length = 16 := by rw [elb, take16_len]
    have HDa : Hid (∀ u : World, Calls Try.prog 6 #[.string a] u fun e w' => ∃ g cap, e = .returned (.slice (some ⟨g, 0, none⟩) 35 cap) ∧ (g < w'.heap.size ∧ ∀ j, j < 35 → w'.cell? ⟨g, j, none⟩ = some (.int .i64 ((D.getD j 0 : Nat) : Int))) ∧ Below u.heap.size u w') := hid (fun u => (odigits_le a (by omega) u).mono fun e w' ⟨g, cap, he, _, hg, hi, hb⟩ => ⟨g, cap, he, ⟨hg, fun j hj => by rw [eD]; exact (dig_cell hi j hj).2⟩, hb⟩)
    have HDb : Hid (∀ u : World, Calls Try.prog 6 #[.string b] u fun e w' => ∃ g cap, e = .returned (.slice (some ⟨g, 0, none⟩) 35 cap) ∧ (g < w'.heap.size ∧ ∀ j, j < 35 → w'.cell? ⟨g, j, none⟩ = some (.int .i64 ((G.getD j 0 : Nat) : Int))) ∧ Below u.heap.size u w') := hid (fun u => (odigits_le b (by omega) u).mono fun e w' ⟨g, cap, he, _, hg, hi, hb⟩ => ⟨g, cap, he, ⟨hg, fun j hj => by rw [eG]; exact (dig_cell hi j hj).2⟩, hb⟩)
    obtain ⟨A, eA⟩ : ∃ A, A = shaS a := ⟨_, rfl⟩
    obtain ⟨B, eB⟩ : ∃ B, B = shaS b := ⟨_, rfl⟩
    have HQa : Hid (∀ u : World, Calls Try.prog 7 #[.string a] u fun e w' => e = .returned (.string A) ∧ Below u.heap.size u w') := hid (fun u => by rw [eA]; exact qsum_s a (by omega) u)
    have HQb : Hid (∀ u : World, Calls Try.prog 7 #[.string b] u fun e w' => e = .returned (.string B) ∧ Below u.heap.size u w') := hid (fun u => by rw [eB]; exact qsum_s b (by omega) u)
    have hA : (16 : Int) ≤ (A.size : Int) := by rw [eA, shaS_size]; decide
    have hB : (16 : Int) ≤ (B.size : Int) := by rw [eB, shaS_size]; decide
    have HX : Hid (belowN D G 35 = false → A.extract 0 16 = B.extract 0 16) := hid (fun h => by
      rw [eD2, eG2] at h
      have e := dg_only la lb hla hlb h
      rw [eA, eB, shaS, shaS, ext_take, ext_take, ← ela, ← elb, e])
    have hlt : ∀ i, D.getD i 0 < 16 := fun i => by rw [eD]; exact txtN_lt a i
    have H480 : Hid (256 * D.getD 32 0 + 16 * D.getD 33 0 + D.getD 34 0 + upSum D 35 = 480) := hid (by rw [eD2]; exact dg_480 la hla)
    have HL := hid hlt
    clear hl ela elb eD eG eD2 eG2 hla hlb eA eB hlt
    go_enter Try.func3, Try.ntmps3
    go_wp2_with (first
      | (go_at_call 4; refine (olives_any _).mono ?_; rintro e w1 ⟨rfl, hb1⟩; have H1 := hid hb1; clear hb1)
      | (go_at_call 5; refine (oshort_any _ _ _ (by exact HS.out) _).mono ?_; rintro e wx ⟨rfl, rfl⟩)
      | (go_at_call 6; have := H2; refine (HDb.out _).mono ?_; rintro e w3 ⟨g3, cap3, rfl, hc3, hb3⟩; have H3 := hid (And.intro (And.intro (Nat.lt_of_lt_of_le H2.out.1.1 hb3.size) (fun (j : Nat) (hj : j < 35) => (hb3.cell (p := ⟨g2, j, none⟩) H2.out.1.1).trans (H2.out.1.2 j hj))) (And.intro hc3 (H2.out.2.trans (hb3.mono H2.out.2.size)))); clear hc3 hb3; have k0 := H3.out.1.2 32 (by decide); have k1 := H3.out.1.2 33 (by decide); have k2 := H3.out.1.2 34 (by decide))
      | (go_at_call 6; refine (HDa.out _).mono ?_; rintro e w2 ⟨g2, cap2, rfl, hc2, hb2⟩; have H2 := hid (And.intro hc2 (H1.out.trans (hb2.mono H1.out.size))); clear hc2 hb2))
    obtain ⟨p, ep⟩ : ∃ p, p = D.getD 32 0 := ⟨_, rfl⟩
    obtain ⟨q, eq⟩ : ∃ q, q = D.getD 33 0 := ⟨_, rfl⟩
    obtain ⟨r, er⟩ : ∃ r, r = D.getD 34 0 := ⟨_, rfl⟩
    obtain ⟨V, eV⟩ : ∃ V, V = 256 * p + 16 * q + r := ⟨_, rfl⟩
    have hp : (p : Int) < 16 := by have := HL.out 32; omega
    have hq : (q : Int) < 16 := by have := HL.out 33; omega
    have hr : (r : Int) < 16 := by have := HL.out 34; omega
    have hp0 : (0 : Int) ≤ (p : Int) := Int.natCast_nonneg _
    have hq0 : (0 : Int) ≤ (q : Int) := Int.natCast_nonneg _
    have hr0 : (0 : Int) ≤ (r : Int) := Int.natCast_nonneg _
    have H48 : Hid (V + upSum D 35 = 480) := hid (by rw [eV, ep, eq, er]; exact H480.out)
    rw [← ep] at k0
    rw [← eq] at k1
    rw [← er] at k2
    have HV := hid eV
    clear ep eq er eV this
    go_quiet (fail)
    go_wp2
    go_loopw [7, 8, 9] (fun s bl i wr => ∃ j : Nat, j ≤ 35 ∧ i = .int .i64 (j : Int) ∧ s = .int .i64 ((V + upSum D j : Nat) : Int) ∧ bl = .bool (belowN D G j) ∧ Below w3.heap.size w3 wr)
      (fun _ _ i _ => (35 - intOf i).toNat)
    case atStart => exact ⟨0, by omega, rfl, by have := HV.out; show Value.int .i64 _ = .int .i64 ((V + 0 : Nat) : Int); congr 1; omega, rfl, ⟨rfl, rfl, rfl, Nat.le_refl _, fun _ _ => rfl⟩⟩
    case round =>
      obtain ⟨j, hj, rfl, rfl, rfl, hbel⟩ := hrel
      have HB := hid hbel
      clear hbel
      by_cases hjn : j = 35
      · have hj1 : ¬ ((j : Int) < 35) := by omega
        subst hjn
        rw [H48.out]
        clear hj
        cases hbl : belowN D G 35 with
        | true =>
          clear hbl
          go_wp2
          go_quiet (fail)
          go_wp2
          go_ret
          exact ⟨rfl, (H3.out.2.2.trans (HB.out.mono H3.out.2.2.size)).trans ⟨rfl, rfl, rfl, Nat.le_refl _, fun _ _ => rfl⟩⟩
        | false =>
          obtain ⟨X, eX⟩ : ∃ X, X = B.extract 0 16 := ⟨_, rfl⟩
          have e1 : A.extract 0 16 = X := (HX.out hbl).trans eX.symm
          have e2 : B.extract 0 16 = X := eX.symm
          clear hbl eX
          go_wp2
          haveI := Cls.ne wr
          refine wp_region_cls wr (by kernel_rfl) (by kernel_rfl) ?_
          repeat (go_big_quiet_step ((first
            | (go_at_call_of 7 a; exact Cls.of _ (fun u _ => HQa.out u))
            | (go_at_call_of 7 b; exact Cls.of _ (fun u _ => HQb.out u)))))
          refine wpQuiet_nil ?_
          rintro _ ⟨x, rfl⟩
          go_wp2
          go_ret
          exact ⟨rfl, (H3.out.2.2.trans (HB.out.mono H3.out.2.2.size)).trans (x.2.mono (Nat.le_trans H3.out.2.2.size HB.out.size))⟩
      · have hj1 : (j : Int) < 35 := by omega
        have hj0 : (0 : Int) ≤ (j : Int) := Int.natCast_nonneg _
        obtain ⟨d, ed⟩ : ∃ d, d = D.getD j 0 := ⟨_, rfl⟩
        obtain ⟨gg, eg⟩ : ∃ gg, gg = G.getD j 0 := ⟨_, rfl⟩
        obtain ⟨S, eS⟩ : ∃ S, S = V + upSum D j := ⟨_, rfl⟩
        have cd : wr.cell? ⟨g2, j, none⟩ = some (.int .i64 (d : Int)) := by rw [ed]; exact (HB.out.cell (p := ⟨g2, j, none⟩) H3.out.1.1).trans (H3.out.1.2 j (by omega))
        have cg : wr.cell? ⟨g3, j, none⟩ = some (.int .i64 (gg : Int)) := by rw [eg]; exact (HB.out.cell (p := ⟨g3, j, none⟩) H3.out.2.1.1).trans (H3.out.2.1.2 j (by omega))
        have hd : (d : Int) < 16 := by have := HL.out j; omega
        have hd0 : (0 : Int) ≤ (d : Int) := Int.natCast_nonneg _
        have hS0 : (0 : Int) ≤ (S : Int) := Int.natCast_nonneg _
        have hS : (S : Int) ≤ 10000 := by have h1 := upSum_le D HL.out j; have h2 := HV.out; omega
        cases hbl : belowN D G j with
        | true =>
          by_cases hlo : j < 32
          · have h32 : (j : Int) < 32 := by omega
            have HU : Hid (V + upSum D (j + 1) = S + d) := hid (by rw [upSum_lo D j (by omega), eS, ed]; omega)
            have HW : Hid (belowN D G (j + 1) = true) := hid (by rw [belowN, hbl, ← ed, ← eg]; rfl)
            have HJ := hid (And.intro hj hjn)
            rw [← eS]
            clear eS ed eg hbl hj hjn
            go_wp2
            go_quiet (fail)
            go_wp2
            go_roundw
            case rel => exact ⟨j + 1, by have := HJ.out; omega, by go_num, by rw [HU.out]; go_num, by rw [HW.out], HB.out.trans ⟨rfl, rfl, rfl, Nat.le_refl _, fun _ _ => rfl⟩⟩
            case measure => simp [intOf]; omega
          · have h32 : ¬ ((j : Int) < 32) := by omega
            have HU : Hid (V + upSum D (j + 1) = S) := hid (by rw [upSum_hi D j (by omega), eS])
            have HW : Hid (belowN D G (j + 1) = true) := hid (by rw [belowN, hbl, ← ed, ← eg]; rfl)
            have HJ := hid (And.intro hj hjn)
            rw [← eS]
            clear eS ed eg hbl hj hjn
            go_wp2
            go_quiet (fail)
            go_wp2
            go_roundw
            case rel => exact ⟨j + 1, by have := HJ.out; omega, by go_num, by rw [HU.out], by rw [HW.out], HB.out.trans ⟨rfl, rfl, rfl, Nat.le_refl _, fun _ _ => rfl⟩⟩
            case measure => simp [intOf]; omega
        | false =>
          by_cases hgd : gg < d
          · by_cases hlo : j < 32
            · have h32 : (j : Int) < 32 := by omega
              have HU : Hid (V + upSum D (j + 1) = S + d) := hid (by rw [upSum_lo D j (by omega), eS, ed]; omega)
              have HW : Hid (belowN D G (j + 1) = true) := hid (by rw [belowN, hbl, ← ed, ← eg, decide_eq_true hgd]; rfl)
              have hg1 : (gg : Int) < (d : Int) := by omega
              have HJ := hid (And.intro hj hjn)
              rw [← eS]
              clear eS ed eg hbl hj hjn hgd
              go_wp2
              go_quiet (fail)
              go_wp2
              go_roundw
              case rel => exact ⟨j + 1, by have := HJ.out; omega, by go_num, by rw [HU.out]; go_num, by rw [HW.out], HB.out.trans ⟨rfl, rfl, rfl, Nat.le_refl _, fun _ _ => rfl⟩⟩
              case measure => simp [intOf]; omega
            · have h32 : ¬ ((j : Int) < 32) := by omega
              have HU : Hid (V + upSum D (j + 1) = S) := hid (by rw [upSum_hi D j (by omega), eS])
              have HW : Hid (belowN D G (j + 1) = true) := hid (by rw [belowN, hbl, ← ed, ← eg, decide_eq_true hgd]; rfl)
              have hg1 : (gg : Int) < (d : Int) := by omega
              have HJ := hid (And.intro hj hjn)
              rw [← eS]
              clear eS ed eg hbl hj hjn hgd
              go_wp2
              go_quiet (fail)
              go_wp2
              go_roundw
              case rel => exact ⟨j + 1, by have := HJ.out; omega, by go_num, by rw [HU.out], by rw [HW.out], HB.out.trans ⟨rfl, rfl, rfl, Nat.le_refl _, fun _ _ => rfl⟩⟩
              case measure => simp [intOf]; omega
          · by_cases hlo : j < 32
            · have h32 : (j : Int) < 32 := by omega
              have HU : Hid (V + upSum D (j + 1) = S + d) := hid (by rw [upSum_lo D j (by omega), eS, ed]; omega)
              have HW : Hid (belowN D G (j + 1) = false) := hid (by rw [belowN, hbl, ← ed, ← eg, decide_eq_false hgd]; rfl)
              have hg1 : ¬ ((gg : Int) < (d : Int)) := by omega
              have HJ := hid (And.intro hj hjn)
              rw [← eS]
              clear eS ed eg hbl hj hjn hgd
              go_wp2
              go_quiet (fail)
              go_wp2
              go_roundw
              case rel => exact ⟨j + 1, by have := HJ.out; omega, by go_num, by rw [HU.out]; go_num, by rw [HW.out, show decide (gg < d) = false from decide_eq_false (by omega)], HB.out.trans ⟨rfl, rfl, rfl, Nat.le_refl _, fun _ _ => rfl⟩⟩
              case measure => simp [intOf]; omega
            · have h32 : ¬ ((j : Int) < 32) := by omega
              have HU : Hid (V + upSum D (j + 1) = S) := hid (by rw [upSum_hi D j (by omega), eS])
              have HW : Hid (belowN D G (j + 1) = false) := hid (by rw [belowN, hbl, ← ed, ← eg, decide_eq_false hgd]; rfl)
              have hg1 : ¬ ((gg : Int) < (d : Int)) := by omega
              have HJ := hid (And.intro hj hjn)
              rw [← eS]
              clear eS ed eg hbl hj hjn hgd
              go_wp2
              go_quiet (fail)
              go_wp2
              go_roundw
              case rel => exact ⟨j + 1, by have := HJ.out; omega, by go_num, by rw [HU.out], by rw [HW.out, show decide (gg < d) = false from decide_eq_false (by omega)], HB.out.trans ⟨rfl, rfl, rfl, Nat.le_refl _, fun _ _ => rfl⟩⟩
              case measure => simp [intOf]; omega
  · have HS := hid (decide_eq_false hl)
    clear hl
    go_enter Try.func3, Try.ntmps3
    go_wp2_with (first
      | (go_at_call 4; have := H1; refine (olives_any _).mono ?_; rintro e w2 ⟨rfl, hb2⟩; have H2 := hid (H1.out.trans (hb2.mono H1.out.size)); clear hb2)
      | (go_at_call 4; refine (olives_any _).mono ?_; rintro e w1 ⟨rfl, hb1⟩; have H1 := hid hb1; clear hb1)
      | (go_at_call 5; refine (oshort_any _ _ _ (by exact HS.out) _).mono ?_; rintro e wx ⟨rfl, rfl⟩))
    go_ret
    exact ⟨rfl, H2.out⟩
end Go.Proofs.Ytcofadhflbiahab
