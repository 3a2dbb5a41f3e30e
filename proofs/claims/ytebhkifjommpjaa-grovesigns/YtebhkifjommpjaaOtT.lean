/- The document's signatures, and what a signature leads to. -/
import Derived.Test.YtebhkifjommpjaaOtS
import Derived.Deep.RegionLaw
namespace Go.Proofs.Ytebhkifjommpjaa
open Go.RowKit

set_option maxRecDepth 100000 in
set_option maxHeartbeats 3200000 in
theorem psign_le (seed : ByteArray) (hs : seed.size ≤ 1000000) (n : Int) (t : ByteArray) (ht : t.size ≤ 1000000) (w : World) :
    Calls Try.prog 31 #[.string seed, .int .i64 n, .string t] w fun e w' => e = .returned (.tuple #[.string (signS seed n t), .int .i64 (leafE n)]) ∧ Below w.heap.size w w' := by
  cases hb : leafB n with
  | false =>
    rw [show signS seed n t = ⟨#[]⟩ by unfold signS; rw [hb]; rfl, show leafE n = 1 by unfold leafE; rw [hb]; rfl]
    have hn := of_decide_eq_false hb
    by_cases h0 : n < 0
    · clear hb hs hn ht
      go_enter Try.func31, Try.ntmps31
      go_wp2
      go_ret2
      exact ⟨rfl, Below.refl _ _⟩
    · have h1 : ¬ (n < 0) := h0
      have h2 : 255 < n := by omega
      clear hb hs hn h0 ht
      go_enter Try.func31, Try.ntmps31
      go_wp2
      go_ret2
      exact ⟨rfl, Below.refl _ _⟩
  | true =>
    obtain ⟨leaf, rfl, hl⟩ := leaf_nat hb
    obtain ⟨p, ep⟩ : ∃ p : Nat → ByteArray, p = begS seed leaf := ⟨_, rfl⟩
    obtain ⟨k, ek⟩ : ∃ k : Nat → Nat, k = fun i => (txtN t).getD i 0 := ⟨_, rfl⟩
    obtain ⟨Y, eY⟩ : ∃ Y : ByteArray, Y = ⟨(chB k p 35).toArray⟩ := ⟨_, rfl⟩
    rw [show signS seed (leaf : Int) t = Y by unfold signS; rw [hb, eY, ep, ek, Int.toNat_natCast]; rfl, show leafE (leaf : Int) = 0 by unfold leafE; rw [hb]; rfl]
    have HP : Hid (∀ i, (p i).size = 16) := hid (fun i => by rw [ep]; exact begS_size _ _ _)
    have HD : Hid (∀ u : World, Calls Try.prog 49 #[.string t] u fun e w' => ∃ g cap, e = .returned (.slice (some ⟨g, 0, none⟩) 35 cap) ∧ u.heap.size ≤ g ∧ g < w'.heap.size ∧ IntsIn w' (some ⟨g, 0, none⟩) (nI (txtN t)) ∧ Below u.heap.size u w') := hid (pdigits_le t ht)
    have HG : Hid (∀ (j : Nat) (u : World), j < 35 → Calls Try.prog 43 #[.string seed, .int .i64 (leaf : Int), .int .i64 (j : Int)] u fun e w' => e = .returned (.string (p j)) ∧ Below u.heap.size u w') := hid (fun j u hj => by rw [ep]; exact pbegin_le seed hs leaf j hl hj u)
    have HT : Hid (∀ (j : Nat) (u : World), Calls Try.prog 42 #[.string (p j), .int .i64 (k j : Int)] u fun e w' => e = .returned (.string (stepN (k j) (p j))) ∧ Below u.heap.size u w') := hid (fun j u => pstep_le (p j) (by rw [HP.out]; decide) (k j) (by rw [ek]; have := txtN_lt t j; show (txtN t).getD j 0 ≤ 15; omega) u)
    have HK : Hid (∀ j, (txtN t).getD j 0 = k j) := hid (fun j => by rw [ek])
    have HY := hid eY
    have hl0 : ¬ ((leaf : Int) < 0) := by omega
    have hl1 : ¬ (255 < (leaf : Int)) := by omega
    have hl2 : (leaf : Int) < 256 := by omega
    clear eY hs hl hb ep ek ht
    go_enter Try.func31, Try.ntmps31
    go_wp2_with (go_at_call 49; refine (HD.out _).mono ?_; rintro e w1 ⟨gd, cap, rfl, hgl, hg1, hi1, hb1⟩; have H1 := hid (And.intro hg1 (And.intro hi1 hb1)); clear hgl hg1 hi1 hb1)
    go_loopw [9, 10] (fun v i wr => ∃ j : Nat, j ≤ 35 ∧ i = .int .i64 (j : Int) ∧ Owned w1.heap.size w1 wr v (chB k p j))
      (fun _ i _ => (35 - intOf i).toNat)
    case atStart => exact ⟨0, by omega, rfl, Owned.nil (Below.refl _ _) (Nat.le_refl _)⟩
    case round =>
      obtain ⟨j, hj, rfl, hO⟩ := hrel
      have HO := hid hO
      clear hO
      by_cases hjn : j = 35
      · have hj1 : ¬ ((j : Int) < 35) := by omega
        subst hjn
        have hc := HO.out.text
        rw [← HY.out] at hc
        have HC := hid hc
        clear hc hj
        go_wp2_with rw [HC.out]
        go_ret2
        exact ⟨rfl, H1.out.2.2.trans (HO.out.bel.mono H1.out.2.2.size)⟩
      · have hj1 : (j : Int) < 35 := by omega
        have hj0 : (0 : Int) ≤ (j : Int) := Int.natCast_nonneg _
        have HN : Hid ((chB k p j).length + (stepN (k j) (p j)).size ≤ 140737488355328) := hid (ch_room k p j (by omega) (fun i _ => HP.out i))
        have HE := hid (chB_succ k p j)
        have HGj : Hid (∀ u : World, Calls Try.prog 43 #[.string seed, .int .i64 (leaf : Int), .int .i64 (j : Int)] u fun e w' => e = .returned (.string (p j)) ∧ Below u.heap.size u w') := hid (fun u => HG.out j u (by omega))
        have HTj := hid (HT.out j)
        have hdc := dig_cell H1.out.2.1 j (by omega)
        rw [HK.out] at hdc
        obtain ⟨y, ey⟩ : ∃ y, y = stepN (k j) (p j) := ⟨_, rfl⟩
        obtain ⟨x, ex⟩ : ∃ x, x = p j := ⟨_, rfl⟩
        obtain ⟨d, ed⟩ : ∃ d, d = k j := ⟨_, rfl⟩
        rw [← ey] at HTj HN HE
        rw [← ex] at HTj HGj
        rw [← ed] at HTj hdc
        have HDc := hid hdc
        have cd : wr.cell? ⟨gd, j, none⟩ = some (.int .i64 (d : Int)) := (HO.out.bel.cell (p := ⟨gd, j, none⟩) hdc.1).trans hdc.2
        have HJ := hid (And.intro hj hjn)
        clear hj hjn ey ex ed hdc
        go_wp2_with fail
        go_region_law
          ((first
            | (refine step_of rfl (owp_app_str _ _ rfl w1.heap.size w1 _ (chB k p j) rfl (by exact H3.out) y rfl HN.out ?_); intro v4 w4 H4)
            | (go_simp; go_at_call 43; refine (HGj.out _).mono ?_; rintro e w2 ⟨rfl, hb2⟩; have H2 := hid (HO.out.drew.keep hb2); have cd2 : w2.cell? ⟨gd, j, none⟩ = some (.int .i64 (d : Int)) := (H2.out.bel.cell (p := ⟨gd, j, none⟩) HDc.out.1).trans HDc.out.2; clear hb2)
            | (go_simp; go_at_call 42; refine (HTj.out _).mono ?_; rintro e w3 ⟨rfl, hb3⟩; have H3 := hid (H2.out.keep hb3); clear hb3)))
        all_goals go_wp2
        all_goals
          go_roundw
          case rel => exact ⟨j + 1, by have := HJ.out; omega, by go_num, by rw [HE.out]; exact H4.out⟩
          case measure => simp [intOf]; omega

set_option maxRecDepth 100000 in
set_option maxHeartbeats 3200000 in
theorem precover_le (t : ByteArray) (ht : t.size ≤ 1000000) (sig : ByteArray) (w : World) :
    Calls Try.prog 35 #[.string t, .string sig] w fun e w' => e = .returned (.tuple #[.string (recS t sig), .bool (sigOk sig)]) ∧ Below w.heap.size w w' := by
  by_cases hs : sig.size = 560
  · have hb : sigOk sig = true := decide_eq_true hs
    obtain ⟨p, ep⟩ : ∃ p : Nat → ByteArray, p = pieceS sig := ⟨_, rfl⟩
    obtain ⟨k, ek⟩ : ∃ k : Nat → Nat, k = fun i => 15 - (txtN t).getD i 0 := ⟨_, rfl⟩
    obtain ⟨Y, eY⟩ : ∃ Y : ByteArray, Y = ⟨(chB k p 35).toArray⟩ := ⟨_, rfl⟩
    obtain ⟨T, eT⟩ : ∃ T, T = shaS Y := ⟨_, rfl⟩
    rw [show recS t sig = T by unfold recS; rw [hb, eT, eY, ep, ek]; rfl, hb]
    have HP : Hid (∀ i, i < 35 → (p i).size = 16) := hid (fun i hi => by rw [ep]; exact pieceS_size sig i hs hi)
    have hY : Y.size = 560 := by rw [eY, mk_size, chB_len _ _ _ HP.out]
    have HD : Hid (∀ u : World, Calls Try.prog 49 #[.string t] u fun e w' => ∃ g cap, e = .returned (.slice (some ⟨g, 0, none⟩) 35 cap) ∧ u.heap.size ≤ g ∧ g < w'.heap.size ∧ IntsIn w' (some ⟨g, 0, none⟩) (nI (txtN t)) ∧ Below u.heap.size u w') := hid (pdigits_le t ht)
    have HT : Hid (∀ (j : Nat), j < 35 → ∀ (x : ByteArray) (z : Int) (u : World), x = pieceS sig j → z = 15 - (((txtN t).getD j 0 : Nat) : Int) → Calls Try.prog 42 #[.string x, .int .i64 z] u fun e w' => e = .returned (.string (stepN (k j) (p j))) ∧ Below u.heap.size u w') := hid (fun j hj x z u hx hz => by
      have h15 := txtN_lt t j
      have e : z = (k j : Int) := by rw [hz, ek]; show _ = ((15 - (txtN t).getD j 0 : Nat) : Int); omega
      rw [hx, e, ← ep]
      exact pstep_le (p j) (by rw [HP.out j hj]; decide) (k j) (by rw [ek]; exact Nat.sub_le _ _) u)
    have HS : Hid (∀ u : World, Calls Try.prog 36 #[.string Y] u fun e w' => e = .returned (.string T) ∧ Below u.heap.size u w') := hid (fun u => by rw [eT]; exact qsum_s Y (by omega) u)
    have HY := hid eY
    have hz : (sig.size : Int) = 560 := by omega
    clear eY eT hY hs ht hb ep ek
    go_enter Try.func35, Try.ntmps35
    go_wp2_with (go_at_call 49; refine (HD.out _).mono ?_; rintro e w1 ⟨gd, cap, rfl, hgl, hg1, hi1, hb1⟩; have H1 := hid (And.intro hg1 (And.intro hi1 hb1)); clear hgl hg1 hi1 hb1)
    go_loopw [7, 8] (fun v i wr => ∃ j : Nat, j ≤ 35 ∧ i = .int .i64 (j : Int) ∧ Owned w1.heap.size w1 wr v (chB k p j))
      (fun _ i _ => (35 - intOf i).toNat)
    case atStart => exact ⟨0, by omega, rfl, Owned.nil (Below.refl _ _) (Nat.le_refl _)⟩
    case round =>
      obtain ⟨j, hj, rfl, hO⟩ := hrel
      have HO := hid hO
      clear hO
      by_cases hjn : j = 35
      · have hj1 : ¬ ((j : Int) < 35) := by omega
        subst hjn
        have hc := HO.out.text
        rw [← HY.out] at hc
        have HC := hid hc
        clear hc hj
        go_wp2_with (first
          | rw [HC.out]
          | (go_at_call 36; refine (HS.out _).mono ?_; rintro e w3 ⟨rfl, hb3⟩; have H3 := hid (HO.out.bel.trans (hb3.mono HO.out.le)); clear hb3))
        go_ret2
        exact ⟨rfl, H1.out.2.2.trans (H3.out.mono H1.out.2.2.size)⟩
      · have hj1 : (j : Int) < 35 := by omega
        have hj0 : (0 : Int) ≤ (j : Int) := Int.natCast_nonneg _
        obtain ⟨m, em⟩ : ∃ m : Nat, m = 16 * j := ⟨_, rfl⟩
        obtain ⟨m2, em2⟩ : ∃ m2 : Nat, m2 = 16 * j + 16 := ⟨_, rfl⟩
        have e1 : IntKind.i64.wrap (16 * (j : Int)) = (m : Int) := by rw [wrap_small _ (by omega) (by omega)]; omega
        have e2 : IntKind.i64.wrap ((m : Int) + 16) = (m2 : Int) := by rw [wrap_small _ (by omega) (by omega)]; omega
        have hm0 : (0 : Int) ≤ (m : Int) := by omega
        have hm1 : (0 : Int) ≤ (m2 : Int) := by omega
        have hm2 : (m : Int) ≤ (m2 : Int) := by omega
        have hm3 : (m2 : Int) ≤ 560 := by omega
        have HM : Hid (sig.extract m m2 = pieceS sig j) := hid (by rw [pieceS, em, em2])
        clear em em2
        have HN : Hid ((chB k p j).length + (stepN (k j) (p j)).size ≤ 140737488355328) := hid (ch_room k p j (by omega) HP.out)
        have HE := hid (chB_succ k p j)
        have HTj := hid (HT.out j (by omega))
        have hdc := dig_cell H1.out.2.1 j (by omega)
        have hd15 := txtN_lt t j
        obtain ⟨y, ey⟩ : ∃ y, y = stepN (k j) (p j) := ⟨_, rfl⟩
        obtain ⟨d, ed⟩ : ∃ d, d = (txtN t).getD j 0 := ⟨_, rfl⟩
        rw [← ey] at HTj HN HE
        rw [← ed] at HTj hdc hd15
        have hd1 : (d : Int) < 16 := by omega
        have hd0 : (0 : Int) ≤ (d : Int) := Int.natCast_nonneg _
        obtain ⟨c, ec⟩ : ∃ c : Nat, c = 15 - d := ⟨_, rfl⟩
        have e3 : IntKind.i64.wrap (15 - (d : Int)) = (c : Int) := by rw [wrap_small _ (by omega) (by omega)]; omega
        have HCc : Hid ((c : Int) = 15 - (d : Int)) := hid (by omega)
        clear ec
        have HDc := hid hdc
        have cd : wr.cell? ⟨gd, j, none⟩ = some (.int .i64 (d : Int)) := (HO.out.bel.cell (p := ⟨gd, j, none⟩) hdc.1).trans hdc.2
        have HJ := hid (And.intro hj hjn)
        clear hj hjn ey ed hdc hd15
        go_wp2_with fail
        go_region_law
          ((first
            | (refine step_of rfl (owp_app_str _ _ rfl w1.heap.size w1 _ (chB k p j) rfl (by exact H3.out) y rfl HN.out ?_); intro v4 w4 H4)
            | (go_simp; go_at_call 42; refine (HTj.out _ _ _ (by exact HM.out) (by exact HCc.out)).mono ?_; rintro e w3 ⟨rfl, hb3⟩; have H3 := hid (HO.out.drew.keep hb3); clear hb3)))
        all_goals go_wp2
        all_goals
          go_roundw
          case rel => exact ⟨j + 1, by have := HJ.out; omega, by go_num, by rw [HE.out]; exact H4.out⟩
          case measure => simp [intOf]; omega
  · have hb : sigOk sig = false := decide_eq_false hs
    rw [show recS t sig = ⟨#[]⟩ by unfold recS; rw [hb]; rfl, hb]
    have hz : ¬ ((sig.size : Int) = 560) := by omega
    clear hs hb ht
    go_enter Try.func35, Try.ntmps35
    go_wp2
    go_ret2
    exact ⟨rfl, Below.refl _ _⟩
end Go.Proofs.Ytebhkifjommpjaa
