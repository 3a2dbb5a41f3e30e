/- The document's public keys, signatures, and what a signature leads to. -/
import Derived.Test.YtebhkifjommpjaaOtR
namespace Go.Proofs.Ytebhkifjommpjaa
open Go.RowKit

theorem ch_room (k : Nat → Nat) (p : Nat → ByteArray) (j : Nat) (hj : j < 35) (hp : ∀ i, i < 35 → (p i).size = 16) : (chB k p j).length + (stepN (k j) (p j)).size ≤ 140737488355328 := by
  have := ch_bound k p j (by omega) hp
  rw [stepN_size _ _ (hp j hj)]
  omega

set_option maxRecDepth 100000 in
set_option maxHeartbeats 1600000 in
theorem ppublic_le (seed : ByteArray) (hs : seed.size ≤ 1000000) (n : Int) (w : World) :
    Calls Try.prog 27 #[.string seed, .int .i64 n] w fun e w' => e = .returned (.tuple #[.string (pubS seed n), .int .i64 (leafE n)]) ∧ Below w.heap.size w w' := by
  cases hb : leafB n with
  | false =>
    rw [show pubS seed n = ⟨#[]⟩ by unfold pubS; rw [hb]; rfl, show leafE n = 1 by unfold leafE; rw [hb]; rfl]
    have hn := of_decide_eq_false hb
    by_cases h0 : n < 0
    · clear hb hs hn
      go_enter Try.func27, Try.ntmps27
      go_wp2
      go_ret2
      exact ⟨rfl, Below.refl _ _⟩
    · have h1 : ¬ (n < 0) := h0
      have h2 : 255 < n := by omega
      clear hb hs hn h0
      go_enter Try.func27, Try.ntmps27
      go_wp2
      go_ret2
      exact ⟨rfl, Below.refl _ _⟩
  | true =>
    obtain ⟨leaf, rfl, hl⟩ := leaf_nat hb
    obtain ⟨p, ep⟩ : ∃ p : Nat → ByteArray, p = begS seed leaf := ⟨_, rfl⟩
    obtain ⟨k, ek⟩ : ∃ k : Nat → Nat, k = fun _ => 15 := ⟨_, rfl⟩
    obtain ⟨Y, eY⟩ : ∃ Y : ByteArray, Y = ⟨(chB k p 35).toArray⟩ := ⟨_, rfl⟩
    obtain ⟨T, eT⟩ : ∃ T, T = shaS Y := ⟨_, rfl⟩
    rw [show pubS seed (leaf : Int) = T by unfold pubS; rw [hb, eT, eY, ep, ek, Int.toNat_natCast]; rfl, show leafE (leaf : Int) = 0 by unfold leafE; rw [hb]; rfl]
    have HP : Hid (∀ i, (p i).size = 16) := hid (fun i => by rw [ep]; exact begS_size _ _ _)
    have hY : Y.size = 560 := by rw [eY, mk_size, chB_len _ _ _ (fun i _ => HP.out i)]
    have HG : Hid (∀ (j : Nat) (u : World), j < 35 → Calls Try.prog 43 #[.string seed, .int .i64 (leaf : Int), .int .i64 (j : Int)] u fun e w' => e = .returned (.string (p j)) ∧ Below u.heap.size u w') := hid (fun j u hj => by rw [ep]; exact pbegin_le seed hs leaf j hl hj u)
    have HT : Hid (∀ (j : Nat) (u : World), Calls Try.prog 42 #[.string (p j), .int .i64 15] u fun e w' => e = .returned (.string (stepN (k j) (p j))) ∧ Below u.heap.size u w') := hid (fun j u => by rw [ek]; exact pstep_le (p j) (by rw [HP.out]; decide) 15 (by decide) u)
    have HS : Hid (∀ u : World, Calls Try.prog 36 #[.string Y] u fun e w' => e = .returned (.string T) ∧ Below u.heap.size u w') := hid (fun u => by rw [eT]; exact qsum_s Y (by omega) u)
    have HY := hid eY
    have hl0 : ¬ ((leaf : Int) < 0) := by omega
    have hl1 : ¬ (255 < (leaf : Int)) := by omega
    have hl2 : (leaf : Int) < 256 := by omega
    clear eY eT hY hs hl hb ep ek
    go_enter Try.func27, Try.ntmps27
    go_wp2
    go_loopw [6, 7] (fun v i wr => ∃ j : Nat, j ≤ 35 ∧ i = .int .i64 (j : Int) ∧ Owned w.heap.size w wr v (chB k p j))
      (fun _ i _ => (35 - intOf i).toNat)
    case atStart => exact ⟨0, by omega, rfl, Owned.nil (Below.refl _ _) (Nat.le_refl _)⟩
    case round =>
      obtain ⟨j, hj, rfl, hO⟩ := hrel
      have HO := hid hO
      clear hO
      by_cases hjn : j = 35
      · have hj1 : ¬ ((j : Int) < 35) := by omega
        subst hjn
        have hc := HO.out.text
        rw [← HY.out] at hc
        have HC := hid hc
        clear hc hj
        go_wp2_with (first
          | rw [HC.out]
          | (go_at_call 36; refine (HS.out _).mono ?_; rintro e w3 ⟨rfl, hb3⟩; have H3 := hid (HO.out.bel.trans (hb3.mono HO.out.le)); clear hb3))
        go_ret2
        exact ⟨rfl, H3.out⟩
      · have hj1 : (j : Int) < 35 := by omega
        have hj0 : (0 : Int) ≤ (j : Int) := Int.natCast_nonneg _
        have HN : Hid ((chB k p j).length + (stepN (k j) (p j)).size ≤ 140737488355328) := hid (ch_room k p j (by omega) (fun i _ => HP.out i))
        have HE := hid (chB_succ k p j)
        have HGj : Hid (∀ u : World, Calls Try.prog 43 #[.string seed, .int .i64 (leaf : Int), .int .i64 (j : Int)] u fun e w' => e = .returned (.string (p j)) ∧ Below u.heap.size u w') := hid (fun u => HG.out j u (by omega))
        have HTj := hid (HT.out j)
        obtain ⟨y, ey⟩ : ∃ y, y = stepN (k j) (p j) := ⟨_, rfl⟩
        obtain ⟨x, ex⟩ : ∃ x, x = p j := ⟨_, rfl⟩
        rw [← ey] at HTj HN HE
        rw [← ex] at HTj HGj
        have HJ := hid (And.intro hj hjn)
        clear hj hjn ey ex
        go_wp2_with (first
          | (go_at_call 43; refine (HGj.out _).mono ?_; rintro e w2 ⟨rfl, hb2⟩; have H2 := hid (HO.out.keep hb2); clear hb2)
          | (go_at_call 42; refine (HTj.out _).mono ?_; rintro e w3 ⟨rfl, hb3⟩; have H3 := hid (H2.out.keep hb3); clear hb3)
          | (at_builtin; refine wl_app_str rfl _ _ rfl w.heap.size w _ (chB k p j) rfl (by exact H3.out) y rfl HN.out ?_; intro v4 w4 H4))
        go_roundw
        case rel => exact ⟨j + 1, by have := HJ.out; omega, by go_num, by rw [HE.out]; exact H4.out⟩
        case measure => simp [intOf]; omega
end Go.Proofs.Ytebhkifjommpjaa
