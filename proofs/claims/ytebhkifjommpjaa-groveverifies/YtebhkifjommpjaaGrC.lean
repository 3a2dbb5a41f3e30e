/- The document's leaves and signatures. -/
import Derived.Test.YtebhkifjommpjaaGrB
namespace Go.Proofs.Ytebhkifjommpjaa
open Go.RowKit

theorem pub_yes (seed : ByteArray) (j : Nat) (hj : j < 256) : pubS seed (j : Int) = pubN seed j ∧ leafE (j : Int) = 0 := by
  have hb : leafB (j : Int) = true := leafB_yes (by omega) (by omega)
  exact ⟨by unfold pubS; rw [hb, Int.toNat_natCast]; rfl, by unfold leafE; rw [hb]; rfl⟩
theorem sign_yes (seed : ByteArray) (j : Nat) (hj : j < 256) (t : ByteArray) : signS seed (j : Int) t = ⟨(signB seed j t).toArray⟩ ∧ leafE (j : Int) = 0 := by
  have hb : leafB (j : Int) = true := leafB_yes (by omega) (by omega)
  exact ⟨by unfold signS; rw [hb, Int.toNat_natCast]; rfl, by unfold leafE; rw [hb]; rfl⟩
theorem leafL_take (seed : ByteArray) (h j : Nat) (hj : j < 2 ^ h) : (leafL seed h).take (j + 1) = (leafL seed h).take j ++ [pubN seed j] := by
  rw [List.take_add_one, leafL_get seed h j hj]
  rfl
set_option maxRecDepth 100000 in
set_option maxHeartbeats 1600000 in
theorem hleaves_le (seed : ByteArray) (hs : seed.size ≤ 1000000) (h : Nat) (hh : h ≤ 5) (w : World) :
    Calls Try.prog 15 #[.string seed, .int .i64 (h : Int)] w fun e w' => ∃ v, e = .returned v ∧ OwnedS w.heap.size w w' v (leafL seed h) := by
  obtain ⟨i0, hi0, hz0, hz1, hz2⟩ := info_parts Try.info9
  obtain ⟨N, eN⟩ : ∃ N, N = 2 ^ h := ⟨_, rfl⟩
  have hN : N ≤ 32 := by rw [eN]; exact pow_le5 h hh
  obtain ⟨L, eL⟩ : ∃ L, L = leafL seed h := ⟨_, rfl⟩
  rw [← eL]
  have HL : Hid (L.length = N ∧ ∀ j, j < N → L.take (j + 1) = L.take j ++ [pubN seed j]) := hid ⟨by rw [eL, leafL_len, eN], fun j hj => by rw [eL]; exact leafL_take seed h j (by rw [← eN]; exact hj)⟩
  have HP : Hid (∀ u : World, Calls Try.prog 26 #[.int .i64 (h : Int)] u fun e w' => e = .returned (.int .i64 (N : Int)) ∧ w' = u) := hid (fun u => by rw [eN]; exact hpower_le h hh u)
  have HK : Hid (∀ j, j < N → ∀ u : World, Calls Try.prog 27 #[.string seed, .int .i64 (j : Int)] u fun e w' => e = .returned (.tuple #[.string (pubN seed j), .int .i64 0]) ∧ Below u.heap.size u w') := hid (fun j hj u => by
    have := ppublic_le seed hs (j : Int) u
    rwa [(pub_yes seed j (by omega)).1, (pub_yes seed j (by omega)).2] at this)
  have hN1 : (N : Int) ≤ 32 := by omega
  have HN := hid hN
  clear eN eL hs hh hN
  go_enter Try.func15, Try.ntmps15
  go_wp2
  go_loopw [5, 6] (fun v i wr => ∃ j : Nat, j ≤ N ∧ i = .int .i64 (j : Int) ∧ OwnedS w.heap.size w wr v (L.take j))
    (fun _ i _ => ((N : Int) - intOf i).toNat)
  case atStart => exact ⟨0, by omega, rfl, OwnedS.nil (Below.refl _ _) (Nat.le_refl _)⟩
  case round =>
    obtain ⟨j, hj, rfl, hO⟩ := hrel
    have HO := hid hO
    clear hO
    by_cases hjn : j = N
    · have hj1 : ¬ ((j : Int) < (N : Int)) := by omega
      have HJ := hid hjn
      clear hj hjn
      go_wp2_with (go_at_call 26; refine (HP.out _).mono ?_; rintro e wx ⟨rfl, rfl⟩)
      go_ret
      refine ⟨_, rfl, ?_⟩
      have ho := HO.out
      rwa [HJ.out, List.take_of_length_le (by rw [HL.out.1]; exact Nat.le_refl _)] at ho
    · have hj1 : (j : Int) < (N : Int) := by omega
      have hj0 : (0 : Int) ≤ (j : Int) := Int.natCast_nonneg _
      have HKj : Hid (∀ u : World, Calls Try.prog 27 #[.string seed, .int .i64 (j : Int)] u fun e w' => e = .returned (.tuple #[.string (pubN seed j), .int .i64 0]) ∧ Below u.heap.size u w') := hid (HK.out j (by omega))
      have HE : Hid (L.take (j + 1) = L.take j ++ [pubN seed j]) := hid (HL.out.2 j (by omega))
      obtain ⟨X, eX⟩ : ∃ X, X = pubN seed j := ⟨_, rfl⟩
      rw [← eX] at HKj HE
      have HB : Hid ((L.take j).length + 1 ≤ 33) := hid (by rw [List.length_take]; have := HN.out; omega)
      have HJ := hid (And.intro hj hjn)
      clear hj hjn eX
      go_wp2_with (first
        | (go_at_call 26; refine (HP.out _).mono ?_; rintro e wx ⟨rfl, rfl⟩)
        | (go_at_call 27; refine (HKj.out _).mono ?_; rintro e w2 ⟨rfl, hb2⟩; have H2 := hid (HO.out.keep hb2); clear hb2)
        | (at_builtin; refine wpList_append_own _ rfl _ _ 34 rfl w.heap.size 9 i0 (.string ⟨#[]⟩) 1 16 Try.underlying34 hi0 hz0 hz1 hz2 rfl (by decide) _ _ _ rfl (H2.out.alloc _).own ⟨_, 0, none⟩ 1 1 (sC [X]) rfl rfl (World.news_of_block (t := 9) (fr := (0, 0)) (heap_alloc_last _ _)) (sC_one _) (by have := HB.out; unfold maxLen; omega) (by have := HB.out; omega) (H2.out.alloc _).le ?_; intro v3 w3 hown3 hgrow3 hnil3; have H3 := hid ((H2.out.alloc _).grow (xs := [X]) rfl hown3 hgrow3); clear hown3 hgrow3 hnil3))
      go_roundw
      case rel => exact ⟨j + 1, by have := HJ.out; omega, by go_num, by rw [HE.out]; exact H3.out⟩
      case measure => simp [intOf]; omega

theorem Owned.lit1 (w : World) (b : Nat) (hb : b < 256) (g : Nat) (hg : g = w.heap.size) : Owned w.heap.size w (w.alloc (.cells #[.int .u8 (b : Int)] 5)) (.slice (some ⟨g, 0, none⟩) 1 1) [UInt8.ofNat b] := by
  subst hg
  refine ⟨⟨by simp [bC], .inr ⟨w.heap.size, 1, #[.int .u8 (b : Int)], rfl, Nat.le_refl _, heap_alloc_last w _, Nat.le_refl _, by decide, rfl, ?_⟩⟩, (Below.refl _ _).alloc (Nat.le_refl _) _, by simp⟩
  show [Value.int .u8 (b : Int)] = [Value.int .u8 ((UInt8.ofNat b).toNat : Int)]
  rw [byte_in b hb]
theorem pathB_succ (L : List ByteArray) (leaf k : Nat) : pathB L leaf (k + 1) = pathB L leaf k ++ (nodeS L (besideN (leaf / 2 ^ k) * 2 ^ k) k).data.toList := rfl
set_option maxRecDepth 100000 in
set_option maxHeartbeats 1600000 in
theorem hsign_le (seed : ByteArray) (hs : seed.size ≤ 1000000) (a : Option Addr) (cap h n leaf : Nat) (hh : h ≤ 5) (hn : n = 2 ^ h) (hl : leaf < n) (t : ByteArray) (ht : t.size ≤ 1000000) (w : World) (hS : StrsIn w a (leafL seed h)) :
    Calls Try.prog 19 #[.string seed, .slice a n cap, .int .i64 (h : Int), .int .i64 (leaf : Int), .string t] w fun e w' => e = .returned (.string (gsigS seed h leaf t)) ∧ Below w.heap.size w w' := by
  obtain ⟨L, eL⟩ : ∃ L, L = leafL seed h := ⟨_, rfl⟩
  obtain ⟨Y, eY⟩ : ∃ Y : ByteArray, Y = ⟨(signB seed leaf t).toArray⟩ := ⟨_, rfl⟩
  obtain ⟨P, eP⟩ : ∃ P : Nat → List UInt8, P = fun k => UInt8.ofNat leaf :: (signB seed leaf t ++ pathB L leaf k) := ⟨_, rfl⟩
  obtain ⟨T, eT⟩ : ∃ T : ByteArray, T = ⟨(P h).toArray⟩ := ⟨_, rfl⟩
  rw [show gsigS seed h leaf t = T by rw [eT, eP, eL]; rfl]
  rw [← eL] at hS
  have h32 := pow_le5 h hh
  have hY : Y.size = 560 := by rw [eY, mk_size, signB_len]
  have HG : Hid (∀ u : World, Calls Try.prog 31 #[.string seed, .int .i64 (leaf : Int), .string t] u fun e w' => e = .returned (.tuple #[.string Y, .int .i64 0]) ∧ Below u.heap.size u w') := hid (fun u => by
    have := psign_le seed hs (leaf : Int) t ht u
    rw [(sign_yes seed leaf (by omega) t).1, (sign_yes seed leaf (by omega) t).2] at this
    rw [eY]
    exact this)
  have HP : Hid (∀ k, k < h → ∀ u : World, Calls Try.prog 26 #[.int .i64 (k : Int)] u fun e w' => e = .returned (.int .i64 ((2 ^ k : Nat) : Int)) ∧ w' = u) := hid (fun k hk u => hpower_le k (by omega) u)
  have hpl : ∀ k, k ≤ h → (P k).length = 561 + 32 * k := fun k hk => by
    have e := path_len L (by rw [eL]; exact leafL_size seed h) leaf h (by rw [eL, leafL_len]) (by omega) k hk
    rw [eP]
    show (UInt8.ofNat leaf :: (signB seed leaf t ++ pathB L leaf k)).length = _
    rw [List.length_cons, List.length_append, signB_len, e]
    omega
  have HN : Hid (∀ k, k < h → ∀ u : World, StrsIn u a L → Calls Try.prog 25 #[.slice a n cap, .int .i64 ((besideN (leaf / 2 ^ k) * 2 ^ k : Nat) : Int), .int .i64 (k : Int)] u fun e w' => e = .returned (.string (nodeS L (besideN (leaf / 2 ^ k) * 2 ^ k) k)) ∧ Below u.heap.size u w') := hid (fun k hk u hu => by
    exact hnode_le a n cap L (by rw [eL, leafL_len, hn]) (by omega) (by rw [eL]; exact leafL_size seed h) k _ (by omega) (by rw [hn]; exact beside_lt leaf h k (by omega) hk) u hu)
  have HZ : Hid (∀ k, k < h → (nodeS L (besideN (leaf / 2 ^ k) * 2 ^ k) k).size = 32) := hid (fun k hk => nodeS_size L (by rw [eL]; exact leafL_size seed h) k _ (by rw [eL, leafL_len]; exact beside_lt leaf h k (by omega) hk))
  have HQ : Hid (P 0 = [UInt8.ofNat leaf] ++ Y.data.toList ∧ (∀ k, P (k + 1) = P k ++ (nodeS L (besideN (leaf / 2 ^ k) * 2 ^ k) k).data.toList) ∧ (∀ k, k ≤ h → (P k).length = 561 + 32 * k) ∧ T = ⟨(P h).toArray⟩) := hid ⟨by rw [eP, eY]; simp [pathB], fun k => by rw [eP]; simp [pathB_succ], hpl, eT⟩
  have HB : Hid (∀ k, k < h → besideN (leaf / 2 ^ k) * 2 ^ k + 2 ^ k ≤ 2 ^ h) := hid (fun k hk => beside_lt leaf h k (by omega) hk)
  have HS := hid (And.intro hS (And.intro hh (And.intro hn (And.intro hl (And.intro h32 hY)))))
  have hh1 : (h : Int) ≤ 5 := by omega
  have hl0 : (0 : Int) ≤ (leaf : Int) := Int.natCast_nonneg _
  have hl1 : (leaf : Int) < 32 := by omega
  clear eL eY eP eT h32 hY hpl hs ht hS hh hn hl
  go_enter Try.func19, Try.ntmps19
  go_wp2_with (first
    | (go_at_call 31; refine (HG.out _).mono ?_; rintro e w1 ⟨rfl, hb1⟩; have H1 := hid hb1; clear hb1)
    | (at_builtin; refine wl_app_str rfl _ _ rfl w1.heap.size w1 _ [UInt8.ofNat leaf] rfl (Owned.lit1 w1 leaf (by have := HS.out.2.2.2.1; have := HS.out.2.2.1; have := HS.out.2.2.2.2.1; omega) _ (by simp)) Y rfl (by have := HS.out.2.2.2.2.2; simp; omega) ?_; intro v2 w2 H2))
  go_loopw [13, 14] (fun v i wr => ∃ k : Nat, k ≤ h ∧ i = .int .i64 (k : Int) ∧ Owned w1.heap.size w1 wr v (P k))
    (fun _ i _ => ((h : Int) - intOf i).toNat)
  case atStart => exact ⟨0, by omega, rfl, by rw [HQ.out.1]; exact H2.out⟩
  case round =>
    obtain ⟨k, hk, rfl, hO⟩ := hrel
    have HO := hid hO
    clear hO
    by_cases hkn : k = h
    · have hk1 : ¬ ((k : Int) < (h : Int)) := by omega
      subst hkn
      have hc := HO.out.text
      rw [← HQ.out.2.2.2] at hc
      have HC := hid hc
      clear hc hk
      go_wp2_with rw [HC.out]
      go_ret
      exact ⟨rfl, H1.out.trans (HO.out.bel.mono H1.out.size)⟩
    · have hk1 : (k : Int) < (h : Int) := by omega
      have hk0 : (0 : Int) ≤ (k : Int) := Int.natCast_nonneg _
      have hkh : k < h := by omega
      have HPk := hid (HP.out k hkh)
      have HNk := hid (HN.out k hkh)
      have HE := hid (HQ.out.2.1 k)
      have hz := HZ.out k hkh
      have hlen := HQ.out.2.2.1 k hk
      have hbk := HB.out k hkh
      have hpk : 2 ^ k ≤ 32 := pow_le5 k (by have := HS.out.2.1; omega)
      have hpp : 0 < 2 ^ k := pow_pos2 k
      generalize 2 ^ k = p at HPk HNk HE hz hbk hpk hpp
      obtain ⟨q, eq⟩ : ∃ q, q = leaf / p := ⟨_, rfl⟩
      rw [← eq] at HNk HE hz hbk
      obtain ⟨m, em⟩ : ∃ m, m = besideN q * p := ⟨_, rfl⟩
      rw [← em] at HNk HE hz hbk
      obtain ⟨X, eX⟩ : ∃ X, X = nodeS L m k := ⟨_, rfl⟩
      rw [← eX] at HNk HE hz
      have e1 : (leaf : Int) / (p : Int) = (q : Int) := by rw [eq]; simp
      have hq : q ≤ leaf := by rw [eq]; exact Nat.div_le_self _ _
      have hq1 : (q : Int) ≤ 31 := by have := HS.out.2.2.2; have := HS.out.2.2.1; omega
      have hq0 : (0 : Int) ≤ (q : Int) := Int.natCast_nonneg _
      have hp1 : (p : Int) ≤ 32 := by omega
      have hp0 : (0 : Int) < (p : Int) := by omega
      have hm1 : (m : Int) ≤ 32 := by have := HS.out.2.2.2.2.1; omega
      have hm0 : (0 : Int) ≤ (m : Int) := Int.natCast_nonneg _
      have HL : Hid ((P k).length + X.size ≤ 140737488355328) := hid (by rw [hlen, hz]; have := HS.out.2.1; omega)
      have HJ := hid (And.intro hk hkn)
      by_cases hpar : q % 2 = 1
      · have hpar1 : (q : Int) % 2 = 1 := by omega
        have e2 : ((q : Int) - 1) * (p : Int) = (m : Int) := by
          rw [em, besideN, if_pos hpar, Int.natCast_mul]
          congr 1
          omega
        clear eq em eX hz hlen hbk hpk hpp hkh hk hkn hq hpar
        go_wp2_with (first
          | (go_at_call 26; refine (HPk.out _).mono ?_; rintro e wx ⟨rfl, rfl⟩)
          | (go_at_call 25; refine (HNk.out _ (by exact (HS.out.1.keep H1.out (Nat.le_refl _)).keep HO.out.bel (Nat.le_refl _))).mono ?_; rintro e w3 ⟨rfl, hb3⟩; have H3 := hid (HO.out.keep hb3); clear hb3)
          | (at_builtin; refine wl_app_str rfl _ _ rfl w1.heap.size w1 _ (P k) rfl (by exact H3.out) X rfl HL.out ?_; intro v4 w4 H4))
        go_roundw
        case rel => exact ⟨k + 1, by have := HJ.out; omega, by go_num, by rw [HE.out]; exact H4.out⟩
        case measure => simp [intOf]; omega
      · have hpar1 : ¬ ((q : Int) % 2 = 1) := by omega
        have e2 : ((q : Int) + 1) * (p : Int) = (m : Int) := by
          rw [em, besideN, if_neg hpar, Int.natCast_mul]
          congr 1
        clear eq em eX hz hlen hbk hpk hpp hkh hk hkn hq hpar
        go_wp2_with (first
          | (go_at_call 26; refine (HPk.out _).mono ?_; rintro e wx ⟨rfl, rfl⟩)
          | (go_at_call 25; refine (HNk.out _ (by exact (HS.out.1.keep H1.out (Nat.le_refl _)).keep HO.out.bel (Nat.le_refl _))).mono ?_; rintro e w3 ⟨rfl, hb3⟩; have H3 := hid (HO.out.keep hb3); clear hb3)
          | (at_builtin; refine wl_app_str rfl _ _ rfl w1.heap.size w1 _ (P k) rfl (by exact H3.out) X rfl HL.out ?_; intro v4 w4 H4))
        go_roundw
        case rel => exact ⟨k + 1, by have := HJ.out; omega, by go_num, by rw [HE.out]; exact H4.out⟩
        case measure => simp [intOf]; omega
end Go.Proofs.Ytebhkifjommpjaa
