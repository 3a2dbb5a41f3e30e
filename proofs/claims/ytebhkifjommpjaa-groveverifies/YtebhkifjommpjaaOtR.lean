/- The document's steps, beginnings and digits. -/
import Derived.Test.YtebhkifjommpjaaOtG
import Derived.Test.YtebhkifjommpjaaGnI
namespace Go.Proofs.Ytebhkifjommpjaa
open Go.RowKit

set_option maxRecDepth 100000 in
set_option maxHeartbeats 1600000 in
theorem pstep_le (x : ByteArray) (hx : x.size ≤ 1000000) (k : Nat) (hk : k ≤ 15) (w : World) :
    Calls Try.prog 42 #[.string x, .int .i64 (k : Int)] w fun e w' => e = .returned (.string (stepN k x)) ∧ Below w.heap.size w w' := by
  have HX := hid hx
  have hk2 : (k : Int) ≤ 15 := by omega
  clear hx
  go_enter Try.func42, Try.ntmps42
  go_wp2
  go_loopw [0, 5] (fun v i wr => ∃ j : Nat, j ≤ k ∧ i = .int .i64 (j : Int) ∧ v = .string (stepN j x) ∧ Below w.heap.size w wr)
    (fun _ i _ => ((k : Int) - intOf i).toNat)
  case atStart => exact ⟨0, by omega, rfl, rfl, Below.refl _ _⟩
  case round =>
    obtain ⟨j, hj, rfl, rfl, hbel⟩ := hrel
    have HB := hid hbel
    clear hbel
    by_cases hjn : j = k
    · have hj1 : ¬ ((j : Int) < (k : Int)) := by omega
      have HJ := hid hjn
      clear hj hjn
      go_wp2
      go_ret
      exact ⟨by rw [HJ.out]; rfl, HB.out⟩
    · have hj1 : (j : Int) < (k : Int) := by omega
      have hj0 : (0 : Int) ≤ (j : Int) := Int.natCast_nonneg _
      have hj15 : (j : Int) < 15 := by omega
      obtain ⟨y, ey⟩ : ∃ y, y = stepN j x := ⟨_, rfl⟩
      obtain ⟨T, eT⟩ : ∃ T, T = shaS y := ⟨_, rfl⟩
      have HS : Hid (∀ u : World, Calls Try.prog 36 #[.string y] u fun e w' => e = .returned (.string T) ∧ Below u.heap.size u w') :=
        hid (fun u => by rw [eT]; exact qsum_s y (by rw [ey]; exact Nat.le_trans (stepN_le j x 1000000 HX.out (by decide)) (by decide)) u)
      have hT : (16 : Int) ≤ (T.size : Int) := by rw [eT, shaS_size]; decide
      have HT : Hid (T.extract 0 16 = stepN (j + 1) x) := hid (by rw [eT, shaS_16, ey, stepN_succ])
      rw [← ey]
      clear ey eT
      go_wp2_with (go_at_call 36; refine (HS.out _).mono ?_; rintro e w1 ⟨rfl, hb1⟩; have H1 := hid (HB.out.trans (hb1.mono HB.out.size)); clear hb1)
      go_roundw
      case rel => exact ⟨j + 1, by omega, by go_num, by rw [← HT.out], H1.out⟩
      case measure => simp [intOf]; omega

set_option maxRecDepth 100000 in
set_option maxHeartbeats 1600000 in
theorem pbegin_le (seed : ByteArray) (hs : seed.size ≤ 1000000) (leaf j : Nat) (hl : leaf < 256) (hj : j < 35) (w : World) :
    Calls Try.prog 43 #[.string seed, .int .i64 (leaf : Int), .int .i64 (j : Int)] w fun e w' => e = .returned (.string (begS seed leaf j)) ∧ Below w.heap.size w w' := by
  obtain ⟨c, ec⟩ : ∃ c : ByteArray, c = ⟨#[UInt8.ofNat leaf, UInt8.ofNat j]⟩ := ⟨_, rfl⟩
  have hc : c.size = 2 := by rw [ec]; rfl
  obtain ⟨T, eT⟩ : ∃ T : ByteArray, T = shaS (seed ++ c) := ⟨_, rfl⟩
  have HC : Hid (∀ (u : World), (convert 55 9 (.slice (some ⟨u.heap.size, 0, none⟩) 2 2)).run Try.prog (u.alloc (.cells #[.int .u8 (leaf : Int), .int .u8 (j : Int)] 5)) = .ok (.string c) (u.alloc (.cells #[.int .u8 (leaf : Int), .int .u8 (j : Int)] 5))) :=
    hid (fun u => by rw [ec]; exact two_text leaf j hl (by omega) u _ rfl)
  have HT : Hid (T.extract 0 16 = begS seed leaf j) := hid (by
    rw [eT, shaS_16, st16, ByteArray.data_append, Array.toList_append, ec]
    rfl)
  have hT : (16 : Int) ≤ (T.size : Int) := by rw [eT, shaS_size]; decide
  have HM : Hid (∀ u : World, Calls Try.prog 36 #[.string (seed ++ c)] u fun e w' => e = .returned (.string T) ∧ Below u.heap.size u w') := hid (fun u => by rw [eT]; exact qsum_s (seed ++ c) (by rw [ByteArray.size_append]; omega) u)
  have hs2 : (seed.size : Int) ≤ 1000000 := by omega
  have hc2 : (c.size : Int) = 2 := by omega
  have hl0 : (0 : Int) ≤ (leaf : Int) := Int.natCast_nonneg _
  have hl1 : (leaf : Int) < 256 := by omega
  have hj0 : (0 : Int) ≤ (j : Int) := Int.natCast_nonneg _
  have hj1 : (j : Int) < 35 := by omega
  clear ec eT hs hl hj hc
  go_enter Try.func43, Try.ntmps43
  go_wp2_with (first
    | rw [HC.out]
    | (go_at_call 36; refine (HM.out _).mono ?_; rintro e w1 ⟨rfl, hb1⟩; have H1 := hid (((Below.refl w.heap.size w).alloc (Nat.le_refl _) _).trans (hb1.mono (by simp))); clear hb1))
  go_ret
  exact ⟨by rw [← HT.out]; rfl, H1.out⟩

theorem wrap_byte (x : UInt8) : wrap64 (x.toNat : Int) = (x.toNat : Int) := by have := x.toNat_lt; simp only [wrap64]; omega
theorem half_hiX (x : UInt8) : wrap64 ((wrap64 (x.toNat : Int)).tdiv 16) = ((x.toNat / 16 : Nat) : Int) := by
  have := x.toNat_lt
  rw [wrap_byte, Int.tdiv_eq_ediv_of_nonneg (by omega)]
  simp only [wrap64]
  omega
theorem half_loX (x : UInt8) : (wrap64 (x.toNat : Int)).tmod 16 = ((x.toNat % 16 : Nat) : Int) := by
  rw [wrap_byte, Int.tmod_eq_emod_of_nonneg (by omega)]
  omega
set_option maxRecDepth 100000 in
set_option maxHeartbeats 1600000 in
theorem pdigits_le (t : ByteArray) (ht : t.size ≤ 1000000) (w : World) :
    Calls Try.prog 49 #[.string t] w fun e w' => ∃ g cap, e = .returned (.slice (some ⟨g, 0, none⟩) 35 cap) ∧ w.heap.size ≤ g ∧ g < w'.heap.size ∧ IntsIn w' (some ⟨g, 0, none⟩) (nI (txtN t)) ∧ Below w.heap.size w w' := by
  obtain ⟨i0, hi0, hz0, hz1, hz2⟩ := info_parts Try.info3
  obtain ⟨d, ed⟩ : ∃ d, d = shaS t := ⟨_, rfl⟩
  have HS : Hid (∀ u : World, Calls Try.prog 36 #[.string t] u fun e w' => e = .returned (.string d) ∧ Below u.heap.size u w') := hid (fun u => by rw [ed]; exact qsum_s t (by omega) u)
  obtain ⟨D, eD⟩ : ∃ D, D = d.data.toList.take 16 := ⟨_, rfl⟩
  have hd : d.size = 32 := by rw [ed, shaS_size]
  have hD : D.length = 16 := by rw [eD, List.length_take, data_len]; omega
  have eN : txtN t = dgN D := by rw [eD, ed, shaS_take]; rfl
  rw [eN]
  have hd2 : (16 : Int) ≤ (d.size : Int) := by omega
  have HD := hid (And.intro eD hD)
  clear eD hD hd eN ed ht
  go_enter Try.func49, Try.ntmps49
  go_wp2_with (go_at_call 36; refine (HS.out _).mono ?_; rintro e w1 ⟨rfl, hb1⟩; have H1 := hid hb1; clear hb1)
  go_loopw [4, 5, 6] (fun v l i wr => ∃ j : Nat, j ≤ 16 ∧ i = .int .i64 (j : Int) ∧ l = .int .i64 ((30 * j - sumN (D.take j) : Nat) : Int) ∧ OwnedI w1.heap.size w1 wr v (nI (halfN (D.take j))))
    (fun _ _ i _ => (16 - intOf i).toNat)
  case atStart => exact ⟨0, by omega, rfl, rfl, OwnedI.nil (Below.refl _ _) (Nat.le_refl _)⟩
  case round =>
    obtain ⟨j, hj, rfl, rfl, hO⟩ := hrel
    have HO := hid hO
    clear hO
    by_cases hj8 : j = 16
    · have hj1 : ¬ ((j : Int) < 16) := by omega
      have et : D.take j = D := List.take_of_length_le (by rw [HD.out.2]; omega)
      rw [et] at HO ⊢
      obtain ⟨L, eL⟩ : ∃ L, L = 30 * j - sumN D := ⟨_, rfl⟩
      rw [← eL]
      have HL : Hid (L = 480 - sumN D) := hid (by rw [eL, hj8])
      have hL : (L : Int) ≤ 480 := by have := HL.out; omega
      have hL0 : (0 : Int) ≤ (L : Int) := Int.natCast_nonneg _
      have HN : Hid ((nI (halfN D)).length + 3 ≤ 40) := hid (by rw [nI_len, halfN_len, HD.out.2]; decide)
      clear eL et hj hj8
      go_wp2_with (at_builtin; refine wpList_append_own _ rfl _ _ 63 rfl w1.heap.size 3 i0 (.int .i64 0) 1 8 Try.underlying63 hi0 hz0 hz1 hz2 rfl (by decide) _ _ _ rfl (HO.out.alloc _).own ⟨_, 0, none⟩ 3 3 (iC (nI [L / 256, L / 16 % 16, L % 16])) rfl rfl (World.news_of_block (t := 3) (fr := (0, 0)) (heap_alloc_last _ _)) (iC_one _) (by have := HN.out; unfold maxLen; omega) (by have := HN.out; omega) (HO.out.alloc _).le ?_; intro v3 w3 hown3 hgrow3 hnil3; have HO3 := hid ((HO.out.alloc _).grow (xs := nI [L / 256, L / 16 % 16, L % 16]) rfl hown3 hgrow3); clear hown3 hgrow3 hnil3)
      go_ret
      have ho := HO3.out
      rw [← nI_app, HL.out, show halfN D ++ [(480 - sumN D) / 256, (480 - sumN D) / 16 % 16, (480 - sumN D) % 16] = dgN D from rfl] at ho
      obtain ⟨g, cap, hv, _, _, hg, hB, hc⟩ := ho.form (by rw [nI_len, dgN_len D HD.out.2]; decide)
      rw [nI_len, dgN_len D HD.out.2] at hv
      subst hv
      exact ⟨g, ⟨cap, rfl⟩, Nat.le_trans H1.out.size hB, hg, .inr ⟨g, 0, rfl, hg, fun j z hz => by rw [Nat.zero_add]; exact hc j z hz⟩, H1.out.trans (ho.bel.mono H1.out.size)⟩
    · have hj1 : (j : Int) < 16 := by omega
      have hj0 : (0 : Int) ≤ (j : Int) := Int.natCast_nonneg _
      obtain ⟨L, eL⟩ : ∃ L, L = 30 * j - sumN (D.take j) := ⟨_, rfl⟩
      rw [← eL]
      have HL := hid eL
      clear eL
      have hjd : (j : Int) < (d.size : Int) := by omega
      have hjn : j < d.size := by omega
      go_wp2
      go_quiet (fail)
      rw [half_hiX, half_loX]
      have HO2 : Hid (OwnedI w1.heap.size w1 (wr.drewN nq) u4 (nI (halfN (D.take j)))) := hid (HO.out.same rfl rfl rfl rfl)
      have hget : D[j]? = some d[j] := by
        rw [HD.out.1, List.getElem?_take_of_lt (by omega), Array.getElem?_toList]
        exact Array.getElem?_eq_getElem _
      have es := sumN_snoc D j _ hget
      have eh := halfN_snoc D j _ hget
      have hle := sumN_le (D.take j)
      rw [List.length_take, HD.out.2] at hle
      unfold twoN at eh
      have hb := d[j].toNat_lt
      generalize d[j].toNat = x at es eh hb ⊢
      obtain ⟨p, ep⟩ : ∃ p, p = x / 16 := ⟨_, rfl⟩
      obtain ⟨q, eq⟩ : ∃ q, q = x % 16 := ⟨_, rfl⟩
      rw [← ep, ← eq] at es eh ⊢
      have hp : (p : Int) < 16 := by omega
      have hq : (q : Int) < 16 := by omega
      have hp0 : (0 : Int) ≤ (p : Int) := by omega
      have hq0 : (0 : Int) ≤ (q : Int) := by omega
      have hL : (L : Int) ≤ 480 := by have := HL.out; omega
      have hL0 : (0 : Int) ≤ (L : Int) := by omega
      have HN : Hid ((nI (halfN (D.take j))).length + 2 ≤ 40) := hid (by rw [nI_len, halfN_len, List.length_take, HD.out.2]; omega)
      have HE := hid (And.intro es (And.intro eh hle))
      have HJ := hid (And.intro hj hj8)
      clear es eh hle hget HO ep eq hb hj hj8
      go_wp2_with (at_builtin; refine wpList_append_own _ rfl _ _ 63 rfl w1.heap.size 3 i0 (.int .i64 0) 1 8 Try.underlying63 hi0 hz0 hz1 hz2 rfl (by decide) _ _ _ rfl (HO2.out.alloc _).own ⟨_, 0, none⟩ 2 2 (iC (nI [p, q])) rfl rfl (World.news_of_block (t := 3) (fr := (0, 0)) (heap_alloc_last _ _)) (iC_one _) (by have := HN.out; unfold maxLen; omega) (by have := HN.out; omega) (HO2.out.alloc _).le ?_; intro v3 w3 hown3 hgrow3 hnil3; have HO3 := hid ((HO2.out.alloc _).grow (xs := nI [p, q]) rfl hown3 hgrow3); clear hown3 hgrow3 hnil3)
      go_roundw
      case rel =>
        refine ⟨j + 1, by have := HJ.out; omega, by go_num, ?_, ?_⟩
        · have h1 := HL.out
          have h2 := HE.out.1
          have h3 := HE.out.2.2
          have h4 := HJ.out
          congr 1
          omega
        · have := HO3.out
          rw [← nI_app] at this
          rw [HE.out.2.1]
          exact this
      case measure => simp [intOf]; omega
end Go.Proofs.Ytebhkifjommpjaa
