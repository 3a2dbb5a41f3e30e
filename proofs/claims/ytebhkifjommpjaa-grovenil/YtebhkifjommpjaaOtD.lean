/- Digits. -/
import Derived.Test.YtebhkifjommpjaaOtC
import Derived.Test.YtebhkifjommpjaaBaC
namespace Go.Proofs.Ytebhkifjommpjaa
open Go.RowKit

theorem half_hi (x : UInt8) : (x.toNat : Int) / 16 % 256 = ((x.toNat / 16 : Nat) : Int) := by have := x.toNat_lt; omega
theorem half_lo (x : UInt8) : (x.toNat : Int) % 16 = ((x.toNat % 16 : Nat) : Int) := by omega
theorem two_ints (p q : Nat) : iC (nI [p, q]) = [.int .i64 (p : Int), .int .i64 (q : Int)] := rfl
theorem three_ints (p q r : Nat) : iC (nI [p, q, r]) = [.int .i64 (p : Int), .int .i64 (q : Int), .int .i64 (r : Int)] := rfl

set_option maxRecDepth 100000 in
set_option maxHeartbeats 1600000 in
theorem digitsOf_any (d : ByteArray) (hd : 16 ≤ d.size) (w : World) :
    Calls Try.prog 62 #[.string d] w fun e w' => ∃ v, e = .returned v ∧ OwnedI w.heap.size w w' v (nI (dgN (d.data.toList.take 16))) := by
  obtain ⟨i0, hi0, hz0, hz1, hz2⟩ := info_parts Try.info3
  have HMk : Hid (∀ u : World, (Instr.makeSlice 63 (.int .i64 0) (.int .i64 35)).run Try.prog u = .ok (.slice (some ⟨u.heap.size, 0, none⟩) 0 35) (u.alloc (.cells (madeCells #[.int .i64 0] 35) 3))) := hid (fun u => by
    have h := run_make (P := Try.prog) u 63 3 i0 (.int .i64 0) Try.underlying63 hi0 hz0 .i64 .i64 0 35 (by omega) (by omega) (by rw [hz2]; omega) (by omega)
    rw [hz1] at h
    exact h)
  obtain ⟨D, eD⟩ : ∃ D, D = d.data.toList.take 16 := ⟨_, rfl⟩
  have hD : D.length = 16 := by rw [eD, List.length_take, data_len]; omega
  rw [← eD]
  have hd2 : (16 : Int) ≤ (d.size : Int) := by omega
  have HD := hid (And.intro eD hD)
  clear eD hD hd
  go_enter Try.func62, Try.ntmps62
  go_wp2_with rw [HMk.out]
  go_loopw [3, 4, 9] (fun v l i wr => ∃ j : Nat, j ≤ 16 ∧ i = .int .i64 (j : Int) ∧ l = .int .i64 ((480 - sumN (D.take j) : Nat) : Int) ∧ OwnedI w.heap.size w wr v (nI (halfN (D.take j))))
    (fun _ _ i _ => (16 - intOf i).toNat)
  case atStart =>
    refine ⟨0, by omega, rfl, rfl, ?_, (Below.refl _ _).alloc (Nat.le_refl _) _, by simp⟩
    have := World.ownsRow_made (base := w.heap.size) (e := 3) (size := 1) w (madeCells #[.int .i64 0] 35) 35 (by simp) (by decide) (size_madeCells _ _)
    simpa [iC, nI, halfN] using this
  case round =>
    obtain ⟨j, hj, rfl, rfl, hO⟩ := hrel
    have HO := hid hO
    clear hO
    by_cases hj8 : j = 16
    · have hj1 : ¬ ((j : Int) < 16) := by omega
      have et : D.take j = D := List.take_of_length_le (by rw [HD.out.2]; omega)
      rw [et] at HO ⊢
      obtain ⟨L, eL⟩ : ∃ L, L = 480 - sumN D := ⟨_, rfl⟩
      rw [← eL]
      have HL := hid eL
      have hL : (L : Int) ≤ 480 := by omega
      have hL0 : (0 : Int) ≤ (L : Int) := Int.natCast_nonneg _
      have HN : Hid ((nI (halfN D)).length + 3 ≤ 40) := hid (by rw [nI_len, halfN_len, HD.out.2]; decide)
      clear eL et hj hj8
      go_wp2_with (at_builtin; refine wpList_append_own _ rfl _ _ 63 rfl w.heap.size 3 i0 (.int .i64 0) 1 8 Try.underlying63 hi0 hz0 hz1 hz2 rfl (by decide) _ _ _ rfl (HO.out.alloc _).own ⟨_, 0, none⟩ 3 3 (iC (nI [L / 256, L / 16 % 16, L % 16])) rfl rfl (World.news_of_block (t := 3) (fr := (0, 0)) (heap_alloc_last _ _)) (iC_one _) (by have := HN.out; unfold maxLen; omega) (by have := HN.out; omega) (HO.out.alloc _).le ?_; intro v3 w3 hown3 hgrow3 hnil3; have HO3 := hid ((HO.out.alloc _).grow (xs := nI [L / 256, L / 16 % 16, L % 16]) rfl hown3 hgrow3); clear hown3 hgrow3 hnil3)
      go_ret
      refine ⟨_, rfl, ?_⟩
      have := HO3.out
      rw [← nI_app, HL.out] at this
      exact this
    · have hj1 : (j : Int) < 16 := by omega
      have hj0 : (0 : Int) ≤ (j : Int) := Int.natCast_nonneg _
      obtain ⟨L, eL⟩ : ∃ L, L = 480 - sumN (D.take j) := ⟨_, rfl⟩
      rw [← eL]
      have HL := hid eL
      clear eL
      have hjd : (j : Int) < (d.size : Int) := by omega
      have hjn : j < d.size := by omega
      go_wp2
      go_quiet (fail)
      rw [half_hi, half_lo]
      have HO2 : Hid (OwnedI w.heap.size w (wr.drewN nq) u3 (nI (halfN (D.take j)))) := hid (HO.out.same rfl rfl rfl rfl)
      have hget : D[j]? = some d[j] := by
        rw [HD.out.1, List.getElem?_take_of_lt (by omega), Array.getElem?_toList]
        exact Array.getElem?_eq_getElem _
      have es := sumN_snoc D j _ hget
      have eh := halfN_snoc D j _ hget
      have hle := sumN_le (D.take (j + 1))
      rw [es, List.length_take, HD.out.2] at hle
      unfold twoN at eh
      have hb := d[j].toNat_lt
      generalize d[j].toNat = x at es eh hle hb ⊢
      obtain ⟨p, ep⟩ : ∃ p, p = x / 16 := ⟨_, rfl⟩
      obtain ⟨q, eq⟩ : ∃ q, q = x % 16 := ⟨_, rfl⟩
      rw [← ep, ← eq] at es eh hle ⊢
      have hp : (p : Int) < 16 := by omega
      have hq : (q : Int) < 16 := by omega
      have hp0 : (0 : Int) ≤ (p : Int) := by omega
      have hq0 : (0 : Int) ≤ (q : Int) := by omega
      have hL : (L : Int) ≤ 480 := by have := HL.out; omega
      have hL0 : (0 : Int) ≤ (L : Int) := by omega
      have HN : Hid ((nI (halfN (D.take j))).length + 2 ≤ 40) := hid (by rw [nI_len, halfN_len, List.length_take, HD.out.2]; omega)
      have HE := hid (And.intro es (And.intro eh hle))
      have HJ := hid (And.intro hj hj8)
      clear es eh hle hget HO ep eq hb hj hj8
      go_wp2_with (at_builtin; refine wpList_append_own _ rfl _ _ 63 rfl w.heap.size 3 i0 (.int .i64 0) 1 8 Try.underlying63 hi0 hz0 hz1 hz2 rfl (by decide) _ _ _ rfl (HO2.out.alloc _).own ⟨_, 0, none⟩ 2 2 (iC (nI [p, q])) rfl rfl (World.news_of_block (t := 3) (fr := (0, 0)) (heap_alloc_last _ _)) (iC_one _) (by have := HN.out; unfold maxLen; omega) (by have := HN.out; omega) (HO2.out.alloc _).le ?_; intro v3 w3 hown3 hgrow3 hnil3; have HO3 := hid ((HO2.out.alloc _).grow (xs := nI [p, q]) rfl hown3 hgrow3); clear hown3 hgrow3 hnil3)
      go_roundw
      case rel =>
        refine ⟨j + 1, by have := HJ.out; omega, by go_num, ?_, ?_⟩
        · have h1 := HL.out
          have h2 := HE.out.1
          have h3 := HE.out.2.2
          have h4 := HJ.out
          congr 1
          omega
        · have := HO3.out
          rw [← nI_app] at this
          rw [HE.out.2.1]
          exact this
      case measure => simp [intOf]; omega
theorem shaS_take (t : ByteArray) : (shaS t).data.toList.take 16 = (shaB t.data.toList).take 16 := rfl
set_option maxRecDepth 100000 in
set_option maxHeartbeats 1600000 in
/-- The digits of a text lie in a row of their own. -/
theorem odigits_le (t : ByteArray) (ht : t.size ≤ 1000000) (w : World) :
    Calls Try.prog 44 #[.string t] w fun e w' => ∃ g cap, e = .returned (.slice (some ⟨g, 0, none⟩) 35 cap) ∧ w.heap.size ≤ g ∧ g < w'.heap.size ∧ IntsIn w' (some ⟨g, 0, none⟩) (nI (txtN t)) ∧ Below w.heap.size w w' := by
  obtain ⟨T, eT⟩ : ∃ T, T = shaS t := ⟨_, rfl⟩
  have HS : Hid (∀ (u : World) (g : Nat), g = u.heap.size → Calls Try.prog 41 #[.slice (some ⟨g, 0, none⟩) 1 1] (u.alloc (.cells #[.string t] 9)) fun e w' => e = .returned (.string T) ∧ Below u.heap.size u w') :=
    hid (fun u g hg => by rw [eT]; exact sum_one t (by omega) u g hg)
  have HD : Hid (∀ u : World, Calls Try.prog 62 #[.string T] u fun e w' => ∃ v, e = .returned v ∧ OwnedI u.heap.size u w' v (nI (txtN t))) :=
    hid (fun u => by
      have := digitsOf_any T (by rw [eT, shaS_size]; decide) u
      rw [eT, shaS_take] at this
      rw [eT]
      exact this)
  clear eT ht
  go_enter Try.func44, Try.ntmps44
  go_wp2_with (first
    | (go_at_call 41; refine (HS.out _ _ (by simp)).mono ?_; rintro e w1 ⟨rfl, hb1⟩; have H1 := hid hb1; clear hb1)
    | (go_at_call 62; refine (HD.out _).mono ?_; rintro e w2 ⟨v, rfl, ho⟩; have H2 := hid ho; clear ho))
  go_ret
  obtain ⟨g, cap, hv, _, _, hg, hB, hc⟩ := H2.out.form (by rw [nI_len, txtN_len]; decide)
  rw [nI_len, txtN_len] at hv
  subst hv
  exact ⟨g, cap, rfl, Nat.le_trans H1.out.size hB, hg, .inr ⟨g, 0, rfl, hg, fun j z hz => by rw [Nat.zero_add]; exact hc j z hz⟩, H1.out.trans (H2.out.bel.mono H1.out.size)⟩
theorem dig_cell {u : World} {g : Nat} {t : ByteArray} (h : IntsIn u (some ⟨g, 0, none⟩) (nI (txtN t))) (j : Nat) (hj : j < 35) : g < u.heap.size ∧ u.cell? ⟨g, j, none⟩ = some (.int .i64 (((txtN t).getD j 0 : Nat) : Int)) := by
  obtain ⟨g', off, eg, hg, hc⟩ := h.at j _ (nI_get _ j (by rw [txtN_len]; exact hj))
  obtain ⟨rfl, rfl⟩ : g = g' ∧ 0 = off := by simp at eg; exact eg
  rw [Nat.zero_add] at hc
  exact ⟨hg, hc⟩
end Go.Proofs.Ytebhkifjommpjaa
