/- Which signature the document takes: by its first byte and its path. -/
import Derived.Test.YtebhkifjommpjaaGrD
namespace Go.Proofs.Ytebhkifjommpjaa
open Go.RowKit

set_option maxRecDepth 100000 in
set_option maxHeartbeats 3200000 in
theorem hverify_no2 (root : ByteArray) (k : Nat) (hk : k ≤ 5) (t sig : ByteArray) (hs : sig.size = 561 + 32 * k) (hh : ¬ headN sig < 2 ^ k) (w : World) :
    Calls Try.prog 21 #[.string root, .int .i64 (k : Int), .string t, .string sig] w fun e w' => e = .returned (.bool false) ∧ Below w.heap.size w w' := by
  obtain ⟨p, ep⟩ : ∃ p, p = 2 ^ k := ⟨_, rfl⟩
  obtain ⟨hd, ehd⟩ : ∃ hd, hd = headN sig := ⟨_, rfl⟩
  rw [← ep, ← ehd] at hh
  have HP : Hid (∀ u : World, Calls Try.prog 26 #[.int .i64 (k : Int)] u fun e w' => e = .returned (.int .i64 (p : Int)) ∧ w' = u) := hid (fun u => by rw [ep]; exact hpower_le k hk u)
  have hpos : 0 < sig.size := by omega
  have hpos1 : (0 : Int) < (sig.size : Int) := by omega
  have e00 : (sig[0]'hpos).toNat = hd := by rw [ehd, head_get sig hpos]
  have hd255 : (hd : Int) < 256 := by rw [ehd, head_get sig (by omega)]; have := (sig[0]'(by omega)).toNat_lt; omega
  have hd0 : (0 : Int) ≤ (hd : Int) := Int.natCast_nonneg _
  have e0 : IntKind.i64.wrap (hd : Int) = (hd : Int) := wrap_small _ (by omega) (by omega)
  have e1 : IntKind.i64.wrap (32 * (k : Int)) = ((32 * k : Nat) : Int) := by rw [wrap_small _ (by omega) (by omega)]; omega
  obtain ⟨m1, em1⟩ : ∃ m1, m1 = 32 * k := ⟨_, rfl⟩
  rw [← em1] at e1
  obtain ⟨m2, em2⟩ : ∃ m2, m2 = 561 + m1 := ⟨_, rfl⟩
  have e2 : IntKind.i64.wrap (561 + (m1 : Int)) = (m2 : Int) := by rw [wrap_small _ (by omega) (by omega)]; omega
  have h3 : ((sig.size : Int) != (m2 : Int)) = false := by
    have : (sig.size : Int) = (m2 : Int) := by omega
    simp [this]
  have d1 : decide ((k : Int) < 0) = false := decide_eq_false (by omega)
  have d2 : decide ((5 : Int) < (k : Int)) = false := decide_eq_false (by omega)
  have d3 : decide (p ≤ hd) = true := decide_eq_true (by omega)
  clear hs hh hk ep ehd em1 em2
  go_enter Try.func21, Try.ntmps21
  go_wp2
  haveI := Cls.ne w
  refine wp_region_cls w (by kernel_rfl) (by kernel_rfl) ?_
  repeat (go_big_quiet_step ((go_at_call 26; exact Cls.of _ (fun u _ => of_same HP.out u))))
  refine wpQuiet_nil ?_
  rintro _ ⟨x, rfl⟩
  go_wp2
  go_ret
  exact ⟨rfl, x.2⟩

set_option maxRecDepth 100000 in
set_option maxHeartbeats 3200000 in
theorem hverify_yes (root : ByteArray) (k : Nat) (hk : k ≤ 5) (t sig : ByteArray) (ht : t.size ≤ 1000000) (hs : sig.size = 561 + 32 * k) (hh : headN sig < 2 ^ k) (w : World) :
    Calls Try.prog 21 #[.string root, .int .i64 (k : Int), .string t, .string sig] w fun e w' => e = .returned (.bool ((upS sig (headN sig) (recN t sig) k).toList == root.toList)) ∧ Below w.heap.size w w' := by
  obtain ⟨p, ep⟩ : ∃ p, p = 2 ^ k := ⟨_, rfl⟩
  obtain ⟨hd, ehd⟩ : ∃ hd, hd = headN sig := ⟨_, rfl⟩
  obtain ⟨N, eN⟩ : ∃ N, N = recN t sig := ⟨_, rfl⟩
  have hN : N.size ≤ 32 := by rw [eN, recN_size]; exact Nat.le_refl _
  rw [← eN, ← ehd]
  rw [← ep, ← ehd] at hh
  have HP : Hid (∀ u : World, Calls Try.prog 26 #[.int .i64 (k : Int)] u fun e w' => e = .returned (.int .i64 (p : Int)) ∧ w' = u) := hid (fun u => by rw [ep]; exact hpower_le k hk u)
  have HR : Hid (∀ u : World, Calls Try.prog 35 #[.string t, .string (sig.extract 1 561)] u fun e w' => e = .returned (.tuple #[.string N, .bool true]) ∧ Below u.heap.size u w') := hid (fun u => by
    have := precover_le t ht (oneS sig) u
    rw [(rec_yes t sig (by omega)).1, (rec_yes t sig (by omega)).2, ← eN] at this
    exact this)
  have hpos : 0 < sig.size := by omega
  have hpos1 : (0 : Int) < (sig.size : Int) := by omega
  have h561 : (561 : Int) ≤ (sig.size : Int) := by omega
  have hsz : (sig.size : Int) = 561 + 32 * (k : Int) := by omega
  have e00 : (sig[0]'hpos).toNat = hd := by rw [ehd, head_get sig hpos]
  have hd255 : (hd : Int) < 256 := by rw [ehd, head_get sig (by omega)]; have := (sig[0]'(by omega)).toNat_lt; omega
  have hd0 : (0 : Int) ≤ (hd : Int) := Int.natCast_nonneg _
  have e0 : IntKind.i64.wrap (hd : Int) = (hd : Int) := wrap_small _ (by omega) (by omega)
  have e1 : IntKind.i64.wrap (32 * (k : Int)) = ((32 * k : Nat) : Int) := by rw [wrap_small _ (by omega) (by omega)]; omega
  obtain ⟨m1, em1⟩ : ∃ m1, m1 = 32 * k := ⟨_, rfl⟩
  rw [← em1] at e1
  obtain ⟨m2, em2⟩ : ∃ m2, m2 = 561 + m1 := ⟨_, rfl⟩
  have e2 : IntKind.i64.wrap (561 + (m1 : Int)) = (m2 : Int) := by rw [wrap_small _ (by omega) (by omega)]; omega
  have h3 : ((sig.size : Int) != (m2 : Int)) = false := by
    have : (sig.size : Int) = (m2 : Int) := by omega
    simp [this]
  have d1 : decide ((k : Int) < 0) = false := decide_eq_false (by omega)
  have d2 : decide ((5 : Int) < (k : Int)) = false := decide_eq_false (by omega)
  have d3 : decide (p ≤ hd) = false := decide_eq_false (by omega)
  have hk5 : (k : Int) ≤ 5 := by omega
  have HK := hid (And.intro hs (And.intro hk hN))
  have HSZ := hid hsz
  clear hs hh hk ep ehd em1 em2 eN hN hsz ht
  go_enter Try.func21, Try.ntmps21
  go_wp2
  haveI := Cls.ne w
  refine wp_region_cls w (by kernel_rfl) (by kernel_rfl) ?_
  repeat (go_big_quiet_step ((go_at_call 26; exact Cls.of _ (fun u _ => of_same HP.out u))))
  refine wpQuiet_nil ?_
  rintro _ ⟨x, rfl⟩
  clear e0 e1 e2 h3 d1 d2 d3
  go_wp2_with (go_at_call 35; refine (HR.out _).mono ?_; rintro e w1 ⟨rfl, hb1⟩; have H1 := hid (x.2.trans (hb1.mono x.2.size)); clear hb1)
  go_loopw [9, 11, 12] (fun v q i wr => ∃ j : Nat, j ≤ k ∧ i = .int .i64 (j : Int) ∧ v = .string (upS sig hd N j) ∧ q = .int .i64 ((hd / 2 ^ j : Nat) : Int) ∧ Below w.heap.size w wr)
    (fun _ _ i _ => ((k : Int) - intOf i).toNat)
  case atStart => exact ⟨0, by omega, rfl, rfl, by rw [Nat.pow_zero, Nat.div_one], H1.out⟩
  case round =>
    obtain ⟨j, hj, rfl, rfl, rfl, hbel⟩ := hrel
    have HB := hid hbel
    clear hbel
    by_cases hjn : j = k
    · have hj1 : ¬ ((j : Int) < (k : Int)) := by omega
      subst hjn
      obtain ⟨q, eq⟩ : ∃ q, q = hd / 2 ^ j := ⟨_, rfl⟩
      rw [← eq]
      obtain ⟨X, eX⟩ : ∃ X, X = upS sig hd N j := ⟨_, rfl⟩
      rw [← eX]
      have HX := hid eX
      clear hj eq eX
      go_wp2
      go_ret
      exact ⟨by rw [← HX.out]; rfl, HB.out⟩
    · have hj1 : (j : Int) < (k : Int) := by omega
      have hj0 : (0 : Int) ≤ (j : Int) := Int.natCast_nonneg _
      have hj5 : (j : Int) < 5 := by omega
      have hj2 : 593 + 32 * (j : Int) ≤ (sig.size : Int) := by rw [HSZ.out]; omega
      have hev := upS_even sig hd N j
      have hod := upS_odd sig hd N j
      have hhalf := half_pow hd j
      have hqle : hd / 2 ^ j ≤ hd := Nat.div_le_self _ _
      have hXs : (upS sig hd N j).size ≤ 32 := upS_size sig hd N HK.out.2.2 j
      have hSs : (sideS sig j).size = 32 := side_size sig j k HK.out.1 (by omega)
      obtain ⟨q, eq⟩ : ∃ q, q = hd / 2 ^ j := ⟨_, rfl⟩
      rw [← eq] at hev hod hhalf hqle ⊢
      obtain ⟨X, eX⟩ : ∃ X, X = upS sig hd N j := ⟨_, rfl⟩
      rw [← eX] at hev hod hXs ⊢
      have HS : Hid (sideS sig j = sig.extract (561 + 32 * j) (593 + 32 * j)) := hid rfl
      obtain ⟨S, eS⟩ : ∃ S, S = sideS sig j := ⟨_, rfl⟩
      rw [← eS] at hev hod hSs HS
      have hq1 : (q : Int) < 256 := by omega
      have hq0 : (0 : Int) ≤ (q : Int) := Int.natCast_nonneg _
      have HJ := hid (And.intro hj (And.intro hjn hhalf))
      clear hqle hhalf eq eX eS hj hjn
      by_cases hpar : q % 2 = 0
      · have hpar1 : (q : Int) % 2 = 0 := by omega
        obtain ⟨T, eT⟩ : ∃ T, T = upS sig hd N (j + 1) := ⟨_, rfl⟩
        have HT : Hid (∀ u : World, Calls Try.prog 36 #[.string (X ++ sig.extract (561 + 32 * j) (593 + 32 * j))] u fun e w' => e = .returned (.string T) ∧ Below u.heap.size u w') := hid (fun u => by
          rw [eT, hev hpar, HS.out]
          refine qsum_s _ ?_ u
          rw [ByteArray.size_append, ← HS.out, hSs]
          omega)
        have hS2 : ((sig.extract (561 + 32 * j) (593 + 32 * j)).size : Int) = 32 := by rw [← HS.out, hSs]; rfl
        have hX2 : (X.size : Int) ≤ 32 := by omega
        have HU := hid eT
        clear hev hod hpar eT hSs hXs
        go_wp2_with (go_at_call 36; refine (HT.out _).mono ?_; rintro e w2 ⟨rfl, hb2⟩; have H2 := hid (HB.out.trans (hb2.mono HB.out.size)); clear hb2)
        go_roundw
        case rel => exact ⟨j + 1, by have := HJ.out; omega, by go_num, by rw [HU.out], by rw [HJ.out.2.2]; go_num, H2.out⟩
        case measure => simp [intOf]; omega
      · have hpar1 : ¬ ((q : Int) % 2 = 0) := by omega
        obtain ⟨T, eT⟩ : ∃ T, T = upS sig hd N (j + 1) := ⟨_, rfl⟩
        have HT : Hid (∀ u : World, Calls Try.prog 36 #[.string (sig.extract (561 + 32 * j) (593 + 32 * j) ++ X)] u fun e w' => e = .returned (.string T) ∧ Below u.heap.size u w') := hid (fun u => by
          rw [eT, hod hpar, HS.out]
          refine qsum_s _ ?_ u
          rw [ByteArray.size_append, ← HS.out, hSs]
          omega)
        have hS2 : ((sig.extract (561 + 32 * j) (593 + 32 * j)).size : Int) = 32 := by rw [← HS.out, hSs]; rfl
        have hX2 : (X.size : Int) ≤ 32 := by omega
        have HU := hid eT
        clear hev hod hpar eT hSs hXs
        go_wp2_with (go_at_call 36; refine (HT.out _).mono ?_; rintro e w2 ⟨rfl, hb2⟩; have H2 := hid (HB.out.trans (hb2.mono HB.out.size)); clear hb2)
        go_roundw
        case rel => exact ⟨j + 1, by have := HJ.out; omega, by go_num, by rw [HU.out], by rw [HJ.out.2.2]; go_num, H2.out⟩
        case measure => simp [intOf]; omega

/-- Which signature the document takes. -/
theorem hverify_any (root : ByteArray) (h : Int) (t sig : ByteArray) (ht : t.size ≤ 1000000) (w : World) :
    Calls Try.prog 21 #[.string root, .int .i64 h, .string t, .string sig] w fun e w' => e = .returned (.bool (takenB root h t sig)) ∧ Below w.heap.size w w' := by
  by_cases h1 : 0 ≤ h ∧ h ≤ 5 ∧ (sig.size : Int) = 561 + 32 * h
  · obtain ⟨k, rfl⟩ : ∃ k : Nat, h = (k : Int) := ⟨h.toNat, by omega⟩
    by_cases h2 : headN sig < 2 ^ k
    · have hf : formB (k : Int) sig = true := decide_eq_true ⟨h1.1, h1.2.1, by rw [Int.toNat_natCast]; omega, by rw [Int.toNat_natCast]; exact h2⟩
      rw [takenB, hf, Bool.true_and, Int.toNat_natCast]
      exact hverify_yes root k (by omega) t sig ht (by omega) h2 w
    · rw [taken_no (form_no (fun hc => h2 (by have := hc.2.2.2; rwa [Int.toNat_natCast] at this)))]
      exact hverify_no2 root k (by omega) t sig (by omega) h2 w
  · rw [taken_no (form_no (fun hc => h1 ⟨hc.1, hc.2.1, by have := hc.2.2.1; have := hc.1; omega⟩))]
    exact hverify_no1 root h t sig w h1
end Go.Proofs.Ytebhkifjommpjaa
