/- Which signature the program takes; what lives; what is short. -/
import Derived.Test.YtebhkifjommpjaaGrH
namespace Go.Proofs.Ytebhkifjommpjaa
open Go.RowKit

set_option maxRecDepth 100000 in
set_option maxHeartbeats 1600000 in
theorem gverify_no0 (root : ByteArray) (h : Int) (hn : rightB h = false) (t sig : ByteArray) (w : World) :
    Calls Try.prog 20 #[.string root, .int .i64 h, .string t, .string sig] w fun e w' => e = .returned (.bool false) ∧ Below w.heap.size w w' := by
  have HB := hid hn
  clear hn
  go_enter Try.func20, Try.ntmps20
  go_wp2_with (go_at_call 23; refine (isHeight_at _ _ (by exact HB.out) _).mono ?_; rintro e wx ⟨rfl, rfl⟩)
  go_ret
  exact ⟨rfl, Below.refl _ _⟩
set_option maxRecDepth 100000 in
set_option maxHeartbeats 1600000 in
theorem gverify_no1 (root : ByteArray) (k : Nat) (hk : k ≤ 5) (t sig : ByteArray) (hs : ¬ sig.size = 561 + 32 * k) (w : World) :
    Calls Try.prog 20 #[.string root, .int .i64 (k : Int), .string t, .string sig] w fun e w' => e = .returned (.bool false) ∧ Below w.heap.size w w' := by
  have HB := hid (rightB_yes (h := (k : Int)) (by omega) (by omega))
  have HZ := hid (sigSize_le k hk)
  have hs1 : ¬ ((sig.size : Int) = 561 + 32 * (k : Int)) := by omega
  clear hk hs
  go_enter Try.func20, Try.ntmps20
  go_wp2_with (first
    | (go_at_call 23; refine (isHeight_at _ _ (by exact HB.out) _).mono ?_; rintro e wx ⟨rfl, rfl⟩)
    | (go_at_call 32; refine (HZ.out _).mono ?_; rintro e wx ⟨rfl, rfl⟩))
  go_ret
  exact ⟨rfl, Below.refl _ _⟩
set_option maxRecDepth 100000 in
set_option maxHeartbeats 1600000 in
theorem gverify_no2 (root : ByteArray) (k : Nat) (hk : k ≤ 5) (t sig : ByteArray) (hs : sig.size = 561 + 32 * k) (hh : ¬ headN sig < 2 ^ k) (w : World) :
    Calls Try.prog 20 #[.string root, .int .i64 (k : Int), .string t, .string sig] w fun e w' => e = .returned (.bool false) ∧ Below w.heap.size w w' := by
  have HB := hid (rightB_yes (h := (k : Int)) (by omega) (by omega))
  have HZ := hid (sigSize_le k hk)
  obtain ⟨p, ep⟩ : ∃ p, p = 2 ^ k := ⟨_, rfl⟩
  obtain ⟨hd, ehd⟩ : ∃ hd, hd = headN sig := ⟨_, rfl⟩
  rw [← ep, ← ehd] at hh
  have HL : Hid (∀ v : World, Calls Try.prog 28 #[.int .i64 (k : Int)] v fun e w' => e = .returned (.int .i64 (p : Int)) ∧ w' = v) := hid (fun v => by rw [ep]; exact gleaves_le k hk v)
  have hs1 : (sig.size : Int) = 561 + 32 * (k : Int) := by omega
  have hpos : 0 < sig.size := by omega
  have e00 : (sig[0]'hpos).toNat = hd := by rw [ehd, head_get sig hpos]
  have hd255 : (hd : Int) < 256 := by rw [ehd, head_get sig (by omega)]; have := (sig[0]'(by omega)).toNat_lt; omega
  have hd0 : (0 : Int) ≤ (hd : Int) := Int.natCast_nonneg _
  have hh1 : (p : Int) ≤ (hd : Int) := by omega
  clear hk hs hh ep ehd
  go_enter Try.func20, Try.ntmps20
  go_wp2_with (first
    | (go_at_call 23; refine (isHeight_at _ _ (by exact HB.out) _).mono ?_; rintro e wx ⟨rfl, rfl⟩)
    | (go_at_call 32; refine (HZ.out _).mono ?_; rintro e wx ⟨rfl, rfl⟩)
    | (go_at_call 28; refine (HL.out _).mono ?_; rintro e wx ⟨rfl, rfl⟩))
  go_ret
  exact ⟨rfl, Below.refl _ _⟩
set_option maxRecDepth 100000 in
set_option maxHeartbeats 1600000 in
theorem gverify_yes (root : ByteArray) (k : Nat) (hk : k ≤ 5) (t sig : ByteArray) (ht : t.size ≤ 1000000) (hs : sig.size = 561 + 32 * k) (hh : headN sig < 2 ^ k) (w : World) :
    Calls Try.prog 20 #[.string root, .int .i64 (k : Int), .string t, .string sig] w fun e w' => e = .returned (.bool ((upS sig (headN sig) (recN t sig) k).toList == root.toList)) ∧ Below w.heap.size w w' := by
  have HB := hid (rightB_yes (h := (k : Int)) (by omega) (by omega))
  have HZ := hid (sigSize_le k hk)
  obtain ⟨p, ep⟩ : ∃ p, p = 2 ^ k := ⟨_, rfl⟩
  obtain ⟨hd, ehd⟩ : ∃ hd, hd = headN sig := ⟨_, rfl⟩
  obtain ⟨N, eN⟩ : ∃ N, N = recN t sig := ⟨_, rfl⟩
  have hN : N.size ≤ 32 := by rw [eN, recN_size]; exact Nat.le_refl _
  rw [← eN, ← ehd]
  rw [← ep, ← ehd] at hh
  have HL : Hid (∀ v : World, Calls Try.prog 28 #[.int .i64 (k : Int)] v fun e w' => e = .returned (.int .i64 (p : Int)) ∧ w' = v) := hid (fun v => by rw [ep]; exact gleaves_le k hk v)
  have HR : Hid (∀ u : World, Calls Try.prog 33 #[.string t, .string (sig.extract 1 561)] u fun e w' => e = .returned (.tuple #[.string N, .bool true]) ∧ Below u.heap.size u w') := hid (fun u => by
    have := orecover_le t ht (oneS sig) u
    rw [(rec_yes t sig (by omega)).1, (rec_yes t sig (by omega)).2, ← eN] at this
    exact this)
  have hs1 : (sig.size : Int) = 561 + 32 * (k : Int) := by omega
  have hk0 : (0 : Int) ≤ (k : Int) := Int.natCast_nonneg _
  have hpos : 0 < sig.size := by omega
  have e00 : (sig[0]'hpos).toNat = hd := by rw [ehd, head_get sig hpos]
  have hd255 : (hd : Int) < 256 := by rw [ehd, head_get sig (by omega)]; have := (sig[0]'(by omega)).toNat_lt; omega
  have hd0 : (0 : Int) ≤ (hd : Int) := Int.natCast_nonneg _
  have hh1 : ¬ ((p : Int) ≤ (hd : Int)) := by omega
  obtain ⟨X, eX⟩ : ∃ X, X = upS sig hd N k := ⟨_, rfl⟩
  rw [← eX]
  have HC : Hid (∀ u : World, Calls Try.prog 34 #[.string N, .int .i64 (hd : Int), .string (sig.extract 561 sig.size)] u fun e w' => e = .returned (.string X) ∧ Below u.heap.size u w') := hid (fun u => by rw [eX]; exact climbed_le N hN hd (by omega) sig k hs hk u)
  clear hk hs hh ep ehd eN hN eX ht
  go_enter Try.func20, Try.ntmps20
  go_wp2_with (first
    | (go_at_call 23; refine (isHeight_at _ _ (by exact HB.out) _).mono ?_; rintro e wx ⟨rfl, rfl⟩)
    | (go_at_call 32; refine (HZ.out _).mono ?_; rintro e wx ⟨rfl, rfl⟩)
    | (go_at_call 28; refine (HL.out _).mono ?_; rintro e wx ⟨rfl, rfl⟩)
    | (go_at_call 33; refine (HR.out _).mono ?_; rintro e w1 ⟨rfl, hb1⟩; have H1 := hid hb1; clear hb1)
    | (go_at_call 34; refine (HC.out _).mono ?_; rintro e w2 ⟨rfl, hb2⟩; have H2 := hid (H1.out.trans (hb2.mono H1.out.size)); clear hb2))
  go_ret
  exact ⟨rfl, H2.out⟩
/-- Which signature the program takes. -/
theorem gverify_any (root : ByteArray) (h : Int) (t sig : ByteArray) (ht : t.size ≤ 1000000) (w : World) :
    Calls Try.prog 20 #[.string root, .int .i64 h, .string t, .string sig] w fun e w' => e = .returned (.bool (takenB root h t sig)) ∧ Below w.heap.size w w' := by
  by_cases h0 : 0 ≤ h ∧ h ≤ 5
  · obtain ⟨k, rfl⟩ : ∃ k : Nat, h = (k : Int) := ⟨h.toNat, by omega⟩
    by_cases h1 : sig.size = 561 + 32 * k
    · by_cases h2 : headN sig < 2 ^ k
      · have hf : formB (k : Int) sig = true := decide_eq_true ⟨h0.1, h0.2, by rw [Int.toNat_natCast]; exact h1, by rw [Int.toNat_natCast]; exact h2⟩
        rw [takenB, hf, Bool.true_and, Int.toNat_natCast]
        exact gverify_yes root k (by omega) t sig ht h1 h2 w
      · rw [taken_no (form_no (fun hc => h2 (by have := hc.2.2.2; rwa [Int.toNat_natCast] at this)))]
        exact gverify_no2 root k (by omega) t sig h1 h2 w
    · rw [taken_no (form_no (fun hc => h1 (by have := hc.2.2.1; rwa [Int.toNat_natCast] at this)))]
      exact gverify_no1 root k (by omega) t sig h1 w
  · rw [taken_no (form_no (fun hc => h0 ⟨hc.1, hc.2.1⟩))]
    exact gverify_no0 root h (rightB_no h0) t sig w

def qS : ByteArray := ⟨#[113]⟩
set_option maxRecDepth 100000 in
set_option maxHeartbeats 1600000 in
theorem glives_any (w : World) : Calls Try.prog 9 #[] w fun e w' => e = .returned (.bool true) ∧ Below w.heap.size w w' := by
  obtain ⟨T, eT⟩ : ∃ T, T = rootS qS 0 := ⟨_, rfl⟩
  have hroot : rootS qS 0 = pubN qS 0 := by rw [← nodeP_root]; rfl
  have HN : Hid (∀ u : World, Calls Try.prog 12 #[.string ⟨#[113]⟩, .int .i64 0] u fun e w' => e = .returned (.tuple #[.pointer (some ⟨u.heap.size, 0, none⟩), .int .i64 0]) ∧ SgAt w' u.heap.size qS 0 0 ∧ Below u.heap.size u w') := hid (gnew_yes qS 0 (by decide))
  have HK : Hid (∀ u : World, Calls Try.prog 22 #[.string ⟨#[113]⟩, .int .i64 0] u fun e w' => e = .returned (.tuple #[.string T, .int .i64 0]) ∧ Below u.heap.size u w') := hid (fun u => by
    have := opublic_le qS (by decide) ((0 : Nat) : Int) u
    rw [(pub_yes qS 0 (by decide)).1, (pub_yes qS 0 (by decide)).2, ← hroot, ← eT] at this
    exact this)
  have HR : Hid (∀ (u : World) (b : Nat), SgAt u b qS 0 0 → Calls Try.prog 16 #[.pointer (some ⟨b, 0, none⟩)] u fun e w' => e = .returned (.string T) ∧ Below u.heap.size u w') := hid (fun u b hS => by rw [eT]; exact sroot_le b qS (by decide) 0 0 (by decide) u hS)
  have HL : Hid (∀ (u : World) (b : Nat), SgAt u b qS 0 0 → Calls Try.prog 17 #[.pointer (some ⟨b, 0, none⟩)] u fun e w' => e = .returned (.int .i64 1) ∧ Below u.heap.size u w') := hid (fun u b hS => sleft_le b qS 0 0 1 (by decide) (by decide) u hS)
  clear eT hroot
  go_enter Try.func9, Try.ntmps9
  go_wp2_with (first
    | (go_at_call 12; refine (HN.out _).mono ?_; rintro e w1 ⟨rfl, hs1, hb1⟩; have H1 := hid (And.intro hs1 hb1); clear hs1 hb1)
    | (go_at_call 22; refine (HK.out _).mono ?_; rintro e w2 ⟨rfl, hb2⟩; have H2 := hid (And.intro (H1.out.1.keep hb2) (H1.out.2.trans (hb2.mono H1.out.2.size))); clear hb2)
    | (go_at_call 16; refine (HR.out _ _ (by exact H2.out.1)).mono ?_; rintro e w3 ⟨rfl, hb3⟩; have H3 := hid (And.intro (H2.out.1.keep hb3) (H2.out.2.trans (hb3.mono H2.out.2.size))); clear hb3)
    | (go_at_call 17; refine (HL.out _ _ (by exact H3.out.1)).mono ?_; rintro e w4 ⟨rfl, hb4⟩; have H4 := hid (H3.out.2.trans (hb4.mono H3.out.2.size)); clear hb4))
  go_ret
  exact ⟨rfl, H4.out⟩
theorem gshort_any (s : ByteArray) (b : Bool) (h : decide (s.size ≤ 4096) = b) (w : World) : Calls Try.prog 10 #[.string s] w fun e w' => e = .returned (.bool b) ∧ w' = w := by
  subst h
  by_cases h1 : s.size ≤ 4096
  · have k1 : (s.size : Int) ≤ 4096 := by omega
    rw [decide_eq_true h1]
    clear h1
    go_enter Try.func10, Try.ntmps10
    go_wp2
    go_ret
    exact ⟨rfl, rfl⟩
  · have k1 : ¬ ((s.size : Int) ≤ 4096) := by omega
    rw [decide_eq_false h1]
    clear h1
    go_enter Try.func10, Try.ntmps10
    go_wp2
    go_ret
    exact ⟨rfl, rfl⟩
end Go.Proofs.Ytebhkifjommpjaa
