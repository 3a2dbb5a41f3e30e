/- GroveTwo: the walk. -/
import Derived.Test.YtebhkifjommpjaaGrI
import Derived.Test.YtebhkifjommpjaaGrJ
namespace Go.Proofs.Ytebhkifjommpjaa
open Go.RowKit

theorem taken_short (root : ByteArray) (k : Nat) (t sig : ByteArray) (h : sig.size ≠ 561 + 32 * k) : takenB root (k : Int) t sig = false :=
  taken_no (form_no (fun hc => h (by have := hc.2.2.1; rwa [Int.toNat_natCast] at this)))
theorem gsig_size (seed : ByteArray) (h leaf : Nat) (t : ByteArray) (hl : leaf < 2 ^ h) : (gsigS seed h leaf t).size = 561 + 32 * h := by
  rw [gsigS, mk_size, gsign_len seed h leaf t hl]
set_option maxRecDepth 100000 in
set_option maxHeartbeats 3200000 in
theorem groveTwo_walk (s t : ByteArray) (w : World) :
    Calls Try.prog 7 #[.string s, .string t] w fun e w' => e = .returned (.bool true) ∧ Below w.heap.size w w' := by
  by_cases hl : s.size ≤ 4096
  · have HS := hid (decide_eq_true hl)
    by_cases ht : t.size ≤ 4096
    · have ht1 : (t.size : Int) ≤ 4096 := by omega
      obtain ⟨T, eT⟩ : ∃ T, T = rootS s 1 := ⟨_, rfl⟩
      obtain ⟨G, eG⟩ : ∃ G, G = gsigS s 1 0 t := ⟨_, rfl⟩
      have HN : Hid (∀ u : World, Calls Try.prog 12 #[.string s, .int .i64 1] u fun e w' => e = .returned (.tuple #[.pointer (some ⟨u.heap.size, 0, none⟩), .int .i64 0]) ∧ SgAt w' u.heap.size s 1 0 ∧ Below u.heap.size u w') := hid (gnew_yes s 1 (by decide))
      have HG : Hid (∀ (u : World) (b : Nat), SgAt u b s 1 0 → Calls Try.prog 18 #[.pointer (some ⟨b, 0, none⟩), .string t] u fun e w' => e = .returned (.tuple #[.string G, .int .i64 0]) ∧ SgAt w' b s 1 1 ∧ But b u w') := hid (fun u b hS => by rw [eG]; exact ssign_yes b s (by omega) 1 0 (by decide) (by decide) t (by omega) u hS)
      have HL : Hid (∀ (u : World) (b : Nat), SgAt u b s 1 1 → Calls Try.prog 17 #[.pointer (some ⟨b, 0, none⟩)] u fun e w' => e = .returned (.int .i64 1) ∧ Below u.heap.size u w') := hid (fun u b hS => sleft_le b s 1 1 1 (by decide) (by decide) u hS)
      have HR : Hid (∀ (u : World) (b : Nat), SgAt u b s 1 1 → Calls Try.prog 16 #[.pointer (some ⟨b, 0, none⟩)] u fun e w' => e = .returned (.string T) ∧ Below u.heap.size u w') := hid (fun u b hS => by rw [eT]; exact sroot_le b s (by omega) 1 1 (by decide) u hS)
      have HV0 : Hid (∀ u : World, Calls Try.prog 20 #[.string T, .int .i64 0, .string t, .string G] u fun e w' => e = .returned (.bool false) ∧ Below u.heap.size u w') := hid (fun u => by
        have := gverify_any T ((0 : Nat) : Int) t G (by omega) u
        rwa [taken_short T 0 t G (by rw [eG, gsig_size s 1 0 t (by decide)]; decide)] at this)
      have HV1 : Hid (∀ u : World, Calls Try.prog 20 #[.string T, .int .i64 1, .string t, .string G] u fun e w' => e = .returned (.bool true) ∧ Below u.heap.size u w') := hid (fun u => by
        have := gverify_any T ((1 : Nat) : Int) t G (by omega) u
        rwa [eT, eG, taken_sign s 1 0 t (by decide) (by decide), ← eT, ← eG] at this)
      clear hl ht eT eG
      go_enter Try.func7, Try.ntmps7
      go_wp2_with (first
        | (go_at_call 9; refine (glives_any _).mono ?_; rintro e w1 ⟨rfl, hb1⟩; have H1 := hid hb1; clear hb1)
        | (go_at_call 10; refine (gshort_any _ _ (by exact HS.out) _).mono ?_; rintro e wx ⟨rfl, rfl⟩)
        | (go_at_call 12; have := H2; refine (HN.out _).mono ?_; rintro e w3 ⟨rfl, hs3, hb3⟩; have H3 := hid (And.intro (H2.out.1.keep hb3) (And.intro hs3 (And.intro (H2.out.2.2.trans (hb3.mono H2.out.2.2.size)) (And.intro H2.out.2.1 (Nat.ne_of_lt H2.out.1.lt))))); clear hs3 hb3)
        | (go_at_call 12; refine (HN.out _).mono ?_; rintro e w2 ⟨rfl, hs2, hb2⟩; have H2 := hid (And.intro hs2 (And.intro H1.out.size (H1.out.trans (hb2.mono H1.out.size)))); clear hs2 hb2)
        | (go_at_call 18; have := H4; refine (HG.out _ _ (by exact H4.out.2.1)).mono ?_; rintro e w5 ⟨rfl, hs5, hb5⟩; have H5 := hid (And.intro (H4.out.1.but hb5 H3.out.2.2.2.2) (And.intro hs5 (H4.out.2.2.trans (hb5.below (Nat.le_trans H4.out.2.2.size (Nat.le_refl _)) (H2.out.2.2.size))))); clear hs5 hb5)
        | (go_at_call 18; refine (HG.out _ _ (by exact H3.out.1)).mono ?_; rintro e w4 ⟨rfl, hs4, hb4⟩; have H4 := hid (And.intro hs4 (And.intro (H3.out.2.1.but hb4 H3.out.2.2.2.2.symm) (H3.out.2.2.1.trans (hb4.below (H3.out.2.2.1.size) H3.out.2.2.2.1)))); clear hs4 hb4)
        | (go_at_call 17; have := H6; refine (HL.out _ _ (by exact H6.out.2.1)).mono ?_; rintro e w7 ⟨rfl, hb7⟩; have H7 := hid (And.intro (H6.out.1.keep hb7) (And.intro (H6.out.2.1.keep hb7) (H6.out.2.2.trans (hb7.mono H6.out.2.2.size)))); clear hb7)
        | (go_at_call 17; refine (HL.out _ _ (by exact H5.out.1)).mono ?_; rintro e w6 ⟨rfl, hb6⟩; have H6 := hid (And.intro (H5.out.1.keep hb6) (And.intro (H5.out.2.1.keep hb6) (H5.out.2.2.trans (hb6.mono H5.out.2.2.size)))); clear hb6)
        | (go_at_call 16; have := H9; refine (HR.out _ _ (by exact H9.out.2.1)).mono ?_; rintro e w10 ⟨rfl, hb10⟩; have H10 := hid (H9.out.2.2.trans (hb10.mono H9.out.2.2.size)); clear hb10)
        | (go_at_call 16; refine (HR.out _ _ (by exact H7.out.1)).mono ?_; rintro e w8 ⟨rfl, hb8⟩; have H8 := hid (And.intro (H7.out.1.keep hb8) (And.intro (H7.out.2.1.keep hb8) (H7.out.2.2.trans (hb8.mono H7.out.2.2.size)))); clear hb8)
        | (go_at_call 20; have := H10; refine (HV1.out _).mono ?_; rintro e w11 ⟨rfl, hb11⟩; have H11 := hid (H10.out.trans (hb11.mono H10.out.size)); clear hb11)
        | (go_at_call 20; refine (HV0.out _).mono ?_; rintro e w9 ⟨rfl, hb9⟩; have H9 := hid (And.intro (H8.out.1.keep hb9) (And.intro (H8.out.2.1.keep hb9) (H8.out.2.2.trans (hb9.mono H8.out.2.2.size)))); clear hb9))
      go_ret
      exact ⟨rfl, H11.out⟩
    · have ht1 : ¬ ((t.size : Int) ≤ 4096) := by omega
      clear hl ht
      go_enter Try.func7, Try.ntmps7
      go_wp2_with (first
        | (go_at_call 9; have := H1; refine (glives_any _).mono ?_; rintro e w2 ⟨rfl, hb2⟩; have H2 := hid (H1.out.trans (hb2.mono H1.out.size)); clear hb2)
        | (go_at_call 9; refine (glives_any _).mono ?_; rintro e w1 ⟨rfl, hb1⟩; have H1 := hid hb1; clear hb1)
        | (go_at_call 10; refine (gshort_any _ _ (by exact HS.out) _).mono ?_; rintro e wx ⟨rfl, rfl⟩))
      go_ret
      exact ⟨rfl, H2.out⟩
  · have HS := hid (decide_eq_false hl)
    clear hl
    go_enter Try.func7, Try.ntmps7
    go_wp2_with (first
      | (go_at_call 9; have := H1; refine (glives_any _).mono ?_; rintro e w2 ⟨rfl, hb2⟩; have H2 := hid (H1.out.trans (hb2.mono H1.out.size)); clear hb2)
      | (go_at_call 9; refine (glives_any _).mono ?_; rintro e w1 ⟨rfl, hb1⟩; have H1 := hid hb1; clear hb1)
      | (go_at_call 10; refine (gshort_any _ _ (by exact HS.out) _).mono ?_; rintro e wx ⟨rfl, rfl⟩))
    go_ret
    exact ⟨rfl, H2.out⟩
end Go.Proofs.Ytebhkifjommpjaa
