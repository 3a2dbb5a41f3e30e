/- OnetimeBack: the walk. -/
import Derived.Test.YtcofadhflbiahaaOtH
namespace Go.Proofs.Ytcofadhflbiahaa
open Go.RowKit

set_option maxRecDepth 100000 in
set_option maxHeartbeats 3200000 in
theorem onetimeBack_walk (s : ByteArray) (n : Int) (t : ByteArray) (w : World) :
    Calls Try.prog 8 #[.string s, .int .i64 n, .string t] w fun e w' => e = .returned (.bool true) ∧ Below w.heap.size w w' := by
  by_cases hl : s.size ≤ 4096 ∧ t.size ≤ 4096
  · have HS := hid (decide_eq_true hl)
    have HM : Hid (∀ u : World, Calls Try.prog 18 #[.string s, .int .i64 n, .string t] u fun e w' => e = .returned (.tuple #[.string (signS s n t), .int .i64 (leafE n)]) ∧ Below u.heap.size u w') := hid (osign_le s (by omega) n t (by omega))
    have HN : Hid (∀ u : World, Calls Try.prog 16 #[.string s, .int .i64 n] u fun e w' => e = .returned (.tuple #[.string (pubS s n), .int .i64 (leafE n)]) ∧ Below u.heap.size u w') := hid (opublic_le s (by omega) n)
    cases hb : leafB n with
    | false =>
      rw [show signS s n t = ⟨#[]⟩ by unfold signS; rw [hb]; rfl, show leafE n = 1 by unfold leafE; rw [hb]; rfl] at HM
      rw [show pubS s n = ⟨#[]⟩ by unfold pubS; rw [hb]; rfl, show leafE n = 1 by unfold leafE; rw [hb]; rfl] at HN
      have hn := of_decide_eq_false hb
      clear hb hl
      by_cases h0 : n < 0
      · clear hn
        go_enter Try.func8, Try.ntmps8
        go_wp2_with (first
          | (go_at_call 9; refine (olives_any _).mono ?_; rintro e w1 ⟨rfl, hb1⟩; have H1 := hid hb1; clear hb1)
          | (go_at_call 10; refine (oshort_any _ _ _ (by exact HS.out) _).mono ?_; rintro e wx ⟨rfl, rfl⟩)
          | (go_at_call 18; refine (HM.out _).mono ?_; rintro e w2 ⟨rfl, hb2⟩; have H2 := hid (H1.out.trans (hb2.mono H1.out.size)); clear hb2)
          | (go_at_call 16; refine (HN.out _).mono ?_; rintro e w3 ⟨rfl, hb3⟩; have H3 := hid (H2.out.trans (hb3.mono H2.out.size)); clear hb3))
        go_ret
        exact ⟨rfl, H3.out⟩
      · have h1 : ¬ (n < 0) := h0
        have h2 : 255 < n := by omega
        clear hn h0
        go_enter Try.func8, Try.ntmps8
        go_wp2_with (first
          | (go_at_call 9; refine (olives_any _).mono ?_; rintro e w1 ⟨rfl, hb1⟩; have H1 := hid hb1; clear hb1)
          | (go_at_call 10; refine (oshort_any _ _ _ (by exact HS.out) _).mono ?_; rintro e wx ⟨rfl, rfl⟩)
          | (go_at_call 18; refine (HM.out _).mono ?_; rintro e w2 ⟨rfl, hb2⟩; have H2 := hid (H1.out.trans (hb2.mono H1.out.size)); clear hb2)
          | (go_at_call 16; refine (HN.out _).mono ?_; rintro e w3 ⟨rfl, hb3⟩; have H3 := hid (H2.out.trans (hb3.mono H2.out.size)); clear hb3))
        go_ret
        exact ⟨rfl, H3.out⟩
    | true =>
      obtain ⟨leaf, rfl, hf⟩ := leaf_nat hb
      obtain ⟨Y, eY⟩ : ∃ Y : ByteArray, Y = ⟨(signB s leaf t).toArray⟩ := ⟨_, rfl⟩
      obtain ⟨P, eP⟩ : ∃ P : ByteArray, P = ⟨(pubB s leaf).toArray⟩ := ⟨_, rfl⟩
      rw [show signS s (leaf : Int) t = Y by unfold signS; rw [hb, eY, Int.toNat_natCast]; rfl, show leafE (leaf : Int) = 0 by unfold leafE; rw [hb]; rfl] at HM
      rw [show pubS s (leaf : Int) = P by unfold pubS; rw [hb, eP, Int.toNat_natCast]; rfl, show leafE (leaf : Int) = 0 by unfold leafE; rw [hb]; rfl] at HN
      have hY : Y.size = 560 := by rw [eY, mk_size, signB_len]
      have hok : sigOk Y = true := decide_eq_true hY
      have HR : Hid (∀ u : World, Calls Try.prog 20 #[.string t, .string Y] u fun e w' => e = .returned (.tuple #[.string P, .bool true]) ∧ Below u.heap.size u w') := hid (fun u => by
        have h := orecover_le t (by omega) Y u
        rwa [hok, show recS t Y = P by unfold recS; rw [hok, if_pos rfl, eY, rec_sign, eP]] at h)
      have hY2 : (Y.size : Int) = 560 := by omega
      have hP2 : (P.size : Int) = 32 := by rw [eP, mk_size, pubB_len]; rfl
      clear hb hl hf eY eP hY hok
      go_enter Try.func8, Try.ntmps8
      go_wp2_with (first
        | (go_at_call 9; refine (olives_any _).mono ?_; rintro e w1 ⟨rfl, hb1⟩; have H1 := hid hb1; clear hb1)
        | (go_at_call 10; refine (oshort_any _ _ _ (by exact HS.out) _).mono ?_; rintro e wx ⟨rfl, rfl⟩)
        | (go_at_call 18; refine (HM.out _).mono ?_; rintro e w2 ⟨rfl, hb2⟩; have H2 := hid (H1.out.trans (hb2.mono H1.out.size)); clear hb2)
        | (go_at_call 16; refine (HN.out _).mono ?_; rintro e w3 ⟨rfl, hb3⟩; have H3 := hid (H2.out.trans (hb3.mono H2.out.size)); clear hb3)
        | (go_at_call 20; refine (HR.out _).mono ?_; rintro e w4 ⟨rfl, hb4⟩; have H4 := hid (H3.out.trans (hb4.mono H3.out.size)); clear hb4))
      go_ret
      exact ⟨rfl, H4.out⟩
  · have HS := hid (decide_eq_false hl)
    clear hl
    go_enter Try.func8, Try.ntmps8
    go_wp2_with (first
      | (go_at_call 9; have := H1; refine (olives_any _).mono ?_; rintro e w2 ⟨rfl, hb2⟩; have H2 := hid (H1.out.trans (hb2.mono H1.out.size)); clear hb2)
      | (go_at_call 9; refine (olives_any _).mono ?_; rintro e w1 ⟨rfl, hb1⟩; have H1 := hid hb1; clear hb1)
      | (go_at_call 10; refine (oshort_any _ _ _ (by exact HS.out) _).mono ?_; rintro e wx ⟨rfl, rfl⟩))
    go_ret
    exact ⟨rfl, H2.out⟩
end Go.Proofs.Ytcofadhflbiahaa
