/- TermsGrows: the walk. -/
import Derived.Test.YtgnapfgiefdlaaaTeL
import Derived.Test.YtgnapfgiefdlaaaTeN
namespace Go.Proofs.Ytgnapfgiefdlaaa
open Go.RowKit

/-- The book as it stands, and all that came in as it was. -/
structure GrSt (w0 w : World) (F : List Nat) (v : Value) (L : List (Int × ByteArray)) : Prop where
  bk : BkAt F w v L
  far : ∀ b, b ∈ F → w0.heap.size ≤ b
  bel : Below w0.heap.size w0 w
theorem GrSt.keep {w0 w w' : World} {F : List Nat} {v : Value} {L : List (Int × ByteArray)} (h : GrSt w0 w F v L) (hb : Below w.heap.size w w') : GrSt w0 w' F v L :=
  ⟨h.bk.keep hb.size (fun k hk => hb.block k (h.bk.lt k hk)), h.far, h.bel.trans (hb.mono h.bel.size)⟩
set_option maxRecDepth 100000 in
set_option maxHeartbeats 3200000 in
theorem termsGrows_walk (b1 : Option Addr) (m1 c1 : Nat) (s1 : List (Int × ByteArray)) (hs1 : s1.length = m1) (hm1 : m1 * 24 ≤ 140737488355328) (hf1 : ∀ p, p ∈ s1 → fitP p) (a : Option Addr) (n cap : Nat) (bad : List Int) (hn : bad.length = n) (hm : n ≤ 17592186043904)
    (b2 : Option Addr) (m2 c2 : Nat) (s2 : List (Int × ByteArray)) (hs2 : s2.length = m2) (hm2 : m2 ≤ maxLen) (hf2 : ∀ p, p ∈ s2 → fitP p) (w : World) (hP1 : PairsIn w b1 s1) (hI : IntsIn w a bad) (hP2 : PairsIn w b2 s2) :
    Calls Try.prog 8 #[.slice b1 m1 c1, .slice a n cap, .slice b2 m2 c2] w fun e w' => e = .returned (.bool true) ∧ Below w.heap.size w w' := by
  obtain ⟨i0, hi0, hz0, hz1, hz2⟩ := info_parts Try.info3
  have HD := hid (And.intro hI (And.intro hP1 hP2))
  have HX0 : Hid (∀ (F : List Nat) (v : Value) (L : List (Int × ByteArray)) (ab : Option Addr) (nb cb : Nat) (bs : List Int), bs.length = nb → nb * 8 ≤ 140737488355328 → ∀ u : World, GrSt w u F v L → IntsIn u ab bs → Calls Try.prog 24 #[v, .slice ab nb cb, .slice b2 m2 c2] u fun e w' => e = .returned (.bool (derivB L bs s2)) ∧ GrSt w w' F v L) := hid (fun F v L ab nb cb bs hb1 hb2 u hu hi =>
    (tderivable_any F v L ab nb cb bs hb1 hb2 b2 m2 c2 s2 hs2 hm2 hf2 u hu.bk hi (hP2.keep hu.bel (Nat.le_refl _))).mono fun _ _ ⟨he, hb⟩ => ⟨he, hu.keep hb⟩)
  have HX : Hid (∀ (F : List Nat) (v : Value) (L : List (Int × ByteArray)) (u : World), GrSt w u F v L → Calls Try.prog 24 #[v, .slice a n cap, .slice b2 m2 c2] u fun e w' => e = .returned (.bool (derivB L bad s2)) ∧ GrSt w w' F v L) := hid (fun F v L u hu =>
    HX0.out F v L a n cap bad hn (by omega) u hu (hI.keep hu.bel (Nat.le_refl _)))
  have HX4 : Hid (∀ (F : List Nat) (v : Value) (u : World), GrSt w u F v (noted [] s1) → Calls Try.prog 24 #[v, .slice none 0 0, .slice b1 m1 c1] u fun e w' => e = .returned (.bool true) ∧ GrSt w w' F v (noted [] s1)) := hid (fun F v u hu =>
    (tderivable_any F v _ none 0 0 [] rfl (by decide) b1 m1 c1 s1 hs1 (by unfold maxLen; omega) hf1 u hu.bk (.inl rfl) (hP1.keep hu.bel (Nat.le_refl _))).mono fun _ _ ⟨he, hb⟩ => ⟨by rw [he, derivB_noted], hu.keep hb⟩)
  have HHs : Hid (∀ (F : List Nat) (v : Value) (L : List (Int × ByteArray)) (x : Int) (t : ByteArray) (u : World), fitP (x, t) → GrSt w u F v L → Calls Try.prog 26 #[v, .agg #[.int .i64 x, .string t]] u fun e w' => e = .returned (.bool (stands L (x, t))) ∧ GrSt w w' F v L) := hid (fun F v L x t u hx hu =>
    (thas_any F v L x t hx u hu.bk).mono fun _ _ ⟨he, hb⟩ => ⟨he, hu.keep hb⟩)
  have HNt : Hid (∀ (F : List Nat) (v : Value) (u : World), GrSt w u F v [] → Calls Try.prog 21 #[v, .slice b1 m1 c1] u fun e w' => e = .returned (.tuple #[]) ∧ ∃ F', GrSt w w' F' v (noted [] s1)) := hid (fun F v u hu =>
    (tnote_any F v [] b1 m1 c1 s1 hs1 (by simp; omega) hf1 u hu.bk (hP1.keep hu.bel (Nat.le_refl _)) (fun ad e h0 hm => by
      rcases hP1 with h | ⟨g, o, e2, hg, _⟩
      · exact h0 h
      · rw [e2] at e; cases e; have := hu.far _ hm; simp at this; omega)).mono fun _ _ ⟨he, F', hB, hF, hO⟩ => ⟨he, F', hB, fun b hb => by
        rcases hF b hb with h | h
        · exact hu.far b h
        · have := hu.bel.size; omega, hu.bel.trans (hO.below hu.bel.size hu.far)⟩)
  have HN := hid (And.intro hn (And.intro hm hs2))
  have HFt := hid hf2
  have hm2i : (m2 : Int) ≤ 9223372036854775807 := by unfold maxLen at hm2; omega
  have HWI : Hid (derivB [] bad s2 = true → derivB (noted [] s1) bad s2 = true) := hid (fun h => derivB_mono h (fun _ h => h) (fun _ h => by cases h))
  have HIM : Hid (derivB (noted [] s1) bad s2 = true → derivB (noted [] s1) (bad ++ [3]) s2 = true) := hid (fun h => derivB_mono h (fun _ h => List.mem_append_left _ h) (fun _ h => h))
  have HAl : Hid (derivB (noted [] s1) [] s2 = s2.all (stands (noted [] s1))) := hid (derivB_none _ _)
  obtain ⟨L, eL⟩ : ∃ L, L = noted [] s1 := ⟨_, rfl⟩
  rw [← eL] at HX4 HNt HWI HIM HAl
  clear hI hP1 hP2 hn hm hs1 hm1 hm2 eL hs2 hf1 hf2
  go_enter Try.func8, Try.ntmps8
  go_wp2_with (first
    | (go_at_call 9; refine (tlives_any _).mono ?_; rintro e w1 ⟨rfl, hb1⟩; have H1 := hid hb1; clear hb1)
    | (go_at_call 20; refine (tnew_any _).mono ?_; rintro e w2 ⟨v, F, rfl, hB2, hF2, hb2⟩; obtain ⟨gb, rfl⟩ := hB2.form; have H2 : Hid (GrSt w w2 F (.pointer (some ⟨gb, 0, none⟩)) []) := hid ⟨hB2, fun b hb => Nat.le_trans H1.out.size (hF2 b hb), H1.out.trans (hb2.mono H1.out.size)⟩; clear hB2 hF2 hb2)
    | (go_at_call 24; have := H7; refine (HX0.out _ _ _ _ _ _ (bad ++ [3]) (by rw [List.length_append, HN.out.1]; rfl) (by have := HN.out.2.1; omega) _ (by exact H7.out.1) (by exact H7.out.2)).mono ?_; rintro e w8 ⟨rfl, hg8⟩; have H8 := hid hg8; clear hg8)
    | (go_at_call 24; have := H4; refine (HX.out _ _ _ _ H4.out).mono ?_; rintro e w5 ⟨rfl, hg5⟩; have H5 := hid hg5; clear hg5)
    | (go_at_call 24; refine (HX.out _ _ _ _ H2.out).mono ?_; rintro e w3 ⟨rfl, hg3⟩; have H3 := hid hg3; clear hg3)
    | (go_at_call 21; have := H3; refine (HNt.out _ _ _ H3.out).mono ?_; rintro e w4 ⟨rfl, F4, hg4⟩; have H4 := hid hg4; clear hg4)
    | (refine wl_ownI rfl _ _ rfl rfl _ _ _ bad rfl (by exact HN.out.1) (by exact HD.out.1.keep H5.out.bel (Nat.le_refl _)) (by have := HN.out.2.1; omega) ?_; intro v6 w6 H6)
    | (at_builtin; refine wpList_append_own _ rfl _ _ 22 rfl w5.heap.size 3 i0 (.int .i64 0) 1 8 Try.underlying22 hi0 hz0 hz1 hz2 rfl (by decide) _ _ _ rfl (H6.out.alloc _).own ⟨_, 0, none⟩ 1 1 (iC [3]) rfl rfl (World.news_of_block (t := 3) (fr := (0, 0)) (heap_alloc_last _ _)) (iC_one _) (by have := HN.out; unfold maxLen; omega) (by have := HN.out; omega) (H6.out.alloc _).le ?_; intro v7 w7 hown7 hgrow7 hnil7; have h7 := (H6.out.alloc _).grow (xs := [3]) rfl hown7 hgrow7
       obtain ⟨g7, cap7, hv7, hc7, hcm7, hg7, hg7b, hcell7⟩ := h7.form (by rw [List.length_append]; simp)
       subst hv7
       rw [List.length_append, HN.out.1]
       have H7 := hid (And.intro (H5.out.keep h7.bel) (show IntsIn w7 (some ⟨g7, 0, none⟩) (bad ++ [3]) from .inr ⟨g7, 0, rfl, hg7, fun j z hz => by rw [Nat.zero_add]; exact hcell7 j z hz⟩))
       clear h7 hown7 hgrow7 hnil7 hcell7 hg7 hg7b hc7 hcm7))
  generalize derivB [] bad s2 = W0 at HWI ⊢
  generalize derivB L bad s2 = I at HWI HIM ⊢
  generalize derivB L (bad ++ [3]) s2 = M at HIM ⊢
  have HX3 : Hid (∀ (F : List Nat) (v : Value) (u : World), GrSt w u F v L → Calls Try.prog 24 #[v, .slice none 0 0, .slice b2 m2 c2] u fun e w' => e = .returned (.bool (s2.all (stands L))) ∧ GrSt w w' F v L) := hid (fun F v u hu => by
    rw [← HAl.out]
    exact HX0.out F v L none 0 0 [] rfl (by decide) u hu (.inl rfl))
  clear this
  go_loopw [12, 11] (fun i al wr => ∃ (j : Nat), j ≤ m2 ∧ i = .int .i64 (j : Int) ∧ al = .bool ((s2.take j).all (stands L)) ∧ GrSt w wr F4 (.pointer (some ⟨gb, 0, none⟩)) L)
    (fun i _ _ => ((m2 : Int) - intOf i).toNat)
  case atStart => exact ⟨0, by omega, rfl, rfl, H8.out⟩
  case round =>
    obtain ⟨j, hj, rfl, rfl, hG⟩ := hrel
    have HG := hid hG
    clear hG H8
    have hj0 : (0 : Int) ≤ (j : Int) := Int.natCast_nonneg _
    by_cases hjm : j = m2
    · have hj1 : ¬ ((j : Int) < (m2 : Int)) := by omega
      rw [show s2.take j = s2 from List.take_of_length_le (by rw [HN.out.2.2]; omega)]
      generalize s2.all (stands L) = A at HX3 ⊢
      clear hj hjm
      cases I with
      | false =>
        cases W0 with
        | true => exact absurd (HWI.out rfl) (by decide)
        | false =>
          go_wp2_with (first
            | (go_at_call 24; have := H9; refine (HX4.out _ _ _ (by exact H9.out)).mono ?_; rintro e w10 ⟨rfl, hg10⟩; have H10 := hid hg10; clear hg10)
            | (go_at_call 24; refine (HX3.out _ _ _ (by exact HG.out)).mono ?_; rintro e w9 ⟨rfl, hg9⟩; have H9 := hid hg9; clear hg9))
          go_ret
          exact ⟨rfl, H10.out.bel⟩
      | true =>
        cases M with
        | false => exact absurd (HIM.out rfl) (by decide)
        | true =>
          cases W0 with
          | true =>
            go_wp2_with (first
              | (go_at_call 24; have := H9; refine (HX4.out _ _ _ (by exact H9.out)).mono ?_; rintro e w10 ⟨rfl, hg10⟩; have H10 := hid hg10; clear hg10)
              | (go_at_call 24; refine (HX3.out _ _ _ (by exact HG.out)).mono ?_; rintro e w9 ⟨rfl, hg9⟩; have H9 := hid hg9; clear hg9))
            go_ret
            exact ⟨rfl, H10.out.bel⟩
          | false =>
            go_wp2_with (first
              | (go_at_call 24; have := H9; refine (HX4.out _ _ _ (by exact H9.out)).mono ?_; rintro e w10 ⟨rfl, hg10⟩; have H10 := hid hg10; clear hg10)
              | (go_at_call 24; refine (HX3.out _ _ _ (by exact HG.out)).mono ?_; rintro e w9 ⟨rfl, hg9⟩; have H9 := hid hg9; clear hg9))
            go_ret
            exact ⟨rfl, H10.out.bel⟩
    · have hj1 : (j : Int) < (m2 : Int) := by omega
      have hjl : j < s2.length := by rw [HN.out.2.2]; omega
      have hfit : fitP (idOf s2 j, rtOf s2 j) := HFt.out _ (List.mem_of_getElem? (getP_some hjl))
      have HT : Hid ((s2.take (j + 1)).all (stands L) = ((s2.take j).all (stands L) && stands L (idOf s2 j, rtOf s2 j))) := hid (by rw [List.take_add_one, getP_some hjl]; simp)
      obtain ⟨g, off, rfl, hg, hc1, hc2⟩ := HD.out.2.2.at j _ (getP_some hjl)
      have k1 := (HG.out.bel.cell (p := ⟨g, _, none⟩) hg).trans hc1
      have k2 := (HG.out.bel.cell (p := ⟨g, _, none⟩) hg).trans hc2
      generalize idOf s2 j = x at k1 HT hfit
      generalize rtOf s2 j = r at k2 HT hfit
      have HFx := hid hfit
      generalize (s2.take j).all (stands L) = A at HT ⊢
      have HJ := hid (And.intro hj hjm)
      clear hj hjm hjl hg hc1 hc2 hfit
      cases A with
      | false =>
        go_wp2
        go_roundw
        case rel => exact ⟨j + 1, by have := HJ.out; omega, by go_num, by rw [HT.out]; rfl, HG.out⟩
        case measure => simp [intOf]; omega
      | true =>
        go_wp2_with (go_at_call 26; refine (HHs.out _ _ _ _ _ _ (by exact HFx.out) (by exact HG.out)).mono ?_; rintro e w9 ⟨rfl, hg9⟩; have H9 := hid hg9; clear hg9)
        go_roundw
        case rel => exact ⟨j + 1, by have := HJ.out; omega, by go_num, by rw [HT.out]; rfl, H9.out⟩
        case measure => simp [intOf]; omega
end Go.Proofs.Ytgnapfgiefdlaaa
