/- CouncilMoves: the walk. -/
import Derived.Test.YtfcbngdhbmifeaaCBack
namespace Go.Proofs.Ytfcbngdhbmifeaa
open Go.RowKit

/-- A row of numbers that may be written on. -/
def RowAt (w : World) (B : Nat) (ad : Option Addr) (m : Nat) : Prop := m = 0 ∨ ∃ g cs, ad = some ⟨g, 0, none⟩ ∧ B ≤ g ∧ w.heap[g]? = some (.cells cs 3 (0, 0)) ∧ m ≤ cs.size
theorem RowAt.keep {w w' : World} {B : Nat} {ad : Option Addr} {m : Nat} (h : RowAt w B ad m) (hb : Below w.heap.size w w') : RowAt w' B ad m := by
  rcases h with h | ⟨g, cs, h1, h2, h3, h4⟩
  · exact .inl h
  · exact .inr ⟨g, cs, h1, h2, (hb.block _ (lt_of_blk h3)).trans h3, h4⟩
theorem RowAt.put {w : World} {B : Nat} {ad : Option Addr} {m : Nat} (h : RowAt w B ad m) (g j : Nat) (v : Value) : RowAt (w.setCell ⟨g, j, none⟩ v) B ad m := by
  rcases h with h | ⟨g', cs, h1, h2, h3, h4⟩
  · exact .inl h
  · by_cases hg : g' = g
    · subst hg
      exact .inr ⟨g', cs.setIfInBounds j v, h1, h2, blk_set h3 j v, by rw [Array.size_setIfInBounds]; exact h4⟩
    · exact .inr ⟨g', cs, h1, h2, (Below.heap_setCell _ _ _ _ hg).trans h3, h4⟩
theorem RowAt.low {w : World} {B B' : Nat} {ad : Option Addr} {m : Nat} (h : RowAt w B ad m) (hB : B' ≤ B) : RowAt w B' ad m := by
  rcases h with h | ⟨g, cs, h1, h2, h3, h4⟩
  · exact .inl h
  · exact .inr ⟨g, cs, h1, Nat.le_trans hB h2, h3, h4⟩
theorem RowAt.at {w : World} {B : Nat} {ad : Option Addr} {m : Nat} (h : RowAt w B ad m) (j : Nat) (hj : j < m) : ∃ g v, ad = some ⟨g, 0, none⟩ ∧ B ≤ g ∧ w.cell? ⟨g, j, none⟩ = some v ∧ w.frozen? ⟨g, j, none⟩ = false := by
  rcases h with h | ⟨g, cs, h1, h2, h3, h4⟩
  · omega
  · exact ⟨g, cs[j]'(by omega), h1, h2, by simp [World.cell?, h3, show j < cs.size by omega], by simp [World.frozen?, h3]⟩
/-- What is as it was below w0's last, and two rows that may be written on. -/
structure TwoR (w0 w : World) (ad ad2 : Option Addr) (m m2 : Nat) : Prop where
  one : RowAt w w0.heap.size ad m
  two : RowAt w w0.heap.size ad2 m2
  bel : Below w0.heap.size w0 w
theorem TwoR.put {w0 w : World} {ad ad2 : Option Addr} {m m2 : Nat} (h : TwoR w0 w ad ad2 m m2) (g j : Nat) (v : Value) (hg : w0.heap.size ≤ g) : TwoR w0 (w.setCell ⟨g, j, none⟩ v) ad ad2 m m2 :=
  ⟨h.one.put g j v, h.two.put g j v, h.bel.setCell (p := ⟨g, j, none⟩) hg v⟩
/-- One's own numbers lie in a row that may be written on. -/
theorem own_row {w : World} {B : Nat} {v : Value} {l : List Int} (h : w.ownsRow B 3 1 v l.length (iC l)) : ∃ ad cap, v = .slice ad l.length cap ∧ IntsIn w ad l ∧ RowAt w B ad l.length := by
  obtain ⟨ad, cap, hv, hi⟩ := own_list h
  refine ⟨ad, cap, hv, hi, ?_⟩
  rcases h.2 with ⟨_, h0⟩ | ⟨g, cap', cur, hv', hB, hh, hnc, _, hcs, _⟩
  · exact .inl h0
  · rw [hv] at hv'
    cases hv'
    exact .inr ⟨g, cur, rfl, hB, hh, by omega⟩
theorem join_le (l : List Int) (id : Int) : (joinR l id).length ≤ 16 := by
  rw [joinR]
  split
  · exact joinTo_len l id 16
  · exact Nat.zero_le _
theorem leave_le (l : List Int) (id : Int) : (leaveR l id).length ≤ l.length := by
  rw [leaveR]
  split
  · exact List.length_filter_le _ _
  · exact Nat.zero_le _
set_option maxRecDepth 100000 in
set_option maxHeartbeats 3200000 in
theorem councilMoves_walk (a : Option Addr) (n cap : Nat) (l : List Int) (hn : l.length = n) (hm : n ≤ 17592186043904) (id : Int) (w : World) (hI : IntsIn w a l) :
    Calls Try.prog 7 #[.slice a n cap, .int .i64 id] w fun e w' => e = .returned (.bool true) ∧ Below w.heap.size w w' := by
  have HI := hid hI
  have HN := hid (And.intro hn hm)
  obtain ⟨LJ, eLJ⟩ : ∃ L, L = joinR l id := ⟨_, rfl⟩
  obtain ⟨NJ, eNJ⟩ : ∃ N, N = LJ.length := ⟨_, rfl⟩
  obtain ⟨EJ, eEJ⟩ : ∃ E, E = joinE l id := ⟨_, rfl⟩
  obtain ⟨LL, eLL⟩ : ∃ L, L = leaveR l id := ⟨_, rfl⟩
  obtain ⟨NL, eNL⟩ : ∃ N, N = LL.length := ⟨_, rfl⟩
  obtain ⟨EL, eEL⟩ : ∃ E, E = leaveE l id := ⟨_, rfl⟩
  have hNJ : NJ ≤ 16 := by rw [eNJ, eLJ]; exact join_le l id
  have hNL : NL ≤ 17592186043904 := by have := leave_le l id; rw [eNL, eLL]; omega
  have HNJ := hid (And.intro eNJ.symm (show NJ ≤ maxLen by unfold maxLen; omega))
  have HNL := hid (And.intro eNL.symm (show NL ≤ maxLen by unfold maxLen; omega))
  have HJc : Hid (∀ (u : World) (ad0 : Option Addr) (cap0 : Nat), IntsIn u ad0 l → Calls Try.prog 23 #[.slice ad0 n cap0, .int .i64 id] u fun e w' => ∃ ad cp, e = .returned (.tuple #[.slice ad NJ cp, .int .i64 EJ]) ∧ IntsIn w' ad LJ ∧ RowAt w' u.heap.size ad NJ ∧ Below u.heap.size u w') := hid (fun u ad0 cap0 hu => (cjoin_any ad0 n cap0 l hn (by unfold maxLen; omega) id u hu).mono fun e w' ⟨v, he, ho⟩ => by
    obtain ⟨ad, cp, hv, hi, hr⟩ := own_row ho.own
    rw [← eLJ] at hv hi hr
    rw [← eNJ] at hv hr
    exact ⟨ad, cp, by rw [he, hv, eEJ], hi, hr, ho.bel⟩)
  have HJv : Hid (∀ (u : World) (ad0 : Option Addr) (cap0 : Nat), IntsIn u ad0 l → Calls Try.prog 24 #[.slice ad0 n cap0, .int .i64 id] u fun e w' => ∃ ad cp, e = .returned (.tuple #[.slice ad NJ cp, .int .i64 EJ]) ∧ IntsIn w' ad LJ ∧ RowAt w' u.heap.size ad NJ ∧ Below u.heap.size u w') := hid (fun u ad0 cap0 hu => (vjoin_any ad0 n cap0 l hn (by unfold maxLen; omega) id u hu).mono fun e w' ⟨v, he, ho⟩ => by
    obtain ⟨ad, cp, hv, hi, hr⟩ := own_row ho.own
    rw [← eLJ] at hv hi hr
    rw [← eNJ] at hv hr
    exact ⟨ad, cp, by rw [he, hv, eEJ], hi, hr, ho.bel⟩)
  have HLc : Hid (∀ (u : World) (ad0 : Option Addr) (cap0 : Nat), IntsIn u ad0 l → Calls Try.prog 25 #[.slice ad0 n cap0, .int .i64 id] u fun e w' => ∃ ad cp, e = .returned (.tuple #[.slice ad NL cp, .int .i64 EL]) ∧ IntsIn w' ad LL ∧ RowAt w' u.heap.size ad NL ∧ Below u.heap.size u w') := hid (fun u ad0 cap0 hu => (cleave_any ad0 n cap0 l hn (by unfold maxLen; omega) id u hu).mono fun e w' ⟨v, he, ho⟩ => by
    obtain ⟨ad, cp, hv, hi, hr⟩ := own_row ho.own
    rw [← eLL] at hv hi hr
    rw [← eNL] at hv hr
    exact ⟨ad, cp, by rw [he, hv, eEL], hi, hr, ho.bel⟩)
  have HLv : Hid (∀ (u : World) (ad0 : Option Addr) (cap0 : Nat), IntsIn u ad0 l → Calls Try.prog 26 #[.slice ad0 n cap0, .int .i64 id] u fun e w' => ∃ ad cp, e = .returned (.tuple #[.slice ad NL cp, .int .i64 EL]) ∧ IntsIn w' ad LL ∧ RowAt w' u.heap.size ad NL ∧ Below u.heap.size u w') := hid (fun u ad0 cap0 hu => (vleave_any ad0 n cap0 l hn (by unfold maxLen; omega) id u hu).mono fun e w' ⟨v, he, ho⟩ => by
    obtain ⟨ad, cp, hv, hi, hr⟩ := own_row ho.own
    rw [← eLL] at hv hi hr
    rw [← eNL] at hv hr
    exact ⟨ad, cp, by rw [he, hv, eEL], hi, hr, ho.bel⟩)
  clear eNJ eNL eEJ eEL eLJ eLL
  obtain ⟨i0, hi0, hz0, hz1, hz2⟩ := info_parts Try.info3
  clear hI hn hm
  go_enter Try.func7, Try.ntmps7
  go_wp2_with (first
    | (go_at_call 9; refine (clives_any _).mono ?_; rintro e w1 ⟨rfl, hb1⟩; have H1 := hid hb1; clear hb1)
    | (refine wl_ownI rfl _ _ rfl rfl _ _ _ l rfl (by exact HN.out.1) (by exact HI.out.keep H1.out (Nat.le_refl _)) (by have := HN.out.2; omega) ?_; intro v2 w2 H2)
    | (at_builtin; refine wpList_append_own _ rfl _ _ 28 rfl w1.heap.size 3 i0 (.int .i64 0) 1 8 Try.underlying28 hi0 hz0 hz1 hz2 rfl (by decide) _ _ _ rfl (H2.out.alloc _).own ⟨_, 0, none⟩ 1 1 (iC [-7]) rfl rfl (World.news_of_block (t := 3) (fr := (0, 0)) (heap_alloc_last _ _)) (iC_one _) (by have := HN.out; unfold maxLen; omega) (by have := HN.out; omega) (H2.out.alloc _).le ?_; intro v3 w3 hown3 hgrow3 hnil3; have h3 := (H2.out.alloc _).grow (xs := [-7]) rfl hown3 hgrow3
       obtain ⟨g, cap3, rfl, hc3, hm3, hg3, hg1, hcell3⟩ := h3.form (by simp)
       rw [List.length_append, HN.out.1]
       have H3 := hid (And.intro h3.bel (And.intro hg3 (And.intro hg1 (And.intro hcell3 hc3)))); have hcp1 : n + 1 ≤ cap3 := (by have := hc3; rw [List.length_append, HN.out.1] at this; exact this); have hcp : n ≤ cap3 := (by omega)
       have K3 := hid (And.intro (show IntsIn w3 (some ⟨g, 0, none⟩) l from .inr ⟨g, 0, rfl, hg3, fun j x hj => by rw [Nat.zero_add]; exact hcell3 j x (by rw [List.getElem?_append_left (List.getElem?_eq_some_iff.1 hj).1]; exact hj)⟩) (And.intro (HI.out.keep (H1.out.trans (h3.bel.mono H1.out.size)) (Nat.le_refl _)) (hcell3 n (-7) (by rw [← HN.out.1]; simp))))
       clear hown3 hgrow3 hnil3 h3 hc3 hm3 hg3 hg1 hcell3 hcp1)
    | (go_at_call 23; refine (HJc.out _ _ _ K3.out.1).mono ?_; rintro e w4 ⟨ad4, cp4, rfl, hi4, hr4, hb4⟩; have H4 := hid (And.intro hi4 (And.intro hr4 hb4)); clear hi4 hr4 hb4)
    | (go_at_call 24; refine (HJv.out _ _ _ (K3.out.2.1.keep H4.out.2.2 (Nat.le_refl _))).mono ?_; rintro e w5 ⟨ad5, cp5, rfl, hi5, hr5, hb5⟩; have H5 := hid (And.intro hi5 (H4.out.2.2.trans (hb5.mono H4.out.2.2.size))); have H5b := hid hb5; clear hi5 hr5 hb5)
    | (go_at_call 25; refine (HLc.out _ _ _ (K3.out.1.keep H5.out.2 (Nat.le_refl _))).mono ?_; rintro e w6 ⟨ad6, cp6, rfl, hi6, hr6, hb6⟩; have H6 := hid (And.intro hi6 (And.intro hr6 (H5.out.2.trans (hb6.mono H5.out.2.size)))); have H6b := hid hb6; clear hi6 hr6 hb6)
    | (go_at_call 26; refine (HLv.out _ _ _ (K3.out.2.1.keep H6.out.2.2 (Nat.le_refl _))).mono ?_; rintro e w7 ⟨ad7, cp7, rfl, hi7, hr7, hb7⟩; have H7 := hid (And.intro hi7 hb7); clear hi7 hr7 hb7)
    | (go_at_call 27; have := H8; refine (sameInts_any _ _ _ _ _ _ HNL.out.1 HNL.out.2 _ (((H6.out.1.keep H7.out.2 (Nat.le_refl _))).keep H8.out (Nat.le_refl _)) (H7.out.1.keep H8.out (Nat.le_refl _))).mono ?_; rintro e w9 ⟨rfl, hb9⟩; have H9 := hid (H8.out.trans (hb9.mono H8.out.size)); clear hb9)
    | (go_at_call 27; refine (sameInts_any _ _ _ _ _ _ HNJ.out.1 HNJ.out.2 _ (((H4.out.1.keep H5b.out (Nat.le_refl _)).keep H6b.out (Nat.le_refl _)).keep H7.out.2 (Nat.le_refl _)) ((H5.out.1.keep H6b.out (Nat.le_refl _)).keep H7.out.2 (Nat.le_refl _))).mono ?_; rintro e w8 ⟨rfl, hb8⟩; have H8 := hid hb8; clear hb8))
  have HT : Hid (TwoR w3 w9 ad4 ad6 NJ NL) := hid ⟨(((H4.out.2.1.keep H5b.out).keep H6b.out).keep H7.out.2).keep H9.out, ((H6.out.2.1.keep H7.out.2).keep H9.out).low H5.out.2.size, (H6.out.2.2.trans (H7.out.2.mono H6.out.2.2.size)).trans (H9.out.mono (Nat.le_trans H6.out.2.2.size H7.out.2.size))⟩
  go_loopw [14] (fun i wr => ∃ j : Nat, j ≤ NJ ∧ i = .int .i64 (j : Int) ∧ TwoR w3 wr ad4 ad6 NJ NL)
    (fun i _ => ((NJ : Int) - intOf i).toNat)
  case atStart => exact ⟨0, Nat.zero_le _, rfl, HT.out⟩
  case round =>
    obtain ⟨j, hj, rfl, hst⟩ := hrel
    clear HT
    have HT := hid hst
    clear hst
    by_cases hjn : j = NJ
    · have hj1 : ¬ ((j : Int) < (NJ : Int)) := by omega
      clear hj hjn
      go_wp2
      go_loopw [15] (fun i wr => ∃ j : Nat, j ≤ NL ∧ i = .int .i64 (j : Int) ∧ TwoR w3 wr ad4 ad6 NJ NL)
        (fun i _ => ((NL : Int) - intOf i).toNat)
      case atStart => exact ⟨0, Nat.zero_le _, rfl, HT.out⟩
      case round =>
        obtain ⟨j, hj, rfl, hst⟩ := hrel
        clear HT
        have HT := hid hst
        clear hst
        by_cases hjn : j = NL
        · have hj1 : ¬ ((j : Int) < (NL : Int)) := by omega
          clear hj hjn
          rename World => wz
          have g9 := (HT.out.bel.cell (p := ⟨g, n, none⟩) H3.out.2.1).trans K3.out.2.2
          have HS := hid (sameInts_any (some ⟨g, 0, none⟩) a n cap3 cap l HN.out.1 (by have := HN.out.2; unfold maxLen; omega))
          go_wp2_with (go_at_call 27; refine (HS.out _ (K3.out.1.keep HT.out.bel (Nat.le_refl _)) (K3.out.2.1.keep HT.out.bel (Nat.le_refl _))).mono ?_; rintro e wy ⟨rfl, hby⟩; have HY := hid (HT.out.bel.trans (hby.mono HT.out.bel.size)); clear hby g9; have g10 := (HY.out.cell (p := ⟨g, n, none⟩) H3.out.2.1).trans K3.out.2.2)
          go_ret
          have k3 := H1.out.trans (H3.out.1.mono H1.out.size)
          exact ⟨rfl, k3.trans (HY.out.mono k3.size)⟩
        · have hj1 : (j : Int) < (NL : Int) := by omega
          have hj0 : (0 : Int) ≤ (j : Int) := Int.natCast_nonneg _
          obtain ⟨gg, v0, rfl, hB, hc0, hf0⟩ := HT.out.two.at j (by omega)
          have HB := hid hB
          have HJn := hid (And.intro hj hjn)
          clear hB hj hjn
          go_wp2
          go_roundw
          case rel => exact ⟨j + 1, by have := HJn.out; omega, rfl, HT.out.put gg j _ HB.out⟩
          case measure => simp [intOf]; omega
    · have hj1 : (j : Int) < (NJ : Int) := by omega
      have hj0 : (0 : Int) ≤ (j : Int) := Int.natCast_nonneg _
      obtain ⟨gg, v0, rfl, hB, hc0, hf0⟩ := HT.out.one.at j (by omega)
      have HB := hid hB
      have HJn := hid (And.intro hj hjn)
      clear hB hj hjn
      go_wp2
      go_roundw
      case rel => exact ⟨j + 1, by have := HJn.out; omega, rfl, HT.out.put gg j _ HB.out⟩
      case measure => simp [intOf]; omega
end Go.Proofs.Ytfcbngdhbmifeaa
