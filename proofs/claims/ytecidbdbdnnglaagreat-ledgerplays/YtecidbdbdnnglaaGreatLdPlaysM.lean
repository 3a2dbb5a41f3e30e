/- The law: a ledger in whatever row of requests and turns. -/
import Derived.Test.YtecidbdbdnnglaaGreatMy13
import Derived.Test.YtecidbdbdnnglaaGreatLrUM
namespace Go.Proofs.YtecidbdbdnnglaaGreat
open Go.RowKit

set_option maxRecDepth 100000 in
set_option maxHeartbeats 3200000 in
theorem ldplays_no (ep : Int) (a : Option Addr) (n cap : Nat) (l : List Int) (hn : l.length = n) (hm : n ≤ maxLen) (sa : Option Addr) (sn sc : Nat) (w : World) (hI : IntsIn w a l) (hr : rightC ep l = false ∨ ep ≠ 0) :
    Calls Tryz.prog 3 #[.agg #[.int .i64 ep, .slice a n cap], .slice sa sn sc] w fun e w' => e = .returned (.bool true) ∧ Below w.heap.size w w' := by
  have hax := (Below.refl w.heap.size w).alloc (Nat.le_refl _) (.cells #[.int .i64 ep, .slice a n cap] 24)
  have H0 : Hid (GfAt (w.alloc (.cells #[.int .i64 ep, .slice a n cap] 24)) w.heap.size ep (.slice a n cap) ∧ Below w.heap.size w (w.alloc (.cells #[.int .i64 ep, .slice a n cap] 24))) := hid ⟨heap_alloc_last w _, hax⟩
  have HNw : Hid (∀ u : World, Below w.heap.size w u → Calls Tryz.prog 7 #[.agg #[.int .i64 ep, .slice a n cap]] u fun r w' => r = .returned (.tuple #[.pointer none, .int .i64 1]) ∧ Below u.heap.size u w') := hid (fun u hu => gnew_no ep a n cap l hn hm _ (hI.keep hu (Nat.le_refl _)) hr)
  have HMw : Hid (∀ u : World, Below w.heap.size w u → Calls Tryz.prog 8 #[.agg #[.int .i64 ep, .slice a n cap]] u fun r w' => r = .returned (.tuple #[.pointer none, .int .i64 1]) ∧ Below u.heap.size u w') := hid (fun u hu => wnew_no ep a n cap l hn hm _ (hI.keep hu (Nat.le_refl _)) hr)
  clear hax hI hn hr hm
  go_enter Tryz.func3, Tryz.ntmps3
  go_wp2_with (first
    | (go_at_call 8; refine (HMw.out _ H2.out.2).mono ?_; rintro e w3 ⟨rfl, hb⟩; have H3 := hid (H2.out.2.trans (hb.mono H2.out.2.size)); clear hb)
    | (go_at_call 7; refine (HNw.out _ H1.out.2).mono ?_; rintro e w2 ⟨rfl, hb⟩; have H2 := hid (And.intro ((hb.block _ (lt_of_blk H1.out.1)).trans H1.out.1) (H1.out.2.trans (hb.mono H1.out.2.size))); clear hb x0 x1; obtain ⟨x0, x1⟩ := GfAt.cells H2.out.1)
    | (go_at_call 6; refine (elives_any _).mono ?_; rintro e w1 ⟨rfl, hb⟩; have H1 := hid (And.intro ((hb.block _ (lt_of_blk H0.out.1)).trans H0.out.1) (H0.out.2.trans (hb.mono H0.out.2.size))); clear hb; obtain ⟨x0, x1⟩ := GfAt.cells H1.out.1))
  go_ret
  exact ⟨rfl, H3.out⟩
set_option maxRecDepth 100000 in
set_option maxHeartbeats 12800000 in
theorem ldplays_yes (a : Option Addr) (n cap : Nat) (l : List Int) (hn : l.length = n) (sa : Option Addr) (sc : Nat) (os : List Stp) (hol : os.length ≤ maxLen) (hos : ∀ o, o ∈ os → stB o) (w : World) (hI : IntsIn w a l) (hr : rightC 0 l = true) (hS : StpsIn w sa os) :
    Calls Tryz.prog 3 #[.agg #[.int .i64 0, .slice a n cap], .slice sa os.length sc] w fun e w' => e = .returned (.bool true) ∧ Below w.heap.size w w' := by
  have hax := (Below.refl w.heap.size w).alloc (Nat.le_refl _) (.cells #[.int .i64 0, .slice a n cap] 24)
  have hl2 : (os.length : Int) ≤ 9223372036854775807 := by unfold maxLen at hol; omega
  have H0 : Hid (GfAt (w.alloc (.cells #[.int .i64 0, .slice a n cap] 24)) w.heap.size 0 (.slice a n cap) ∧ Below w.heap.size w (w.alloc (.cells #[.int .i64 0, .slice a n cap] 24))) := hid ⟨heap_alloc_last w _, hax⟩
  have HNw : Hid (∀ u : World, Below w.heap.size w u → GfAt u w.heap.size 0 (.slice a n cap) → Calls Tryz.prog 7 #[.agg #[.int .i64 0, .slice a n cap]] u fun r w' => ∃ g F, r = .returned (.tuple #[.pointer (some ⟨g, 0, none⟩), .int .i64 0]) ∧ LvSt w w' F (.pointer (some ⟨g, 0, none⟩)) (newS l) ∧ GfAt w' w.heap.size 0 (.slice a n cap)) := hid (fun u hu hg =>
    (gnew_yes a n cap l hn _ (hI.keep hu (Nat.le_refl _)) hr).mono fun e w' ⟨v, F, h1, h2, h3, h4⟩ => by
      obtain ⟨g, rfl⟩ := h2.ptr
      exact ⟨g, F, h1, ⟨h2, fun b hb => Nat.le_trans hu.size (h3 b hb), hu.trans (h4.mono hu.size)⟩, (h4.block _ (lt_of_blk hg)).trans hg⟩)
  have HMw : Hid (∀ (u : World) (Fl : List Nat) (vl : Value), LvSt w u Fl vl (newS l) → Calls Tryz.prog 8 #[.agg #[.int .i64 0, .slice a n cap]] u fun r w' => ∃ g F, r = .returned (.tuple #[.pointer (some ⟨g, 0, none⟩), .int .i64 0]) ∧ Pr w w' [] (fun _ => True) Fl vl (newS l) F (.pointer (some ⟨g, 0, none⟩)) (newS l)) := hid (fun u Fl vl hu =>
    (wnew_yes a n cap l hn _ (hI.keep hu.bel (Nat.le_refl _)) hr).mono fun e w' ⟨v, F, h1, h2, h3, h4⟩ => by
      obtain ⟨g, rfl⟩ := h2.ptr
      exact ⟨g, F, h1, SgSt.of (hu.keep h4), h2, fun b hb => Nat.le_trans hu.bel.size (h3 b hb), fun b hb hl => Nat.lt_irrefl _ (Nat.lt_of_lt_of_le (hu.ld.lt b hl) (h3 b hb)), fun b hb => by cases hb⟩)
  have HS := hid (And.intro hS hos)
  clear hax hI hn hr hS hos hol
  go_enter Tryz.func3, Tryz.ntmps3
  go_wp2_with (first
    | (go_at_call 8; refine (HMw.out _ _ _ H2.out.1).mono ?_; rintro e w3 ⟨gm, F3, rfl, hq⟩; have H3 := hid hq; clear hq x0 x1)
    | (go_at_call 7; refine (HNw.out _ H1.out.2 H1.out.1).mono ?_; rintro e w2 ⟨g, F2, rfl, hq⟩; have H2 := hid hq; clear hq x0 x1; obtain ⟨x0, x1⟩ := GfAt.cells H2.out.2)
    | (go_at_call 6; refine (elives_any _).mono ?_; rintro e w1 ⟨rfl, hb⟩; have H1 := hid (And.intro ((hb.block _ (lt_of_blk H0.out.1)).trans H0.out.1) (H0.out.2.trans (hb.mono H0.out.2.size))); clear hb; obtain ⟨x0, x1⟩ := GfAt.cells H1.out.1))
  generalize newS l = S0 at *
  go_loopw [9] (fun i wr => ∃ (j : Nat) (Fl Fm : List Nat) (s : Ls), j ≤ os.length ∧ i = .int .i64 (j : Int) ∧ Pr w wr [] (fun _ => True) Fl (.pointer (some ⟨g, 0, none⟩)) s Fm (.pointer (some ⟨gm, 0, none⟩)) s)
    (fun i _ => ((os.length : Int) - intOf i).toNat)
  case atStart => exact ⟨0, _, _, _, by omega, rfl, H3.out⟩
  case round =>
    clear H3 H2 H1 HNw HMw
    obtain ⟨j, Fl, Fm, s, hj, rfl, hP⟩ := hrel
    have HP := hid hP
    clear hP
    by_cases hjn : j = os.length
    · have hj1 : ¬ ((j : Int) < (os.length : Int)) := by omega
      clear hj hjn
      go_wp2_with (go_at_call 10; refine (esame_any HP.out).mono ?_; rintro e w30 ⟨rfl, hb⟩; have H30 := hid (HP.out.keep hb); clear hb)
      go_ret
      exact ⟨rfl, H30.out.bel⟩
    · have hj1 : (j : Int) < (os.length : Int) := by omega
      have hj0 : (0 : Int) ≤ (j : Int) := Int.natCast_nonneg _
      obtain ⟨o, ho⟩ : ∃ o, os[j]? = some o := ⟨_, List.getElem?_eq_getElem (by omega)⟩
      obtain ⟨b, off, hst⟩ := HS.out.1.at ho
      have HA := hid hst
      have HB := hid (HS.out.2 _ (List.mem_of_getElem? ho))
      have hsa := hst.is
      subst hsa
      have HJ := hid (And.intro hj hjn)
      clear hst ho hj hjn
      have ha := HA.out.keep HP.out.bel
      have k0 := ha.k0; have k1 := ha.k1; have k2 := ha.k2; have k3 := ha.k3; have k4 := ha.k4; have k5 := ha.k5; have k6 := ha.k6
      clear ha
      go_wp2_with (first
        | (have := H31; go_at_call 10; refine (esame_any H31.out).mono ?_; rintro e w32 ⟨rfl, hb⟩; have H32 := hid (H31.out.keep hb); clear hb)
        | (go_at_call 9; refine (estep_any HP.out o HB.out).mono ?_; rintro e w31 ⟨rfl, F3, F4, hq⟩; have H31 := hid hq; clear hq))
      go_roundw
      case rel => exact ⟨j + 1, _, _, _, by have := HJ.out; omega, rfl, H32.out⟩
      case measure => have := HJ.out; simp [intOf]; omega
theorem ldplays_any (ep : Int) (a : Option Addr) (n cap : Nat) (l : List Int) (hn : l.length = n) (hm : n ≤ maxLen) (sa : Option Addr) (sc : Nat) (os : List Stp) (hol : os.length ≤ maxLen) (hos : ∀ o, o ∈ os → stB o) (w : World) (hI : IntsIn w a l) (hS : StpsIn w sa os) :
    Calls Tryz.prog 3 #[.agg #[.int .i64 ep, .slice a n cap], .slice sa os.length sc] w fun r w' => r = .returned (.bool true) ∧ Below w.heap.size w w' := by
  by_cases h : rightC ep l = true ∧ ep = 0
  · obtain ⟨hr, rfl⟩ := h
    exact ldplays_yes a n cap l hn sa sc os hol hos w hI hr hS
  · refine ldplays_no ep a n cap l hn hm sa _ sc w hI ?_
    cases hr : rightC ep l with
    | false => exact .inl rfl
    | true => exact .inr (fun e => h ⟨hr, e⟩)
end Go.Proofs.YtecidbdbdnnglaaGreat
