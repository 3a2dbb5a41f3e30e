/- The law: which bytes are a ledger's; it goes on as the document says. -/
import Derived.Test.YtecidbdbdnnglaaGreatMy13
import Derived.Test.YtecidbdbdnnglaaGreatMy12
namespace Go.Proofs.YtecidbdbdnnglaaGreat
open Go.RowKit

theorem wopen_yes (t : ByteArray) (ht : t.size ≤ maxLen) (w : World) (h : opnB t = true) : Calls Tryz.prog 12 #[.string t] w fun e w' => ∃ v F, e = .returned (.tuple #[v, .int .i64 0]) ∧ LmAt F w' v (opS t) ∧ (∀ b, b ∈ F → w.heap.size ≤ b) ∧ Below w.heap.size w w' := by
  refine (wopen_any t ht w).mono ?_
  rintro e w' (⟨_, h2⟩ | ⟨h2, _⟩)
  · exact h2
  · rw [h] at h2; cases h2
theorem wopen_no (t : ByteArray) (ht : t.size ≤ maxLen) (w : World) (h : opnB t = false) : Calls Tryz.prog 12 #[.string t] w fun e w' => e = .returned (.tuple #[.pointer none, .int .i64 5]) ∧ Below w.heap.size w w' := by
  refine (wopen_any t ht w).mono ?_
  rintro e w' (⟨h2, _⟩ | ⟨_, h2⟩)
  · rw [h] at h2; cases h2
  · exact h2
set_option maxRecDepth 100000 in
set_option maxHeartbeats 6400000 in
theorem ldopens_no (t : ByteArray) (ht : t.size ≤ maxLen) (sa : Option Addr) (sn sc : Nat) (w : World) (hn : opnB t = false) :
    Calls Tryz.prog 4 #[.string t, .slice sa sn sc] w fun e w' => e = .returned (.bool true) ∧ Below w.heap.size w w' := by
  have HL : Hid (∀ u : World, Calls Tryz.prog 11 #[.string t] u fun e w' => e = .returned (.tuple #[.pointer none, .int .i64 5]) ∧ Below u.heap.size u w') := hid (fun u => gopen_no t u hn)
  have HM : Hid (∀ u : World, Calls Tryz.prog 12 #[.string t] u fun e w' => e = .returned (.tuple #[.pointer none, .int .i64 5]) ∧ Below u.heap.size u w') := hid (fun u => wopen_no t ht u hn)
  clear ht hn
  go_enter Tryz.func4, Tryz.ntmps4
  go_wp2_with (first
    | (go_at_call 12; refine (HM.out _).mono ?_; rintro e w3 ⟨rfl, hb⟩; have H3 := hid (H2.out.trans (hb.mono H2.out.size)); clear hb)
    | (go_at_call 11; refine (HL.out _).mono ?_; rintro e w2 ⟨rfl, hb⟩; have H2 := hid (H1.out.trans (hb.mono H1.out.size)); clear hb)
    | (go_at_call 6; refine (elives_any _).mono ?_; rintro e w1 ⟨rfl, hb⟩; have H1 := hid hb; clear hb))
  go_ret
  exact ⟨rfl, H3.out⟩
set_option maxRecDepth 100000 in
set_option maxHeartbeats 12800000 in
theorem ldopens_yes (t : ByteArray) (ht : t.size ≤ maxLen) (sa : Option Addr) (sc : Nat) (os : List Stp) (hol : os.length ≤ maxLen) (hos : ∀ o, o ∈ os → stB o) (w : World) (hS : StpsIn w sa os) (hn : opnB t = true) :
    Calls Tryz.prog 4 #[.string t, .slice sa os.length sc] w fun e w' => e = .returned (.bool true) ∧ Below w.heap.size w w' := by
  have hl2 : (os.length : Int) ≤ 9223372036854775807 := by unfold maxLen at hol; omega
  have HL : Hid (∀ u : World, Below w.heap.size w u → Calls Tryz.prog 11 #[.string t] u fun e w' => ∃ g F, e = .returned (.tuple #[.pointer (some ⟨g, 0, none⟩), .int .i64 0]) ∧ LvSt w w' F (.pointer (some ⟨g, 0, none⟩)) (opS t)) := hid (fun u hu => (gopen_yes t u hn).mono fun e w' ⟨v, F, h1, h2, h3, h4⟩ => by
    obtain ⟨g, rfl⟩ := h2.ptr
    exact ⟨g, F, h1, h2, fun b hb => Nat.le_trans hu.size (h3 b hb), hu.trans (h4.mono hu.size)⟩)
  have HM : Hid (∀ (u : World) (Fl : List Nat) (vl : Value), LvSt w u Fl vl (opS t) → Calls Tryz.prog 12 #[.string t] u fun e w' => ∃ g F, e = .returned (.tuple #[.pointer (some ⟨g, 0, none⟩), .int .i64 0]) ∧ Pr w w' [] (fun _ => True) Fl vl (opS t) F (.pointer (some ⟨g, 0, none⟩)) (opS t)) := hid (fun u Fl vl hu => (wopen_yes t ht u hn).mono fun e w' ⟨v, F, h1, h2, h3, h4⟩ => by
    obtain ⟨g, rfl⟩ := h2.ptr
    exact ⟨g, F, h1, SgSt.of (hu.keep h4), h2, fun b hb => Nat.le_trans hu.bel.size (h3 b hb), fun b hb hl => Nat.lt_irrefl _ (Nat.lt_of_lt_of_le (hu.ld.lt b hl) (h3 b hb)), fun b hb => by cases hb⟩)
  have HT : Hid (∀ (u : World) (F : List Nat) (v : Value), LdAt F u v (opS t) → Calls Tryz.prog 13 #[v] u fun e w' => e = .returned (.string t) ∧ Below u.heap.size u w') := hid (fun u F v hu => by have := gtextP hu; rw [(op_back hn).2] at this; exact this)
  have HS := hid (And.intro hS hos)
  clear hS hos hol ht hn
  go_enter Tryz.func4, Tryz.ntmps4
  go_wp2_with (first
    | (have := H4; go_at_call 10; refine (esame_any H4.out).mono ?_; rintro e w5 ⟨rfl, hb⟩; have H5 := hid (H4.out.keep hb); clear hb)
    | (have := H3; go_at_call 13; refine (HT.out _ _ _ H3.out.a.lv.ld).mono ?_; rintro e w4 ⟨rfl, hb⟩; have H4 := hid (H3.out.keep hb); clear hb)
    | (go_at_call 12; refine (HM.out _ _ _ H2.out).mono ?_; rintro e w3 ⟨gm, F3, rfl, hq⟩; have H3 := hid hq; clear hq)
    | (go_at_call 11; refine (HL.out _ H1.out).mono ?_; rintro e w2 ⟨g, F2, rfl, hq⟩; have H2 := hid hq; clear hq)
    | (go_at_call 6; refine (elives_any _).mono ?_; rintro e w1 ⟨rfl, hb⟩; have H1 := hid hb; clear hb))
  generalize opS t = S0 at *
  go_loopw [9] (fun i wr => ∃ (j : Nat) (Fl Fm : List Nat) (s : Ls), j ≤ os.length ∧ i = .int .i64 (j : Int) ∧ Pr w wr [] (fun _ => True) Fl (.pointer (some ⟨g, 0, none⟩)) s Fm (.pointer (some ⟨gm, 0, none⟩)) s)
    (fun i _ => ((os.length : Int) - intOf i).toNat)
  case atStart => exact ⟨0, _, _, _, by omega, rfl, H5.out⟩
  case round =>
    clear H5 H4 H3 H2 H1 HL HM HT
    obtain ⟨j, Fl, Fm, s, hj, rfl, hP⟩ := hrel
    have HP := hid hP
    clear hP
    by_cases hjn : j = os.length
    · have hj1 : ¬ ((j : Int) < (os.length : Int)) := by omega
      clear hj hjn
      go_wp2_with (go_at_call 10; refine (esame_any HP.out).mono ?_; rintro e w30 ⟨rfl, hb⟩; have H30 := hid (HP.out.keep hb); clear hb)
      go_ret
      exact ⟨rfl, H30.out.bel⟩
    · have hj1 : (j : Int) < (os.length : Int) := by omega
      have hj0 : (0 : Int) ≤ (j : Int) := Int.natCast_nonneg _
      obtain ⟨o, ho⟩ : ∃ o, os[j]? = some o := ⟨_, List.getElem?_eq_getElem (by omega)⟩
      obtain ⟨b, off, hst⟩ := HS.out.1.at ho
      have HA := hid hst
      have HB := hid (HS.out.2 _ (List.mem_of_getElem? ho))
      have hsa := hst.is
      subst hsa
      have HJ := hid (And.intro hj hjn)
      clear hst ho hj hjn
      have ha := HA.out.keep HP.out.bel
      have k0 := ha.k0; have k1 := ha.k1; have k2 := ha.k2; have k3 := ha.k3; have k4 := ha.k4; have k5 := ha.k5; have k6 := ha.k6
      clear ha
      go_wp2_with (first
        | (go_at_call 9; refine (estep_any HP.out o HB.out).mono ?_; rintro e w31 ⟨rfl, F3, F4, hq⟩; have H31 := hid hq; clear hq))
      go_roundw
      case rel => exact ⟨j + 1, _, _, _, by have := HJ.out; omega, rfl, H31.out⟩
      case measure => have := HJ.out; simp [intOf]; omega
theorem ldopens_any (t : ByteArray) (ht : t.size ≤ maxLen) (sa : Option Addr) (sc : Nat) (os : List Stp) (hol : os.length ≤ maxLen) (hos : ∀ o, o ∈ os → stB o) (w : World) (hS : StpsIn w sa os) :
    Calls Tryz.prog 4 #[.string t, .slice sa os.length sc] w fun r w' => r = .returned (.bool true) ∧ Below w.heap.size w w' := by
  cases hn : opnB t with
  | true => exact ldopens_yes t ht sa sc os hol hos w hS hn
  | false => exact ldopens_no t ht sa _ sc w hn
end Go.Proofs.YtecidbdbdnnglaaGreat
