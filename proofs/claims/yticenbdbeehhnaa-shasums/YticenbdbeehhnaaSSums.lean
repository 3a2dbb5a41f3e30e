/- Digests of any parts: the walk. -/
import Derived.Test.YticenbdbeehhnaaShR
import Derived.Test.YticenbdbeehhnaaRows
namespace Go.Proofs.Yticenbdbeehhnaa
open Go.RowKit

theorem joinB_small (ss : List ByteArray) (h : ∀ (j : Nat) (s : ByteArray), ss[j]? = some s → s.size ≤ 4096) : (joinB ss).length ≤ 4096 * ss.length := by
  induction ss with
  | nil => simp [joinB]
  | cons a r ih =>
    have h0 := h 0 a rfl
    have h1 := ih (fun j s hs => h (j + 1) s (by simpa using hs))
    have e : joinB (a :: r) = a.data.toList ++ joinB r := by simp [joinB]
    rw [e, List.length_append, data_len, List.length_cons]
    omega
theorem data_of (l : List UInt8) : (⟨l.toArray⟩ : ByteArray).data.toList = l := by simp
theorem get_last (ss : List ByteArray) (s : ByteArray) (n : Nat) (h : ss.length = n) : (ss ++ [s])[n]? = some s := by subst h; simp
theorem get_left (ss : List ByteArray) (s x : ByteArray) (j : Nat) (h : ss[j]? = some x) : (ss ++ [s])[j]? = some x := by
  rw [List.getElem?_append_left (List.getElem?_eq_some_iff.1 h).1]; exact h

def spareT : ByteArray := ⟨#[115, 112, 97, 114, 101]⟩

set_option maxRecDepth 100000 in
set_option maxHeartbeats 1600000 in
theorem shaSums_walk (a : Option Addr) (n cap : Nat) (ss : List ByteArray) (hn : ss.length = n) (hm : n ≤ maxLen) (w : World) (hS : StrsIn w a ss) :
    Calls Try.prog 3 #[.slice a n cap] w fun e w' => e = .returned (.bool true) ∧ Below w.heap.size w w' := by
  obtain ⟨i0, hi0, hz0, hz1, hz2⟩ := info_parts Try.info9
  have HS := hid (And.intro hS hn)
  unfold maxLen at hm
  clear hS hn
  by_cases hl : 100 < n
  · have hl2 : (100 : Int) < (n : Int) := by omega
    clear hl
    go_enter Try.func3, Try.ntmps3
    go_wp2_with (first
      | (go_at_call 8; refine (slives_any _).mono ?_; rintro e w1 ⟨rfl, hb1⟩; first | (have HB2 := hid (HB1.out.trans (hb1.mono HB1.out.size)); clear hb1) | (have HB1 := hid hb1; clear hb1)))
    go_ret
    exact ⟨rfl, HB2.out⟩
  · have hl2 : (n : Int) ≤ 100 := by omega
    have hn0 : (0 : Int) ≤ (n : Int) := Int.natCast_nonneg _
    have hlN : n ≤ 100 := by omega
    have HL := hid hlN
    clear hl hm hlN
    go_enter Try.func3, Try.ntmps3
    go_wp2_with (first
      | (go_at_call 8; refine (slives_any _).mono ?_; rintro e w1 ⟨rfl, hb1⟩; have HB1 := hid hb1; clear hb1))
    have HS1 := hid (HS.out.1.keep HB1.out (Nat.le_refl _))
    go_loopw [3] (fun v wr => ∃ j : Nat, j ≤ n ∧ v = .int .i64 (j : Int) ∧ wr = w1 ∧ ∀ (k : Nat) (s : ByteArray), k < j → ss[k]? = some s → s.size ≤ 4096)
      (fun v _ => ((n : Int) - intOf v).toNat)
    case atStart => exact ⟨0, by omega, rfl, rfl, fun k s hk => by omega⟩
    case round =>
      obtain ⟨j, hj, rfl, rfl, hsm⟩ := hrel
      have HM := hid hsm
      clear hsm
      by_cases hjn : j = n
      · have hk1 : ¬ ((j : Int) < (n : Int)) := by omega
        have hall : ∀ (k : Nat) (s : ByteArray), ss[k]? = some s → s.size ≤ 4096 := fun k s hs => HM.out k s (by have := (List.getElem?_eq_some_iff.1 hs).1; rw [HS.out.2] at this; omega) hs
        have hsz := joinB_small ss hall
        rw [HS.out.2] at hsz
        obtain ⟨T, eT⟩ : ∃ T, T = shaB (joinB ss) := ⟨_, rfl⟩
        have HJ : Hid ((joinB ss).length ≤ 409600) := hid (by have := HL.out; omega)
        have HQ : Hid (∀ u : World, Calls Try.prog 10 #[.string ⟨(joinB ss).toArray⟩] u fun e w' => e = .returned (.string ⟨T.toArray⟩) ∧ Below u.heap.size u w') := hid (fun u => by
          have := qsum_any ⟨(joinB ss).toArray⟩ (by show (joinB ss).toArray.size ≤ _; rw [List.size_toArray]; have := HJ.out; omega) u
          rw [data_of, ← eT] at this
          exact this)
        have HE := hid eT
        clear hall hsz eT hj hjn
        rename World => w0
        go_wp2_with (first
          | (refine wl_own rfl _ _ rfl rfl a n cap ss rfl HS.out.2 HS1.out (by have := HL.out; omega) ?_; intro v2 w2 HO2)
          | (at_builtin; refine wpList_append_own _ rfl _ _ 22 rfl w0.heap.size 9 i0 (.string ⟨#[]⟩) 1 16 Try.underlying22 hi0 hz0 hz1 hz2 rfl (by decide) _ _ _ rfl (HO2.out.alloc _).own ⟨_, 0, none⟩ 1 1 (sC [spareT]) rfl rfl (World.news_of_block (t := 9) (fr := (0, 0)) (heap_alloc_last _ _)) (sC_one _) (by rw [HS.out.2]; have := HL.out; unfold maxLen; omega) (by rw [HS.out.2]; have := HL.out; omega) (HO2.out.alloc _).le ?_
             intro v3 w3 hown3 hgrow3 i3
             have HO3 := hid ((HO2.out.alloc _).grow (xs := [spareT]) rfl hown3 hgrow3)
             clear hown3 hgrow3 i3
             obtain ⟨g3, cap3, hv3, hc3, hg3, hB3, hcell3⟩ := HO3.out.form (by simp)
             rw [List.length_append, HS.out.2, List.length_singleton] at hv3 hc3
             subst hv3
             have HF := hid (And.intro hg3 (And.intro hB3 hcell3))
             have hc4 : (n : Int) ≤ (cap3 : Int) := by omega
             have HU : Hid (Calls Try.prog 9 #[.slice (some ⟨g3, 0, none⟩) n cap3] w3 fun e w' => e = .returned (.string ⟨T.toArray⟩) ∧ Below w3.heap.size w3 w') := hid (by
               have := ssum_any g3 cap3 ss w3 hg3 (fun j s hs => hcell3 j s (get_left ss _ s j hs)) (by have := HJ.out; omega) (by rw [HS.out.2]; have := HL.out; omega)
               rw [HS.out.2, ← HE.out] at this
               exact this)
             clear hc3 hg3 hB3 hcell3)
          | (go_at_call 9; refine HU.out.mono ?_; rintro e w4 ⟨rfl, hb4⟩; have HB4 := hid hb4; have HS4 := hid ((HS1.out.keep HO3.out.bel (Nat.le_refl _)).keep hb4 (Nat.le_refl _)); clear hb4)
          | (go_at_call 11; refine (sjoin_any _ _ _ ss HS.out.2 (by have := HL.out; omega) (by have := HJ.out; omega) _ HS4.out).mono ?_; rintro e w5 ⟨rfl, hb5⟩; have HB5 := hid (HB4.out.trans (hb5.mono HB4.out.size)); clear hb5)
          | (go_at_call 10; refine (HQ.out _).mono ?_; rintro e w6 ⟨rfl, hb6⟩; have HB6 := hid (HB5.out.trans (hb6.mono HB5.out.size)); clear hb6
             have c6 : w6.cell? ⟨g3, n, none⟩ = some (.string ⟨#[115, 112, 97, 114, 101]⟩) := (HB6.out.cell (p := ⟨g3, n, none⟩) HF.out.1).trans (HF.out.2.2 n _ (get_last ss _ n HS.out.2))))
        have hb4 : decide ((100 : Int) < (n : Int)) = false := by simp; omega
        try rw [hb4]
        clear hb4 c6
        have HW := hid ((HB1.out.trans (HO3.out.bel.mono HB1.out.size)).trans (HB6.out.mono (Nat.le_trans HB1.out.size HO3.out.le)))
        have HS6 := hid ((HS1.out.keep HO3.out.bel (Nat.le_refl _)).keep HB6.out (Nat.le_refl _))
        have HF6 : Hid (g3 < w6.heap.size ∧ ∀ (j : Nat) (s : ByteArray), ss[j]? = some s → w6.cell? ⟨g3, j, none⟩ = some (.string s)) := hid ⟨Nat.lt_of_lt_of_le HF.out.1 HB6.out.size, fun j s hs => (HB6.out.cell (p := ⟨g3, j, none⟩) HF.out.1).trans (HF.out.2.2 j s (get_left ss _ s j hs))⟩
        clear HO3 HF HU HB4 HS4 HB5 HB6 HS1 HO2 HQ HE HJ
        go_loopw [5] (fun v wr => ∃ j : Nat, j ≤ n ∧ v = .int .i64 (j : Int) ∧ Below w6.heap.size w6 wr)
          (fun v _ => ((n : Int) - intOf v).toNat)
        case atStart => exact ⟨0, by omega, rfl, Below.refl _ _⟩
        case round =>
          obtain ⟨k, hk, rfl, hbel⟩ := hrel
          have HR := hid hbel
          clear hbel
          by_cases hkn : k = n
          · have hk2 : ¬ ((k : Int) < (n : Int)) := by omega
            clear hk hkn
            go_wp2
            go_ret
            exact ⟨rfl, HW.out.trans (HR.out.mono HW.out.size)⟩
          · have hk2 : (k : Int) < (n : Int) := by omega
            have hk0 : (0 : Int) ≤ (k : Int) := Int.natCast_nonneg _
            have hk3 : (k : Int) < (n : Int) + 1 := by omega
            obtain ⟨s, es⟩ : ∃ s, ss[k]? = some s := ⟨_, List.getElem?_eq_getElem (by rw [HS.out.2]; omega)⟩
            obtain ⟨g, off, rfl, hg, hcell⟩ : ∃ g off, a = some ⟨g, off, none⟩ ∧ g < w6.heap.size ∧ ∀ j s, ss[j]? = some s → w6.cell? ⟨g, off + j, none⟩ = some (.string s) := by
              rcases HS6.out with h | h
              · rw [h] at es; simp at es
              · exact h
            have cs : wr.cell? ⟨g, off + k, none⟩ = some (.string s) := (HR.out.cell (p := ⟨g, off + k, none⟩) hg).trans (hcell k s es)
            have co : wr.cell? ⟨g3, k, none⟩ = some (.string s) := (HR.out.cell (p := ⟨g3, k, none⟩) HF6.out.1).trans (HF6.out.2 k s es)
            clear es hg hcell
            go_wp2
            go_quiet (fail)
            go_wp2
            refine ⟨⟨k + 1, by omega, rfl, Below.same HR.out rfl rfl rfl rfl⟩, by simp [intOf]; omega⟩
      · have hk1 : (j : Int) < (n : Int) := by omega
        have hk0 : (0 : Int) ≤ (j : Int) := Int.natCast_nonneg _
        obtain ⟨s, es⟩ : ∃ s, ss[j]? = some s := ⟨_, List.getElem?_eq_getElem (by rw [HS.out.2]; omega)⟩
        obtain ⟨g, off, rfl, hg, hcell⟩ : ∃ g off, a = some ⟨g, off, none⟩ ∧ g < wr.heap.size ∧ ∀ j s, ss[j]? = some s → wr.cell? ⟨g, off + j, none⟩ = some (.string s) := by
          rcases HS1.out with h | h
          · rw [h] at es; simp at es
          · exact h
        have cs : wr.cell? ⟨g, off + j, none⟩ = some (.string s) := hcell j s es
        by_cases hs : 4096 < s.size
        · have hs2 : (4096 : Int) < (s.size : Int) := by omega
          clear es hg hcell hs
          go_wp2
          go_ret
          exact ⟨rfl, HB1.out⟩
        · have hs2 : (s.size : Int) ≤ 4096 := by omega
          have HE := hid es
          clear es hg hcell
          go_wp2
          go_roundw
          case rel =>
            refine ⟨j + 1, by omega, rfl, trivial, fun k s' hk hs' => ?_⟩
            by_cases hkj : k = j
            · subst hkj
              have := HE.out.symm.trans hs'
              simp at this
              subst this
              omega
            · exact HM.out k s' (by omega) hs'
          case measure => simp [intOf]; omega
end Go.Proofs.Yticenbdbeehhnaa
