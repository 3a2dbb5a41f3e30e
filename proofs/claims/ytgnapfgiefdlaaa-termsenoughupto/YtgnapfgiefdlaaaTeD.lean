/- The document's: what can be made out of what was seen. -/
import Derived.Test.YtgnapfgiefdlaaaTeB
import Derived.Test.YtgnapfgiefdlaaaCoD
namespace Go.Proofs.Ytgnapfgiefdlaaa
open Go.RowKit

/-- Each is by one of the bad, or stands in the list. -/
def derivA (l : List (Int × ByteArray)) (bad : List Int) (p : Int × ByteArray) : Bool := hasM bad p.1 || stands l p
def derivB (l : List (Int × ByteArray)) (bad : List Int) (ss : List (Int × ByteArray)) : Bool := ss.all (derivA l bad)
theorem deriv_snoc {l : List (Int × ByteArray)} {bad : List Int} {ss : List (Int × ByteArray)} {j : Nat} (hj : j < ss.length) (h : derivB l bad (ss.take j) = true) (hx : derivA l bad (idOf ss j, rtOf ss j) = true) : derivB l bad (ss.take (j + 1)) = true := by
  rw [derivB] at h ⊢
  rw [List.take_add_one, getP_some hj, List.all_append, h]
  simp [hx]
theorem deriv_no {l : List (Int × ByteArray)} {bad : List Int} {ss : List (Int × ByteArray)} {j : Nat} (hj : j < ss.length) (hx : derivA l bad (idOf ss j, rtOf ss j) = false) : derivB l bad ss = false := by
  cases e : derivB l bad ss with
  | false => rfl
  | true =>
    rw [derivB, List.all_eq_true] at e
    rw [e _ (List.mem_of_getElem? (getP_some hj))] at hx
    cases hx
set_option maxRecDepth 100000 in
set_option maxHeartbeats 3200000 in
theorem wderivable_any (al : Option Addr) (nl cl : Nat) (l : List (Int × ByteArray)) (hl : l.length = nl) (hlm : nl ≤ maxLen) (ab : Option Addr) (nb cb : Nat) (bad : List Int) (hb : bad.length = nb) (hbm : nb ≤ maxLen) (sa : Option Addr) (m cs : Nat) (ss : List (Int × ByteArray)) (hs : ss.length = m) (hsm : m ≤ maxLen) (w : World) (hL : PairsIn w al l) (hB : IntsIn w ab bad) (hS : PairsIn w sa ss) :
    Calls Try.prog 25 #[.slice al nl cl, .slice ab nb cb, .slice sa m cs] w fun e w' => e = .returned (.bool (derivB l bad ss)) ∧ Below w.heap.size w w' := by
  have hm2 : (m : Int) ≤ 9223372036854775807 := by unfold maxLen at hsm; omega
  have HH : Hid (∀ (z : Int) (u : World), IntsIn u ab bad → Calls Try.prog 29 #[.slice ab nb cb, .int .i64 z] u fun e w' => e = .returned (.bool (hasM bad z)) ∧ w' = u) := hid (fun z u hu => vhas_any ab nb cb bad hb hbm z u hu)
  have HT : Hid (∀ (q : Int) (r : ByteArray) (u : World), PairsIn u al l → Calls Try.prog 27 #[.slice al nl cl, .agg #[.int .i64 q, .string r]] u fun e w' => e = .returned (.bool (stands l (q, r))) ∧ Below u.heap.size u w') := hid (fun q r u hu => wstands_any al nl cl l hl hlm q r u hu)
  have HP := hid (And.intro hS (And.intro hs (And.intro hL hB)))
  clear hS hs hsm hL hB hl hlm hb hbm
  go_enter Try.func25, Try.ntmps25
  go_wp2
  go_loopw [7] (fun i wr => ∃ j : Nat, j ≤ m ∧ i = .int .i64 (j : Int) ∧ derivB l bad (ss.take j) = true ∧ Below w.heap.size w wr)
    (fun i _ => ((m : Int) - intOf i).toNat)
  case atStart => exact ⟨0, by omega, rfl, rfl, Below.refl _ _⟩
  case round =>
    obtain ⟨j, hj, rfl, hok, hbel⟩ := hrel
    have HB := hid hbel
    clear hbel
    by_cases hjn : j = m
    · have hj1 : ¬ ((j : Int) < (m : Int)) := by omega
      have HE : Hid (derivB l bad ss = true) := hid (by rwa [List.take_of_length_le (by rw [HP.out.2.1]; omega)] at hok)
      clear hok hj hjn
      go_wp2
      go_ret
      exact ⟨by rw [HE.out]; rfl, HB.out⟩
    · have hj1 : (j : Int) < (m : Int) := by omega
      have hj0 : (0 : Int) ≤ (j : Int) := Int.natCast_nonneg _
      have hjl : j < ss.length := by rw [HP.out.2.1]; omega
      obtain ⟨g, off, rfl, hg, x1, y1⟩ := HP.out.1.at j _ (getP_some hjl)
      have hsn := @deriv_snoc l bad ss j hjl hok
      have hno := @deriv_no l bad ss j hjl
      generalize idOf ss j = x at x1 hsn hno
      generalize rtOf ss j = r at y1 hsn hno
      have z0 : wr.cell? ⟨g, off + j * 2, none⟩ = some (.int .i64 x) := (HB.out.cell (p := ⟨g, _, none⟩) hg).trans x1
      have z1 : wr.cell? ⟨g, off + j * 2 + 1, none⟩ = some (.string r) := (HB.out.cell (p := ⟨g, _, none⟩) hg).trans y1
      have HJ := hid (And.intro hj hjn)
      obtain ⟨hh, ehh⟩ : ∃ b, b = hasM bad x := ⟨_, rfl⟩
      obtain ⟨st, est⟩ : ∃ b, b = stands l (x, r) := ⟨_, rfl⟩
      have HHx : Hid (Calls Try.prog 29 #[.slice ab nb cb, .int .i64 x] wr fun e w' => e = .returned (.bool hh) ∧ w' = wr) := hid (by rw [ehh]; exact HH.out x wr (HP.out.2.2.2.keep HB.out (Nat.le_refl _)))
      have HTx : Hid (Calls Try.prog 27 #[.slice al nl cl, .agg #[.int .i64 x, .string r]] wr fun e w' => e = .returned (.bool st) ∧ Below wr.heap.size wr w') := hid (by rw [est]; exact HT.out x r wr (HP.out.2.2.1.keep HB.out (Nat.le_refl _)))
      have HA : Hid (derivA l bad (x, r) = (hh || st)) := hid (by rw [derivA, ehh, est])
      have HSn := hid hsn
      have HNo := hid hno
      clear x1 y1 hg hok hj hjn hjl hsn hno ehh est
      cases hh with
      | true =>
        go_wp2_with (go_at_call 29; refine HHx.out.mono ?_; rintro e wx ⟨rfl, rfl⟩)
        go_roundw
        case rel => exact ⟨j + 1, by have := HJ.out; omega, by go_num, HSn.out (by rw [HA.out]; rfl), HB.out⟩
        case measure => simp [intOf]; omega
      | false =>
        cases st with
        | true =>
          go_wp2_with (first
            | (go_at_call 29; refine HHx.out.mono ?_; rintro e wx ⟨rfl, rfl⟩)
            | (go_at_call 27; refine HTx.out.mono ?_; rintro e w2 ⟨rfl, hb2⟩; have H2 := hid (HB.out.trans (hb2.mono HB.out.size)); clear hb2))
          go_roundw
          case rel => exact ⟨j + 1, by have := HJ.out; omega, by go_num, HSn.out (by rw [HA.out]; rfl), H2.out⟩
          case measure => simp [intOf]; omega
        | false =>
          go_wp2_with (first
            | (go_at_call 29; refine HHx.out.mono ?_; rintro e wx ⟨rfl, rfl⟩)
            | (go_at_call 27; refine HTx.out.mono ?_; rintro e w2 ⟨rfl, hb2⟩; have H2 := hid (HB.out.trans (hb2.mono HB.out.size)); clear hb2))
          go_ret
          exact ⟨by rw [HNo.out (by rw [HA.out]; rfl)]; rfl, H2.out⟩
end Go.Proofs.Ytgnapfgiefdlaaa
