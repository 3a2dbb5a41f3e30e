/- The program's Derivable. -/
import Derived.Test.YtgnapfgiefdlaaaTsC
import Derived.Test.YtgnapfgiefdlaaaTeD
import Derived.Test.YtgnapfgiefdlaaaTmC
namespace Go.Proofs.Ytgnapfgiefdlaaa
open Go.RowKit

theorem Out.below {F : List Nat} {w w' : World} {B : Nat} (h : Out F w w') (hB : B ≤ w.heap.size) (hF : ∀ b, b ∈ F → B ≤ b) : Below B w w' :=
  ⟨h.os, h.tape, h.output, h.size, fun k hk => h.block k (by omega) (fun hm => by have := hF k hm; omega)⟩
set_option maxRecDepth 100000 in
set_option maxHeartbeats 1600000 in
/-- .. of whatever book: ST: that it is there. -/
theorem tderiv_gen (v : Value) (L : List (Int × ByteArray)) (ST : World → Prop) (ab : Option Addr) (nb cb : Nat) (bad : List Int) (hb : bad.length = nb) (hbm : nb * 8 ≤ 140737488355328) (sa : Option Addr) (m cs : Nat) (ss : List (Int × ByteArray)) (hs : ss.length = m) (hsm : m ≤ maxLen)
    (hst : ∀ u u', ST u → Below u.heap.size u u' → ST u') (hhas : ∀ x t, (x, t) ∈ ss → ∀ u, ST u → Calls Try.prog 26 #[v, .agg #[.int .i64 x, .string t]] u fun e w' => e = .returned (.bool (stands L (x, t))) ∧ Below u.heap.size u w')
    (w : World) (hw : ST w) (hI : IntsIn w ab bad) (hS : PairsIn w sa ss) :
    Calls Try.prog 24 #[v, .slice ab nb cb, .slice sa m cs] w fun e w' => e = .returned (.bool (derivB L bad ss)) ∧ Below w.heap.size w w' := by
  have hm2 : (m : Int) ≤ 9223372036854775807 := by unfold maxLen at hsm; omega
  have H1 := hid (trising_any ab nb cb bad hb hbm w hI)
  have HS := hid (And.intro hS (And.intro hs hw))
  have HST := hid hst
  have HH := hid hhas
  have HB := hid (And.intro hb hbm)
  clear hb hbm hs hsm hst hhas hw hI hS
  go_enter Try.func24, Try.ntmps24
  go_wp2_with (go_at_call 32; refine H1.out.mono ?_; rintro e w1 ⟨v1, rfl, h1⟩; obtain ⟨am, cm, hv1, hi1⟩ := h1.ints; subst hv1; have H2 : Hid (Below w.heap.size w w1 ∧ IntsIn w1 am (risen bad) ∧ ST w1 ∧ PairsIn w1 sa ss) := hid ⟨h1.bel, hi1, HST.out _ _ HS.out.2.2 h1.bel, HS.out.1.keep h1.bel (Nat.le_refl _)⟩; clear h1 hi1)
  have HAm : Hid (∀ (x : Int) (u : World), IntsIn u am (risen bad) → Calls Try.prog 34 #[.slice am (risen bad).length cm, .int .i64 x] u fun e w' => e = .returned (.bool (hasM bad x)) ∧ Below u.heap.size u w') := hid (fun x u hu => by
    rw [← risen_has]
    exact tisAmong_any am _ cm (risen bad) rfl (by have := risen_len bad; have := HB.out; omega) (risen_spec bad).1 x u hu)
  clear H1
  go_loopw [14] (fun i wr => ∃ j : Nat, j ≤ m ∧ i = .int .i64 (j : Int) ∧ derivB L bad (ss.take j) = true ∧ Below w1.heap.size w1 wr)
    (fun i _ => ((m : Int) - intOf i).toNat)
  case atStart => exact ⟨0, by omega, rfl, rfl, Below.refl _ _⟩
  case round =>
    obtain ⟨j, hj, rfl, hok, hbel⟩ := hrel
    have HBl := hid hbel
    clear hbel
    by_cases hjn : j = m
    · have hj1 : ¬ ((j : Int) < (m : Int)) := by omega
      rw [List.take_of_length_le (by rw [HS.out.2.1]; omega)] at hok
      have HF := hid hok
      clear hok hj hjn
      go_wp2
      go_ret
      exact ⟨by rw [HF.out]; rfl, H2.out.1.trans (HBl.out.mono H2.out.1.size)⟩
    · have hj1 : (j : Int) < (m : Int) := by omega
      have hj0 : (0 : Int) ≤ (j : Int) := Int.natCast_nonneg _
      have hjl : j < ss.length := by rw [HS.out.2.1]; omega
      obtain ⟨g, off, rfl, hg, x1, y1⟩ := H2.out.2.2.2.at j _ (getP_some hjl)
      have hmem : (idOf ss j, rtOf ss j) ∈ ss := List.mem_of_getElem? (getP_some hjl)
      have hyes := @deriv_snoc L bad ss j hjl hok
      have hno := @deriv_no L bad ss j hjl
      have hdef : derivA L bad (idOf ss j, rtOf ss j) = (hasM bad (idOf ss j) || stands L (idOf ss j, rtOf ss j)) := rfl
      generalize idOf ss j = x at x1 hmem hyes hno hdef
      generalize rtOf ss j = r at y1 hmem hyes hno hdef
      have z0 : wr.cell? ⟨g, off + j * 2, none⟩ = some (.int .i64 x) := (HBl.out.cell (p := ⟨g, _, none⟩) hg).trans x1
      have z1 : wr.cell? ⟨g, off + j * 2 + 1, none⟩ = some (.string r) := (HBl.out.cell (p := ⟨g, _, none⟩) hg).trans y1
      obtain ⟨WA, eA⟩ : ∃ WA, WA = wr.alloc (.cells #[.int .i64 x, .string r] 34) := ⟨_, rfl⟩
      have hbA : Below w1.heap.size w1 WA := by rw [eA]; exact HBl.out.alloc HBl.out.size _
      have hcA : WA.heap[wr.heap.size]? = some (.cells [.int .i64 x, .string r].toArray 34 (0, 0)) := by rw [eA]; exact heap_alloc_last wr _
      have HA : Hid (WA = wr.alloc (.cells #[.int .i64 x, .string r] 34) ∧ Below w1.heap.size w1 WA ∧ WA.heap[wr.heap.size]? = some (.cells [.int .i64 x, .string r].toArray 34 (0, 0))) := hid ⟨eA, hbA, hcA⟩
      have HJ := hid (And.intro hj hjn)
      have HX := hid hmem
      clear hj hjn hjl hok hg x1 y1 eA hbA hcA hmem
      cases hh : hasM bad x with
      | true =>
        have HR := hid (hyes (by rw [hdef, hh]; rfl))
        have HAx : Hid (∀ u : World, IntsIn u am (risen bad) → Calls Try.prog 34 #[.slice am (risen bad).length cm, .int .i64 x] u fun e w' => e = .returned (.bool true) ∧ Below u.heap.size u w') := hid (fun u hu => by rw [← hh]; exact HAm.out x u hu)
        clear hyes hno hdef hh
        go_wp2_with (go_at_call 34; rw [← HA.out.1]; refine (HAx.out _ (H2.out.2.1.keep HA.out.2.1 (Nat.le_refl _))).mono ?_; rintro e w5 ⟨rfl, hb5⟩; have H5 := hid (HA.out.2.1.trans (hb5.mono HA.out.2.1.size)); clear hb5)
        go_roundw
        case rel => exact ⟨j + 1, by have := HJ.out; omega, by go_num, HR.out, H5.out⟩
        case measure => simp [intOf]; omega
      | false =>
        have HAx : Hid (∀ u : World, IntsIn u am (risen bad) → Calls Try.prog 34 #[.slice am (risen bad).length cm, .int .i64 x] u fun e w' => e = .returned (.bool false) ∧ Below u.heap.size u w') := hid (fun u hu => by rw [← hh]; exact HAm.out x u hu)
        cases h2 : stands L (x, r) with
        | true =>
          have HR := hid (hyes (by rw [hdef, hh, h2]; rfl))
          have HHx : Hid (∀ u, ST u → Calls Try.prog 26 #[v, .agg #[.int .i64 x, .string r]] u fun e w' => e = .returned (.bool true) ∧ Below u.heap.size u w') := hid (fun u hu => by rw [← h2]; exact HH.out x r HX.out u hu)
          clear hyes hno hdef hh h2
          go_wp2_with (first
            | (go_at_call 34; rw [← HA.out.1]; refine (HAx.out _ (H2.out.2.1.keep HA.out.2.1 (Nat.le_refl _))).mono ?_; rintro e w5 ⟨rfl, hb5⟩; have H5 := hid (HA.out.2.1.trans (hb5.mono HA.out.2.1.size)); have s0 : w5.cell? ⟨wr.heap.size, 0, none⟩ = some (.int .i64 x) := cell_at ((hb5.block _ (lt_of_blk HA.out.2.2)).trans HA.out.2.2) 0 _ rfl; have s1 : w5.cell? ⟨wr.heap.size, 1, none⟩ = some (.string r) := cell_at ((hb5.block _ (lt_of_blk HA.out.2.2)).trans HA.out.2.2) 1 _ rfl; clear hb5)
            | (go_at_call 26; refine (HHx.out _ (HST.out _ _ H2.out.2.2.1 H5.out)).mono ?_; rintro e w6 ⟨rfl, hb6⟩; have H6 := hid (H5.out.trans (hb6.mono H5.out.size)); clear hb6 s0 s1))
          go_roundw
          case rel => exact ⟨j + 1, by have := HJ.out; omega, by go_num, HR.out, H6.out⟩
          case measure => simp [intOf]; omega
        | false =>
          have HR := hid (hno (by rw [hdef, hh, h2]; rfl))
          have HHx : Hid (∀ u, ST u → Calls Try.prog 26 #[v, .agg #[.int .i64 x, .string r]] u fun e w' => e = .returned (.bool false) ∧ Below u.heap.size u w') := hid (fun u hu => by rw [← h2]; exact HH.out x r HX.out u hu)
          clear hyes hno hdef hh h2
          go_wp2_with (first
            | (go_at_call 34; rw [← HA.out.1]; refine (HAx.out _ (H2.out.2.1.keep HA.out.2.1 (Nat.le_refl _))).mono ?_; rintro e w5 ⟨rfl, hb5⟩; have H5 := hid (HA.out.2.1.trans (hb5.mono HA.out.2.1.size)); have s0 : w5.cell? ⟨wr.heap.size, 0, none⟩ = some (.int .i64 x) := cell_at ((hb5.block _ (lt_of_blk HA.out.2.2)).trans HA.out.2.2) 0 _ rfl; have s1 : w5.cell? ⟨wr.heap.size, 1, none⟩ = some (.string r) := cell_at ((hb5.block _ (lt_of_blk HA.out.2.2)).trans HA.out.2.2) 1 _ rfl; clear hb5)
            | (go_at_call 26; refine (HHx.out _ (HST.out _ _ H2.out.2.2.1 H5.out)).mono ?_; rintro e w6 ⟨rfl, hb6⟩; have H6 := hid (H5.out.trans (hb6.mono H5.out.size)); clear hb6 s0 s1))
          go_ret
          exact ⟨by rw [HR.out]; rfl, H2.out.1.trans (H6.out.mono H2.out.1.size)⟩
theorem tderivable_any (F : List Nat) (v : Value) (L : List (Int × ByteArray)) (ab : Option Addr) (nb cb : Nat) (bad : List Int) (hb : bad.length = nb) (hbm : nb * 8 ≤ 140737488355328) (sa : Option Addr) (m cs : Nat) (ss : List (Int × ByteArray)) (hs : ss.length = m) (hsm : m ≤ maxLen) (hf : ∀ p, p ∈ ss → fitP p) (w : World) (hB : BkAt F w v L) (hI : IntsIn w ab bad) (hS : PairsIn w sa ss) :
    Calls Try.prog 24 #[v, .slice ab nb cb, .slice sa m cs] w fun e w' => e = .returned (.bool (derivB L bad ss)) ∧ Below w.heap.size w w' :=
  tderiv_gen v L (fun u => BkAt F u v L) ab nb cb bad hb hbm sa m cs ss hs hsm (fun _ _ h hb => h.of_below hb) (fun x t hx u hu => thas_any F v L x t (hf _ hx) u hu) w hB hI hS
end Go.Proofs.Ytgnapfgiefdlaaa
