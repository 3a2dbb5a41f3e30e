/- The program's tests of signatures. -/
import Derived.Test.YtepcdbmdfpaomaaWiDM
namespace Go.Proofs.Ytepcdbmdfpaomaa
open Go.RowKit

set_option maxRecDepth 100000 in
set_option maxHeartbeats 3200000 in
theorem ifitSigs_any (a : Option Addr) (n cap : Nat) (l : List Sg) (hn : l.length = n) (hm : n ≤ maxLen) (w : World) (hP : PairsIn w a l) : Calls Try.prog 38 #[.slice a n cap] w fun e w' => e = .returned (.bool (sigsB l)) ∧ Below w.heap.size w w' := by
  obtain ⟨V, eV⟩ : ∃ V, V = sigsB l := ⟨_, rfl⟩
  rw [← eV]
  have hmi : (n : Int) ≤ 9223372036854775807 := by unfold maxLen at hm; omega
  by_cases h16 : 16 < n
  · have h16i : (16 : Int) < (n : Int) := by omega
    have hf : V = false := by rw [eV, sigsB, decide_eq_false (by omega)]; rfl
    subst hf
    clear eV hP hn hm h16
    go_enter Try.func38, Try.ntmps38
    go_wp2
    go_ret
    exact ⟨rfl, Below.refl _ _⟩
  · have h16i : ¬ ((16 : Int) < (n : Int)) := by omega
    have HV : Hid (V = allTo (fun i => sigB (l.getD i sg0)) n) := hid (by rw [eV, sigsB, decide_eq_true (by omega), hn]; rfl)
    have HP := hid hP
    have HN := hid hn
    have HL : Hid (n ≤ 16) := hid (by omega)
    clear eV hP hn hm h16
    go_enter Try.func38, Try.ntmps38
    go_wp2
    go_loopw [10] (fun i wr => ∃ j : Nat, j ≤ n ∧ i = .int .i64 (j : Int) ∧ allTo (fun i => sigB (l.getD i sg0)) j = true ∧ Below w.heap.size w wr)
      (fun i _ => ((n : Int) - intOf i).toNat)
    case atStart => exact ⟨0, Nat.zero_le _, rfl, rfl, Below.refl _ _⟩
    case round =>
      obtain ⟨j, hj, rfl, hok, hB⟩ := hrel
      have HB := hid hB
      have HOk := hid hok
      clear hok hB
      have hj0 : (0 : Int) ≤ (j : Int) := Int.natCast_nonneg _
      by_cases hjn : j = n
      · have hj1 : ¬ ((j : Int) < (n : Int)) := by omega
        have hv : Hid (V = true) := hid (by rw [HV.out, ← hjn]; exact HOk.out)
        clear hj hjn
        go_wp2
        go_ret
        exact ⟨by rw [hv.out]; rfl, HB.out⟩
      · have hj1 : (j : Int) < (n : Int) := by omega
        have hjl : j < l.length := by have := HN.out; omega
        obtain ⟨g, off, rfl, hc1, hc2⟩ : ∃ g off, a = some ⟨g, off, none⟩ ∧ wr.cell? ⟨g, off + j * 2, none⟩ = some (.int .i64 (l.getD j sg0).1) ∧ wr.cell? ⟨g, off + j * 2 + 1, none⟩ = some (.string (l.getD j sg0).2) := by
          rcases HP.out with e | ⟨g, off, ha, hg, hc⟩
          · rw [e] at hjl; simp at hjl
          · have hx : l[j]? = some (l.getD j sg0) := by simp [hjl]
            obtain ⟨k1, k2⟩ := hc j _ hx
            exact ⟨g, off, ha, (World.cell?_of_block (a := ⟨g, off + j * 2, none⟩) (HB.out.block g hg)).trans k1, (World.cell?_of_block (a := ⟨g, off + j * 2 + 1, none⟩) (HB.out.block g hg)).trans k2⟩
        have HJ := hid (And.intro hj hjn)
        have HS : Hid (∀ u : World, Calls Try.prog 61 #[.agg #[.int .i64 (l.getD j sg0).1, .string (l.getD j sg0).2]] u fun r w' => r = .returned (.bool (sigB (l.getD j sg0))) ∧ Below u.heap.size u w') := hid (fun u => isig_any (l.getD j sg0) u)
        have HFa : Hid (sigB (l.getD j sg0) = false → V = false) := hid (fun e => by rw [HV.out]; exact allTo_no j (by omega) e)
        have HTr : Hid (sigB (l.getD j sg0) = true → allTo (fun i => sigB (l.getD i sg0)) (j + 1) = true) := hid (fun e => by rw [allTo, HOk.out, e]; rfl)
        generalize l.getD j sg0 = p at hc1 hc2 HS HFa HTr
        clear hj hjn hjl
        cases hp : sigB p with
        | true =>
          rw [hp] at HS
          have HT := hid (HTr.out hp)
          clear hp
          go_wp2_with (go_at_call 61; refine (HS.out _).mono ?_; rintro e w2 ⟨rfl, hb⟩; have H2 := hid ((HB.out.alloc (HB.out.size) (.cells #[.int .i64 p.1, .string p.2] 48)).trans (hb.mono (by have := HB.out.size; simp; omega))); clear hb)
          go_roundw
          case rel => exact ⟨j + 1, by have := HJ.out; omega, by go_num, HT.out, H2.out⟩
          case measure => simp [intOf]; omega
        | false =>
          rw [hp] at HS
          have hf := hid (HFa.out hp)
          clear hp
          go_wp2_with (go_at_call 61; refine (HS.out _).mono ?_; rintro e w2 ⟨rfl, hb⟩; have H2 := hid ((HB.out.alloc (HB.out.size) (.cells #[.int .i64 p.1, .string p.2] 48)).trans (hb.mono (by have := HB.out.size; simp; omega))); clear hb)
          go_ret
          exact ⟨by rw [hf.out]; rfl, H2.out⟩
set_option maxRecDepth 100000 in
theorem iareSigs_any (a : Option Addr) (n cap : Nat) (l : List Sg) (hn : l.length = n) (hm : n ≤ maxLen) (k : Nat) (w : World) (hP : PairsIn w a l) : Calls Try.prog 29 #[.slice a n cap, .int .i64 (k : Int)] w fun e w' => e = .returned (.bool (oneB l k)) ∧ Below w.heap.size w w' := by
  have HF : Hid (Calls Try.prog 38 #[.slice a n cap] w fun e w' => e = .returned (.bool (sigsB l)) ∧ Below w.heap.size w w') := hid (ifitSigs_any a n cap l hn hm w hP)
  rw [oneB, hn]
  clear hm hP
  by_cases h : n = k
  · have hb : ((n : Int) == (k : Int)) = true := by rw [h]; simp
    have hi : (n : Int) = (k : Int) := by omega
    rw [decide_eq_true h, Bool.true_and]
    clear h
    go_enter Try.func29, Try.ntmps29
    go_wp2_with (go_at_call 38; refine (HF.out).mono ?_; rintro e w1 ⟨rfl, hb⟩; have H1 := hid hb; clear hb)
    go_ret
    exact ⟨rfl, H1.out⟩
  · have hi : ¬ ((n : Int) = (k : Int)) := by omega
    have hb : ((n : Int) == (k : Int)) = false := by simpa using hi
    have hd : decide (n = k) = false := decide_eq_false h
    rw [decide_eq_false h, Bool.false_and]
    go_enter Try.func29, Try.ntmps29
    go_wp2
    go_ret
    exact ⟨by simp, Below.refl _ _⟩
end Go.Proofs.Ytepcdbmdfpaomaa
