/- How far each chain is walked: the closures; and all chains walked. -/
import Derived.Test.YtebhkifjommpjaaOtB
import Derived.Test.YtebhkifjommpjaaOtD
import Derived.Test.YtebhkifjommpjaaOtE
namespace Go.Proofs.Ytebhkifjommpjaa
open Go.RowKit

theorem public1_any (j : Nat) (u : World) : Calls Try.prog 40 #[.int .i64 (j : Int)] u fun e w' => e = .returned (.int .i64 15) ∧ w' = u := by
  go_enter Try.func40, Try.ntmps40
  go_wp2
  go_ret
  exact ⟨rfl, rfl⟩
set_option maxRecDepth 100000 in
theorem sign1_any (b g cap j d : Nat) (hj : (j : Int) < 35) (u : World) (hb : u.cell? ⟨b, 0, none⟩ = some (.slice (some ⟨g, 0, none⟩) 35 cap)) (hd : u.cell? ⟨g, j, none⟩ = some (.int .i64 (d : Int))) :
    Calls Try.prog 45 #[.int .i64 (j : Int), .pointer (some ⟨b, 0, none⟩)] u fun e w' => e = .returned (.int .i64 (d : Int)) ∧ w' = u := by
  have hj0 : (0 : Int) ≤ (j : Int) := Int.natCast_nonneg _
  go_enter Try.func45, Try.ntmps45
  go_wp2
  go_ret
  exact ⟨rfl, rfl⟩
set_option maxRecDepth 100000 in
theorem recover1_any (b g cap j d : Nat) (hj : (j : Int) < 35) (h15 : (d : Int) ≤ 15) (u : World) (hb : u.cell? ⟨b, 0, none⟩ = some (.slice (some ⟨g, 0, none⟩) 35 cap)) (hd : u.cell? ⟨g, j, none⟩ = some (.int .i64 (d : Int))) :
    Calls Try.prog 51 #[.int .i64 (j : Int), .pointer (some ⟨b, 0, none⟩)] u fun e w' => e = .returned (.int .i64 ((15 - d : Nat) : Int)) ∧ w' = u := by
  have hj0 : (0 : Int) ≤ (j : Int) := Int.natCast_nonneg _
  have hd0 : (0 : Int) ≤ (d : Int) := Int.natCast_nonneg _
  have HE : Hid (((15 - d : Nat) : Int) = 15 - (d : Int)) := hid (by omega)
  rw [HE.out]
  go_enter Try.func51, Try.ntmps51
  go_wp2
  go_ret
  exact ⟨rfl, rfl⟩
theorem ch_bound (k : Nat → Nat) (p : Nat → ByteArray) (j : Nat) (hj : j ≤ 35) (hp : ∀ i, i < 35 → (p i).size = 16) : (chB k p j).length ≤ 560 := by
  rw [chB_len k p j (fun i hi => hp i (by omega))]
  omega

set_option maxRecDepth 100000 in
set_option maxHeartbeats 1600000 in
theorem walked_public (L : List ByteArray) (p : Nat → ByteArray) (k : Nat → Nat) (g : Nat) (w : World) (hL : L.length = 35) (hp : ∀ j : Nat, j < 35 → L[j]? = some (p j)) (h16 : ∀ j : Nat, j < 35 → (p j).size = 16) (hk : ∀ j : Nat, j < 35 → k j ≤ 15) (hS : StrsIn w (some ⟨g, 0, none⟩) L)
    (hF : ∀ j : Nat, j < 35 → ∀ u : World, Below w.heap.size w u → Calls Try.prog 40 #[.int .i64 (j : Int)] u fun e w' => e = .returned (.int .i64 (k j : Int)) ∧ w' = u) :
    Calls Try.prog 38 #[.slice (some ⟨g, 0, none⟩) 35 35, .func (.func 40) #[] #[]] w fun e w' => e = .returned (.string ⟨(chB k p 35).toArray⟩) ∧ Below w.heap.size w w' := by
  have HP := hid (And.intro hL (And.intro hp (And.intro h16 (And.intro hk (And.intro hS hF)))))
  clear hL hp h16 hk hS hF
  go_enter Try.func38, Try.ntmps38
  go_wp2
  go_loopw [10] (fun i wr => ∃ j : Nat, j ≤ 35 ∧ i = .int .i64 (j : Int) ∧ Bld w.heap.size w wr w.heap.size (chB k p j))
    (fun i _ => (35 - intOf i).toNat)
  case atStart => exact ⟨0, by omega, rfl, Bld.new w _ rfl⟩
  case round =>
    obtain ⟨j, hj, rfl, hR⟩ := hrel
    have HR := hid hR
    clear hR
    by_cases hjn : j = 35
    · have hj1 : ¬ ((j : Int) < 35) := by omega
      subst hjn
      clear hj
      go_wp2_with (go_at_call 48; refine (bstring_any _ _ _ _ _ (by exact HR.out)).mono ?_; rintro e w1 ⟨rfl, hb1⟩; have H1 := hid hb1; clear hb1)
      go_ret
      exact ⟨rfl, H1.out⟩
    · have hj1 : (j : Int) < 35 := by omega
      have hj0 : (0 : Int) ≤ (j : Int) := Int.natCast_nonneg _
      have hj35 : j < 35 := by omega
      obtain ⟨g', off, eg, hg, hcell⟩ := HP.out.2.2.2.2.1.at j _ (HP.out.2.1 j hj35)
      obtain ⟨rfl, rfl⟩ : g = g' ∧ 0 = off := by simp at eg; exact eg
      rw [Nat.zero_add] at hcell
      have cz : wr.cell? ⟨g, j, none⟩ = some (.string (p j)) := (HR.out.bel.cell (p := ⟨g, j, none⟩) hg).trans hcell
      have HF : Hid (∀ u : World, Below w.heap.size w u → Calls Try.prog 40 #[.int .i64 (j : Int)] u fun e w' => e = .returned (.int .i64 (k j : Int)) ∧ w' = u) := hid (HP.out.2.2.2.2.2 j hj35)
      have HT : Hid (∀ u : World, Calls Try.prog 57 #[.string (p j), .int .i64 (k j : Int)] u fun e w' => e = .returned (.string (stepN (k j) (p j))) ∧ Below u.heap.size u w') := hid (fun u => by
        have := ostep_le (p j) (by rw [HP.out.2.2.1 j hj35]; decide) (k j : Int) u
        rwa [clampN_of _ (HP.out.2.2.2.1 j hj35)] at this)
      have hlen : (chB k p j).length + (stepN (k j) (p j)).size ≤ 140737488355328 := by
        have := ch_bound k p j hj HP.out.2.2.1
        rw [stepN_size _ _ (HP.out.2.2.1 j hj35)]
        omega
      have HN := hid (And.intro hlen (chB_succ k p j))
      obtain ⟨y, ey⟩ : ∃ y, y = stepN (k j) (p j) := ⟨_, rfl⟩
      obtain ⟨x, ex⟩ : ∃ x, x = p j := ⟨_, rfl⟩
      obtain ⟨n, en⟩ : ∃ n, n = k j := ⟨_, rfl⟩
      rw [← ey] at HT HN
      rw [← ex] at HT cz
      rw [← en] at HT HF
      have HJ := hid (And.intro hj hjn)
      clear hlen eg hg hcell hj hjn hj35 ey ex en
      go_wp2_with (first
        | (go_at_call 40; refine (HF.out _ HR.out.bel).mono ?_; rintro e wx ⟨rfl, rfl⟩)
        | (go_at_call 57; refine (HT.out _).mono ?_; rintro e w2 ⟨rfl, hb2⟩; have H2 := hid (HR.out.keep hb2); clear hb2)
        | (go_at_call 46; refine (bwrite_any _ _ _ _ _ _ (by exact H2.out) (by exact HN.out.1)).mono ?_; rintro e w3 ⟨⟨n3, rfl⟩, hb3⟩; have H3 := hid hb3; clear hb3))
      go_roundw
      case rel => exact ⟨j + 1, by have := HJ.out; omega, by go_num, by rw [HN.out.2]; exact H3.out⟩
      case measure => simp [intOf]; omega

set_option maxRecDepth 100000 in
set_option maxHeartbeats 1600000 in
theorem walked_sign (b : Nat) (L : List ByteArray) (p : Nat → ByteArray) (k : Nat → Nat) (g : Nat) (w : World) (hL : L.length = 35) (hp : ∀ j : Nat, j < 35 → L[j]? = some (p j)) (h16 : ∀ j : Nat, j < 35 → (p j).size = 16) (hk : ∀ j : Nat, j < 35 → k j ≤ 15) (hS : StrsIn w (some ⟨g, 0, none⟩) L)
    (hF : ∀ j : Nat, j < 35 → ∀ u : World, Below w.heap.size w u → Calls Try.prog 45 #[.int .i64 (j : Int), .pointer (some ⟨b, 0, none⟩)] u fun e w' => e = .returned (.int .i64 (k j : Int)) ∧ w' = u) :
    Calls Try.prog 38 #[.slice (some ⟨g, 0, none⟩) 35 35, .func (.func 45) #[] #[.pointer (some ⟨b, 0, none⟩)]] w fun e w' => e = .returned (.string ⟨(chB k p 35).toArray⟩) ∧ Below w.heap.size w w' := by
  have HP := hid (And.intro hL (And.intro hp (And.intro h16 (And.intro hk (And.intro hS hF)))))
  clear hL hp h16 hk hS hF
  go_enter Try.func38, Try.ntmps38
  go_wp2
  go_loopw [10] (fun i wr => ∃ j : Nat, j ≤ 35 ∧ i = .int .i64 (j : Int) ∧ Bld w.heap.size w wr w.heap.size (chB k p j))
    (fun i _ => (35 - intOf i).toNat)
  case atStart => exact ⟨0, by omega, rfl, Bld.new w _ rfl⟩
  case round =>
    obtain ⟨j, hj, rfl, hR⟩ := hrel
    have HR := hid hR
    clear hR
    by_cases hjn : j = 35
    · have hj1 : ¬ ((j : Int) < 35) := by omega
      subst hjn
      clear hj
      go_wp2_with (go_at_call 48; refine (bstring_any _ _ _ _ _ (by exact HR.out)).mono ?_; rintro e w1 ⟨rfl, hb1⟩; have H1 := hid hb1; clear hb1)
      go_ret
      exact ⟨rfl, H1.out⟩
    · have hj1 : (j : Int) < 35 := by omega
      have hj0 : (0 : Int) ≤ (j : Int) := Int.natCast_nonneg _
      have hj35 : j < 35 := by omega
      obtain ⟨g', off, eg, hg, hcell⟩ := HP.out.2.2.2.2.1.at j _ (HP.out.2.1 j hj35)
      obtain ⟨rfl, rfl⟩ : g = g' ∧ 0 = off := by simp at eg; exact eg
      rw [Nat.zero_add] at hcell
      have cz : wr.cell? ⟨g, j, none⟩ = some (.string (p j)) := (HR.out.bel.cell (p := ⟨g, j, none⟩) hg).trans hcell
      have HF : Hid (∀ u : World, Below w.heap.size w u → Calls Try.prog 45 #[.int .i64 (j : Int), .pointer (some ⟨b, 0, none⟩)] u fun e w' => e = .returned (.int .i64 (k j : Int)) ∧ w' = u) := hid (HP.out.2.2.2.2.2 j hj35)
      have HT : Hid (∀ u : World, Calls Try.prog 57 #[.string (p j), .int .i64 (k j : Int)] u fun e w' => e = .returned (.string (stepN (k j) (p j))) ∧ Below u.heap.size u w') := hid (fun u => by
        have := ostep_le (p j) (by rw [HP.out.2.2.1 j hj35]; decide) (k j : Int) u
        rwa [clampN_of _ (HP.out.2.2.2.1 j hj35)] at this)
      have hlen : (chB k p j).length + (stepN (k j) (p j)).size ≤ 140737488355328 := by
        have := ch_bound k p j hj HP.out.2.2.1
        rw [stepN_size _ _ (HP.out.2.2.1 j hj35)]
        omega
      have HN := hid (And.intro hlen (chB_succ k p j))
      obtain ⟨y, ey⟩ : ∃ y, y = stepN (k j) (p j) := ⟨_, rfl⟩
      obtain ⟨x, ex⟩ : ∃ x, x = p j := ⟨_, rfl⟩
      obtain ⟨n, en⟩ : ∃ n, n = k j := ⟨_, rfl⟩
      rw [← ey] at HT HN
      rw [← ex] at HT cz
      rw [← en] at HT HF
      have HJ := hid (And.intro hj hjn)
      clear hlen eg hg hcell hj hjn hj35 ey ex en
      go_wp2_with (first
        | (go_at_call 45; refine (HF.out _ HR.out.bel).mono ?_; rintro e wx ⟨rfl, rfl⟩)
        | (go_at_call 57; refine (HT.out _).mono ?_; rintro e w2 ⟨rfl, hb2⟩; have H2 := hid (HR.out.keep hb2); clear hb2)
        | (go_at_call 46; refine (bwrite_any _ _ _ _ _ _ (by exact H2.out) (by exact HN.out.1)).mono ?_; rintro e w3 ⟨⟨n3, rfl⟩, hb3⟩; have H3 := hid hb3; clear hb3))
      go_roundw
      case rel => exact ⟨j + 1, by have := HJ.out; omega, by go_num, by rw [HN.out.2]; exact H3.out⟩
      case measure => simp [intOf]; omega

set_option maxRecDepth 100000 in
set_option maxHeartbeats 1600000 in
theorem walked_recover (b : Nat) (L : List ByteArray) (p : Nat → ByteArray) (k : Nat → Nat) (g : Nat) (w : World) (hL : L.length = 35) (hp : ∀ j : Nat, j < 35 → L[j]? = some (p j)) (h16 : ∀ j : Nat, j < 35 → (p j).size = 16) (hk : ∀ j : Nat, j < 35 → k j ≤ 15) (hS : StrsIn w (some ⟨g, 0, none⟩) L)
    (hF : ∀ j : Nat, j < 35 → ∀ u : World, Below w.heap.size w u → Calls Try.prog 51 #[.int .i64 (j : Int), .pointer (some ⟨b, 0, none⟩)] u fun e w' => e = .returned (.int .i64 (k j : Int)) ∧ w' = u) :
    Calls Try.prog 38 #[.slice (some ⟨g, 0, none⟩) 35 35, .func (.func 51) #[] #[.pointer (some ⟨b, 0, none⟩)]] w fun e w' => e = .returned (.string ⟨(chB k p 35).toArray⟩) ∧ Below w.heap.size w w' := by
  have HP := hid (And.intro hL (And.intro hp (And.intro h16 (And.intro hk (And.intro hS hF)))))
  clear hL hp h16 hk hS hF
  go_enter Try.func38, Try.ntmps38
  go_wp2
  go_loopw [10] (fun i wr => ∃ j : Nat, j ≤ 35 ∧ i = .int .i64 (j : Int) ∧ Bld w.heap.size w wr w.heap.size (chB k p j))
    (fun i _ => (35 - intOf i).toNat)
  case atStart => exact ⟨0, by omega, rfl, Bld.new w _ rfl⟩
  case round =>
    obtain ⟨j, hj, rfl, hR⟩ := hrel
    have HR := hid hR
    clear hR
    by_cases hjn : j = 35
    · have hj1 : ¬ ((j : Int) < 35) := by omega
      subst hjn
      clear hj
      go_wp2_with (go_at_call 48; refine (bstring_any _ _ _ _ _ (by exact HR.out)).mono ?_; rintro e w1 ⟨rfl, hb1⟩; have H1 := hid hb1; clear hb1)
      go_ret
      exact ⟨rfl, H1.out⟩
    · have hj1 : (j : Int) < 35 := by omega
      have hj0 : (0 : Int) ≤ (j : Int) := Int.natCast_nonneg _
      have hj35 : j < 35 := by omega
      obtain ⟨g', off, eg, hg, hcell⟩ := HP.out.2.2.2.2.1.at j _ (HP.out.2.1 j hj35)
      obtain ⟨rfl, rfl⟩ : g = g' ∧ 0 = off := by simp at eg; exact eg
      rw [Nat.zero_add] at hcell
      have cz : wr.cell? ⟨g, j, none⟩ = some (.string (p j)) := (HR.out.bel.cell (p := ⟨g, j, none⟩) hg).trans hcell
      have HF : Hid (∀ u : World, Below w.heap.size w u → Calls Try.prog 51 #[.int .i64 (j : Int), .pointer (some ⟨b, 0, none⟩)] u fun e w' => e = .returned (.int .i64 (k j : Int)) ∧ w' = u) := hid (HP.out.2.2.2.2.2 j hj35)
      have HT : Hid (∀ u : World, Calls Try.prog 57 #[.string (p j), .int .i64 (k j : Int)] u fun e w' => e = .returned (.string (stepN (k j) (p j))) ∧ Below u.heap.size u w') := hid (fun u => by
        have := ostep_le (p j) (by rw [HP.out.2.2.1 j hj35]; decide) (k j : Int) u
        rwa [clampN_of _ (HP.out.2.2.2.1 j hj35)] at this)
      have hlen : (chB k p j).length + (stepN (k j) (p j)).size ≤ 140737488355328 := by
        have := ch_bound k p j hj HP.out.2.2.1
        rw [stepN_size _ _ (HP.out.2.2.1 j hj35)]
        omega
      have HN := hid (And.intro hlen (chB_succ k p j))
      obtain ⟨y, ey⟩ : ∃ y, y = stepN (k j) (p j) := ⟨_, rfl⟩
      obtain ⟨x, ex⟩ : ∃ x, x = p j := ⟨_, rfl⟩
      obtain ⟨n, en⟩ : ∃ n, n = k j := ⟨_, rfl⟩
      rw [← ey] at HT HN
      rw [← ex] at HT cz
      rw [← en] at HT HF
      have HJ := hid (And.intro hj hjn)
      clear hlen eg hg hcell hj hjn hj35 ey ex en
      go_wp2_with (first
        | (go_at_call 51; refine (HF.out _ HR.out.bel).mono ?_; rintro e wx ⟨rfl, rfl⟩)
        | (go_at_call 57; refine (HT.out _).mono ?_; rintro e w2 ⟨rfl, hb2⟩; have H2 := hid (HR.out.keep hb2); clear hb2)
        | (go_at_call 46; refine (bwrite_any _ _ _ _ _ _ (by exact H2.out) (by exact HN.out.1)).mono ?_; rintro e w3 ⟨⟨n3, rfl⟩, hb3⟩; have H3 := hid hb3; clear hb3))
      go_roundw
      case rel => exact ⟨j + 1, by have := HJ.out; omega, by go_num, by rw [HN.out.2]; exact H3.out⟩
      case measure => simp [intOf]; omega
end Go.Proofs.Ytebhkifjommpjaa
