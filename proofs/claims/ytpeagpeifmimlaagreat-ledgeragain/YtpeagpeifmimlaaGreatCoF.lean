/- The document's: who joins, who leaves. -/
import Derived.Test.YtpeagpeifmimlaaGreatCoE
namespace Go.Proofs.YtpeagpeifmimlaaGreat
open Go.RowKit

/-- The members with id, so far. -/
def joinTo (l : List Int) (id : Int) : Nat → List Int
  | 0 => []
  | j + 1 => joinTo l id j ++ (if (j : Int) = id ∨ (j : Int) ∈ l then [(j : Int)] else [])
theorem joinTo_yes (l : List Int) (id : Int) (j : Nat) (h : (j : Int) = id ∨ (j : Int) ∈ l) : joinTo l id (j + 1) = joinTo l id j ++ [(j : Int)] := by rw [joinTo, if_pos h]
theorem joinTo_no (l : List Int) (id : Int) (j : Nat) (h : ¬ ((j : Int) = id ∨ (j : Int) ∈ l)) : joinTo l id (j + 1) = joinTo l id j := by rw [joinTo, if_neg h, List.append_nil]
theorem joinTo_len (l : List Int) (id : Int) : ∀ j, (joinTo l id j).length ≤ j
  | 0 => Nat.le_refl _
  | j + 1 => by
    have := joinTo_len l id j
    rw [joinTo, List.length_append]
    split <;> simp <;> omega
def joinE (l : List Int) (id : Int) : Int := if ¬ (memB l = true ∧ 0 ≤ id ∧ id < 16) then 1 else if hasM l id = true then 7 else if 10 ≤ l.length then 10 else 0
def joinR (l : List Int) (id : Int) : List Int := if joinE l id = 0 then joinTo l id 16 else []
/-- The members without id. -/
def leaveF (l : List Int) (id : Int) : List Int := l.filter fun z => decide (z ≠ id)
def leaveE (l : List Int) (id : Int) : Int := if ¬ (memB l = true ∧ 0 ≤ id ∧ id < 16) then 1 else if hasM l id = false then 8 else if l.length ≤ 4 then 9 else 0
def leaveR (l : List Int) (id : Int) : List Int := if leaveE l id = 0 then leaveF l id else []
theorem leave_snoc (l : List Int) (id : Int) (j : Nat) (hj : j < l.length) :
    (l.getD j 0 ≠ id → leaveF (l.take (j + 1)) id = (leaveF (l.take j) id) ++ [l.getD j 0]) ∧
    (l.getD j 0 = id → leaveF (l.take (j + 1)) id = leaveF (l.take j) id) := by
  unfold leaveF
  rw [List.take_add_one, getD_some hj, List.filter_append]
  constructor
  · intro h
    rw [List.getD_eq_getElem?_getD] at h
    congr 1
    simp [h]
  · intro h
    rw [List.getD_eq_getElem?_getD] at h
    simp [h]

set_option maxRecDepth 100000 in
set_option maxHeartbeats 3200000 in
theorem vjoin_any (a : Option Addr) (n cap : Nat) (l : List Int) (hn : l.length = n) (hm : n ≤ maxLen) (id : Int) (w : World) (hI : IntsIn w a l) :
    Calls Tryz.prog 110 #[.slice a n cap, .int .i64 id] w fun e w' => ∃ v, e = .returned (.tuple #[v, .int .i64 (joinE l id)]) ∧ OwnedI w.heap.size w w' v (joinR l id) := by
  have hMm := vmembers_any a n cap l hn hm w hI
  have hHh : ∀ (z : Int) (u : World), IntsIn u a l → Calls Tryz.prog 129 #[.slice a n cap, .int .i64 z] u fun e w' => e = .returned (.bool (hasM l z)) ∧ w' = u := fun z u hu => vhas_any a n cap l hn hm z u hu
  have HI := hid hI
  have hm2 : (n : Int) ≤ 9223372036854775807 := by unfold maxLen at hm; omega
  cases hmb : memB l with
  | false =>
    rw [hmb] at hMm
    have HM := hid hMm
    have HE : Hid (joinE l id = 1) := hid (by rw [joinE, if_pos (fun h => by rw [hmb] at h; exact absurd h.1 (by decide))])
    have HRn : Hid (joinR l id = []) := hid (by rw [joinR, HE.out]; rfl)
    rw [HE.out, HRn.out]
    clear hmb hI hn hm hMm hHh
    go_enter Tryz.func110, Tryz.ntmps110
    go_wp2_with (first
      | (go_at_call 70; refine HM.out.mono ?_; rintro e w1 ⟨rfl, hb1⟩; have H1 := hid hb1; clear hb1))
    go_ret2
    exact ⟨_, rfl, OwnedI.nil H1.out H1.out.size⟩
  | true =>
    rw [hmb] at hMm
    have HM := hid hMm
    have hlen := mem_len hmb
    rw [hn] at hlen
    by_cases h0 : id < 0
    · have HE : Hid (joinE l id = 1) := hid (by rw [joinE, if_pos (fun h => by omega)])
      have HRn : Hid (joinR l id = []) := hid (by rw [joinR, HE.out]; rfl)
      rw [HE.out, HRn.out]
      clear hmb hI hn hm hMm hHh hlen
      go_enter Tryz.func110, Tryz.ntmps110
      go_wp2_with (first
        | (go_at_call 70; refine HM.out.mono ?_; rintro e w1 ⟨rfl, hb1⟩; have H1 := hid hb1; clear hb1))
      go_ret2
      exact ⟨_, rfl, OwnedI.nil H1.out H1.out.size⟩
    by_cases h16 : 16 ≤ id
    · have h1 : ¬ (id < 0) := h0
      have HE : Hid (joinE l id = 1) := hid (by rw [joinE, if_pos (fun h => by omega)])
      have HRn : Hid (joinR l id = []) := hid (by rw [joinR, HE.out]; rfl)
      rw [HE.out, HRn.out]
      clear hmb hI hn hm hMm hHh hlen h0
      go_enter Tryz.func110, Tryz.ntmps110
      go_wp2_with (first
        | (go_at_call 70; refine HM.out.mono ?_; rintro e w1 ⟨rfl, hb1⟩; have H1 := hid hb1; clear hb1))
      go_ret2
      exact ⟨_, rfl, OwnedI.nil H1.out H1.out.size⟩
    have hg : ¬ ¬ (memB l = true ∧ 0 ≤ id ∧ id < 16) := fun h => h ⟨hmb, by omega, by omega⟩
    have h1 : ¬ (id < 0) := h0
    have h2 : ¬ (16 ≤ id) := h16
    cases hh : hasM l id with
    | true =>
      have HH : Hid (∀ u : World, IntsIn u a l → Calls Tryz.prog 129 #[.slice a n cap, .int .i64 id] u fun e w' => e = .returned (.bool true) ∧ w' = u) := hid (fun u hu => by rw [← hh]; exact hHh id u hu)
      have HE : Hid (joinE l id = 7) := hid (by rw [joinE, if_neg hg, if_pos hh])
      have HRn : Hid (joinR l id = []) := hid (by rw [joinR, HE.out]; rfl)
      rw [HE.out, HRn.out]
      clear hmb hI hn hm hMm hHh hlen h0 h16 hg hh
      go_enter Tryz.func110, Tryz.ntmps110
      go_wp2_with (first
        | (go_at_call 70; refine HM.out.mono ?_; rintro e w1 ⟨rfl, hb1⟩; have H1 := hid hb1; clear hb1)
        | (go_at_call 129; refine (HH.out _ (by exact HI.out.keep H1.out (Nat.le_refl _))).mono ?_; rintro e wx ⟨rfl, rfl⟩))
      go_ret2
      exact ⟨_, rfl, OwnedI.nil H1.out H1.out.size⟩
    | false =>
      have HH : Hid (∀ u : World, IntsIn u a l → Calls Tryz.prog 129 #[.slice a n cap, .int .i64 id] u fun e w' => e = .returned (.bool false) ∧ w' = u) := hid (fun u hu => by rw [← hh]; exact hHh id u hu)
      have hhn : ¬ (hasM l id = true) := by rw [hh]; decide
      by_cases hb : 10 ≤ n
      · have hb1 : (10 : Int) ≤ (n : Int) := by omega
        have HE : Hid (joinE l id = 10) := hid (by rw [joinE, if_neg hg, if_neg hhn, hn, if_pos hb])
        have HRn : Hid (joinR l id = []) := hid (by rw [joinR, HE.out]; rfl)
        rw [HE.out, HRn.out]
        clear hmb hI hn hm hMm hHh hlen h0 h16 hg hh hhn hb
        go_enter Tryz.func110, Tryz.ntmps110
        go_wp2_with (first
          | (go_at_call 70; refine HM.out.mono ?_; rintro e w1 ⟨rfl, hb1⟩; have H1 := hid hb1; clear hb1)
          | (go_at_call 129; refine (HH.out _ (by exact HI.out.keep H1.out (Nat.le_refl _))).mono ?_; rintro e wx ⟨rfl, rfl⟩))
        go_ret2
        exact ⟨_, rfl, OwnedI.nil H1.out H1.out.size⟩
      · have hb1 : ¬ ((10 : Int) ≤ (n : Int)) := by omega
        have HE : Hid (joinE l id = 0) := hid (by rw [joinE, if_neg hg, if_neg hhn, hn, if_neg hb])
        have HRn : Hid (joinR l id = joinTo l id 16) := hid (by rw [joinR, HE.out]; rfl)
        rw [HE.out, HRn.out]
        obtain ⟨i0, hi0, hz0, hz1, hz2⟩ := info_parts Tryz.info3
        have HHz := hid hHh
        have HQ := hid (And.intro hlen hn)
        clear hmb hI hm hMm hHh h0 h16 hg hh hhn hb hlen hn
        go_enter Tryz.func110, Tryz.ntmps110
        go_wp2_with (first
          | (go_at_call 70; refine HM.out.mono ?_; rintro e w1 ⟨rfl, hb1⟩; have H1 := hid hb1; clear hb1)
          | (go_at_call 129; refine (HH.out _ (by exact HI.out.keep H1.out (Nat.le_refl _))).mono ?_; rintro e wx ⟨rfl, rfl⟩))
        go_loopw [6, 7] (fun v i wr => ∃ j : Nat, j ≤ 16 ∧ i = .int .i64 (j : Int) ∧ OwnedI w.heap.size w wr v (joinTo l id j))
          (fun _ i _ => (16 - intOf i).toNat)
        case atStart => exact ⟨0, by omega, rfl, OwnedI.nil H1.out H1.out.size⟩
        case round =>
          obtain ⟨j, hj, rfl, hO⟩ := hrel
          have HO := hid hO
          clear hO
          by_cases hjn : j = 16
          · have hj1 : ¬ ((j : Int) < 16) := by omega
            subst hjn
            clear hj
            go_wp2
            go_ret2
            exact ⟨_, rfl, HO.out⟩
          · have hj1 : (j : Int) < 16 := by omega
            have hj0 : (0 : Int) ≤ (j : Int) := Int.natCast_nonneg _
            have HL : Hid ((joinTo l id j).length + 1 ≤ 17) := hid (by have := joinTo_len l id j; omega)
            have HJ := hid (And.intro hj hjn)
            by_cases hid1 : (j : Int) = id
            · have HT : Hid (joinTo l id (j + 1) = joinTo l id j ++ [(j : Int)]) := hid (joinTo_yes l id j (.inl hid1))
              clear hj hjn
              subst hid1
              go_wp2_with (at_builtin; refine wpList_append_own _ rfl _ _ 22 rfl w.heap.size 3 i0 (.int .i64 0) 1 8 Tryz.underlying22 hi0 hz0 hz1 hz2 rfl (by decide) _ _ _ rfl (HO.out.alloc _).own ⟨_, 0, none⟩ 1 1 (iC [(j : Int)]) rfl rfl (World.news_of_block (t := 3) (fr := (0, 0)) (heap_alloc_last _ _)) (iC_one _) (by have := HL.out; unfold maxLen; omega) (by have := HL.out; omega) (HO.out.alloc _).le ?_; intro v3 w3 hown3 hgrow3 hnil3; have H3 := hid ((HO.out.alloc _).grow (xs := [(j : Int)]) rfl hown3 hgrow3); clear hown3 hgrow3 hnil3)
              go_roundw
              case rel => exact ⟨j + 1, by have := HJ.out; omega, by go_num, by rw [HT.out]; exact H3.out⟩
              case measure => simp [intOf]; omega
            · cases hhj : hasM l (j : Int) with
              | true =>
                have HT : Hid (joinTo l id (j + 1) = joinTo l id j ++ [(j : Int)]) := hid (joinTo_yes l id j (.inr (of_decide_eq_true hhj)))
                have HHj : Hid (∀ u : World, IntsIn u a l → Calls Tryz.prog 129 #[.slice a n cap, .int .i64 (j : Int)] u fun e w' => e = .returned (.bool true) ∧ w' = u) := hid (fun u hu => by rw [← hhj]; exact HHz.out _ u hu)
                clear hj hjn hhj
                go_wp2_with (first
                  | (go_at_call 129; refine (HHj.out _ (by exact HI.out.keep HO.out.bel (Nat.le_refl _))).mono ?_; rintro e wx ⟨rfl, rfl⟩)
                  | (at_builtin; refine wpList_append_own _ rfl _ _ 22 rfl w.heap.size 3 i0 (.int .i64 0) 1 8 Tryz.underlying22 hi0 hz0 hz1 hz2 rfl (by decide) _ _ _ rfl (HO.out.alloc _).own ⟨_, 0, none⟩ 1 1 (iC [(j : Int)]) rfl rfl (World.news_of_block (t := 3) (fr := (0, 0)) (heap_alloc_last _ _)) (iC_one _) (by have := HL.out; unfold maxLen; omega) (by have := HL.out; omega) (HO.out.alloc _).le ?_; intro v3 w3 hown3 hgrow3 hnil3; have H3 := hid ((HO.out.alloc _).grow (xs := [(j : Int)]) rfl hown3 hgrow3); clear hown3 hgrow3 hnil3))
                go_roundw
                case rel => exact ⟨j + 1, by have := HJ.out; omega, by go_num, by rw [HT.out]; exact H3.out⟩
                case measure => simp [intOf]; omega
              | false =>
                have HT : Hid (joinTo l id (j + 1) = joinTo l id j) := hid (joinTo_no l id j (fun h => h.elim hid1 (of_decide_eq_false hhj)))
                have HHj : Hid (∀ u : World, IntsIn u a l → Calls Tryz.prog 129 #[.slice a n cap, .int .i64 (j : Int)] u fun e w' => e = .returned (.bool false) ∧ w' = u) := hid (fun u hu => by rw [← hhj]; exact HHz.out _ u hu)
                clear hj hjn hhj
                go_wp2_with (go_at_call 129; refine (HHj.out _ (by exact HI.out.keep HO.out.bel (Nat.le_refl _))).mono ?_; rintro e wx ⟨rfl, rfl⟩)
                go_roundw
                case rel => exact ⟨j + 1, by have := HJ.out; omega, by go_num, by rw [HT.out]; exact HO.out⟩
                case measure => simp [intOf]; omega

set_option maxRecDepth 100000 in
set_option maxHeartbeats 3200000 in
theorem vleave_any (a : Option Addr) (n cap : Nat) (l : List Int) (hn : l.length = n) (hm : n ≤ maxLen) (id : Int) (w : World) (hI : IntsIn w a l) :
    Calls Tryz.prog 111 #[.slice a n cap, .int .i64 id] w fun e w' => ∃ v, e = .returned (.tuple #[v, .int .i64 (leaveE l id)]) ∧ OwnedI w.heap.size w w' v (leaveR l id) := by
  have hMm := vmembers_any a n cap l hn hm w hI
  have hHh : ∀ (z : Int) (u : World), IntsIn u a l → Calls Tryz.prog 129 #[.slice a n cap, .int .i64 z] u fun e w' => e = .returned (.bool (hasM l z)) ∧ w' = u := fun z u hu => vhas_any a n cap l hn hm z u hu
  have HI := hid hI
  have hm2 : (n : Int) ≤ 9223372036854775807 := by unfold maxLen at hm; omega
  cases hmb : memB l with
  | false =>
    rw [hmb] at hMm
    have HM := hid hMm
    have HE : Hid (leaveE l id = 1) := hid (by rw [leaveE, if_pos (fun h => by rw [hmb] at h; exact absurd h.1 (by decide))])
    have HRn : Hid (leaveR l id = []) := hid (by rw [leaveR, HE.out]; rfl)
    rw [HE.out, HRn.out]
    clear hmb hI hn hm hMm hHh
    go_enter Tryz.func111, Tryz.ntmps111
    go_wp2_with (first
      | (go_at_call 70; refine HM.out.mono ?_; rintro e w1 ⟨rfl, hb1⟩; have H1 := hid hb1; clear hb1))
    go_ret2
    exact ⟨_, rfl, OwnedI.nil H1.out H1.out.size⟩
  | true =>
    rw [hmb] at hMm
    have HM := hid hMm
    have hlen := mem_len hmb
    rw [hn] at hlen
    by_cases h0 : id < 0
    · have HE : Hid (leaveE l id = 1) := hid (by rw [leaveE, if_pos (fun h => by omega)])
      have HRn : Hid (leaveR l id = []) := hid (by rw [leaveR, HE.out]; rfl)
      rw [HE.out, HRn.out]
      clear hmb hI hn hm hMm hHh hlen
      go_enter Tryz.func111, Tryz.ntmps111
      go_wp2_with (first
        | (go_at_call 70; refine HM.out.mono ?_; rintro e w1 ⟨rfl, hb1⟩; have H1 := hid hb1; clear hb1))
      go_ret2
      exact ⟨_, rfl, OwnedI.nil H1.out H1.out.size⟩
    by_cases h16 : 16 ≤ id
    · have h1 : ¬ (id < 0) := h0
      have HE : Hid (leaveE l id = 1) := hid (by rw [leaveE, if_pos (fun h => by omega)])
      have HRn : Hid (leaveR l id = []) := hid (by rw [leaveR, HE.out]; rfl)
      rw [HE.out, HRn.out]
      clear hmb hI hn hm hMm hHh hlen h0
      go_enter Tryz.func111, Tryz.ntmps111
      go_wp2_with (first
        | (go_at_call 70; refine HM.out.mono ?_; rintro e w1 ⟨rfl, hb1⟩; have H1 := hid hb1; clear hb1))
      go_ret2
      exact ⟨_, rfl, OwnedI.nil H1.out H1.out.size⟩
    have hg : ¬ ¬ (memB l = true ∧ 0 ≤ id ∧ id < 16) := fun h => h ⟨hmb, by omega, by omega⟩
    have h1 : ¬ (id < 0) := h0
    have h2 : ¬ (16 ≤ id) := h16
    cases hh : hasM l id with
    | false =>
      have HH : Hid (∀ u : World, IntsIn u a l → Calls Tryz.prog 129 #[.slice a n cap, .int .i64 id] u fun e w' => e = .returned (.bool false) ∧ w' = u) := hid (fun u hu => by rw [← hh]; exact hHh id u hu)
      have HE : Hid (leaveE l id = 8) := hid (by rw [leaveE, if_neg hg, if_pos hh])
      have HRn : Hid (leaveR l id = []) := hid (by rw [leaveR, HE.out]; rfl)
      rw [HE.out, HRn.out]
      clear hmb hI hn hm hMm hHh hlen h0 h16 hg hh
      go_enter Tryz.func111, Tryz.ntmps111
      go_wp2_with (first
        | (go_at_call 70; refine HM.out.mono ?_; rintro e w1 ⟨rfl, hb1⟩; have H1 := hid hb1; clear hb1)
        | (go_at_call 129; refine (HH.out _ (by exact HI.out.keep H1.out (Nat.le_refl _))).mono ?_; rintro e wx ⟨rfl, rfl⟩))
      go_ret2
      exact ⟨_, rfl, OwnedI.nil H1.out H1.out.size⟩
    | true =>
      have HH : Hid (∀ u : World, IntsIn u a l → Calls Tryz.prog 129 #[.slice a n cap, .int .i64 id] u fun e w' => e = .returned (.bool true) ∧ w' = u) := hid (fun u hu => by rw [← hh]; exact hHh id u hu)
      have hhn : ¬ (hasM l id = false) := by rw [hh]; decide
      by_cases hb : n ≤ 4
      · have hb1 : (n : Int) ≤ 4 := by omega
        have HE : Hid (leaveE l id = 9) := hid (by rw [leaveE, if_neg hg, if_neg hhn, hn, if_pos hb])
        have HRn : Hid (leaveR l id = []) := hid (by rw [leaveR, HE.out]; rfl)
        rw [HE.out, HRn.out]
        clear hmb hI hn hm hMm hHh hlen h0 h16 hg hh hhn hb
        go_enter Tryz.func111, Tryz.ntmps111
        go_wp2_with (first
          | (go_at_call 70; refine HM.out.mono ?_; rintro e w1 ⟨rfl, hb1⟩; have H1 := hid hb1; clear hb1)
          | (go_at_call 129; refine (HH.out _ (by exact HI.out.keep H1.out (Nat.le_refl _))).mono ?_; rintro e wx ⟨rfl, rfl⟩))
        go_ret2
        exact ⟨_, rfl, OwnedI.nil H1.out H1.out.size⟩
      · have hb1 : ¬ ((n : Int) ≤ 4) := by omega
        have HE : Hid (leaveE l id = 0) := hid (by rw [leaveE, if_neg hg, if_neg hhn, hn, if_neg hb])
        have HRn : Hid (leaveR l id = leaveF l id) := hid (by rw [leaveR, HE.out]; rfl)
        rw [HE.out, HRn.out]
        obtain ⟨i0, hi0, hz0, hz1, hz2⟩ := info_parts Tryz.info3
        have HHz := hid hHh
        have HQ := hid (And.intro hlen hn)
        clear hmb hI hm hMm hHh h0 h16 hg hh hhn hb hlen hn
        go_enter Tryz.func111, Tryz.ntmps111
        go_wp2_with (first
          | (go_at_call 70; refine HM.out.mono ?_; rintro e w1 ⟨rfl, hb1⟩; have H1 := hid hb1; clear hb1)
          | (go_at_call 129; refine (HH.out _ (by exact HI.out.keep H1.out (Nat.le_refl _))).mono ?_; rintro e wx ⟨rfl, rfl⟩))
        go_loopw [6, 7] (fun v i wr => ∃ j : Nat, j ≤ n ∧ i = .int .i64 (j : Int) ∧ OwnedI w.heap.size w wr v (leaveF (l.take j) id))
          (fun _ i _ => ((n : Int) - intOf i).toNat)
        case atStart => exact ⟨0, by omega, rfl, OwnedI.nil H1.out H1.out.size⟩
        case round =>
          obtain ⟨j, hj, rfl, hO⟩ := hrel
          have HO := hid hO
          clear hO
          by_cases hjn : j = n
          · have hj1 : ¬ ((j : Int) < (n : Int)) := by omega
            rw [hjn, List.take_of_length_le (by rw [HQ.out.2]; exact Nat.le_refl _)] at HO
            clear hj hjn
            go_wp2
            go_ret2
            exact ⟨_, rfl, HO.out⟩
          · have hj1 : (j : Int) < (n : Int) := by omega
            have hj0 : (0 : Int) ≤ (j : Int) := Int.natCast_nonneg _
            have hjl : j < l.length := by rw [HQ.out.2]; omega
            have HL : Hid ((leaveF (l.take j) id).length + 1 ≤ 17) := hid (by
              have h1 : (leaveF (l.take j) id).length ≤ (l.take j).length := List.length_filter_le _ _
              have h2 : (l.take j).length ≤ 10 := by rw [List.length_take]; have := HQ.out; omega
              omega)
            obtain ⟨g, off, rfl, hg, hcell⟩ := HI.out.at j _ (getD_some hjl)
            have htk := leave_snoc l id j hjl
            obtain ⟨x, ex⟩ : ∃ x, x = l.getD j 0 := ⟨_, rfl⟩
            rw [← ex] at hcell htk
            have cz : wr.cell? ⟨g, off + j, none⟩ = some (.int .i64 x) := (HO.out.bel.cell (p := ⟨g, off + j, none⟩) hg).trans hcell
            have HJ := hid (And.intro hj hjn)
            by_cases hx : x = id
            · have HT : Hid (leaveF (l.take (j + 1)) id = leaveF (l.take j) id) := hid (htk.2 hx)
              clear hj hjn hjl hg hcell htk ex
              subst hx
              go_wp2
              go_roundw
              case rel => exact ⟨j + 1, by have := HJ.out; omega, by go_num, by rw [HT.out]; exact HO.out⟩
              case measure => simp [intOf]; omega
            · have HT : Hid (leaveF (l.take (j + 1)) id = (leaveF (l.take j) id) ++ [x]) := hid (htk.1 hx)
              clear hj hjn hjl hg hcell htk ex
              go_wp2_with (at_builtin; refine wpList_append_own _ rfl _ _ 22 rfl w.heap.size 3 i0 (.int .i64 0) 1 8 Tryz.underlying22 hi0 hz0 hz1 hz2 rfl (by decide) _ _ _ rfl (HO.out.alloc _).own ⟨_, 0, none⟩ 1 1 (iC [x]) rfl rfl (World.news_of_block (t := 3) (fr := (0, 0)) (heap_alloc_last _ _)) (iC_one _) (by have := HL.out; unfold maxLen; omega) (by have := HL.out; omega) (HO.out.alloc _).le ?_; intro v3 w3 hown3 hgrow3 hnil3; have H3 := hid ((HO.out.alloc _).grow (xs := [x]) rfl hown3 hgrow3); clear hown3 hgrow3 hnil3)
              go_roundw
              case rel => exact ⟨j + 1, by have := HJ.out; omega, by go_num, by rw [HT.out]; exact H3.out⟩
              case measure => simp [intOf]; omega
end Go.Proofs.YtpeagpeifmimlaaGreat
