/- The program's: who joins, who leaves. -/
import Derived.Test.YtfcbngdhbmifeaaCoT
import Derived.Test.YtfcbngdhbmifeaaCoM
namespace Go.Proofs.Ytfcbngdhbmifeaa
open Go.RowKit

set_option maxRecDepth 100000 in
set_option maxHeartbeats 3200000 in
theorem cjoin_any (a : Option Addr) (n cap : Nat) (l : List Int) (hn : l.length = n) (hm : n ≤ maxLen) (id : Int) (w : World) (hI : IntsIn w a l) :
    Calls Try.prog 23 #[.slice a n cap, .int .i64 id] w fun e w' => ∃ v, e = .returned (.tuple #[v, .int .i64 (joinE l id)]) ∧ OwnedI w.heap.size w w' v (joinR l id) := by
  have hMm := careRight_any a n cap l hn hm w hI
  have HI := hid hI
  cases hmb : memB l with
  | false =>
    rw [hmb] at hMm
    have HM := hid hMm
    have HE : Hid (joinE l id = 1) := hid (by rw [joinE, if_pos (fun h => by rw [hmb] at h; exact absurd h.1 (by decide))])
    have HRn : Hid (joinR l id = []) := hid (by rw [joinR, HE.out]; rfl)
    rw [HE.out, HRn.out]
    clear hmb hI hn hm hMm
    go_enter Try.func23, Try.ntmps23
    go_wp2_with (go_at_call 28; refine HM.out.mono ?_; rintro e w1 ⟨rfl, hb1⟩; have H1 := hid hb1; clear hb1)
    go_ret2
    exact ⟨_, rfl, OwnedI.nil H1.out H1.out.size⟩
  | true =>
    rw [hmb] at hMm
    have HM := hid hMm
    have hlen := mem_len hmb
    rw [hn] at hlen
    cases hid1 : isIdB id with
    | false =>
      have HD : Hid (∀ u : World, Calls Try.prog 31 #[.int .i64 id] u fun e w' => e = .returned (.bool false) ∧ w' = u) := hid (fun u => by rw [← hid1]; exact cisID_any id u)
      have HE : Hid (joinE l id = 1) := hid (by rw [joinE, if_pos (fun h => of_decide_eq_false hid1 h.2)])
      have HRn : Hid (joinR l id = []) := hid (by rw [joinR, HE.out]; rfl)
      rw [HE.out, HRn.out]
      clear hmb hI hn hm hMm hlen hid1
      go_enter Try.func23, Try.ntmps23
      go_wp2_with (first
        | (go_at_call 28; refine HM.out.mono ?_; rintro e w1 ⟨rfl, hb1⟩; have H1 := hid hb1; clear hb1)
        | (go_at_call 31; refine (HD.out _).mono ?_; rintro e wx ⟨rfl, rfl⟩))
      go_ret2
      exact ⟨_, rfl, OwnedI.nil H1.out H1.out.size⟩
    | true =>
      have HD : Hid (∀ u : World, Calls Try.prog 31 #[.int .i64 id] u fun e w' => e = .returned (.bool true) ∧ w' = u) := hid (fun u => by rw [← hid1]; exact cisID_any id u)
      have h16 := of_decide_eq_true hid1
      have hg : ¬ ¬ (memB l = true ∧ 0 ≤ id ∧ id < 16) := fun h => h ⟨hmb, h16.1, h16.2⟩
      have hS : ∀ (b : Bool), hasM l id = b → ∀ u : World, IntsIn u a l → Calls Try.prog 32 #[.slice a n cap, .int .i64 id] u fun e w' => e = .returned (.tuple #[.int .i64 (placeN l id : Int), .bool b]) ∧ Below u.heap.size u w' := fun b hb u hu => by rw [← hb]; exact search_any a n cap l hn hmb id u hu
      cases hh : hasM l id with
      | true =>
        have HS := hid (hS true hh)
        have HE : Hid (joinE l id = 7) := hid (by rw [joinE, if_neg hg, if_pos hh])
        have HRn : Hid (joinR l id = []) := hid (by rw [joinR, HE.out]; rfl)
        rw [HE.out, HRn.out]
        clear hmb hI hn hm hMm hlen hid1 hg hh hS h16
        go_enter Try.func23, Try.ntmps23
        go_wp2_with (first
          | (go_at_call 28; refine HM.out.mono ?_; rintro e w1 ⟨rfl, hb1⟩; have H1 := hid hb1; clear hb1)
          | (go_at_call 31; refine (HD.out _).mono ?_; rintro e wx ⟨rfl, rfl⟩)
          | (go_at_call 32; refine (HS.out _ (by exact HI.out.keep H1.out (Nat.le_refl _))).mono ?_; rintro e w2 ⟨rfl, hb2⟩; have H2 := hid (H1.out.trans (hb2.mono H1.out.size)); clear hb2))
        go_ret2
        exact ⟨_, rfl, OwnedI.nil H2.out H2.out.size⟩
      | false =>
        have HS := hid (hS false hh)
        have hhn : ¬ (hasM l id = true) := by rw [hh]; decide
        by_cases hb : 10 ≤ n
        · have hb1 : (n : Int) = 10 := by omega
          have HE : Hid (joinE l id = 10) := hid (by rw [joinE, if_neg hg, if_neg hhn, hn, if_pos hb])
          have HRn : Hid (joinR l id = []) := hid (by rw [joinR, HE.out]; rfl)
          rw [HE.out, HRn.out]
          clear hmb hI hn hm hMm hlen hid1 hg hh hS h16 hhn hb
          go_enter Try.func23, Try.ntmps23
          go_wp2_with (first
            | (go_at_call 28; refine HM.out.mono ?_; rintro e w1 ⟨rfl, hb1⟩; have H1 := hid hb1; clear hb1)
            | (go_at_call 31; refine (HD.out _).mono ?_; rintro e wx ⟨rfl, rfl⟩)
            | (go_at_call 32; refine (HS.out _ (by exact HI.out.keep H1.out (Nat.le_refl _))).mono ?_; rintro e w2 ⟨rfl, hb2⟩; have H2 := hid (H1.out.trans (hb2.mono H1.out.size)); clear hb2))
          go_ret2
          exact ⟨_, rfl, OwnedI.nil H2.out H2.out.size⟩
        · have hb1 : ¬ ((n : Int) = 10) := by omega
          have HE : Hid (joinE l id = 0) := hid (by rw [joinE, if_neg hg, if_neg hhn, hn, if_neg hb])
          have HRn : Hid (joinR l id = l.take (placeN l id) ++ [id] ++ l.drop (placeN l id)) := hid (by rw [joinR, HE.out, ← join_put hmb h16 hh]; rfl)
          rw [HE.out, HRn.out]
          have HP : Hid (placeN l id ≤ n) := hid (by rw [← hn]; exact place_le l id)
          have HCp : Hid (∀ u : World, IntsIn u a l → Calls Try.prog 34 #[.slice a n cap] u fun e w' => ∃ g, e = .returned (.slice (some ⟨g, 0, none⟩) n (n + 1)) ∧ Copied u w' g l) := hid (fun u hu => ccopied_any a n cap l hn (by omega) u hu)
          generalize placeN l id = p at HS HP HRn ⊢
          have HIn : Hid (∀ (u u' : World) (g : Nat), Copied u u' g l → Calls Try.prog 33 #[.slice (some ⟨g, 0, none⟩) n (n + 1), .int .i64 (p : Int), .slice (some ⟨u'.heap.size, 0, none⟩) 1 1] (u'.alloc (.cells #[.int .i64 id] 3)) fun e w' => ∃ v, e = .returned v ∧ OwnedI u.heap.size u w' v (l.take p ++ [id] ++ l.drop p)) := hid (fun u u' g hc => insert_any u u' g n p l id hc hn (by omega) HP.out)
          generalize l.take p ++ [id] ++ l.drop p = R at HIn HRn ⊢
          clear hmb hI hm hMm hid1 hg hh hS h16 hhn hb
          go_enter Try.func23, Try.ntmps23
          go_wp2_with (first
            | (go_at_call 28; refine HM.out.mono ?_; rintro e w1 ⟨rfl, hb1⟩; have H1 := hid hb1; clear hb1)
            | (go_at_call 31; refine (HD.out _).mono ?_; rintro e wx ⟨rfl, rfl⟩)
            | (go_at_call 32; refine (HS.out _ (by exact HI.out.keep H1.out (Nat.le_refl _))).mono ?_; rintro e w2 ⟨rfl, hb2⟩; have H2 := hid (H1.out.trans (hb2.mono H1.out.size)); clear hb2)
            | (go_at_call 34; refine (HCp.out _ (by exact HI.out.keep H2.out (Nat.le_refl _))).mono ?_; rintro e w3 ⟨g, rfl, hb3⟩; have H3 := hid hb3; clear hb3)
            | (go_at_call 33; refine (HIn.out _ _ _ (by exact H3.out)).mono ?_; rintro e w4 ⟨v4, rfl, hb4⟩; have H4 := hid hb4; clear hb4))
          go_ret2
          exact ⟨_, rfl, H4.out.low H2.out H2.out.size⟩
set_option maxRecDepth 100000 in
set_option maxHeartbeats 3200000 in
theorem cleave_any (a : Option Addr) (n cap : Nat) (l : List Int) (hn : l.length = n) (hm : n ≤ maxLen) (id : Int) (w : World) (hI : IntsIn w a l) :
    Calls Try.prog 25 #[.slice a n cap, .int .i64 id] w fun e w' => ∃ v, e = .returned (.tuple #[v, .int .i64 (leaveE l id)]) ∧ OwnedI w.heap.size w w' v (leaveR l id) := by
  have hMm := careRight_any a n cap l hn hm w hI
  have HI := hid hI
  cases hmb : memB l with
  | false =>
    rw [hmb] at hMm
    have HM := hid hMm
    have HE : Hid (leaveE l id = 1) := hid (by rw [leaveE, if_pos (fun h => by rw [hmb] at h; exact absurd h.1 (by decide))])
    have HRn : Hid (leaveR l id = []) := hid (by rw [leaveR, HE.out]; rfl)
    rw [HE.out, HRn.out]
    clear hmb hI hn hm hMm
    go_enter Try.func25, Try.ntmps25
    go_wp2_with (go_at_call 28; refine HM.out.mono ?_; rintro e w1 ⟨rfl, hb1⟩; have H1 := hid hb1; clear hb1)
    go_ret2
    exact ⟨_, rfl, OwnedI.nil H1.out H1.out.size⟩
  | true =>
    rw [hmb] at hMm
    have HM := hid hMm
    have hlen := mem_len hmb
    rw [hn] at hlen
    cases hid1 : isIdB id with
    | false =>
      have HD : Hid (∀ u : World, Calls Try.prog 31 #[.int .i64 id] u fun e w' => e = .returned (.bool false) ∧ w' = u) := hid (fun u => by rw [← hid1]; exact cisID_any id u)
      have HE : Hid (leaveE l id = 1) := hid (by rw [leaveE, if_pos (fun h => of_decide_eq_false hid1 h.2)])
      have HRn : Hid (leaveR l id = []) := hid (by rw [leaveR, HE.out]; rfl)
      rw [HE.out, HRn.out]
      clear hmb hI hn hm hMm hlen hid1
      go_enter Try.func25, Try.ntmps25
      go_wp2_with (first
        | (go_at_call 28; refine HM.out.mono ?_; rintro e w1 ⟨rfl, hb1⟩; have H1 := hid hb1; clear hb1)
        | (go_at_call 31; refine (HD.out _).mono ?_; rintro e wx ⟨rfl, rfl⟩))
      go_ret2
      exact ⟨_, rfl, OwnedI.nil H1.out H1.out.size⟩
    | true =>
      have HD : Hid (∀ u : World, Calls Try.prog 31 #[.int .i64 id] u fun e w' => e = .returned (.bool true) ∧ w' = u) := hid (fun u => by rw [← hid1]; exact cisID_any id u)
      have h16 := of_decide_eq_true hid1
      have hg : ¬ ¬ (memB l = true ∧ 0 ≤ id ∧ id < 16) := fun h => h ⟨hmb, h16.1, h16.2⟩
      have hS : ∀ (b : Bool), hasM l id = b → ∀ u : World, IntsIn u a l → Calls Try.prog 32 #[.slice a n cap, .int .i64 id] u fun e w' => e = .returned (.tuple #[.int .i64 (placeN l id : Int), .bool b]) ∧ Below u.heap.size u w' := fun b hb u hu => by rw [← hb]; exact search_any a n cap l hn hmb id u hu
      cases hh : hasM l id with
      | false =>
        have HS := hid (hS false hh)
        have HE : Hid (leaveE l id = 8) := hid (by rw [leaveE, if_neg hg, if_pos hh])
        have HRn : Hid (leaveR l id = []) := hid (by rw [leaveR, HE.out]; rfl)
        rw [HE.out, HRn.out]
        clear hmb hI hn hm hMm hlen hid1 hg hh hS h16
        go_enter Try.func25, Try.ntmps25
        go_wp2_with (first
          | (go_at_call 28; refine HM.out.mono ?_; rintro e w1 ⟨rfl, hb1⟩; have H1 := hid hb1; clear hb1)
          | (go_at_call 31; refine (HD.out _).mono ?_; rintro e wx ⟨rfl, rfl⟩)
          | (go_at_call 32; refine (HS.out _ (by exact HI.out.keep H1.out (Nat.le_refl _))).mono ?_; rintro e w2 ⟨rfl, hb2⟩; have H2 := hid (H1.out.trans (hb2.mono H1.out.size)); clear hb2))
        go_ret2
        exact ⟨_, rfl, OwnedI.nil H2.out H2.out.size⟩
      | true =>
        have HS := hid (hS true hh)
        have hhn : ¬ (hasM l id = false) := by rw [hh]; decide
        by_cases hb : n ≤ 4
        · have hb1 : (n : Int) = 4 := by omega
          have HE : Hid (leaveE l id = 9) := hid (by rw [leaveE, if_neg hg, if_neg hhn, hn, if_pos hb])
          have HRn : Hid (leaveR l id = []) := hid (by rw [leaveR, HE.out]; rfl)
          rw [HE.out, HRn.out]
          clear hmb hI hn hm hMm hlen hid1 hg hh hS h16 hhn hb
          go_enter Try.func25, Try.ntmps25
          go_wp2_with (first
            | (go_at_call 28; refine HM.out.mono ?_; rintro e w1 ⟨rfl, hb1⟩; have H1 := hid hb1; clear hb1)
            | (go_at_call 31; refine (HD.out _).mono ?_; rintro e wx ⟨rfl, rfl⟩)
            | (go_at_call 32; refine (HS.out _ (by exact HI.out.keep H1.out (Nat.le_refl _))).mono ?_; rintro e w2 ⟨rfl, hb2⟩; have H2 := hid (H1.out.trans (hb2.mono H1.out.size)); clear hb2))
          go_ret2
          exact ⟨_, rfl, OwnedI.nil H2.out H2.out.size⟩
        · have hb1 : ¬ ((n : Int) = 4) := by omega
          have HE : Hid (leaveE l id = 0) := hid (by rw [leaveE, if_neg hg, if_neg hhn, hn, if_neg hb])
          obtain ⟨hpl, hcut⟩ := leave_cut id (mem_inc hmb) (of_decide_eq_true hh)
          have HRn : Hid (leaveR l id = l.take (placeN l id) ++ l.drop (placeN l id + 1)) := hid (by rw [leaveR, HE.out, ← hcut]; rfl)
          rw [HE.out, HRn.out]
          have HP : Hid (placeN l id < n) := hid (by rw [← hn]; exact hpl)
          have HCp : Hid (∀ u : World, IntsIn u a l → Calls Try.prog 34 #[.slice a n cap] u fun e w' => ∃ g, e = .returned (.slice (some ⟨g, 0, none⟩) n (n + 1)) ∧ Copied u w' g l) := hid (fun u hu => ccopied_any a n cap l hn (by omega) u hu)
          generalize placeN l id = p at HS HP HRn hpl hcut ⊢
          have hp10 : (p : Int) ≤ 10 := by omega
          have HIn : Hid (∀ (u u' : World) (g : Nat), Copied u u' g l → Calls Try.prog 35 #[.slice (some ⟨g, 0, none⟩) n (n + 1), .int .i64 (p : Int), .int .i64 ((p : Int) + 1)] u' fun e w' => ∃ v, e = .returned v ∧ OwnedI u.heap.size u w' v (l.take p ++ l.drop (p + 1))) := hid (fun u u' g hc => delete_any u u' g n p l hc hn (by omega) HP.out)
          generalize l.take p ++ l.drop (p + 1) = R at HIn HRn ⊢
          clear hmb hI hm hMm hid1 hg hh hS h16 hhn hb hpl hcut
          go_enter Try.func25, Try.ntmps25
          go_wp2_with (first
            | (go_at_call 28; refine HM.out.mono ?_; rintro e w1 ⟨rfl, hb1⟩; have H1 := hid hb1; clear hb1)
            | (go_at_call 31; refine (HD.out _).mono ?_; rintro e wx ⟨rfl, rfl⟩)
            | (go_at_call 32; refine (HS.out _ (by exact HI.out.keep H1.out (Nat.le_refl _))).mono ?_; rintro e w2 ⟨rfl, hb2⟩; have H2 := hid (H1.out.trans (hb2.mono H1.out.size)); clear hb2)
            | (go_at_call 34; refine (HCp.out _ (by exact HI.out.keep H2.out (Nat.le_refl _))).mono ?_; rintro e w3 ⟨g, rfl, hb3⟩; have H3 := hid hb3; clear hb3)
            | (go_at_call 35; refine (HIn.out _ _ _ (by exact H3.out)).mono ?_; rintro e w4 ⟨v4, rfl, hb4⟩; have H4 := hid hb4; clear hb4))
          go_ret2
          exact ⟨_, rfl, H4.out.low H2.out H2.out.size⟩
end Go.Proofs.Ytfcbngdhbmifeaa
