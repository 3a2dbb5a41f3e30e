/- The law: all signatures of a message, in their order, in new memory. -/
import Derived.Test.YtfjcpghepkmbfaaWtCM
import Derived.Test.YtfjcpghepkmbfaaWtDM
import Derived.Test.YtfjcpghepkmbfaaWvAM
import Derived.Deep.DeepCutAuto
import Derived.Deep.DeepMust
namespace Go.Proofs.Ytfjcpghepkmbfaa
open Go.RowKit

/-- n signatures' cells of the block g, that may be written. -/
def WcG (g n : Nat) (w : World) : Prop := ∃ cs T, w.heap[g]? = some (.cells cs T (0, 0)) ∧ 2 * n ≤ cs.size
theorem WcG.at {g n : Nat} {w : World} (h : WcG g n w) (i : Nat) (hi : i < n) : ∃ v, w.cell? ⟨g, i * 2, none⟩ = some v ∧ w.frozen? ⟨g, i * 2, none⟩ = false := by
  obtain ⟨cs, T, hb, hs⟩ := h
  refine ⟨cs[i * 2]'(by omega), ?_, free_at hb _⟩
  exact cell_at (L := cs.toList) (by simpa using hb) _ _ (by simp <;> omega)
theorem WcG.set {g n o : Nat} {w : World} {u : Value} (h : WcG g n w) : WcG g n (w.setCell ⟨g, o, none⟩ u) := by
  obtain ⟨cs, T, hb, hs⟩ := h
  exact ⟨_, T, blk_set hb _ _, by simpa using hs⟩
theorem dec_same (l : List Sg) : decide (l = l) = true := decide_eq_true rfl
set_option maxRecDepth 100000 in
set_option maxHeartbeats 6400000 in
theorem wtm_nil {F : Nat → Prop} (m : Ms) (a13 a14 a15 a16 : Option Addr) (c13 c14 c15 c16 : Nat) (w : World) (hB : MsB m) (hT : (tmG m).length * 24 ≤ 140737488355328) (hL : MsL F w m (.slice a13 m.nx.length c13) (.slice a14 m.sg.length c14) (.slice a15 m.cg.length c15) (.slice a16 m.ln.length c16)) (htm : tmG m = []) :
    Calls Try.prog 6 #[.agg (msA m a13 a14 a15 a16 c13 c14 c15 c16).toArray] w fun e w' => e = .returned (.bool true) ∧ Below w.heap.size w w' := by
  obtain ⟨wa, HA, hb, hx⟩ := msA_new m a13 a14 a15 a16 c13 c14 c15 c16 34 w
  have H0 := hid (And.intro hx hb)
  clear hb hx
  obtain ⟨A, eA⟩ : ∃ A, A = Value.agg (msA m a13 a14 a15 a16 c13 c14 c15 c16).toArray := ⟨_, rfl⟩
  have HAg := hid eA
  obtain ⟨L, eL⟩ : ∃ L, L = tmG m := ⟨_, rfl⟩
  obtain ⟨n, en⟩ : ∃ n, n = L.length := ⟨_, rfl⟩
  have hlm : n ≤ maxLen := by rw [en, eL]; unfold maxLen; omega
  have hnI : (n : Int) ≤ 9223372036854775807 := by unfold maxLen at hlm; omega
  have HW1 : Hid (∀ u : World, Below w.heap.size w u → Calls Try.prog 11 #[A] u fun e w' => ∃ a cap, e = .returned (.slice a n cap) ∧ NwG u.heap.size w' a L ∧ Below u.heap.size u w') := hid (fun u hu => by rw [en, eL, eA]; exact wterms_any m a13 a14 a15 a16 c13 c14 c15 c16 u hB.n hT (hL.under hu))
  have HI1 : Hid (∀ u : World, Below w.heap.size w u → Calls Try.prog 12 #[A] u fun e w' => ∃ a cap, e = .returned (.slice a n cap) ∧ NwG u.heap.size w' a L ∧ Below u.heap.size u w') := hid (fun u hu => by rw [en, eL, eA]; exact iterms_any m a13 a14 a15 a16 c13 c14 c15 c16 u hB.n hT (hL.under hu))
  have HS : Hid (∀ (u : World) (a b : Option Addr) (c d : Nat), PairsIn u a L → PairsIn u b L → Calls Try.prog 13 #[.slice a n c, .slice b n d] u fun e w' => e = .returned (.bool true) ∧ Below u.heap.size u w') := hid (fun u a b c d h1 h2 => by have := wsame_dec a b n n c d L L en.symm en.symm hlm hlm u h1 h2; rw [dec_same] at this; exact this)
  have HN := hid (And.intro en (And.intro eL htm))
  clear hB hT hL htm en eL hlm
  obtain rfl : n = 0 := by rw [HN.out.1, HN.out.2.1, HN.out.2.2]; rfl
  have hz : ¬ ((0 : Int) < ((0 : Nat) : Int)) := by decide
  unfold msA
  simp only [msA] at HA eA
  replace HA := hid HA
  go_enter Try.func6, Try.ntmps6
  try simp only [List.append]
  go_upto_region 1 with fail
  rw [HA.out, ← eA]
  clear eA
  go_wp2_with (first
    | (have := H3; go_at_call 13; go_must (refine (HS.out _ _ _ _ _ H3.out.2.2.1.1 H3.out.2.1).mono ?_; rintro e w4 ⟨rfl, hb⟩; have H4 := hid (And.intro (bx_next H3.out.1 hb) (And.intro (H3.out.2.1.keep hb (Nat.le_refl _)) (And.intro H3.out.2.2.2 hb))); clear hb))
    | (have := H2; go_at_call 12; go_must (refine (HI1.out _ H2.out.1.2).mono ?_; rintro e w3 ⟨q2, k2, rfl, hn, hb⟩; have H3 := hid (And.intro (bx_next H2.out.1 hb) (And.intro (H2.out.2.1.keep hb (Nat.le_refl _)) (And.intro hn hb))); clear hb hn))
    | (have := H1; go_at_call 11; go_must (refine (HW1.out _ H1.out.2).mono ?_; rintro e w2 ⟨q1, k1, rfl, hn, hb⟩; have H2 := hid (And.intro (bx_next H1.out hb) hn); clear hb hn))
    | (have := H0; go_at_call 7; go_must (refine (wlives_any _).mono ?_; rintro e w1 ⟨rfl, hb⟩; have H1 := hid (bx_next H0.out hb); clear hb))
    | (have := H2; refine wl_loadA rfl 34 _ rfl w.heap.size 0 rfl (msA m a13 a14 a15 a16 c13 c14 c15 c16) 34 H2.out.1.1 _ Try.underlying34 rfl (by kernel_rfl) A HAg.out rfl ?_)
    | (have := H1; refine wl_loadA rfl 34 _ rfl w.heap.size 0 rfl (msA m a13 a14 a15 a16 c13 c14 c15 c16) 34 H1.out.1 _ Try.underlying34 rfl (by kernel_rfl) A HAg.out rfl ?_))
  go_loopw [5] (fun i wr => i = .int .i64 0 ∧ (BxAt wr w.heap.size (msA m a13 a14 a15 a16 c13 c14 c15 c16) 34 ∧ Below w.heap.size w wr) ∧ PairsIn wr q1 L)
    (fun _ _ => 0)
  case atStart => exact ⟨rfl, H4.out.1, H4.out.2.1⟩
  case round =>
    obtain ⟨rfl, hE, hP⟩ := hrel
    have HR := hid (And.intro hE hP)
    clear hE hP
    go_wp2_with (first
      | (have := H7; go_at_call 13; go_must (refine (HS.out _ _ _ _ _ H7.out.2.2 H7.out.2.1).mono ?_; rintro e w8 ⟨rfl, hb⟩; have H8 := hid (H7.out.1.trans (hb.mono H7.out.1.size)); clear hb))
      | (have := H6; go_at_call 12; go_must (refine (HI1.out _ H6.out.1.2).mono ?_; rintro e w7 ⟨q4, k4, rfl, hn, hb⟩; have H7 := hid (And.intro (H6.out.1.2.trans (hb.mono H6.out.1.2.size)) (And.intro (H6.out.2.keep hb (Nat.le_refl _)) hn.1)); clear hb hn))
      | (have := H5; go_at_call 13; go_must (refine (HS.out _ _ _ _ _ H5.out.2.2 H5.out.2.1).mono ?_; rintro e w6 ⟨rfl, hb⟩; have H6 := hid (And.intro (bx_next H5.out.1 hb) (H5.out.2.1.keep hb (Nat.le_refl _))); clear hb))
      | (have := HR; go_at_call 11; go_must (refine (HW1.out _ HR.out.1.2).mono ?_; rintro e w5 ⟨q3, k3, rfl, hn, hb⟩; have H5 := hid (And.intro (bx_next HR.out.1 hb) (And.intro (HR.out.2.keep hb (Nat.le_refl _)) hn.1)); clear hb hn))
      | (have := H6; refine wl_loadA rfl 34 _ rfl w.heap.size 0 rfl (msA m a13 a14 a15 a16 c13 c14 c15 c16) 34 H6.out.1.1 _ Try.underlying34 rfl (by kernel_rfl) A HAg.out rfl ?_)
      | (have := HR; refine wl_loadA rfl 34 _ rfl w.heap.size 0 rfl (msA m a13 a14 a15 a16 c13 c14 c15 c16) 34 HR.out.1.1 _ Try.underlying34 rfl (by kernel_rfl) A HAg.out rfl ?_))
    go_ret
    exact ⟨rfl, H8.out⟩
set_option maxRecDepth 100000 in
set_option maxHeartbeats 6400000 in
theorem wtm_go {F : Nat → Prop} (m : Ms) (a13 a14 a15 a16 : Option Addr) (c13 c14 c15 c16 : Nat) (w : World) (hB : MsB m) (hT : (tmG m).length * 24 ≤ 140737488355328) (hL : MsL F w m (.slice a13 m.nx.length c13) (.slice a14 m.sg.length c14) (.slice a15 m.cg.length c15) (.slice a16 m.ln.length c16)) (hne : tmG m ≠ []) :
    Calls Try.prog 6 #[.agg (msA m a13 a14 a15 a16 c13 c14 c15 c16).toArray] w fun e w' => e = .returned (.bool true) ∧ Below w.heap.size w w' := by
  obtain ⟨wa, HA, hb, hx⟩ := msA_new m a13 a14 a15 a16 c13 c14 c15 c16 34 w
  have H0 := hid (And.intro hx hb)
  clear hb hx
  obtain ⟨A, eA⟩ : ∃ A, A = Value.agg (msA m a13 a14 a15 a16 c13 c14 c15 c16).toArray := ⟨_, rfl⟩
  have HAg := hid eA
  obtain ⟨L, eL⟩ : ∃ L, L = tmG m := ⟨_, rfl⟩
  obtain ⟨n, en⟩ : ∃ n, n = L.length := ⟨_, rfl⟩
  have hlm : n ≤ maxLen := by rw [en, eL]; unfold maxLen; omega
  have hnI : (n : Int) ≤ 9223372036854775807 := by unfold maxLen at hlm; omega
  have HW1 : Hid (∀ u : World, Below w.heap.size w u → Calls Try.prog 11 #[A] u fun e w' => ∃ a cap, e = .returned (.slice a n cap) ∧ NwG u.heap.size w' a L ∧ Below u.heap.size u w') := hid (fun u hu => by rw [en, eL, eA]; exact wterms_any m a13 a14 a15 a16 c13 c14 c15 c16 u hB.n hT (hL.under hu))
  have HI1 : Hid (∀ u : World, Below w.heap.size w u → Calls Try.prog 12 #[A] u fun e w' => ∃ a cap, e = .returned (.slice a n cap) ∧ NwG u.heap.size w' a L ∧ Below u.heap.size u w') := hid (fun u hu => by rw [en, eL, eA]; exact iterms_any m a13 a14 a15 a16 c13 c14 c15 c16 u hB.n hT (hL.under hu))
  have HS : Hid (∀ (u : World) (a b : Option Addr) (c d : Nat), PairsIn u a L → PairsIn u b L → Calls Try.prog 13 #[.slice a n c, .slice b n d] u fun e w' => e = .returned (.bool true) ∧ Below u.heap.size u w') := hid (fun u a b c d h1 h2 => by have := wsame_dec a b n n c d L L en.symm en.symm hlm hlm u h1 h2; rw [dec_same] at this; exact this)
  have HN := hid (And.intro en (And.intro eL hne))
  clear hB hT hL hne en eL hlm
  unfold msA
  simp only [msA] at HA eA
  replace HA := hid HA
  go_enter Try.func6, Try.ntmps6
  try simp only [List.append]
  go_upto_region 1 with fail
  rw [HA.out, ← eA]
  clear eA
  go_wp2_with (first
    | (have := H3; go_at_call 13; go_must (refine (HS.out _ _ _ _ _ H3.out.2.2.1.1 H3.out.2.1).mono ?_; rintro e w4 ⟨rfl, hb⟩; have H4 := hid (And.intro (bx_next H3.out.1 hb) (And.intro (H3.out.2.1.keep hb (Nat.le_refl _)) (And.intro H3.out.2.2.2 hb))); clear hb))
    | (have := H2; go_at_call 12; go_must (refine (HI1.out _ H2.out.1.2).mono ?_; rintro e w3 ⟨q2, k2, rfl, hn, hb⟩; have H3 := hid (And.intro (bx_next H2.out.1 hb) (And.intro (H2.out.2.1.keep hb (Nat.le_refl _)) (And.intro hn hb))); clear hb hn))
    | (have := H1; go_at_call 11; go_must (refine (HW1.out _ H1.out.2).mono ?_; rintro e w2 ⟨q1, k1, rfl, hn, hb⟩; have H2 := hid (And.intro (bx_next H1.out hb) hn); clear hb hn))
    | (have := H0; go_at_call 7; go_must (refine (wlives_any _).mono ?_; rintro e w1 ⟨rfl, hb⟩; have H1 := hid (bx_next H0.out hb); clear hb))
    | (have := H2; refine wl_loadA rfl 34 _ rfl w.heap.size 0 rfl (msA m a13 a14 a15 a16 c13 c14 c15 c16) 34 H2.out.1.1 _ Try.underlying34 rfl (by kernel_rfl) A HAg.out rfl ?_)
    | (have := H1; refine wl_loadA rfl 34 _ rfl w.heap.size 0 rfl (msA m a13 a14 a15 a16 c13 c14 c15 c16) 34 H1.out.1 _ Try.underlying34 rfl (by kernel_rfl) A HAg.out rfl ?_))
  obtain ⟨g, rfl, hg, hW⟩ : ∃ g, q2 = some ⟨g, 0, none⟩ ∧ w2.heap.size ≤ g ∧ WcG g n w4 := by
    rcases H3.out.2.2.1.2 with h | ⟨g, cs, T, h1, h2, h3, h4⟩
    · exact absurd (HN.out.2.1.symm.trans h) HN.out.2.2
    · exact ⟨g, h1, h2, cs, T, (H4.out.2.2.2.block g (lt_of_blk h3)).trans h3, by rw [HN.out.1]; exact h4⟩
  have HG := hid (And.intro hg hW)
  clear hg hW
  go_loopw [5] (fun i wr => ∃ j : Nat, j ≤ n ∧ i = .int .i64 (j : Int) ∧ Below w2.heap.size w2 wr ∧ WcG g n wr)
    (fun i _ => ((n : Int) - intOf i).toNat)
  case atStart => exact ⟨0, Nat.zero_le _, rfl, H4.out.2.2.1.trans (H4.out.2.2.2.mono H4.out.2.2.1.size), HG.out.2⟩
  case round =>
    obtain ⟨j, hj, rfl, hb, hW⟩ := hrel
    have hj0 : (0 : Int) ≤ (j : Int) := Int.natCast_nonneg _
    by_cases hjn : j = n
    · have hj1 : ¬ ((j : Int) < (n : Int)) := by omega
      have HR := hid (And.intro (bx_next H2.out.1 hb) (H2.out.2.1.keep hb (Nat.le_refl _)))
      clear hb hW hj hjn
      go_wp2_with (first
        | (have := H7; go_at_call 13; go_must (refine (HS.out _ _ _ _ _ H7.out.2.2 H7.out.2.1).mono ?_; rintro e w8 ⟨rfl, hb⟩; have H8 := hid (H7.out.1.trans (hb.mono H7.out.1.size)); clear hb))
        | (have := H6; go_at_call 12; go_must (refine (HI1.out _ H6.out.1.2).mono ?_; rintro e w7 ⟨q4, k4, rfl, hn, hb⟩; have H7 := hid (And.intro (H6.out.1.2.trans (hb.mono H6.out.1.2.size)) (And.intro (H6.out.2.keep hb (Nat.le_refl _)) hn.1)); clear hb hn))
        | (have := H5; go_at_call 13; go_must (refine (HS.out _ _ _ _ _ H5.out.2.2 H5.out.2.1).mono ?_; rintro e w6 ⟨rfl, hb⟩; have H6 := hid (And.intro (bx_next H5.out.1 hb) (H5.out.2.1.keep hb (Nat.le_refl _))); clear hb))
        | (have := HR; go_at_call 11; go_must (refine (HW1.out _ HR.out.1.2).mono ?_; rintro e w5 ⟨q3, k3, rfl, hn, hb⟩; have H5 := hid (And.intro (bx_next HR.out.1 hb) (And.intro (HR.out.2.keep hb (Nat.le_refl _)) hn.1)); clear hb hn))
        | (have := H6; refine wl_loadA rfl 34 _ rfl w.heap.size 0 rfl (msA m a13 a14 a15 a16 c13 c14 c15 c16) 34 H6.out.1.1 _ Try.underlying34 rfl (by kernel_rfl) A HAg.out rfl ?_)
        | (have := HR; refine wl_loadA rfl 34 _ rfl w.heap.size 0 rfl (msA m a13 a14 a15 a16 c13 c14 c15 c16) 34 HR.out.1.1 _ Try.underlying34 rfl (by kernel_rfl) A HAg.out rfl ?_))
      go_ret
      exact ⟨rfl, H8.out⟩
    · have hj1 : (j : Int) < (n : Int) := by omega
      obtain ⟨v, hc, hf⟩ := hW.at j (by omega)
      have HK := hid (And.intro (hb.setCell (p := ⟨g, j * 2, none⟩) HG.out.1 (.int .i64 (-9))) (hW.set (o := j * 2) (u := .int .i64 (-9))))
      have HJ := hid (And.intro hj hjn)
      clear hb hW hj hjn
      go_wp2
      go_roundw
      case rel => exact ⟨j + 1, by have := HJ.out; omega, by go_num, HK.out.1, HK.out.2⟩
      case measure => simp [intOf]; omega
theorem wterms_law {F : Nat → Prop} (m : Ms) (a13 a14 a15 a16 : Option Addr) (c13 c14 c15 c16 : Nat) (w : World) (hB : MsB m) (hT : (tmG m).length * 24 ≤ 140737488355328) (hL : MsL F w m (.slice a13 m.nx.length c13) (.slice a14 m.sg.length c14) (.slice a15 m.cg.length c15) (.slice a16 m.ln.length c16)) :
    Calls Try.prog 6 #[.agg (msA m a13 a14 a15 a16 c13 c14 c15 c16).toArray] w fun e w' => e = .returned (.bool true) ∧ Below w.heap.size w w' := by
  by_cases h : tmG m = []
  · exact wtm_nil m a13 a14 a15 a16 c13 c14 c15 c16 w hB hT hL h
  · exact wtm_go m a13 a14 a15 a16 c13 c14 c15 c16 w hB hT hL h
end Go.Proofs.Ytfjcpghepkmbfaa
