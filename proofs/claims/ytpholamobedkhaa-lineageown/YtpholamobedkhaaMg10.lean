/- Texts laid together: TqH TqG TqI. -/
import Derived.Test.YtpholamobedkhaaMg09
/- The program's walk along a chain. -/
namespace Go.Proofs.Ytpholamobedkhaa
open Go.RowKit

theorem lastZ_snoc (ep : Int) (pre : List Lk) (k : Lk) : lastZ ep (pre ++ [k]) = k.1 := by
  unfold lastZ atZ
  have hl : (pre ++ [k]).length = pre.length + 1 := by simp
  rw [if_neg (by omega), if_pos (by omega), show (((pre ++ [k]).length : Int) - 1).toNat = pre.length by omega, List.getD_eq_getElem?_getD, List.getElem?_append_right (Nat.le_refl _), Nat.sub_self]
  rfl
theorem lastM_snoc (fm : List Int) (pre : List Lk) (k : Lk) : lastM fm (pre ++ [k]) = k.2.1 := by
  unfold lastM atM
  have hl : (pre ++ [k]).length = pre.length + 1 := by simp
  rw [if_neg (by omega), if_pos (by omega), show (((pre ++ [k]).length : Int) - 1).toNat = pre.length by omega, List.getD_eq_getElem?_getD, List.getElem?_append_right (Nat.le_refl _), Nat.sub_self]
  rfl
/-- While a chain is walked: the last configuration, in its variable; its members lie where they lay. -/
structure WkSt (w0 w : World) (fm : List Int) (pre : List Lk) (ad : Option Addr) (cap : Nat) : Prop where
  old : CfAt w w0.heap.size (lastZ 0 pre) (.slice ad (lastM fm pre).length cap)
  mem : IntsIn w0 ad (lastM fm pre)
  bel : Below w0.heap.size w0 w
theorem WkSt.keep {w0 w w' : World} {fm : List Int} {pre : List Lk} {ad : Option Addr} {cap : Nat} (h : WkSt w0 w fm pre ad cap) (hb : Below w.heap.size w w') : WkSt w0 w' fm pre ad cap :=
  ⟨h.old.keep hb, h.mem, h.bel.trans (hb.mono h.bel.size)⟩
set_option maxRecDepth 100000 in
set_option maxHeartbeats 3200000 in
theorem lwalk_any (fm : List Int) (hfm : fm.length ≤ maxLen) (a : Option Addr) (c : Nat) (G : Nat → Prop) (cv : Value) (cs : List Lk) (hcs : ∀ k, k ∈ cs → k.2.1.length ≤ maxLen ∧ k.2.2.length ≤ maxLen) (hl : cs.length ≤ 64) (w : World) (hI : IntsIn w a fm) (hC : Reads G w cv (.l 3 (dLks cs))) :
    Calls Try.prog 41 #[.agg #[.int .i64 0, .slice a fm.length c], cv] w fun r w' => r = .returned (.int .i64 (chainE 0 fm [] cs)) ∧ Below w.heap.size w w' := by
  obtain ⟨ca, cc, hv⟩ := lks_form hC
  subst hv
  have hl2 : (cs.length : Int) ≤ 64 := by omega
  have H0 : Hid (WkSt w (w.alloc (.cells #[.int .i64 0, .slice a fm.length c] 24)) fm [] a c) := hid ⟨heap_alloc_last w _, hI, (Below.refl _ _).alloc (Nat.le_refl _) _⟩
  have HC := hid (And.intro hC hcs)
  have HL := hid hfm
  clear hI hC hcs hfm hl
  go_enter Try.func41, Try.ntmps41
  go_wp2
  go_loopw [10] (fun i wr => ∃ (j : Nat) (ad : Option Addr) (cap : Nat), j ≤ cs.length ∧ i = .int .i64 (j : Int) ∧ WkSt w wr fm (cs.take j) ad cap ∧ chainE 0 fm (cs.take j) (cs.drop j) = chainE 0 fm [] cs)
    (fun i _ => ((cs.length : Int) - intOf i).toNat)
  case atStart => exact ⟨0, a, c, by omega, rfl, H0.out, rfl⟩
  case round =>
    obtain ⟨j, ad, cap, hj, rfl, hS, hch⟩ := hrel
    have HS := hid (And.intro hS hch)
    clear hS hch
    by_cases hjn : j = cs.length
    · have hj1 : ¬ ((j : Int) < (cs.length : Int)) := by omega
      have HE : Hid (chainE 0 fm [] cs = 0) := hid (by rw [← HS.out.2, List.drop_eq_nil_of_le (by omega)]; rfl)
      clear hj hjn
      go_wp2
      go_ret
      exact ⟨by rw [HE.out]; rfl, HS.out.1.bel⟩
    · have hj1 : (j : Int) < (cs.length : Int) := by omega
      have hj0 : (0 : Int) ≤ (j : Int) := Int.natCast_nonneg _
      obtain ⟨k, hk⟩ : ∃ k, cs[j]? = some k := ⟨_, List.getElem?_eq_getElem (by omega)⟩
      obtain ⟨g, off, _, a1, c1, a2, c2, hv, hg, k0, k1, k2, hi1, hp1⟩ := lks_at HC.out.1 j k hk
      cases hv
      have x0 := (HS.out.1.bel.cell (p := ⟨g, _, none⟩) hg).trans k0
      have x1 := (HS.out.1.bel.cell (p := ⟨g, _, none⟩) hg).trans k1
      have x2 := (HS.out.1.bel.cell (p := ⟨g, _, none⟩) hg).trans k2
      have hA : Below wr.heap.size wr (wr.alloc (.cells #[.int .i64 k.1, .slice a1 k.2.1.length c1, .slice a2 k.2.2.length c2] 27)) := (Below.refl _ _).alloc (Nat.le_refl _) _
      have H1 : Hid (WkSt w (wr.alloc (.cells #[.int .i64 k.1, .slice a1 k.2.1.length c1, .slice a2 k.2.2.length c2] 27)) fm (cs.take j) ad cap ∧ LnAt (wr.alloc (.cells #[.int .i64 k.1, .slice a1 k.2.1.length c1, .slice a2 k.2.2.length c2] 27)) wr.heap.size k.1 (.slice a1 k.2.1.length c1) (.slice a2 k.2.2.length c2)) := hid ⟨HS.out.1.keep hA, heap_alloc_last wr _⟩
      have y0 := H1.out.1.old.cells.1
      have y1 := H1.out.1.old.cells.2
      have HI : Hid (∀ u, Below w.heap.size w u → IntsIn u a1 k.2.1 ∧ PairsIn u a2 k.2.2 ∧ IntsIn u ad (lastM fm (cs.take j))) := hid (fun u hu => ⟨hi1.keep hu (Nat.le_refl _), hp1.keep hu (Nat.le_refl _), HS.out.1.mem.keep hu (Nat.le_refl _)⟩)
      have HI0 := hid hi1
      have HJ := hid (And.intro hj (And.intro hjn hk))
      have HZ := hid (HC.out.2 k (List.mem_of_getElem? hk))
      have HM := hid (lastM_len fm (cs.take j) HL.out (fun x hx => (HC.out.2 x (List.mem_of_mem_take hx)).1))
      have HTk : Hid (cs.take (j + 1) = cs.take j ++ [k]) := hid (by
        obtain ⟨h1, h2⟩ := List.getElem?_eq_some_iff.1 hk
        rw [List.take_succ_eq_append_getElem h1, h2])
      clear hi1 hp1 k0 k1 k2 hj hjn hk hg hA
      have HVa : Hid (∀ E, addE 0 fm (cs.take j) k = E → ∀ u, Below w.heap.size w u → Calls Try.prog 10 #[.agg #[.int .i64 (lastZ 0 (cs.take j)), .slice ad (lastM fm (cs.take j)).length cap], .agg #[.int .i64 k.1, .slice a1 k.2.1.length c1, .slice a2 k.2.2.length c2]] u fun r w' => r = .returned (.int .i64 E) ∧ Below u.heap.size u w') := hid (fun E hE u hu => by rw [← hE]; exact lvalid_any _ ad _ cap _ rfl HM.out k.1 a1 _ c1 _ rfl HZ.out.1 a2 _ c2 _ rfl HZ.out.2 u (HI.out u hu).2.2 (HI.out u hu).1 (HI.out u hu).2.1)
      by_cases hE : addE 0 fm (cs.take j) k = 0
      · have HVb := hid (HVa.out 0 hE)
        have HE := hid hE
        clear hE
        generalize hz0 : lastZ 0 (cs.take j) = z0 at *
        generalize hm0 : lastM fm (cs.take j) = m0 at *
        have HG := hid (And.intro hz0 hm0)
        clear hz0 hm0
        go_wp2_with (go_at_call 10; refine (HVb.out _ (by exact H1.out.1.bel)).mono ?_; rintro r w2 ⟨rfl, hb2⟩
                     have H2 := hid (And.intro (H1.out.1.keep hb2) (H1.out.2.keep hb2))
                     clear hb2
                     have u0 := H2.out.2.cells.1
                     have u1 := H2.out.2.cells.2.1
                     have u2 := H2.out.1.old.cells.1
                     have u3 := H2.out.1.old.cells.2
                     have f0 := free_at H2.out.1.old 0
                     have f1 := free_at H2.out.1.old 1)
        go_roundw
        case rel =>
          refine ⟨j + 1, a1, c1, by have := HJ.out; omega, rfl, ⟨?_, ?_, (H2.out.1.bel.setCell (p := ⟨w.heap.size, 0, none⟩) (Nat.le_refl _) _).setCell (p := ⟨w.heap.size, 1, none⟩) (Nat.le_refl _) _⟩, ?_⟩
          · rw [HTk.out, lastZ_snoc, lastM_snoc]
            exact res_put2 H2.out.1.old
          · rw [HTk.out, lastM_snoc]
            exact HI0.out
          · rw [chainE_step 0 fm cs j k HJ.out.2.2 HE.out]
            exact HS.out.2
        case measure => have := HJ.out; simp [intOf]; omega
      · have HVb := hid (HVa.out _ rfl)
        have HR : Hid (chainE 0 fm [] cs = addE 0 fm (cs.take j) k) := hid (by rw [← HS.out.2]; exact chainE_stop 0 fm cs j k HJ.out.2.2 hE)
        generalize addE 0 fm (cs.take j) k = E at *
        have hEb : (E != 0) = true := by simpa using hE
        generalize lastZ 0 (cs.take j) = z0 at *
        generalize lastM fm (cs.take j) = m0 at *
        go_wp2_with (go_at_call 10; refine (HVb.out _ (by exact H1.out.1.bel)).mono ?_; rintro r w2 ⟨rfl, hb2⟩
                     have H2 := hid (H1.out.1.keep hb2)
                     clear hb2)
        go_ret
        exact ⟨by rw [HR.out]; rfl, H2.out.bel⟩
end Go.Proofs.Ytpholamobedkhaa

/- slices.Equal, of any two lists of numbers. -/
namespace Go.Proofs.Ytpholamobedkhaa
open Go.RowKit

set_option maxRecDepth 100000 in
set_option maxHeartbeats 3200000 in
theorem eqInts_dec (a1 a2 : Option Addr) (n1 n2 c1 c2 : Nat) (l1 l2 : List Int) (hn1 : l1.length = n1) (hn2 : l2.length = n2) (hm1 : n1 ≤ maxLen) (hm2 : n2 ≤ maxLen) (w : World) (h1 : IntsIn w a1 l1) (h2 : IntsIn w a2 l2) :
    Calls Try.prog 58 #[.slice a1 n1 c1, .slice a2 n2 c2] w fun e w' => e = .returned (.bool (decide (l1 = l2))) ∧ Below w.heap.size w w' := by
  by_cases hne : n1 = n2
  · subst hne
    have hm3 : (n1 : Int) ≤ 9223372036854775807 := by unfold maxLen at hm1; omega
    have HZ := hid (And.intro h1 (And.intro h2 (And.intro hn1 hn2)))
    clear h1 h2 hn1 hn2 hm1 hm2
    go_enter Try.func58, Try.ntmps58
    go_wp2
    go_loopw [13] (fun i wr => ∃ j : Nat, j ≤ n1 ∧ i = .int .i64 (j : Int) ∧ Below w.heap.size w wr ∧ l1.take j = l2.take j)
      (fun i _ => ((n1 : Int) - intOf i).toNat)
    case atStart => exact ⟨0, by omega, rfl, Below.refl _ _, rfl⟩
    case round =>
      obtain ⟨j, hj, rfl, hbel, htk⟩ := hrel
      have HB := hid (And.intro hbel htk)
      clear hbel htk
      by_cases hjn : j = n1
      · have hj1 : ¬ ((j : Int) < (n1 : Int)) := by omega
        have HE : Hid (l1 = l2) := hid (by
          have := HB.out.2
          rw [List.take_of_length_le (by have := HZ.out.2.2.1; omega), List.take_of_length_le (by have := HZ.out.2.2.2; omega)] at this
          exact this)
        clear hj hjn
        go_wp2
        go_ret
        exact ⟨(congrArg (fun b => Ending.returned (.bool b)) (decide_eq_true HE.out)).symm, HB.out.1⟩
      · have hj1 : (j : Int) < (n1 : Int) := by omega
        have hj0 : (0 : Int) ≤ (j : Int) := Int.natCast_nonneg _
        obtain ⟨s, es⟩ : ∃ s, l1[j]? = some s := ⟨_, List.getElem?_eq_getElem (by rw [HZ.out.2.2.1]; omega)⟩
        obtain ⟨t, et⟩ : ∃ t, l2[j]? = some t := ⟨_, List.getElem?_eq_getElem (by rw [HZ.out.2.2.2]; omega)⟩
        obtain ⟨g1, off1, rfl, hg1, hcell1⟩ := HZ.out.1.at j s es
        obtain ⟨g2, off2, rfl, hg2, hcell2⟩ := HZ.out.2.1.at j t et
        have cz1 : wr.cell? ⟨g1, off1 + j, none⟩ = some (.int .i64 s) := (HB.out.1.cell (p := ⟨g1, off1 + j, none⟩) hg1).trans hcell1
        have cz2 : wr.cell? ⟨g2, off2 + j, none⟩ = some (.int .i64 t) := (HB.out.1.cell (p := ⟨g2, off2 + j, none⟩) hg2).trans hcell2
        have HS := hid (And.intro es et)
        clear es et hg1 hg2 hcell1 hcell2
        by_cases hst : s = t
        · subst hst
          go_wp2
          go_quiet (fail)
          go_wp2
          go_roundw
          case rel => exact ⟨j + 1, by omega, rfl, ⟨HB.out.1.os, HB.out.1.tape, HB.out.1.output, HB.out.1.size, HB.out.1.block⟩, take_grow HB.out.2 HS.out.1 HS.out.2⟩
          case measure => simp [intOf]; omega
        · have hstb : (s != t) = true := by simpa using hst
          have HN : Hid (l1 ≠ l2) := hid (ne_of_at HS.out.1 HS.out.2 hst)
          go_wp2
          go_quiet (fail)
          go_wp2
          go_ret
          exact ⟨(congrArg (fun b => Ending.returned (.bool b)) (decide_eq_false HN.out)).symm, ⟨HB.out.1.os, HB.out.1.tape, HB.out.1.output, HB.out.1.size, HB.out.1.block⟩⟩
  · have hz : ¬ ((n1 : Int) = (n2 : Int)) := by omega
    have HN : Hid (l1 ≠ l2) := hid (fun e => hne (by rw [← hn1, ← hn2, e]))
    clear hne hn1 hn2 h1 h2 hm1 hm2
    go_enter Try.func58, Try.ntmps58
    go_wp2
    go_ret
    exact ⟨(congrArg (fun b => Ending.returned (.bool b)) (decide_eq_false HN.out)).symm, Below.refl _ _⟩
end Go.Proofs.Ytpholamobedkhaa

/- The program's isOther: other members in an epoch that both know. -/
namespace Go.Proofs.Ytpholamobedkhaa
open Go.RowKit

set_option maxRecDepth 100000 in
set_option maxHeartbeats 3200000 in
theorem lisOther_any (B : Nat) (F : Nat → Prop) (g : Nat) (vl : Value) (fm : List Int) (ls : List Lk) (hl : ls.length ≤ 900) (hls : ∀ k, k ∈ ls → k.2.1.length ≤ 10) (G : Nat → Prop) (cv : Value) (cs : List Lk) (hcl : cs.length ≤ 64) (hgd : Good cs) (hrm : ∀ ad n c, cv = .slice ad n c → n ≤ c) (w : World) (h : TkAt B F w g vl fm ls) (hC : Reads G w cv (.l 3 (dLks cs))) :
    Calls Try.prog 42 #[.pointer (some ⟨g, 0, none⟩), cv] w fun r w' => r = .returned (.bool (otherTo ls cs cs.length)) ∧ Below w.heap.size w w' := by
  obtain ⟨ca, cc, hv⟩ := lks_form hC
  subst hv
  obtain ⟨r, cap, rfl, hc, hm, hr, hrg⟩ := h.form
  have HT := hid h
  have HEp := hid (lepochK_any B F g (.slice (some ⟨r, 0, none⟩) (ls.length + 1) cap) fm ls hl w h)
  have hcc := hrm _ _ _ rfl
  obtain ⟨m, em⟩ : ∃ m, m = min cs.length ls.length := ⟨_, rfl⟩
  have hm1 : m ≤ cs.length := by omega
  have hm2 : m ≤ ls.length := by omega
  have hmin : min (cs.length : Int) (ls.length : Int) = (m : Int) := by omega
  have hmc : (m : Int) ≤ (cs.length : Int) := by omega
  have hmcc : (m : Int) ≤ (cc : Int) := by omega
  have hm0 : (0 : Int) ≤ (m : Int) := Int.natCast_nonneg _
  have hm64 : (m : Int) ≤ 64 := by omega
  have hl2 : (ls.length : Int) ≤ 900 := by omega
  have hcl2 : (cs.length : Int) ≤ 64 := by omega
  have HC := hid (And.intro hC (And.intro hgd hls))
  have HM := hid (And.intro hm1 (And.intro hm2 em))
  clear hrm hcc h hC hgd hls hc hm hr hrg hl hcl em hm1 hm2
  go_enter Try.func42, Try.ntmps42
  go_wp2_with (go_at_call 18; refine HEp.out.mono ?_; rintro e w1 ⟨rfl, hb1⟩; have H1 := hid hb1; clear hb1)
  go_loopw [15] (fun i wr => ∃ j : Nat, j ≤ m ∧ i = .int .i64 (j : Int) ∧ Below w.heap.size w wr ∧ otherTo ls cs j = false)
    (fun i _ => ((m : Int) - intOf i).toNat)
  case atStart => exact ⟨0, by omega, rfl, H1.out, rfl⟩
  case round =>
    obtain ⟨j, hj, rfl, hbel, ho⟩ := hrel
    have HB := hid (And.intro hbel ho)
    clear hbel ho
    by_cases hjn : j = m
    · have hj1 : ¬ ((j : Int) < (m : Int)) := by omega
      have HE : Hid (otherTo ls cs cs.length = false) := hid (otherTo_all (by have := HM.out.2.2; omega) HB.out.2)
      clear hj hjn
      go_wp2
      go_ret
      exact ⟨by rw [HE.out]; rfl, HB.out.1⟩
    · have hj1 : (j : Int) < (m : Int) := by omega
      have hj0 : (0 : Int) ≤ (j : Int) := Int.natCast_nonneg _
      obtain ⟨k, hk⟩ : ∃ k, cs[j]? = some k := ⟨_, List.getElem?_eq_getElem (by have := HM.out.1; omega)⟩
      obtain ⟨q, hq⟩ : ∃ q, ls[j]? = some q := ⟨_, List.getElem?_eq_getElem (by have := HM.out.2.1; omega)⟩
      obtain ⟨g1, off, _, a1, c1, a2, c2, hv, hg, k0, k1, k2, hi1, hp1⟩ := lks_at HC.out.1 j k hk
      cases hv
      obtain ⟨g2, off2, _, b1, d1, b2, d2, hv, hg2, q0, q1, _, hi2, _⟩ := lks_at HT.out.reads (j + 1) q hq
      cases hv
      rw [Nat.zero_add] at q1
      have x0 := (HB.out.1.cell (p := ⟨g1, _, none⟩) hg).trans k0
      have x1 := (HB.out.1.cell (p := ⟨g1, _, none⟩) hg).trans k1
      have x2 := (HB.out.1.cell (p := ⟨g1, _, none⟩) hg).trans k2
      have hep : k.1 = ((j + 1 : Nat) : Int) := by have := (HC.out.2.1 j k hk).1; omega
      rw [hep] at x0
      obtain ⟨W, eW⟩ : ∃ W, W = wr.alloc (.cells #[.int .i64 ((j + 1 : Nat) : Int), .slice a1 k.2.1.length c1, .slice a2 k.2.2.length c2] 27) := ⟨_, rfl⟩
      have hA : Below wr.heap.size wr W := by rw [eW]; exact (Below.refl _ _).alloc (Nat.le_refl _) _
      have hWl : LnAt W wr.heap.size ((j + 1 : Nat) : Int) (.slice a1 k.2.1.length c1) (.slice a2 k.2.2.length c2) := by rw [eW]; exact heap_alloc_last wr _
      have hWb : Below w.heap.size w W := HB.out.1.trans (hA.mono HB.out.1.size)
      have HW : Hid (∀ u, Below W.heap.size W u → (u.cell? ⟨wr.heap.size, 0, none⟩ = some (.int .i64 ((j + 1 : Nat) : Int)) ∧ u.cell? ⟨wr.heap.size, 1, none⟩ = some (.slice a1 k.2.1.length c1)) ∧ u.cell? ⟨g, 0, none⟩ = some (.slice (some ⟨r, 0, none⟩) (ls.length + 1) cap) ∧ u.cell? ⟨r, (j + 1) * 3 + 1, none⟩ = some (.slice b1 q.2.1.length d1)) := hid (fun u hu => by
        have hb := hWb.trans (hu.mono hWb.size)
        exact ⟨⟨(hWl.keep hu).cells.1, (hWl.keep hu).cells.2.1⟩, (hb.cell (p := ⟨g, 0, none⟩) (lt_of_blk HT.out.blk)).trans (cell_one HT.out.blk), (hb.cell (p := ⟨r, _, none⟩) hg2).trans q1⟩)
      have HI : Hid (∀ u, Below W.heap.size W u → IntsIn u a1 k.2.1 ∧ IntsIn u b1 q.2.1) := hid (fun u hu => ⟨hi1.keep (hWb.trans (hu.mono hWb.size)) (Nat.le_refl _), hi2.keep (hWb.trans (hu.mono hWb.size)) (Nat.le_refl _)⟩)
      have HZ : Hid (k.2.1.length ≤ maxLen ∧ q.2.1.length ≤ maxLen) := hid ⟨by have := mem_len (right_mem (HC.out.2.1 j k hk).2.1).2; unfold maxLen; omega, by have := HC.out.2.2 q (List.mem_of_getElem? hq); unfold maxLen; omega⟩
      have HWb := hid hWb
      have HJ := hid (And.intro hj (And.intro hjn (And.intro hk hq)))
      have HStp := hid (otherTo_step hk hq)
      have hjl : ((j + 1 : Nat) : Int) < (ls.length : Int) + 1 := by have := HM.out.2.1; omega
      have hjz : (0 : Int) ≤ ((j + 1 : Nat) : Int) := by omega
      have HS : Hid (Below W.heap.size W W.drew) := hid (Below.refl _ _).drew
      clear hi1 hp1 hi2 k0 k1 k2 q0 q1 hj hjn hk hq hg hg2 hA hWl hWb
      generalize ej : j + 1 = j1 at *
      have HEj := hid ej
      clear ej
      by_cases hst : k.2.1 = q.2.1
      · have HEq : Hid (decide (k.2.1 = q.2.1) = true) := hid (decide_eq_true hst)
        clear hst
        go_wp2
        rw [← eW]
        clear eW x0 x1 x2
        refine wp_region_held (S := fun ww => Below W.heap.size W ww) (by kernel_rfl) ?_
        try (change wpAnyH _ _ _ _ _ _ _ _ (World.drew _))
        refine wpAnyH_take (i := 0) (v := ?v1) rfl (by kernel_rfl) (by kernel_rfl) (by kernel_rfl) (fun _ _ _ h => h) (Or.inl ⟨by rfl, ?hy1⟩) HS.out ?rest1
        case hy1 => (intro ww _; go_simp; try with_reducible rfl)
        go_simp
        refine wpAnyH_take (i := 1) (v := ?v2) rfl (by kernel_rfl) (by kernel_rfl) (by kernel_rfl) (fun _ _ _ h => h) (Or.inl ⟨by rfl, ?hy2⟩) HS.out ?rest2
        case hy2 => (intro ww _; go_simp; try with_reducible rfl)
        go_simp
        refine wpAnyH_take (i := 2) (v := ?v3) rfl (by kernel_rfl) (by kernel_rfl) (by kernel_rfl) (fun _ _ _ h => h) (Or.inl ⟨by rfl, ?hy3⟩) HS.out ?rest3
        case hy3 => (intro ww hS; obtain ⟨⟨y0, y1⟩, y2, y3⟩ := HW.out ww hS; go_simp; try with_reducible rfl)
        go_simp
        refine wpAnyH_take (i := 3) (v := ?v4) rfl (by kernel_rfl) (by kernel_rfl) (by kernel_rfl) (fun _ _ _ h => h) (Or.inl ⟨by rfl, ?hy4⟩) HS.out ?rest4
        case hy4 => (intro ww _; go_simp; try with_reducible rfl)
        go_simp
        refine wpAnyH_take (i := 4) (v := ?v5) rfl (by kernel_rfl) (by kernel_rfl) (by kernel_rfl) (fun _ _ _ h => h) (Or.inl ⟨by rfl, ?hy5⟩) HS.out ?rest5
        case hy5 => (intro ww _; go_simp; try with_reducible rfl)
        go_simp
        refine wpAnyH_take (i := 5) (v := ?v6) rfl (by kernel_rfl) (by kernel_rfl) (by kernel_rfl) (fun _ _ _ h => h) (Or.inl ⟨by rfl, ?hy6⟩) HS.out ?rest6
        case hy6 => (intro ww _; go_simp; try with_reducible rfl)
        go_simp
        refine wpAnyH_take (i := 6) (v := ?v7) rfl (by kernel_rfl) (by kernel_rfl) (by kernel_rfl) (fun _ _ _ h => h) (Or.inl ⟨by rfl, ?hy7⟩) HS.out ?rest7
        case hy7 => (intro ww hS; obtain ⟨⟨y0, y1⟩, y2, y3⟩ := HW.out ww hS; go_simp; try with_reducible rfl)
        go_simp
        refine wpAnyH_take (i := 7) (v := ?v8) rfl (by kernel_rfl) (by kernel_rfl) (by kernel_rfl) (fun _ _ _ h => h) (Or.inl ⟨by rfl, ?hy8⟩) HS.out ?rest8
        case hy8 => (intro ww _; go_simp; try with_reducible rfl)
        go_simp
        refine wpAnyH_take (i := 8) (v := ?v9) rfl (by kernel_rfl) (by kernel_rfl) (by kernel_rfl) (fun _ _ _ h => h) (Or.inl ⟨by rfl, ?hy9⟩) HS.out ?rest9
        case hy9 => (intro ww _; go_simp; try with_reducible rfl)
        go_simp
        refine wpAnyH_take (i := 9) (v := ?v10) rfl (by kernel_rfl) (by kernel_rfl) (by kernel_rfl) (fun _ _ _ h => h) (Or.inl ⟨by rfl, ?hy10⟩) HS.out ?rest10
        case hy10 => (intro ww hS; obtain ⟨⟨y0, y1⟩, y2, y3⟩ := HW.out ww hS; go_simp; try with_reducible rfl)
        go_simp
        refine wpAnyH_take (i := 10) (v := ?v11) rfl (by kernel_rfl) (by kernel_rfl) (by kernel_rfl) (fun _ _ _ h => h) (Or.inl ⟨by rfl, ?hy11⟩) HS.out ?rest11
        case hy11 => (intro ww _; go_simp; try with_reducible rfl)
        go_simp
        refine wpAnyH_take (i := 11) (v := ?v12) rfl (by kernel_rfl) (by kernel_rfl) (by kernel_rfl) (fun _ _ _ h => h) (Or.inl ⟨by rfl, ?hy12⟩) HS.out ?rest12
        case hy12 => (intro ww _; go_simp; try with_reducible rfl)
        go_simp
        refine wpAnyH_take (i := 12) (v := ?v13) rfl (by kernel_rfl) (by kernel_rfl) (by kernel_rfl) (fun _ _ _ h => h) (Or.inl ⟨by rfl, ?hy13⟩) HS.out ?rest13
        case hy13 => (intro ww _; go_simp; try with_reducible rfl)
        go_simp
        refine wpAnyH_take (i := 13) (v := ?v14) rfl (by kernel_rfl) (by kernel_rfl) (by kernel_rfl) (fun _ _ _ h => h) (Or.inl ⟨by rfl, ?hy14⟩) HS.out ?rest14
        case hy14 => (intro ww hS; obtain ⟨⟨y0, y1⟩, y2, y3⟩ := HW.out ww hS; go_simp; try with_reducible rfl)
        go_simp
        refine wpAnyH_all (rs := [14]) (by kernel_rfl) (by simp) ?_
        intro i hi
        obtain rfl := List.mem_singleton.1 hi
        clear hi
        refine wpOp_k rfl (by rfl) (fun K hK => ?_)
        go_simp
        have hcall := eqInts_dec a1 b1 _ _ c1 d1 k.2.1 q.2.1 rfl rfl HZ.out.1 HZ.out.2 _ (HI.out _ HS.out).1 (HI.out _ HS.out).2
        rw [HEq.out] at hcall
        refine hcall.mono ?_
        clear hcall
        rintro e w3 ⟨rfl, hb3⟩
        have H3 := hid (HS.out.trans (hb3.mono HS.out.size))
        clear hb3 HS
        have HS := hid H3.out
        refine hK _ _ ⟨HS.out, ?_⟩
        clear hK K
        go_simp
        refine wpAnyH_take (i := 15) (v := ?v15) rfl (by kernel_rfl) (by kernel_rfl) (by kernel_rfl) (fun _ _ _ h => h) (Or.inl ⟨by rfl, ?hy15⟩) HS.out ?rest15
        case hy15 => (intro ww _; go_simp; try with_reducible rfl)
        go_simp
        refine wpAnyH_done (by kernel_rfl) ?_ _
        go_simp
        go_wp2
        go_roundw
        case rel => exact ⟨j1, by have := HJ.out; have := HEj.out; omega, by rw [← HEj.out]; rfl, HWb.out.trans (HS.out.mono HWb.out.size), by rw [HStp.out, HB.out.2, HEq.out]; rfl⟩
        case measure => have := HJ.out; have := HEj.out; simp [intOf]; omega
      · have HEq : Hid (decide (k.2.1 = q.2.1) = false) := hid (decide_eq_false hst)
        clear hst
        go_wp2
        rw [← eW]
        clear eW x0 x1 x2
        refine wp_region_held (S := fun ww => Below W.heap.size W ww) (by kernel_rfl) ?_
        try (change wpAnyH _ _ _ _ _ _ _ _ (World.drew _))
        refine wpAnyH_take (i := 0) (v := ?v41) rfl (by kernel_rfl) (by kernel_rfl) (by kernel_rfl) (fun _ _ _ h => h) (Or.inl ⟨by rfl, ?hy41⟩) HS.out ?rest41
        case hy41 => (intro ww _; go_simp; try with_reducible rfl)
        go_simp
        refine wpAnyH_take (i := 1) (v := ?v42) rfl (by kernel_rfl) (by kernel_rfl) (by kernel_rfl) (fun _ _ _ h => h) (Or.inl ⟨by rfl, ?hy42⟩) HS.out ?rest42
        case hy42 => (intro ww _; go_simp; try with_reducible rfl)
        go_simp
        refine wpAnyH_take (i := 2) (v := ?v43) rfl (by kernel_rfl) (by kernel_rfl) (by kernel_rfl) (fun _ _ _ h => h) (Or.inl ⟨by rfl, ?hy43⟩) HS.out ?rest43
        case hy43 => (intro ww hS; obtain ⟨⟨y0, y1⟩, y2, y3⟩ := HW.out ww hS; go_simp; try with_reducible rfl)
        go_simp
        refine wpAnyH_take (i := 3) (v := ?v44) rfl (by kernel_rfl) (by kernel_rfl) (by kernel_rfl) (fun _ _ _ h => h) (Or.inl ⟨by rfl, ?hy44⟩) HS.out ?rest44
        case hy44 => (intro ww _; go_simp; try with_reducible rfl)
        go_simp
        refine wpAnyH_take (i := 4) (v := ?v45) rfl (by kernel_rfl) (by kernel_rfl) (by kernel_rfl) (fun _ _ _ h => h) (Or.inl ⟨by rfl, ?hy45⟩) HS.out ?rest45
        case hy45 => (intro ww _; go_simp; try with_reducible rfl)
        go_simp
        refine wpAnyH_take (i := 5) (v := ?v46) rfl (by kernel_rfl) (by kernel_rfl) (by kernel_rfl) (fun _ _ _ h => h) (Or.inl ⟨by rfl, ?hy46⟩) HS.out ?rest46
        case hy46 => (intro ww _; go_simp; try with_reducible rfl)
        go_simp
        refine wpAnyH_take (i := 6) (v := ?v47) rfl (by kernel_rfl) (by kernel_rfl) (by kernel_rfl) (fun _ _ _ h => h) (Or.inl ⟨by rfl, ?hy47⟩) HS.out ?rest47
        case hy47 => (intro ww hS; obtain ⟨⟨y0, y1⟩, y2, y3⟩ := HW.out ww hS; go_simp; try with_reducible rfl)
        go_simp
        refine wpAnyH_take (i := 7) (v := ?v48) rfl (by kernel_rfl) (by kernel_rfl) (by kernel_rfl) (fun _ _ _ h => h) (Or.inl ⟨by rfl, ?hy48⟩) HS.out ?rest48
        case hy48 => (intro ww _; go_simp; try with_reducible rfl)
        go_simp
        refine wpAnyH_take (i := 8) (v := ?v49) rfl (by kernel_rfl) (by kernel_rfl) (by kernel_rfl) (fun _ _ _ h => h) (Or.inl ⟨by rfl, ?hy49⟩) HS.out ?rest49
        case hy49 => (intro ww _; go_simp; try with_reducible rfl)
        go_simp
        refine wpAnyH_take (i := 9) (v := ?v50) rfl (by kernel_rfl) (by kernel_rfl) (by kernel_rfl) (fun _ _ _ h => h) (Or.inl ⟨by rfl, ?hy50⟩) HS.out ?rest50
        case hy50 => (intro ww hS; obtain ⟨⟨y0, y1⟩, y2, y3⟩ := HW.out ww hS; go_simp; try with_reducible rfl)
        go_simp
        refine wpAnyH_take (i := 10) (v := ?v51) rfl (by kernel_rfl) (by kernel_rfl) (by kernel_rfl) (fun _ _ _ h => h) (Or.inl ⟨by rfl, ?hy51⟩) HS.out ?rest51
        case hy51 => (intro ww _; go_simp; try with_reducible rfl)
        go_simp
        refine wpAnyH_take (i := 11) (v := ?v52) rfl (by kernel_rfl) (by kernel_rfl) (by kernel_rfl) (fun _ _ _ h => h) (Or.inl ⟨by rfl, ?hy52⟩) HS.out ?rest52
        case hy52 => (intro ww _; go_simp; try with_reducible rfl)
        go_simp
        refine wpAnyH_take (i := 12) (v := ?v53) rfl (by kernel_rfl) (by kernel_rfl) (by kernel_rfl) (fun _ _ _ h => h) (Or.inl ⟨by rfl, ?hy53⟩) HS.out ?rest53
        case hy53 => (intro ww _; go_simp; try with_reducible rfl)
        go_simp
        refine wpAnyH_take (i := 13) (v := ?v54) rfl (by kernel_rfl) (by kernel_rfl) (by kernel_rfl) (fun _ _ _ h => h) (Or.inl ⟨by rfl, ?hy54⟩) HS.out ?rest54
        case hy54 => (intro ww hS; obtain ⟨⟨y0, y1⟩, y2, y3⟩ := HW.out ww hS; go_simp; try with_reducible rfl)
        go_simp
        refine wpAnyH_all (rs := [14]) (by kernel_rfl) (by simp) ?_
        intro i hi
        obtain rfl := List.mem_singleton.1 hi
        clear hi
        refine wpOp_k rfl (by rfl) (fun K hK => ?_)
        go_simp
        have hcall := eqInts_dec a1 b1 _ _ c1 d1 k.2.1 q.2.1 rfl rfl HZ.out.1 HZ.out.2 _ (HI.out _ HS.out).1 (HI.out _ HS.out).2
        rw [HEq.out] at hcall
        refine hcall.mono ?_
        clear hcall
        rintro e w3 ⟨rfl, hb3⟩
        have H3 := hid (HS.out.trans (hb3.mono HS.out.size))
        clear hb3 HS
        have HS := hid H3.out
        refine hK _ _ ⟨HS.out, ?_⟩
        clear hK K
        go_simp
        refine wpAnyH_take (i := 15) (v := ?v55) rfl (by kernel_rfl) (by kernel_rfl) (by kernel_rfl) (fun _ _ _ h => h) (Or.inl ⟨by rfl, ?hy55⟩) HS.out ?rest55
        case hy55 => (intro ww _; go_simp; try with_reducible rfl)
        go_simp
        refine wpAnyH_done (by kernel_rfl) ?_ _
        go_simp
        go_wp2
        go_ret
        refine ⟨?_, HWb.out.trans (HS.out.mono HWb.out.size)⟩
        rw [otherTo_up (p := j1) (by have := HJ.out; have := HM.out; have := HEj.out; omega) (by rw [HStp.out, HB.out.2, HEq.out]; rfl)]
        rfl
end Go.Proofs.Ytpholamobedkhaa
