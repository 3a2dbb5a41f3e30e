/- Texts laid together: LiG GnI SiB LiH TrA TqA. -/
import Derived.Test.YtpholamobedkhaaMg06
import Derived.Deep.RegionLaw
import Derived.Lib.SliceRun
/- The document's tracker: Take, walked. -/
namespace Go.Proofs.Ytpholamobedkhaa
open Go.RowKit

theorem kept_of_below {b : Nat} {r : Option Nat} {w w' : World} (h : Below w.heap.size w w') : Kept b r w w' := ⟨h.os, h.tape, h.output, h.size, fun k hk _ _ => h.block k hk⟩
/-- A tracker to which another's links were moved. -/
theorem MtAt.moved {B N : Nat} {F Fi : Nat → Prop} {u : World} {b f : Nat} {ep : Int} {fa : Option Addr} {fc : Nat} {fm : List Int} {vl vi : Value} {ls cs : List Lk} (h : MtAt B F u b ep fa fc fm vl ls) (hf : MtAt N Fi u f ep fa fc fm vi cs) (hB : B ≤ N) (hFi : ∀ k, Fi k → F k ∨ N ≤ k) (hF : ∀ k, F k → k < N) (hb : b < N) :
    MtAt B (fun k => F k ∨ Fi k) (u.setCell ⟨b, 2, none⟩ vi) b ep fa fc fm vi cs ∧ ∀ k, F k ∨ Fi k → F k ∨ N ≤ k := by
  have hs : (u.setCell ⟨b, 2, none⟩ vi).heap.size = u.heap.size := by simp [World.setCell]
  have hne : ∀ j, j ≠ b → (u.setCell ⟨b, 2, none⟩ vi).heap[j]? = u.heap[j]? := fun j hj => Below.heap_setCell _ _ _ _ hj
  have hnb : ∀ k, F k ∨ Fi k → k ≠ b := by
    rintro k (hk | hk) rfl
    · exact h.bF hk
    · rcases hFi _ hk with hq | hq
      · exact h.bF hq
      · omega
  have hob : vi.ownBlock ≠ some b := fun e => by have := (hf.own.lt b e).1; omega
  have hsep : ∀ g, vi.ownBlock = some g → ¬ (F g ∨ Fi g) := by
    rintro g hg (hq | hq)
    · have := (hf.own.lt g hg).1
      have := hF g hq
      omega
    · exact hf.own.sep g hg hq
  obtain ⟨rs, hrow, hrd⟩ := hf.own.own
  have hO : OwnD 27 3 B (fun k => F k ∨ Fi k) u vi (dLks cs) := ⟨⟨rs, ownsRow_low hrow hB, fun j e he => ⟨(hrd j e he).1, fun q d hd => by
    obtain ⟨x, hx, hr⟩ := (hrd j e he).2 q d hd
    exact ⟨x, hx, hr.mono (fun k _ hk => .inr hk)⟩⟩⟩, hsep⟩
  refine ⟨⟨(blk_set h.blk 2 vi).trans (by simp), ?_, fun x hx hl => .inl (h.fF x hx hl), hO.keep (Nat.le_of_eq hs.symm) (fun k _ hk => hne k (hnb k hk)) (fun g hg => hne g (fun e => hob (e ▸ hg))), fun hq => hnb b hq rfl, hob, ?_⟩, ?_⟩
  · exact ints_put h.fst _ _ _ (fun y hy hl e => h.bF (e ▸ h.fF y hy hl))
  · rintro k (hk | hk)
    · rw [hs]; exact h.flt k hk
    · rw [hs]; exact hf.flt k hk
  · rintro k (hk | hk)
    · exact .inl hk
    · exact hFi k hk
theorem otherTo_step {ls cs : List Lk} {p : Nat} {k1 k2 : Lk} (h1 : cs[p]? = some k1) (h2 : ls[p]? = some k2) : otherTo ls cs (p + 1) = (otherTo ls cs p || !decide (k1.2.1 = k2.2.1)) := by
  obtain ⟨hp1, e1⟩ := List.getElem?_eq_some_iff.1 h1
  obtain ⟨hp2, e2⟩ := List.getElem?_eq_some_iff.1 h2
  rw [otherTo, List.range_succ, List.any_append]
  simp [otherTo, List.getD_eq_getElem?_getD, hp1, hp2, e1, e2]
theorem otherTo_all {ls cs : List Lk} {p : Nat} (h : cs.length ≤ p ∨ ls.length ≤ p) (h0 : otherTo ls cs p = false) : otherTo ls cs cs.length = false := by
  rw [otherTo, List.any_eq_false] at h0 ⊢
  intro i hi hq
  rw [Bool.and_eq_true_iff] at hq
  have h3 := of_decide_eq_true hq.1
  exact h0 i (List.mem_range.2 (by omega)) (by rw [Bool.and_eq_true_iff]; exact hq)
theorem otherTo_up {ls cs : List Lk} {p : Nat} (hp : p ≤ cs.length) (h : otherTo ls cs p = true) : otherTo ls cs cs.length = true := by
  rw [otherTo, List.any_eq_true] at h ⊢
  obtain ⟨i, hi, hq⟩ := h
  exact ⟨i, List.mem_range.2 (by have := List.mem_range.1 hi; omega), hq⟩
theorem TkSt.keep {w wr wr2 : World} {F : Nat → Prop} {ep : Int} {fa : Option Addr} {fc : Nat} {fm : List Int} {pre : List Lk} (h : TkSt w wr F ep fa fc fm pre) (hb : Below wr.heap.size wr wr2) : TkSt w wr2 F ep fa fc fm pre := by
  obtain ⟨Fi, vi, hM, hFi, hw⟩ := h
  exact ⟨Fi, vi, hM.keep hb, hFi, hw.trans (hb.mono hw.size)⟩
theorem own_some {B : Nat} {F : Nat → Prop} {w : World} {v : Value} {ls : List Lk} {P : Prop} (h : OwnD 27 3 B F w v (dLks ls)) (ho : v.ownBlock = none) (hl : 0 < ls.length) : P := by
  obtain ⟨k, hk⟩ : ∃ k, ls[0]? = some k := ⟨_, List.getElem?_eq_getElem hl⟩
  obtain ⟨g, off, cap, hv, _⟩ := h.reads.at 0 (dLk k) (dLks_at hk)
  subst hv
  cases ho
set_option maxRecDepth 100000 in
set_option maxHeartbeats 6400000 in
theorem wtake_any (B : Nat) (F : Nat → Prop) (b : Nat) (ep : Int) (fa : Option Addr) (fc : Nat) (fm : List Int) (hfm : fm.length ≤ maxLen) (vl : Value) (ls : List Lk) (hl : ls.length ≤ 900) (hls : ∀ k, k ∈ ls → k.2.1.length ≤ maxLen) (G : Nat → Prop) (cv : Value) (cs : List Lk) (hcs : ∀ k, k ∈ cs → k.2.1.length ≤ maxLen ∧ k.2.2.length ≤ maxLen) (w : World) (hB : B ≤ w.heap.size) (h : MtAt B F w b ep fa fc fm vl ls) (hC : Reads G w cv (.l 3 (dLks cs))) :
    Calls Try.prog 35 #[.pointer (some ⟨b, 0, none⟩), cv] w fun r w' => r = .returned (.int .i64 (takeE ep fm ls cs)) ∧ Kept b vl.ownBlock w w' ∧ (takeE ep fm ls cs ≠ 0 → MtAt B F w' b ep fa fc fm vl ls) ∧ (takeE ep fm ls cs = 0 → ∃ F' vl', MtAt B F' w' b ep fa fc fm vl' cs ∧ (∀ k, F' k → F k ∨ w.heap.size ≤ k) ∧ (vl'.ownBlock = vl.ownBlock ∨ ∃ g, vl'.ownBlock = some g ∧ w.heap.size ≤ g)) := by
  obtain ⟨la, lc, hv⟩ := h.form
  subst hv
  obtain ⟨ca, cc, hv⟩ := lks_form hC
  subst hv
  by_cases h64 : 64 < cs.length
  · have h64z : (64 : Int) < (cs.length : Int) := by omega
    have HV : Hid (takeE ep fm ls cs = 3) := hid (by rw [takeE, if_pos h64])
    rw [HV.out]
    have HM := hid h
    clear h64 h hC hcs hl hfm hls hB
    go_enter Try.func35, Try.ntmps35
    go_wp2
    go_ret
    exact ⟨rfl, Kept.refl _ _ _, fun _ => HM.out, fun hq => absurd hq (by decide)⟩
  · have h64z : (cs.length : Int) ≤ 64 := by omega
    have hl2 : (ls.length : Int) ≤ 900 := by omega
    have H64 := hid h64
    have HLn := hid (And.intro hfm (And.intro hls (And.intro hcs hl)))
    have H0 := hid (And.intro h (And.intro hC (And.intro hB h.flt)))
    have HSt := hid (TkSt.start h)
    have t0 := (cell_three h.blk).1
    have t1 := (cell_three h.blk).2.1
    clear h64 h hC hcs hl hfm hls hB
    go_enter Try.func35, Try.ntmps35
    go_wp2
    clear t0 t1
    go_loopw [6] (fun i wr => ∃ j : Nat, j ≤ cs.length ∧ i = .int .i64 (j : Int) ∧ TkSt w wr F ep fa fc fm (cs.take j) ∧ chainE ep fm (cs.take j) (cs.drop j) = chainE ep fm [] cs)
      (fun i _ => ((cs.length : Int) - intOf i).toNat)
    case atStart => exact ⟨0, by omega, rfl, HSt.out, rfl⟩
    case round =>
      obtain ⟨j, hj, rfl, hT, hch⟩ := hrel
      have HT := hid hT
      clear hT
      by_cases hjn : j = cs.length
      · have hj1 : ¬ ((j : Int) < (cs.length : Int)) := by omega
        have HCh : Hid (chainE ep fm [] cs = 0) := hid (by rw [← hch, hjn, List.drop_length, chainE])
        have HT1 : Hid (TkSt w wr F ep fa fc fm cs ∧ Below w.heap.size w wr) := hid (by
          have := HT.out
          rw [hjn, List.take_length] at this
          exact ⟨this, this.bel⟩)
        clear hj hjn hch HT HSt
        go_wp2
        clear hj1
        go_loopw [8] (fun i wr => ∃ p : Nat, p ≤ cs.length ∧ p ≤ ls.length ∧ i = .int .i64 (p : Int) ∧ TkSt w wr F ep fa fc fm cs ∧ otherTo ls cs p = false)
          (fun i _ => ((cs.length : Int) - intOf i).toNat)
        case atStart => exact ⟨0, by omega, by omega, rfl, HT1.out.1, rfl⟩
        case round =>
          obtain ⟨p, hp, hp2, rfl, hbx, hot⟩ := hrel
          have H2 : Hid (TkSt w wr F ep fa fc fm cs ∧ Below w.heap.size w wr) := hid ⟨hbx, hbx.bel⟩
          have HBx := hid (And.intro hbx hot)
          clear hbx hot
          have z2 := (cell_three (H0.out.1.keep H2.out.2).blk).2.2
          by_cases hpn : p = cs.length
          · have hp1 : ¬ ((p : Int) < (cs.length : Int)) := by omega
            have HO : Hid (otherTo ls cs cs.length = false) := hid (otherTo_all (.inl (by omega)) HBx.out.2)
            clear hp hp2 hpn
            by_cases hle : cs.length ≤ ls.length
            · have hlez : (cs.length : Int) ≤ (ls.length : Int) := by omega
              have HV : Hid (takeE ep fm ls cs = 17) := hid (by rw [takeE, if_neg H64.out, if_neg (by rw [HCh.out]; decide), if_neg (by rw [HO.out]; decide), if_pos hle])
              clear hle
              go_wp2
              go_ret
              rw [HV.out]
              exact ⟨rfl, kept_of_below H2.out.2, fun _ => H0.out.1.keep H2.out.2, fun hq => absurd hq (by decide)⟩
            · have hlez : ¬ ((cs.length : Int) ≤ (ls.length : Int)) := by omega
              have HV : Hid (takeE ep fm ls cs = 0) := hid (by rw [takeE, if_neg H64.out, if_neg (by rw [HCh.out]; decide), if_neg (by rw [HO.out]; decide), if_neg hle])
              clear hle
              obtain ⟨Fi, vi, hM, hFi, _⟩ := H2.out.1
              obtain ⟨ai, ci, hvi⟩ := hM.form
              subst hvi
              have s2 := (cell_three hM.blk).2.2
              have f2 := free_at (H0.out.1.keep H2.out.2).blk 2
              have HMv := hid (MtAt.moved (H0.out.1.keep H2.out.2) hM H0.out.2.2.1 hFi H0.out.2.2.2 (lt_of_blk H0.out.1.blk))
              have HOw := hid hM.own.lt
              have HNe : Hid (0 < cs.length) := hid (by omega)
              clear hM hFi
              go_wp2
              go_ret
              rw [HV.out]
              refine ⟨rfl, (kept_of_below H2.out.2).setCell _ _, fun hq => absurd rfl hq, fun _ => ⟨_, _, HMv.out.1, fun k hk => ?_, ?_⟩⟩
              · exact HMv.out.2 k hk
              · cases ho : (Value.slice ai cs.length ci).ownBlock with
                | none => exact .inr (own_some HMv.out.1.own ho (by have := HNe.out; omega))
                | some g => exact .inr ⟨g, rfl, (HOw.out g ho).1⟩
          · have hp1 : (p : Int) < (cs.length : Int) := by omega
            by_cases hpl : p = ls.length
            · have hp3 : ¬ ((p : Int) < (ls.length : Int)) := by omega
              have HO : Hid (otherTo ls cs cs.length = false) := hid (otherTo_all (.inr (by omega)) HBx.out.2)
              have HPl : Hid (ls.length < cs.length) := hid (by omega)
              clear hp hp2 hpn hpl
              have hle : ¬ (cs.length ≤ ls.length) := by have := HPl.out; omega
              · have hlez : ¬ ((cs.length : Int) ≤ (ls.length : Int)) := by omega
                have HV : Hid (takeE ep fm ls cs = 0) := hid (by rw [takeE, if_neg H64.out, if_neg (by rw [HCh.out]; decide), if_neg (by rw [HO.out]; decide), if_neg hle])
                clear hle
                obtain ⟨Fi, vi, hM, hFi, _⟩ := H2.out.1
                obtain ⟨ai, ci, hvi⟩ := hM.form
                subst hvi
                have s2 := (cell_three hM.blk).2.2
                have f2 := free_at (H0.out.1.keep H2.out.2).blk 2
                have HMv := hid (MtAt.moved (H0.out.1.keep H2.out.2) hM H0.out.2.2.1 hFi H0.out.2.2.2 (lt_of_blk H0.out.1.blk))
                have HOw := hid hM.own.lt
                have HNe : Hid (0 < cs.length) := hid (by omega)
                clear hM hFi
                go_wp2
                go_ret
                rw [HV.out]
                refine ⟨rfl, (kept_of_below H2.out.2).setCell _ _, fun hq => absurd rfl hq, fun _ => ⟨_, _, HMv.out.1, fun k hk => ?_, ?_⟩⟩
                · exact HMv.out.2 k hk
                · cases ho : (Value.slice ai cs.length ci).ownBlock with
                  | none => exact .inr (own_some HMv.out.1.own ho (by have := HNe.out; omega))
                  | some g => exact .inr ⟨g, rfl, (HOw.out g ho).1⟩
            · have hp3 : (p : Int) < (ls.length : Int) := by omega
              have hp0 : (0 : Int) ≤ (p : Int) := Int.natCast_nonneg _
              obtain ⟨k1, hk1⟩ : ∃ k, cs[p]? = some k := ⟨_, List.getElem?_eq_getElem (by omega)⟩
              obtain ⟨k2, hk2⟩ : ∃ k, ls[p]? = some k := ⟨_, List.getElem?_eq_getElem (by omega)⟩
              obtain ⟨g, off, cap, a1, c1, _, _, hv, hg, _, zc, _, hi1, _⟩ := lks_at (H0.out.2.1.under H2.out.2 (Nat.le_refl _)) p k1 hk1
              cases hv
              obtain ⟨g2, off2, cap2, a2, c2, _, _, hv, hg2, _, zl, _, hi2, _⟩ := (H0.out.1.keep H2.out.2).at p k2 hk2
              cases hv
              have HSI := hid (sameInts_dec a1 a2 _ _ c1 c2 k1.2.1 k2.2.1 rfl rfl (HLn.out.2.2.1 k1 (List.mem_of_getElem? hk1)).1 (HLn.out.2.1 k2 (List.mem_of_getElem? hk2)))
              have HII := hid (And.intro hi1 hi2)
              have HC := hid (And.intro (lt_of_blk (H0.out.1.keep H2.out.2).blk) (And.intro hg hg2))
              have HStp := hid (And.intro (otherTo_step hk1 hk2) (And.intro hp (And.intro hp2 (And.intro hpn hpl))))
              clear hi1 hi2 hg hg2 hk1 hk2 hp hp2 hpn hpl
              obtain ⟨D, eD⟩ : ∃ D, D = decide (k1.2.1 = k2.2.1) := ⟨_, rfl⟩
              rw [← eD] at HSI HStp
              clear eD
              go_wp2
              have HS : Hid (Below wr.drew.heap.size wr.drew wr.drew) := hid (Below.refl _ _)
              refine wp_region_held (S := fun ww => Below wr.drew.heap.size wr.drew ww) (by kernel_rfl) ?_
              try (change wpAnyH _ _ _ _ _ _ _ _ (World.drew _))
              refine wpAnyH_take (i := 0) (v := ?v1) rfl (by kernel_rfl) (by kernel_rfl) (by kernel_rfl) (fun _ _ _ h => h) (Or.inl ⟨by rfl, ?hy1⟩) HS.out ?rest1
              case hy1 => (intro ww _; go_simp; try with_reducible rfl)
              go_simp
              refine wpAnyH_take (i := 1) (v := ?v2) rfl (by kernel_rfl) (by kernel_rfl) (by kernel_rfl) (fun _ _ _ h => h) (Or.inl ⟨by rfl, ?hy2⟩) HS.out ?rest2
              case hy2 => (intro ww _; go_simp; try with_reducible rfl)
              go_simp
              refine wpAnyH_take (i := 2) (v := ?v3) rfl (by kernel_rfl) (by kernel_rfl) (by kernel_rfl) (fun _ _ _ h => h) (Or.inl ⟨by rfl, ?hy3⟩) HS.out ?rest3
              case hy3 => (intro ww _; go_simp; try with_reducible rfl)
              go_simp
              refine wpAnyH_take (i := 3) (v := ?v4) rfl (by kernel_rfl) (by kernel_rfl) (by kernel_rfl) (fun _ _ _ h => h) (Or.inl ⟨by rfl, ?hy4⟩) HS.out ?rest4
              case hy4 => (intro ww _; go_simp; try with_reducible rfl)
              go_simp
              refine wpAnyH_take (i := 4) (v := ?v5) rfl (by kernel_rfl) (by kernel_rfl) (by kernel_rfl) (fun _ _ _ h => h) (Or.inl ⟨by rfl, ?hy5⟩) HS.out ?rest5
              case hy5 => (intro ww _; go_simp; try with_reducible rfl)
              go_simp
              refine wpAnyH_take (i := 5) (v := ?v6) rfl (by kernel_rfl) (by kernel_rfl) (by kernel_rfl) (fun _ _ _ h => h) (Or.inl ⟨by rfl, ?hy6⟩) HS.out ?rest6
              case hy6 => (intro ww hS; have y2 := (hS.cell (p := ⟨b, 2, none⟩) HC.out.1).trans z2; have yc := (hS.cell (p := ⟨g, off + p * 3 + 1, none⟩) HC.out.2.1).trans zc; have yl := (hS.cell (p := ⟨g2, off2 + p * 3 + 1, none⟩) HC.out.2.2).trans zl; go_simp; try with_reducible rfl)
              go_simp
              refine wpAnyH_take (i := 6) (v := ?v7) rfl (by kernel_rfl) (by kernel_rfl) (by kernel_rfl) (fun _ _ _ h => h) (Or.inl ⟨by rfl, ?hy7⟩) HS.out ?rest7
              case hy7 => (intro ww _; go_simp; try with_reducible rfl)
              go_simp
              refine wpAnyH_take (i := 7) (v := ?v8) rfl (by kernel_rfl) (by kernel_rfl) (by kernel_rfl) (fun _ _ _ h => h) (Or.inl ⟨by rfl, ?hy8⟩) HS.out ?rest8
              case hy8 => (intro ww _; go_simp; try with_reducible rfl)
              go_simp
              refine wpAnyH_take (i := 8) (v := ?v9) rfl (by kernel_rfl) (by kernel_rfl) (by kernel_rfl) (fun _ _ _ h => h) (Or.inl ⟨by rfl, ?hy9⟩) HS.out ?rest9
              case hy9 => (intro ww _; go_simp; try with_reducible rfl)
              go_simp
              refine wpAnyH_take (i := 9) (v := ?v10) rfl (by kernel_rfl) (by kernel_rfl) (by kernel_rfl) (fun _ _ _ h => h) (Or.inl ⟨by rfl, ?hy10⟩) HS.out ?rest10
              case hy10 => (intro ww hS; have y2 := (hS.cell (p := ⟨b, 2, none⟩) HC.out.1).trans z2; have yc := (hS.cell (p := ⟨g, off + p * 3 + 1, none⟩) HC.out.2.1).trans zc; have yl := (hS.cell (p := ⟨g2, off2 + p * 3 + 1, none⟩) HC.out.2.2).trans zl; go_simp; try with_reducible rfl)
              go_simp
              refine wpAnyH_take (i := 10) (v := ?v11) rfl (by kernel_rfl) (by kernel_rfl) (by kernel_rfl) (fun _ _ _ h => h) (Or.inl ⟨by rfl, ?hy11⟩) HS.out ?rest11
              case hy11 => (intro ww _; go_simp; try with_reducible rfl)
              go_simp
              refine wpAnyH_take (i := 11) (v := ?v12) rfl (by kernel_rfl) (by kernel_rfl) (by kernel_rfl) (fun _ _ _ h => h) (Or.inl ⟨by rfl, ?hy12⟩) HS.out ?rest12
              case hy12 => (intro ww _; go_simp; try with_reducible rfl)
              go_simp
              refine wpAnyH_take (i := 12) (v := ?v13) rfl (by kernel_rfl) (by kernel_rfl) (by kernel_rfl) (fun _ _ _ h => h) (Or.inl ⟨by rfl, ?hy13⟩) HS.out ?rest13
              case hy13 => (intro ww _; go_simp; try with_reducible rfl)
              go_simp
              refine wpAnyH_take (i := 13) (v := ?v14) rfl (by kernel_rfl) (by kernel_rfl) (by kernel_rfl) (fun _ _ _ h => h) (Or.inl ⟨by rfl, ?hy14⟩) HS.out ?rest14
              case hy14 => (intro ww _; go_simp; try with_reducible rfl)
              go_simp
              refine wpAnyH_take (i := 14) (v := ?v15) rfl (by kernel_rfl) (by kernel_rfl) (by kernel_rfl) (fun _ _ _ h => h) (Or.inl ⟨by rfl, ?hy15⟩) HS.out ?rest15
              case hy15 => (intro ww hS; have y2 := (hS.cell (p := ⟨b, 2, none⟩) HC.out.1).trans z2; have yc := (hS.cell (p := ⟨g, off + p * 3 + 1, none⟩) HC.out.2.1).trans zc; have yl := (hS.cell (p := ⟨g2, off2 + p * 3 + 1, none⟩) HC.out.2.2).trans zl; go_simp; try with_reducible rfl)
              go_simp
              refine wpAnyH_all (rs := [15]) (by kernel_rfl) (by simp) ?_
              intro i hi
              obtain rfl := List.mem_singleton.1 hi
              clear hi
              refine wpOp_k rfl (by rfl) (fun K hK => ?_)
              go_simp
              refine (HSI.out _ (HII.out.1.keep (Below.refl _ _).drew (Nat.le_refl _)) (HII.out.2.keep (Below.refl _ _).drew (Nat.le_refl _))).mono ?_
              rintro r w3 ⟨rfl, hb3⟩
              have H3 : Hid (TkSt w w3 F ep fa fc fm cs ∧ Below w.heap.size w w3) := hid (by
                have hT := H2.out.1.keep (((Below.refl wr.heap.size wr).drew).trans hb3)
                exact ⟨hT, hT.bel⟩)
              clear HS
              have HS := hid hb3
              clear hb3
              refine hK _ _ ⟨HS.out, ?_⟩
              clear hK K
              go_simp
              refine wpAnyH_take (i := 16) (v := ?v16) rfl (by kernel_rfl) (by kernel_rfl) (by kernel_rfl) (fun _ _ _ h => h) (Or.inl ⟨by rfl, ?hy16⟩) HS.out ?rest16
              case hy16 => (intro ww _; go_simp; try with_reducible rfl)
              go_simp
              refine wpAnyH_done (by kernel_rfl) ?_ _
              go_simp
              cases D with
              | true =>
                go_wp2
                go_roundw
                case rel => exact ⟨p + 1, by have := HStp.out.2; omega, by have := HStp.out.2; omega, rfl, H3.out.1, by rw [HStp.out.1, HBx.out.2]; rfl⟩
                case measure => have := HStp.out.2; simp [intOf]; omega
              | false =>
                have HV : Hid (takeE ep fm ls cs = 22) := hid (by rw [takeE, if_neg H64.out, if_neg (by rw [HCh.out]; decide), if_pos (otherTo_up (p := p + 1) (by have := HStp.out.2; omega) (by rw [HStp.out.1, HBx.out.2]; rfl))])
                go_wp2
                go_ret
                rw [HV.out]
                exact ⟨rfl, kept_of_below H3.out.2, fun _ => H0.out.1.keep H3.out.2, fun hq => absurd hq (by decide)⟩
      · have hj1 : (j : Int) < (cs.length : Int) := by omega
        have hj0 : (0 : Int) ≤ (j : Int) := Int.natCast_nonneg _
        have hjl : j < cs.length := by omega
        obtain ⟨k, hk⟩ : ∃ k, cs[j]? = some k := ⟨_, List.getElem?_eq_getElem hjl⟩
        have hkm : k ∈ cs := List.mem_of_getElem? hk
        obtain ⟨g, off, cap, a1, c1, a2, c2, hv, hg, k0, k1, k2, hi1, hp1⟩ := lks_at (H0.out.2.1.under HT.out.bel (Nat.le_refl _)) j k hk
        cases hv
        have HAd := hid (HT.out.add HLn.out.1 (by rw [List.length_take]; omega) (fun x hx => (HLn.out.2.2.1 x (List.mem_of_mem_take hx)).1) k a1 c1 (HLn.out.2.2.1 k hkm).1 a2 c2 (HLn.out.2.2.1 k hkm).2 hi1 hp1)
        have HJ := hid (And.intro hk (And.intro hjl hch))
        clear hi1 hp1 hkm hg hk hjl hch hj hjn
        obtain ⟨E, eE⟩ : ∃ E, E = addE ep fm (cs.take j) k := ⟨_, rfl⟩
        rw [← eE] at HAd
        have HEe := hid eE
        clear eE
        by_cases hE : E = 0
        · subst hE
          go_wp2_with (go_at_call 34; refine HAd.out.mono ?_; rintro r w2 ⟨rfl, hb2, ht2⟩; have H2 := hid (And.intro hb2 (ht2 rfl)); clear hb2 ht2)
          go_roundw
          case rel =>
            obtain ⟨hjl, ek⟩ := List.getElem?_eq_some_iff.1 HJ.out.1
            refine ⟨j + 1, by omega, rfl, ?_, ?_⟩
            · rw [List.take_succ_eq_append_getElem hjl, ek]; exact H2.out.2
            · rw [chainE_step ep fm cs j k HJ.out.1 HEe.out.symm]; exact HJ.out.2.2
          case measure => have := HJ.out.2.1; simp [intOf]; omega
        · have hEb : (E != 0) = true := by simpa using hE
          have HV : Hid (takeE ep fm ls cs = E ∧ E ≠ 0) := hid (by
            have hc := chainE_stop ep fm cs j k HJ.out.1 (by rw [← HEe.out]; exact hE)
            rw [HJ.out.2.2, ← HEe.out] at hc
            exact ⟨by rw [takeE, if_neg H64.out, hc, if_pos hE], hE⟩)
          clear hE
          go_wp2_with (go_at_call 34; refine HAd.out.mono ?_; rintro r w2 ⟨rfl, hb2, _⟩; have H2 := hid hb2; clear hb2)
          go_ret
          rw [HV.out.1]
          exact ⟨rfl, kept_of_below H2.out, fun _ => H0.out.1.keep H2.out, fun hq => absurd hq HV.out.2⟩
end Go.Proofs.Ytpholamobedkhaa

/- Lists of numbers held against each other. -/
namespace Go.Proofs.Ytpholamobedkhaa
open Go.RowKit

set_option maxRecDepth 100000 in
set_option maxHeartbeats 1600000 in
theorem sameInts_any (a1 a2 : Option Addr) (n c1 c2 : Nat) (ss : List Int) (hn : ss.length = n) (hm : n ≤ maxLen) (w : World) (h1 : IntsIn w a1 ss) (h2 : IntsIn w a2 ss) :
    Calls Try.prog 40 #[.slice a1 n c1, .slice a2 n c2] w fun e w' => e = .returned (.bool true) ∧ Below w.heap.size w w' := by
  have hm2 : (n : Int) ≤ 9223372036854775807 := by unfold maxLen at hm; omega
  have HZ := hid (And.intro h1 (And.intro h2 hn))
  clear h1 h2 hn hm
  go_enter Try.func40, Try.ntmps40
  go_wp2
  go_loopw [5] (fun i wr => ∃ j : Nat, j ≤ n ∧ i = .int .i64 (j : Int) ∧ Below w.heap.size w wr)
    (fun i _ => ((n : Int) - intOf i).toNat)
  case atStart => exact ⟨0, by omega, rfl, Below.refl _ _⟩
  case round =>
    obtain ⟨j, hj, rfl, hbel⟩ := hrel
    have HB := hid hbel
    clear hbel
    by_cases hjn : j = n
    · have hj1 : ¬ ((j : Int) < (n : Int)) := by omega
      clear hj hjn
      go_wp2
      go_ret
      exact ⟨rfl, HB.out⟩
    · have hj1 : (j : Int) < (n : Int) := by omega
      have hj0 : (0 : Int) ≤ (j : Int) := Int.natCast_nonneg _
      obtain ⟨s, es⟩ : ∃ s, ss[j]? = some s := ⟨_, List.getElem?_eq_getElem (by rw [HZ.out.2.2]; omega)⟩
      obtain ⟨g1, off1, rfl, hg1, hcell1⟩ := HZ.out.1.at j s es
      obtain ⟨g2, off2, rfl, hg2, hcell2⟩ := HZ.out.2.1.at j s es
      have cz1 : wr.cell? ⟨g1, off1 + j, none⟩ = some (.int .i64 s) := (HB.out.cell (p := ⟨g1, off1 + j, none⟩) hg1).trans hcell1
      have cz2 : wr.cell? ⟨g2, off2 + j, none⟩ = some (.int .i64 s) := (HB.out.cell (p := ⟨g2, off2 + j, none⟩) hg2).trans hcell2
      clear es hg1 hg2 hcell1 hcell2
      go_wp2
      go_quiet (fail)
      go_wp2
      go_roundw
      case rel => exact ⟨j + 1, by omega, rfl, ⟨HB.out.os, HB.out.tape, HB.out.output, HB.out.size, HB.out.block⟩⟩
      case measure => simp [intOf]; omega
end Go.Proofs.Ytpholamobedkhaa

/- The document's Same of configurations, of its own (so that it hangs on little). -/
namespace Go.Proofs.Ytpholamobedkhaa
open Go.RowKit

set_option maxRecDepth 100000 in
set_option maxHeartbeats 1600000 in
theorem vsame_eq (ep : Int) (a1 a2 : Option Addr) (n c1 c2 : Nat) (l : List Int) (hn : l.length = n) (hm : n ≤ maxLen) (w : World) (h1 : IntsIn w a1 l) (h2 : IntsIn w a2 l) :
    Calls Try.prog 20 #[.agg #[.int .i64 ep, .slice a1 n c1], .agg #[.int .i64 ep, .slice a2 n c2]] w fun e w' => e = .returned (.bool true) ∧ Below w.heap.size w w' := by
  have HC : Hid (∀ u : World, IntsIn u a1 l → IntsIn u a2 l → Calls Try.prog 40 #[.slice a1 n c1, .slice a2 n c2] u fun e w' => e = .returned (.bool true) ∧ Below u.heap.size u w') := hid (fun u k1 k2 => sameInts_any a1 a2 n c1 c2 l hn hm u k1 k2)
  have HI := hid (And.intro h1 h2)
  clear h1 h2 hn hm
  go_enter Try.func20, Try.ntmps20
  go_wp2_with (go_at_call 40; refine (HC.out _ (by exact (HI.out.1.alloc _).alloc _) (by exact (HI.out.2.alloc _).alloc _)).mono ?_; rintro e w1 ⟨rfl, hb1⟩; have H1 := hid ((((Below.refl w.heap.size w).alloc (Nat.le_refl _) _).alloc (by simp) _).trans (hb1.mono (by simp; omega))); clear hb1)
  go_ret
  exact ⟨rfl, H1.out⟩
end Go.Proofs.Ytpholamobedkhaa

/- The document's tracker: the same chains. -/
namespace Go.Proofs.Ytpholamobedkhaa
open Go.RowKit

set_option maxRecDepth 100000 in
set_option maxHeartbeats 6400000 in
theorem wsames_eq (G1 G2 : Nat → Prop) (v1 v2 : Value) (cs : List Lk) (hm : cs.length ≤ maxLen) (hcs : ∀ k, k ∈ cs → k.2.1.length ≤ maxLen ∧ k.2.2.length ≤ maxLen) (w : World) (h1 : Reads G1 w v1 (.l 3 (dLks cs))) (h2 : Reads G2 w v2 (.l 3 (dLks cs))) :
    Calls Try.prog 19 #[v1, v2] w fun r w' => r = .returned (.bool true) ∧ Below w.heap.size w w' := by
  obtain ⟨b1, d1, hv⟩ := lks_form h1
  subst hv
  obtain ⟨b2, d2, hv⟩ := lks_form h2
  subst hv
  have hm2 : (cs.length : Int) ≤ 9223372036854775807 := by unfold maxLen at hm; omega
  have HH := hid (And.intro h1 (And.intro h2 hcs))
  clear h1 h2 hcs hm
  go_enter Try.func19, Try.ntmps19
  go_wp2
  go_loopw [5] (fun i wr => ∃ j : Nat, j ≤ cs.length ∧ i = .int .i64 (j : Int) ∧ Below w.heap.size w wr)
    (fun i _ => ((cs.length : Int) - intOf i).toNat)
  case atStart => exact ⟨0, by omega, rfl, Below.refl _ _⟩
  case round =>
    obtain ⟨j, hj, rfl, hbel⟩ := hrel
    have HB := hid hbel
    clear hbel
    by_cases hjn : j = cs.length
    · have hj1 : ¬ ((j : Int) < (cs.length : Int)) := by omega
      clear hj hjn
      go_wp2
      go_ret
      exact ⟨rfl, HB.out⟩
    · have hj1 : (j : Int) < (cs.length : Int) := by omega
      have hj0 : (0 : Int) ≤ (j : Int) := Int.natCast_nonneg _
      obtain ⟨k, hk⟩ : ∃ k, cs[j]? = some k := ⟨_, List.getElem?_eq_getElem (by omega)⟩
      obtain ⟨g1, o1, _, a1, c1, a2, c2, hv, hg1, k0, k1, k2, hi1, hp1⟩ := lks_at (HH.out.1.under HB.out (Nat.le_refl _)) j k hk
      cases hv
      obtain ⟨g2, o2, _, a3, c3, a4, c4, hv, hg2, m0, m1, m2, hi2, hp2⟩ := lks_at (HH.out.2.1.under HB.out (Nat.le_refl _)) j k hk
      cases hv
      have HG := hid (And.intro hg1 hg2)
      have HI := hid (And.intro (And.intro hi1 hp1) (And.intro hi2 hp2))
      have hkm := HH.out.2.2 k (List.mem_of_getElem? hk)
      have HVs := hid (vsame_eq k.1 a1 a3 _ c1 c3 k.2.1 rfl hkm.1)
      have HWs := hid (wsame_yes a2 a4 _ c2 c4 k.2.2 rfl hkm.2)
      have HJ := hid (And.intro hj hjn)
      clear hkm hi1 hp1 hi2 hp2 hg1 hg2 hk hj hjn
      go_wp2
      have HS : Hid (Below wr.drew.heap.size wr.drew wr.drew) := hid (Below.refl _ _)
      refine wp_region_held (S := fun ww => Below wr.drew.heap.size wr.drew ww) (by kernel_rfl) ?_
      try (change wpAnyH _ _ _ _ _ _ _ _ (World.drew _))
      refine wpAnyH_take (i := 0) (v := ?v1) rfl (by kernel_rfl) (by kernel_rfl) (by kernel_rfl) (fun _ _ _ h => h) (Or.inl ⟨by rfl, ?hy1⟩) HS.out ?rest1
      case hy1 => (intro ww _; go_simp; try with_reducible rfl)
      go_simp
      refine wpAnyH_take (i := 1) (v := ?v2) rfl (by kernel_rfl) (by kernel_rfl) (by kernel_rfl) (fun _ _ _ h => h) (Or.inl ⟨by rfl, ?hy2⟩) HS.out ?rest2
      case hy2 => (intro ww _; go_simp; try with_reducible rfl)
      go_simp
      refine wpAnyH_take (i := 2) (v := ?v3) rfl (by kernel_rfl) (by kernel_rfl) (by kernel_rfl) (fun _ _ _ h => h) (Or.inl ⟨by rfl, ?hy3⟩) HS.out ?rest3
      case hy3 => (intro ww _; go_simp; try with_reducible rfl)
      go_simp
      refine wpAnyH_take (i := 3) (v := ?v4) rfl (by kernel_rfl) (by kernel_rfl) (by kernel_rfl) (fun _ _ _ h => h) (Or.inl ⟨by rfl, ?hy4⟩) HS.out ?rest4
      case hy4 => (intro ww _; go_simp; try with_reducible rfl)
      go_simp
      refine wpAnyH_take (i := 4) (v := ?v5) rfl (by kernel_rfl) (by kernel_rfl) (by kernel_rfl) (fun _ _ _ h => h) (Or.inl ⟨by rfl, ?hy5⟩) HS.out ?rest5
      case hy5 => (intro ww hS; have y0 := (hS.cell (p := ⟨g1, o1 + j * 3, none⟩) HG.out.1).trans k0; have y1 := (hS.cell (p := ⟨g1, o1 + j * 3 + 1, none⟩) HG.out.1).trans k1; have y2 := (hS.cell (p := ⟨g1, o1 + j * 3 + 2, none⟩) HG.out.1).trans k2; have x0 := (hS.cell (p := ⟨g2, o2 + j * 3, none⟩) HG.out.2).trans m0; have x1 := (hS.cell (p := ⟨g2, o2 + j * 3 + 1, none⟩) HG.out.2).trans m1; have x2 := (hS.cell (p := ⟨g2, o2 + j * 3 + 2, none⟩) HG.out.2).trans m2; go_simp; try with_reducible rfl)
      go_simp
      refine wpAnyH_take (i := 5) (v := ?v6) rfl (by kernel_rfl) (by kernel_rfl) (by kernel_rfl) (fun _ _ _ h => h) (Or.inl ⟨by rfl, ?hy6⟩) HS.out ?rest6
      case hy6 => (intro ww _; go_simp; try with_reducible rfl)
      go_simp
      refine wpAnyH_take (i := 6) (v := ?v7) rfl (by kernel_rfl) (by kernel_rfl) (by kernel_rfl) (fun _ _ _ h => h) (Or.inl ⟨by rfl, ?hy7⟩) HS.out ?rest7
      case hy7 => (intro ww _; go_simp; try with_reducible rfl)
      go_simp
      refine wpAnyH_take (i := 7) (v := ?v8) rfl (by kernel_rfl) (by kernel_rfl) (by kernel_rfl) (fun _ _ _ h => h) (Or.inl ⟨by rfl, ?hy8⟩) HS.out ?rest8
      case hy8 => (intro ww _; go_simp; try with_reducible rfl)
      go_simp
      refine wpAnyH_take (i := 8) (v := ?v9) rfl (by kernel_rfl) (by kernel_rfl) (by kernel_rfl) (fun _ _ _ h => h) (Or.inl ⟨by rfl, ?hy9⟩) HS.out ?rest9
      case hy9 => (intro ww _; go_simp; try with_reducible rfl)
      go_simp
      refine wpAnyH_take (i := 9) (v := ?v10) rfl (by kernel_rfl) (by kernel_rfl) (by kernel_rfl) (fun _ _ _ h => h) (Or.inl ⟨by rfl, ?hy10⟩) HS.out ?rest10
      case hy10 => (intro ww hS; have y0 := (hS.cell (p := ⟨g1, o1 + j * 3, none⟩) HG.out.1).trans k0; have y1 := (hS.cell (p := ⟨g1, o1 + j * 3 + 1, none⟩) HG.out.1).trans k1; have y2 := (hS.cell (p := ⟨g1, o1 + j * 3 + 2, none⟩) HG.out.1).trans k2; have x0 := (hS.cell (p := ⟨g2, o2 + j * 3, none⟩) HG.out.2).trans m0; have x1 := (hS.cell (p := ⟨g2, o2 + j * 3 + 1, none⟩) HG.out.2).trans m1; have x2 := (hS.cell (p := ⟨g2, o2 + j * 3 + 2, none⟩) HG.out.2).trans m2; go_simp; try with_reducible rfl)
      go_simp
      refine wpAnyH_all (rs := [10]) (by kernel_rfl) (by simp) ?_
      intro i hi
      obtain rfl := List.mem_singleton.1 hi
      clear hi
      refine wpOp_k rfl (by rfl) (fun K hK => ?_)
      go_simp
      refine (HVs.out _ (HI.out.1.1.keep (Below.refl _ _).drew (Nat.le_refl _)) (HI.out.2.1.keep (Below.refl _ _).drew (Nat.le_refl _))).mono ?_
      rintro r w3 ⟨rfl, hb3⟩
      clear HS
      have HS := hid hb3
      clear hb3
      refine hK _ _ ⟨HS.out, ?_⟩
      clear hK K
      go_simp
      refine wpAnyH_take (i := 11) (v := ?v11) rfl (by kernel_rfl) (by kernel_rfl) (by kernel_rfl) (fun _ _ _ h => h) (Or.inl ⟨by rfl, ?hy11⟩) HS.out ?rest11
      case hy11 => (intro ww _; go_simp; try with_reducible rfl)
      go_simp
      refine wpAnyH_take (i := 12) (v := ?v12) rfl (by kernel_rfl) (by kernel_rfl) (by kernel_rfl) (fun _ _ _ h => h) (Or.inl ⟨by rfl, ?hy12⟩) HS.out ?rest12
      case hy12 => (intro ww _; go_simp; try with_reducible rfl)
      go_simp
      refine wpAnyH_take (i := 13) (v := ?v13) rfl (by kernel_rfl) (by kernel_rfl) (by kernel_rfl) (fun _ _ _ h => h) (Or.inl ⟨by rfl, ?hy13⟩) HS.out ?rest13
      case hy13 => (intro ww _; go_simp; try with_reducible rfl)
      go_simp
      refine wpAnyH_take (i := 14) (v := ?v14) rfl (by kernel_rfl) (by kernel_rfl) (by kernel_rfl) (fun _ _ _ h => h) (Or.inl ⟨by rfl, ?hy14⟩) HS.out ?rest14
      case hy14 => (intro ww _; go_simp; try with_reducible rfl)
      go_simp
      refine wpAnyH_take (i := 15) (v := ?v15) rfl (by kernel_rfl) (by kernel_rfl) (by kernel_rfl) (fun _ _ _ h => h) (Or.inl ⟨by rfl, ?hy15⟩) HS.out ?rest15
      case hy15 => (intro ww _; go_simp; try with_reducible rfl)
      go_simp
      refine wpAnyH_take (i := 16) (v := ?v16) rfl (by kernel_rfl) (by kernel_rfl) (by kernel_rfl) (fun _ _ _ h => h) (Or.inl ⟨by rfl, ?hy16⟩) HS.out ?rest16
      case hy16 => (intro ww _; go_simp; try with_reducible rfl)
      go_simp
      refine wpAnyH_take (i := 17) (v := ?v17) rfl (by kernel_rfl) (by kernel_rfl) (by kernel_rfl) (fun _ _ _ h => h) (Or.inl ⟨by rfl, ?hy17⟩) HS.out ?rest17
      case hy17 => (intro ww hS; have y0 := (hS.cell (p := ⟨g1, o1 + j * 3, none⟩) HG.out.1).trans k0; have y1 := (hS.cell (p := ⟨g1, o1 + j * 3 + 1, none⟩) HG.out.1).trans k1; have y2 := (hS.cell (p := ⟨g1, o1 + j * 3 + 2, none⟩) HG.out.1).trans k2; have x0 := (hS.cell (p := ⟨g2, o2 + j * 3, none⟩) HG.out.2).trans m0; have x1 := (hS.cell (p := ⟨g2, o2 + j * 3 + 1, none⟩) HG.out.2).trans m1; have x2 := (hS.cell (p := ⟨g2, o2 + j * 3 + 2, none⟩) HG.out.2).trans m2; go_simp; try with_reducible rfl)
      go_simp
      refine wpAnyH_take (i := 18) (v := ?v18) rfl (by kernel_rfl) (by kernel_rfl) (by kernel_rfl) (fun _ _ _ h => h) (Or.inl ⟨by rfl, ?hy18⟩) HS.out ?rest18
      case hy18 => (intro ww _; go_simp; try with_reducible rfl)
      go_simp
      refine wpAnyH_take (i := 19) (v := ?v19) rfl (by kernel_rfl) (by kernel_rfl) (by kernel_rfl) (fun _ _ _ h => h) (Or.inl ⟨by rfl, ?hy19⟩) HS.out ?rest19
      case hy19 => (intro ww _; go_simp; try with_reducible rfl)
      go_simp
      refine wpAnyH_take (i := 20) (v := ?v20) rfl (by kernel_rfl) (by kernel_rfl) (by kernel_rfl) (fun _ _ _ h => h) (Or.inl ⟨by rfl, ?hy20⟩) HS.out ?rest20
      case hy20 => (intro ww _; go_simp; try with_reducible rfl)
      go_simp
      refine wpAnyH_take (i := 21) (v := ?v21) rfl (by kernel_rfl) (by kernel_rfl) (by kernel_rfl) (fun _ _ _ h => h) (Or.inl ⟨by rfl, ?hy21⟩) HS.out ?rest21
      case hy21 => (intro ww _; go_simp; try with_reducible rfl)
      go_simp
      refine wpAnyH_take (i := 22) (v := ?v22) rfl (by kernel_rfl) (by kernel_rfl) (by kernel_rfl) (fun _ _ _ h => h) (Or.inl ⟨by rfl, ?hy22⟩) HS.out ?rest22
      case hy22 => (intro ww hS; have y0 := (hS.cell (p := ⟨g1, o1 + j * 3, none⟩) HG.out.1).trans k0; have y1 := (hS.cell (p := ⟨g1, o1 + j * 3 + 1, none⟩) HG.out.1).trans k1; have y2 := (hS.cell (p := ⟨g1, o1 + j * 3 + 2, none⟩) HG.out.1).trans k2; have x0 := (hS.cell (p := ⟨g2, o2 + j * 3, none⟩) HG.out.2).trans m0; have x1 := (hS.cell (p := ⟨g2, o2 + j * 3 + 1, none⟩) HG.out.2).trans m1; have x2 := (hS.cell (p := ⟨g2, o2 + j * 3 + 2, none⟩) HG.out.2).trans m2; go_simp; try with_reducible rfl)
      go_simp
      refine wpAnyH_all (rs := [23]) (by kernel_rfl) (by simp) ?_
      intro i hi
      obtain rfl := List.mem_singleton.1 hi
      clear hi
      refine wpOp_k rfl (by rfl) (fun K hK => ?_)
      go_simp
      refine (HWs.out _ ((HI.out.1.2.keep (Below.refl _ _).drew (Nat.le_refl _)).keep HS.out (Nat.le_refl _)) ((HI.out.2.2.keep (Below.refl _ _).drew (Nat.le_refl _)).keep HS.out (Nat.le_refl _))).mono ?_
      rintro r w4 ⟨rfl, hb4⟩
      have HT := hid (HS.out.trans (hb4.mono HS.out.size))
      clear HS hb4
      have HS := hid HT.out
      clear HT
      refine hK _ _ ⟨HS.out, ?_⟩
      clear hK K
      go_simp
      refine wpAnyH_take (i := 24) (v := ?v23) rfl (by kernel_rfl) (by kernel_rfl) (by kernel_rfl) (fun _ _ _ h => h) (Or.inl ⟨by rfl, ?hy23⟩) HS.out ?rest23
      case hy23 => (intro ww _; go_simp; try with_reducible rfl)
      go_simp
      refine wpAnyH_take (i := 25) (v := ?v24) rfl (by kernel_rfl) (by kernel_rfl) (by kernel_rfl) (fun _ _ _ h => h) (Or.inl ⟨by rfl, ?hy24⟩) HS.out ?rest24
      case hy24 => (intro ww _; go_simp; try with_reducible rfl)
      go_simp
      refine wpAnyH_done (by kernel_rfl) ?_ _
      go_simp
      go_wp2
      go_roundw
      case rel => exact ⟨j + 1, by have := HJ.out; omega, rfl, (HB.out.drew).trans (HS.out.mono HB.out.size)⟩
      case measure => have := HJ.out; simp [intOf]; omega
end Go.Proofs.Ytpholamobedkhaa

/- A tracker of the program in memory, as the walks of the laws see it (trial: the contracts are told). -/
namespace Go.Proofs.Ytpholamobedkhaa
open Go.RowKit

/-- All blocks but those of O stay. -/
structure Outs (O : Nat → Prop) (w w' : World) : Prop where
  os : w'.os = w.os
  tape : w'.tape = w.tape
  output : w'.output = w.output
  size : w.heap.size ≤ w'.heap.size
  block : ∀ k, k < w.heap.size → ¬ O k → w'.heap[k]? = w.heap[k]?
theorem Outs.refl (O : Nat → Prop) (w : World) : Outs O w w := ⟨rfl, rfl, rfl, Nat.le_refl _, fun _ _ _ => rfl⟩
theorem Outs.trans {O O' : Nat → Prop} {x y z : World} (h : Outs O x y) (k : Outs O' y z) (hO : ∀ j, j < x.heap.size → O' j → O j) : Outs O x z :=
  ⟨k.os.trans h.os, k.tape.trans h.tape, k.output.trans h.output, Nat.le_trans h.size k.size, fun j hj hn => (k.block j (Nat.lt_of_lt_of_le hj h.size) (fun hq => hn (hO j hj hq))).trans (h.block j hj hn)⟩
theorem outs_of {O : Nat → Prop} {w w' : World} (h : Below w.heap.size w w') : Outs O w w' := ⟨h.os, h.tape, h.output, h.size, fun k hk _ => h.block k hk⟩
theorem Outs.below {O : Nat → Prop} {w w' : World} {B : Nat} (h : Outs O w w') (hB : B ≤ w.heap.size) (hO : ∀ k, O k → B ≤ k) : Below B w w' :=
  ⟨h.os, h.tape, h.output, h.size, fun k hk => h.block k (Nat.lt_of_lt_of_le hk hB) (fun hq => Nat.lt_irrefl _ (Nat.lt_of_lt_of_le hk (hO k hq)))⟩
/-- A list whose row lies in a block of its own, apart from what its items point to. -/
structure RowAt (sz : Nat) (F : Nat → Prop) (w : World) (v : Value) (es : List (List Dat)) : Prop where
  form : ∃ ad cap, v = .slice ad es.length cap
  item : ∀ (j : Nat) (e : List Dat), es[j]? = some e → ∃ g off cap, v = .slice (some ⟨g, off, none⟩) es.length cap ∧ ¬ F g ∧ g < w.heap.size ∧ e.length = sz ∧ ∀ (q : Nat) (d : Dat), e[q]? = some d → ∃ u, w.cell? ⟨g, off + j * sz + q, none⟩ = some u ∧ Reads F w u d
/-- The block of a list's row. -/
def rowOf : Value → Option Nat
  | .slice (some a) _ _ => some a.block
  | _ => none
theorem RowAt.keep {sz : Nat} {F : Nat → Prop} {w w' : World} {v : Value} {es : List (List Dat)} (h : RowAt sz F w v es) (hs : w.heap.size ≤ w'.heap.size) (hF : ∀ k, k < w.heap.size → F k → w'.heap[k]? = w.heap[k]?) (hr : ∀ g, g < w.heap.size → rowOf v = some g → w'.heap[g]? = w.heap[g]?) : RowAt sz F w' v es :=
  ⟨h.form, fun j e he => by
    obtain ⟨g, off, cap, hv, hg, hlt, hl, hc⟩ := h.item j e he
    refine ⟨g, off, cap, hv, hg, Nat.lt_of_lt_of_le hlt hs, hl, fun q d hd => ?_⟩
    obtain ⟨u, hu, hR⟩ := hc q d hd
    exact ⟨u, (World.cell?_of_block (a := ⟨g, _, none⟩) (hr g hlt (by rw [hv]; rfl))).trans hu, hR.keep hs hF⟩⟩
/-- One's own rows are such. -/
theorem OwnD.row {T : TypeId} {sz B : Nat} {F : Nat → Prop} {w : World} {v : Value} {es : List (List Dat)} (h : OwnD T sz B F w v es) : RowAt sz F w v es := by
  refine ⟨h.form, fun j e he => ?_⟩
  obtain ⟨cs, ho, hc⟩ := h.own
  rcases ho.2 with ⟨_, h0⟩ | ⟨g, cap, cur, hv, hB, hh, hnc, hcp, hcs, ht⟩
  · rw [List.length_eq_zero_iff.1 h0] at he
    cases he
  · subst hv
    refine ⟨g, 0, cap, rfl, h.sep g rfl, lt_of_blk hh, (hc j e he).1, fun q d hd => ?_⟩
    obtain ⟨u, h1, h2⟩ := (hc j e he).2 q d hd
    have := ho.cells (g := g) rfl _ _ h1
    rw [Addr.add_lit] at this
    rw [Nat.add_assoc]
    exact ⟨u, this, h2⟩
end Go.Proofs.Ytpholamobedkhaa

/- The program's copies: lists, a configuration, a link. -/
namespace Go.Proofs.Ytpholamobedkhaa
open Go.RowKit

/-- A block that may be written. -/
def Free (w : World) (k : Nat) : Prop := ∃ (cs : Array Value) (T : TypeId), w.heap[k]? = some (.cells cs T (0, 0))
theorem Free.lt {w : World} {k : Nat} (h : Free w k) : k < w.heap.size := by obtain ⟨_, _, h⟩ := h; exact lt_of_blk h
theorem Free.keep {w w' : World} {k : Nat} (h : Free w k) (hb : w'.heap[k]? = w.heap[k]?) : Free w' k := by obtain ⟨c, T, h⟩ := h; exact ⟨c, T, hb.trans h⟩
/-- A list of numbers in memory of its own, at block B or later, that may be written. -/
structure NewI (B : Nat) (w : World) (ad : Option Addr) (l : List Int) : Prop where
  ints : IntsIn w ad l
  far : ∀ x, ad = some x → B ≤ x.block ∧ Free w x.block
structure NewT (B : Nat) (w : World) (ad : Option Addr) (l : List (Int × ByteArray)) : Prop where
  pairs : PairsIn w ad l
  far : ∀ x, ad = some x → B ≤ x.block ∧ Free w x.block
theorem NewI.keep {B : Nat} {w w' : World} {ad : Option Addr} {l : List Int} (h : NewI B w ad l) (hb : Below w.heap.size w w') : NewI B w' ad l :=
  ⟨h.ints.keep hb (Nat.le_refl _), fun x hx => ⟨(h.far x hx).1, (h.far x hx).2.keep (hb.block _ (h.far x hx).2.lt)⟩⟩
theorem NewT.keep {B : Nat} {w w' : World} {ad : Option Addr} {l : List (Int × ByteArray)} (h : NewT B w ad l) (hb : Below w.heap.size w w') : NewT B w' ad l :=
  ⟨h.pairs.keep hb (Nat.le_refl _), fun x hx => ⟨(h.far x hx).1, (h.far x hx).2.keep (hb.block _ (h.far x hx).2.lt)⟩⟩
theorem OwnedI.new {B : Nat} {w0 w : World} {v : Value} {zs : List Int} (h : OwnedI B w0 w v zs) : ∃ ad cap, v = .slice ad zs.length cap ∧ NewI B w ad zs := by
  obtain ⟨ad, cap, hv, hi, _⟩ := h.slice
  refine ⟨ad, cap, hv, hi, fun x hx => ?_⟩
  rcases h.own.2 with ⟨hv2, h0⟩ | ⟨g, cap, cur, hv2, hb, hh, hr⟩
  · rw [hv, hx] at hv2; cases hv2
  · rw [hv, hx] at hv2; cases hv2; exact ⟨hb, _, _, hh⟩
theorem OwnedT.new {B : Nat} {w0 w : World} {v : Value} {zs : List (Int × ByteArray)} (h : OwnedT B w0 w v zs) : ∃ ad cap, v = .slice ad zs.length cap ∧ NewT B w ad zs := by
  obtain ⟨ad, cap, hv, hi, _⟩ := h.slice
  refine ⟨ad, cap, hv, hi, fun x hx => ?_⟩
  rcases h.own.2 with ⟨hv2, h0⟩ | ⟨g, cap, cur, hv2, hb, hh, hr⟩
  · rw [hv, hx] at hv2; cases hv2
  · rw [hv, hx] at hv2; cases hv2; exact ⟨hb, _, _, hh⟩
set_option maxRecDepth 100000 in
set_option maxHeartbeats 2000000 in
theorem cloneInts_any (a : Option Addr) (n cap : Nat) (l : List Int) (hn : l.length = n) (hm : n * 8 ≤ 140737488355328) (w : World) (hI : IntsIn w a l) :
    Calls Try.prog 57 #[.slice a n cap] w fun e w' => ∃ a1 c1, e = .returned (.slice a1 n c1) ∧ NewI w.heap.size w' a1 l ∧ Below w.heap.size w w' := by
  have q22 : ∀ (w : World) (a : Option Addr) (n c n' c' : Nat), (binOp .eql 22 (.slice a n c) (.slice none n' c')).run Try.prog w = .ok (.bool a.isNone) w := fun w a n c n' c' => Lib.run_eql_slice_nil w _ _ a n c n' c' Try.underlying22
  cases a with
  | none =>
    obtain rfl : l = [] := by rcases hI with h | ⟨g, off, ha, _⟩; exact h; cases ha
    obtain rfl : 0 = n := hn
    clear hI hm
    go_enter Try.func57, Try.ntmps57
    go_wp2
    go_ret
    first | exact ⟨none, 0, rfl, ⟨.inl rfl, fun x hx => by cases hx⟩, Below.refl _ _⟩ | exact ⟨none, ⟨0, rfl⟩, ⟨.inl rfl, fun x hx => by cases hx⟩, Below.refl _ _⟩
  | some ad =>
    obtain ⟨i0, hi0, hz0, hz1, hz2⟩ := info_parts Try.info3
    have HP := hid hI
    have HN := hid (And.intro hn hm)
    clear hI hn hm
    go_enter Try.func57, Try.ntmps57
    go_wp2_with (at_builtin; refine wpList_append_own _ rfl _ _ 22 rfl w.heap.size 3 i0 (.int .i64 0) 1 8 Try.underlying22 hi0 hz0 hz1 hz2 rfl (by decide) _ _ _ rfl (World.ownsRow_made w #[] 0 (Nat.le_refl _) (Nat.zero_le _) rfl) ad n cap (iC l) rfl ?qc1 ?qc2 ?qc3 ?qc4 ?qc5 ?qc6 ?_)
    case qc1 => rw [iC_len, HN.out.1, Nat.mul_one]
    case qc2 =>
      intro j u hj
      obtain ⟨s, hs, rfl⟩ := iC_back l j u hj
      obtain ⟨g', off', eg, _, h1⟩ := HP.out.at j s hs
      cases eg
      rw [Addr.add_lit]
      exact Lib.cell?_alloc_some _ h1
    case qc3 => exact iC_one l
    case qc4 => have := HN.out.2; unfold maxLen; omega
    case qc5 => have := HN.out.2; omega
    case qc6 => simp
    intro v' w1 hown hgrow hnil
    have HO : Hid (OwnedI w.heap.size w w1 v' l) := hid ⟨by rw [HN.out.1]; simpa using hown, ((Below.refl _ w).alloc (Nat.le_refl _) _).grown hgrow (by simp) (by intro k hk; simp [Value.ownBlock] at hk; omega), by have := hgrow.size; simp at this; omega⟩
    clear hown hgrow hnil
    obtain ⟨a1, c1, hv, hN⟩ := HO.out.new
    rw [HN.out.1] at hv
    subst hv
    have HNw := hid hN
    clear hN
    go_wp2
    go_ret
    first | exact ⟨a1, c1, rfl, HNw.out, HO.out.bel⟩ | exact ⟨a1, ⟨c1, rfl⟩, HNw.out, HO.out.bel⟩
set_option maxRecDepth 100000 in
set_option maxHeartbeats 2000000 in
theorem cloneSigs_any (a : Option Addr) (n cap : Nat) (l : List (Int × ByteArray)) (hn : l.length = n) (hm : n * 24 ≤ 140737488355328) (w : World) (hI : PairsIn w a l) :
    Calls Try.prog 59 #[.slice a n cap] w fun e w' => ∃ a1 c1, e = .returned (.slice a1 n c1) ∧ NewT w.heap.size w' a1 l ∧ Below w.heap.size w w' := by
  have q22 : ∀ (w : World) (a : Option Addr) (n c n' c' : Nat), (binOp .eql 25 (.slice a n c) (.slice none n' c')).run Try.prog w = .ok (.bool a.isNone) w := fun w a n c n' c' => Lib.run_eql_slice_nil w _ _ a n c n' c' Try.underlying25
  cases a with
  | none =>
    obtain rfl : l = [] := by rcases hI with h | ⟨g, off, ha, _⟩; exact h; cases ha
    obtain rfl : 0 = n := hn
    clear hI hm
    go_enter Try.func59, Try.ntmps59
    go_wp2
    go_ret
    first | exact ⟨none, 0, rfl, ⟨.inl rfl, fun x hx => by cases hx⟩, Below.refl _ _⟩ | exact ⟨none, ⟨0, rfl⟩, ⟨.inl rfl, fun x hx => by cases hx⟩, Below.refl _ _⟩
  | some ad =>
    obtain ⟨i0, hi0, hz0, hz1, hz2⟩ := info_parts Try.info62
    have HP := hid hI
    have HN := hid (And.intro hn hm)
    clear hI hn hm
    go_enter Try.func59, Try.ntmps59
    go_wp2_with (at_builtin; refine wpList_append_own _ rfl _ _ 25 rfl w.heap.size 62 i0 (.agg #[.int .i64 0, .string ⟨#[]⟩]) 2 24 Try.underlying25 hi0 hz0 hz1 hz2 rfl (by decide) _ _ _ rfl (World.ownsRow_made w #[] 0 (Nat.le_refl _) (Nat.zero_le _) rfl) ad n cap (pC l) rfl ?qc1 ?qc2 ?qc3 ?qc4 ?qc5 ?qc6 ?_)
    case qc1 => rw [pC_len, HN.out.1]
    case qc2 =>
      intro j u hj
      exact Lib.cell?_alloc_some _ (pairs_cells HP.out j u hj)
    case qc3 => exact pC_cell1 l
    case qc4 => have := HN.out.2; unfold maxLen; omega
    case qc5 => have := HN.out.2; omega
    case qc6 => simp
    intro v' w1 hown hgrow hnil
    have HO : Hid (OwnedT w.heap.size w w1 v' l) := hid ⟨by rw [HN.out.1]; simpa using hown, ((Below.refl _ w).alloc (Nat.le_refl _) _).grown hgrow (by simp) (by intro k hk; simp [Value.ownBlock] at hk; omega), by have := hgrow.size; simp at this; omega⟩
    clear hown hgrow hnil
    obtain ⟨a1, c1, hv, hN⟩ := HO.out.new
    rw [HN.out.1] at hv
    subst hv
    have HNw := hid hN
    clear hN
    go_wp2
    go_ret
    first | exact ⟨a1, c1, rfl, HNw.out, HO.out.bel⟩ | exact ⟨a1, ⟨c1, rfl⟩, HNw.out, HO.out.bel⟩
end Go.Proofs.Ytpholamobedkhaa
