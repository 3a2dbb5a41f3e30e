/- What always holds of a log, and what a step leaves. No walk here. -/
import Derived.Test.YtohhlolmojeomaaKl1
import Derived.Test.YtohhlolmojeomaaChXM
namespace Go.Proofs.Ytohhlolmojeomaa
open Go.RowKit

theorem nul_readS {t : ByteArray} (h : t.data.toList = [0]) : rdR t = zeroQ ∧ rdE t = 0 := by
  have : isNul t = true := by rw [isNul, h]; rfl
  rw [rdR, rdE, this]
  exact ⟨rfl, rfl⟩
theorem zero_textS : rqT zeroQ = ⟨#[0]⟩ ∧ rqE zeroQ = 0 := by
  rw [rqT, rqE, zero_null]
  exact ⟨rfl, rfl⟩
theorem same_ofS {x y : Rq} (hx : rqE x = 0) (hy : rqE y = 0) (h : rqT x = rqT y) : sameB x y = true := by
  rw [sameB, hx, hy, h]
  simp
theorem back_factsS {a : Rq} (h : rqE a = 0) (hb : a.b < 18446744073709551616) : rdE (rqT a) = 0 ∧ sameB a (rdR (rqT a)) = true ∧ rightB (rdR (rqT a)) = rightB a ∧ (rdR (rqT a)).b < 18446744073709551616 := by
  by_cases hR : rightB a = true
  · obtain ⟨h1, h2, h3⟩ := read_back hR hb
    have h4 : rdR (rqT a) = rdq (rqT a) := by
      rw [rdR, h3, h1]
      rfl
    have hw : wholeB a (rdR (rqT a)) = true := by
      rw [h4, h2]
      exact (wholeB_iff _ _).2 ⟨rfl, rfl, rfl, rfl, rfl, (canW_idem _).symm⟩
    obtain ⟨_, e2, e3, e4⟩ := whole_alike hw
    refine ⟨?_, same_ofS h (e4 ▸ h) e3, e2.symm, h4 ▸ (told_back h1).2.2⟩
    rw [rdE, h3, h1]
    rfl
  · have hN : nullB a = true := by
      rcases (rqE_iff a).1 h with h | h
      · exact h
      · exact absurd h hR
    have e1 : rqT a = ⟨#[0]⟩ := by rw [rqT, if_pos hN]
    obtain ⟨r1, r2⟩ := nul_readS (nul_text hN).1
    rw [r1, r2]
    refine ⟨rfl, same_ofS h zero_textS.2 (e1.trans zero_textS.1.symm), ?_, by decide⟩
    rw [Bool.eq_false_iff.2 hR]
    decide
theorem told_factsS {t : ByteArray} (h : rdE t = 0) : rqE (rdR t) = 0 ∧ rqT (rdR t) = t ∧ (rdR t).b < 18446744073709551616 := by
  by_cases hN : isNul t = true
  · have e1 : t.data.toList = [0] := of_decide_eq_true hN
    rw [(nul_readS e1).1]
    refine ⟨zero_textS.2, ?_, by decide⟩
    rw [zero_textS.1]
    apply ByteArray.ext
    apply Array.ext'
    rw [e1]
  · have hN' := Bool.eq_false_iff.2 hN
    by_cases ho : okq t = true
    · have e1 : rdR t = rdq t := by
        rw [rdR, hN', ho]
        rfl
      obtain ⟨h1, h2, h3⟩ := told_back ho
      rw [e1]
      exact ⟨(rqE_iff _).2 (Or.inr h1), h2, h3⟩
    · rw [rdE, hN', Bool.eq_false_iff.2 ho] at h
      exact absurd h (by decide)
def memS (L : List ByteArray) (t : ByteArray) (k : Nat) : List Int := ((List.range k).filter fun i : Nat => decide (L.getD i ⟨#[]⟩ = t)).map fun i : Nat => (i : Int)
theorem whoS_mem (L : List ByteArray) (t x : ByteArray) (k : Nat) : whoS L t x k = (memS L t k).map fun y => (y, x) := by
  rw [whoS, memS, List.map_map]; rfl
theorem whoS_cnt {L : List ByteArray} (t x : ByteArray) : ∀ k, k ≤ L.length → (whoS L t x k).length = (L.take k).countP (fun s => decide (s = t))
  | 0, _ => by simp [whoS]
  | k + 1, h => by
    have hk : L[k]? = some (L.getD k ⟨#[]⟩) := getD_of (by omega)
    rw [whoS_succ, List.length_append, whoS_cnt t x k (by omega), count_take L t _ k hk]
    by_cases e : L.getD k ⟨#[]⟩ = t
    · rw [if_pos e, if_pos e]; rfl
    · rw [if_neg e, if_neg e]; rfl
theorem memS_inc (L : List ByteArray) (t : ByteArray) (k : Nat) : Inc (memS L t k) := by
  unfold memS
  have h : List.Pairwise (fun a b : Nat => a < b) ((List.range k).filter fun i : Nat => decide (L.getD i ⟨#[]⟩ = t)) := (List.pairwise_lt_range).filter _
  exact List.pairwise_map.2 (h.imp (fun hab => by omega))
theorem memS_in {L : List ByteArray} {t : ByteArray} {k : Nat} {x : Int} (h : x ∈ memS L t k) : ∃ i : Nat, i < k ∧ x = (i : Int) ∧ L.getD i ⟨#[]⟩ = t := by
  unfold memS at h
  obtain ⟨i, hi, rfl⟩ := List.mem_map.1 h
  obtain ⟨h1, h2⟩ := List.mem_filter.1 hi
  exact ⟨i, List.mem_range.1 h1, rfl, of_decide_eq_true h2⟩
structure PInv (ep : Int) (l : List Int) (v : Int) (i : Nat) (p : Pp) : Prop where
  pre : ∀ j : Nat, j < 16 → (p.pre.getD j ⟨#[]⟩).size ≠ 0 → hasM l (j : Int) = true
  com : ∀ j : Nat, j < 16 → (p.com.getD j ⟨#[]⟩).size ≠ 0 → hasM l (j : Int) = true
  pro : p.pro.size ≠ 0 → rdE p.pro = 0
  ct : p.ct.2.2.2.length ≠ 0 → p.ct.2.1 = 4 * ep + 1 + (i : Int) ∧ 0 ≤ p.ct.1 ∧ p.ct.1 ≤ v ∧ prE ep p.ct.1 p.ct.2.1 p.ct.2.2.1 = 0 ∧ provesB ep l (prT ep p.ct.1 p.ct.2.1 p.ct.2.2.1) p.ct.2.2.2 = true
  don : p.don.size ≠ 0 → p.ct.2.2.2.length ≠ 0
def SInv (ep : Int) (l : List Int) (v : Int) (qs : List Pp) : Prop := QOk ep l v qs ∧ ∀ i q, qs[i]? = some q → PInv ep l v i q
theorem quo_one {n : Nat} (h : 4 ≤ n) : 1 ≤ quoZ (n : Int) := by
  rw [quoZ_hi (by omega)]
  unfold fltZ
  split <;> omega
theorem cert_ok {ep : Int} {l : List Int} {v : Int} {i : Nat} {p : Pp} (hr : rightC ep l = true) (hv : 0 ≤ v ∧ v ≤ 15) (hi : i < 4) (h : PInv ep l v i p) (hk : PpOk p) (hp : isPrep l.length p = true) :
    prE ep v (4 * ep + 1 + (i : Int)) (rdR p.pro) = 0 ∧ provesB ep l (prT ep v (4 * ep + 1 + (i : Int)) (rdR p.pro)) (whoS p.pre p.pro (prT ep v (4 * ep + 1 + (i : Int)) (rdR p.pro)) 16) = true ∧ (whoS p.pre p.pro (prT ep v (4 * ep + 1 + (i : Int)) (rdR p.pro)) 16).length ≠ 0 := by
  have hep := (rightC_ep hr).1
  have hml := mem_len (rightC_ep hr).2
  simp only [isPrep, Bool.and_eq_true, decide_eq_true_eq, quoOk] at hp
  obtain ⟨hz, hq⟩ := hp
  have ht := told_factsS (h.pro hz)
  have hcnt : (whoS p.pre p.pro (prT ep v (4 * ep + 1 + (i : Int)) (rdR p.pro)) 16).length = cntS p.pre p.pro := by
    rw [whoS_cnt _ _ 16 (by rw [hk.pre]; exact Nat.le_refl _), ← hk.pre, List.take_length]; rfl
  have h1 := quo_one (n := l.length) (by omega)
  refine ⟨?_, ?_, by rw [hcnt]; omega⟩
  · rw [prE, if_pos ht.1, if_pos]
    simp only [spB, Bool.and_eq_true]
    exact ⟨⟨inR_of (by omega) (by omega), inR_of (by omega) (by omega)⟩, inR_of (by omega) (by omega)⟩
  · rw [whoS_mem]
    refine proves_ofX hr _ _ (memS_inc _ _ _) (fun x hx => ?_) ?_ ?_
    · obtain ⟨j, hj, rfl, he⟩ := memS_in hx
      exact of_decide_eq_true (h.pre j hj (by rw [he]; exact hz))
    · rw [whoS_mem, List.length_map] at hcnt; rw [hcnt]; exact hq
    · have := whoS_len p.pre p.pro (prT ep v (4 * ep + 1 + (i : Int)) (rdR p.pro)) 16
      rw [whoS_mem, List.length_map] at this; exact this
/-- What stays of a slot in a step. -/
structure PStep (q q' : Pp) : Prop where
  don : q.don.size ≠ 0 → q'.don = q.don
  ct : q.ct.2.2.2.length ≠ 0 → q'.ct.2.2.2.length ≠ 0 ∧ q.ct.1 ≤ q'.ct.1
theorem PStep.refl (q : Pp) : PStep q q := ⟨fun _ => rfl, fun h => ⟨h, Int.le_refl _⟩⟩
theorem setl_inv {ep : Int} {l : List Int} {v : Int} {i : Nat} {p : Pp} (hr : rightC ep l = true) (hv : 0 ≤ v ∧ v ≤ 15) (hi : i < 4) (h : PInv ep l v i p) (hk : PpOk p) : PInv ep l v i (setl ep l.length v (4 * ep + 1 + (i : Int)) p) ∧ PStep p (setl ep l.length v (4 * ep + 1 + (i : Int)) p) := by
  unfold setl
  split
  · rename_i hp
    obtain ⟨c1, c2, c3⟩ := cert_ok hr hv hi h hk hp
    have hne : (if p.ct.2.2.2.length = 0 ∨ p.ct.1 ≠ v then certP ep v (4 * ep + 1 + (i : Int)) p else p.ct).2.2.2.length ≠ 0 := by
      split
      · exact c3
      · rename_i hn; exact fun e => hn (.inl e)
    refine ⟨⟨h.pre, h.com, h.pro, fun _ => ?_, fun _ => hne⟩, ⟨fun hd => ?_, fun hc => ⟨hne, ?_⟩⟩⟩
    · simp only
      split
      · exact ⟨rfl, hv.1, Int.le_refl _, c1, c2⟩
      · rename_i hn; exact h.ct (fun e => hn (.inl e))
    · simp only; rw [if_neg (fun e => hd e.1)]
    · simp only
      split
      · exact (h.ct hc).2.2.1
      · exact Int.le_refl _
  · exact ⟨h, PStep.refl _⟩
/-- What a step comes to: it is refused, a later view, or one slot more. -/
inductive StpIs (ep : Int) (l : List Int) (v : Int) (qs : List Pp) : Int × Int × List Pp → Prop where
  | no (er : Int) (h : er ≠ 0) : StpIs ep l v qs (er, v, qs)
  | ent (x : Int) (h : v < x) (h2 : x ≤ 15) : StpIs ep l v qs (0, x, qs.map clrQ)
  | put (i : Nat) (q q1 : Pp) (hi : i < 4) (hq : qs[i]? = some q) (hc : q1.ct = q.ct) (hd : q1.don = q.don) (hk : PpOk q1) (hp : PInv ep l v i q → PInv ep l v i q1) : StpIs ep l v qs (0, v, qs.set i (setl ep l.length v (4 * ep + 1 + (i : Int)) q1))
theorem getD_setS {L : List ByteArray} {j k : Nat} {t : ByteArray} (hk : k < L.length) : (L.set k t).getD j ⟨#[]⟩ = if j = k then t else L.getD j ⟨#[]⟩ := by
  rw [List.getD_eq_getElem?_getD, List.getD_eq_getElem?_getD]
  by_cases e : j = k
  · subst e; rw [if_pos rfl]; simp [hk]
  · rw [if_neg e, List.getElem?_set_ne (fun h => e h.symm)]
theorem stp_is {ep : Int} {l : List Int} {v : Int} {qs : List Pp} (h : QOk ep l v qs) (o : Sp) (hb : o.a.b < 18446744073709551616) : StpIs ep l v qs (stp ep l v qs o) := by
  unfold stp
  split
  · unfold entS
    split
    · exact .no 13 (by decide)
    · rename_i hx; exact .ent o.vw (by omega) (by omega)
  · split
    · unfold proS
      split
      · exact .no 1 (by decide)
      · rename_i hr
        have hr : rqE o.a = 0 := by simpa using hr
        split
        · exact .no 14 (by decide)
        · rename_i ho
          obtain ⟨hs, hi⟩ := ix_slot ho
          obtain ⟨hg, hk⟩ := h.get ho
          generalize ixS ep o.sl = i at hs hi hg hk ⊢
          generalize qs.getD i q0P = q at hg hk ⊢
          rw [hs]
          split
          · exact .put i q { q with pro := rqT o.a } hi hg rfl rfl ⟨hk.pre, hk.com, (rqT_sz hr).2, hk.don⟩ (fun hp => ⟨hp.pre, hp.com, fun _ => (back_factsS hr hb).1, hp.ct, hp.don⟩)
          · split
            · exact .no 7 (by decide)
            · exact .no 22 (by decide)
    · split
      · unfold preS
        split
        · exact .no 1 (by decide)
        · rename_i hr
          have hr : rqE o.a = 0 := by simpa using hr
          split
          · exact .no 14 (by decide)
          · rename_i ho
            obtain ⟨hs, hi⟩ := ix_slot ho
            obtain ⟨hg, hk⟩ := h.get ho
            generalize ixS ep o.sl = i at hs hi hg hk ⊢
            generalize qs.getD i q0P = q at hg hk ⊢
            rw [hs]
            split
            · exact .no 8 (by decide)
            · rename_i hh
              have hh : hasM l o.fr = true := by simpa using hh
              obtain ⟨j, hj, hf⟩ := mem_nat h.hr hh
              rw [hf] at hh ⊢
              split
              · exact .no 16 (by decide)
              · rw [Int.toNat_natCast]
                split
                · refine .put i q { q with pre := q.pre.set j (rqT o.a) } hi hg rfl rfl ⟨by rw [List.length_set]; exact hk.pre, hk.com, hk.pro, hk.don⟩ (fun hp => ⟨fun k hk2 hz => ?_, hp.com, hp.pro, hp.ct, hp.don⟩)
                  simp only [getD_setS (show j < q.pre.length by rw [hk.pre]; exact hj)] at hz
                  split at hz
                  · rename_i e; rw [e]; exact hh
                  · exact hp.pre k hk2 hz
                · exact .no 7 (by decide)
      · unfold comS
        split
        · exact .no 1 (by decide)
        · rename_i hr
          have hr : rqE o.a = 0 := by simpa using hr
          split
          · exact .no 14 (by decide)
          · rename_i ho
            obtain ⟨hs, hi⟩ := ix_slot ho
            obtain ⟨hg, hk⟩ := h.get ho
            generalize ixS ep o.sl = i at hs hi hg hk ⊢
            generalize qs.getD i q0P = q at hg hk ⊢
            rw [hs]
            split
            · exact .no 8 (by decide)
            · rename_i hh
              have hh : hasM l o.fr = true := by simpa using hh
              obtain ⟨j, hj, hf⟩ := mem_nat h.hr hh
              rw [hf] at hh ⊢
              rw [Int.toNat_natCast]
              split
              · refine .put i q { q with com := q.com.set j (rqT o.a) } hi hg rfl rfl ⟨hk.pre, by rw [List.length_set]; exact hk.com, hk.pro, hk.don⟩ (fun hp => ⟨hp.pre, fun k hk2 hz => ?_, hp.pro, hp.ct, hp.don⟩)
                simp only [getD_setS (show j < q.com.length by rw [hk.com]; exact hj)] at hz
                split at hz
                · rename_i e; rw [e]; exact hh
                · exact hp.com k hk2 hz
              · exact .no 7 (by decide)
theorem PInv.later {ep : Int} {l : List Int} {v x : Int} {i : Nat} {q : Pp} (h : PInv ep l v i q) (hv : v ≤ x) : PInv ep l x i q := ⟨h.pre, h.com, h.pro, fun hc => ⟨(h.ct hc).1, (h.ct hc).2.1, Int.le_trans (h.ct hc).2.2.1 hv, (h.ct hc).2.2.2⟩, h.don⟩
theorem em_none (j : Nat) : (emL.getD j ⟨#[]⟩).size = 0 := by
  rw [List.getD_eq_getElem?_getD, emL, List.getElem?_replicate]
  split <;> rfl
/-- A step keeps what always holds, and what stays. -/
theorem stp_inv {ep : Int} {l : List Int} {v : Int} {qs : List Pp} (h : SInv ep l v qs) (o : Sp) (hb : o.a.b < 18446744073709551616) :
    SInv ep l (stp ep l v qs o).2.1 (stp ep l v qs o).2.2 ∧ v ≤ (stp ep l v qs o).2.1 ∧ ((stp ep l v qs o).1 ≠ 0 → (stp ep l v qs o).2 = (v, qs)) ∧ ∀ (i : Nat) (q : Pp), qs[i]? = some q → ∃ q' : Pp, (stp ep l v qs o).2.2[i]? = some q' ∧ PStep q q' := by
  have hok := stp_ok h.1 o
  have his := stp_is h.1 o hb
  generalize stp ep l v qs o = r at hok his ⊢
  cases his with
  | no er he => exact ⟨h, Int.le_refl _, fun _ => rfl, fun i q hq => ⟨q, hq, PStep.refl _⟩⟩
  | ent x h1 h2 =>
    refine ⟨⟨hok, fun i q hq => ?_⟩, by simp only; omega, fun e => absurd rfl e, fun i q hq => ⟨clrQ q, by simp only; rw [List.getElem?_map, hq]; rfl, ⟨fun _ => rfl, fun hc => ⟨hc, Int.le_refl _⟩⟩⟩⟩
    simp only [List.getElem?_map] at hq
    cases hx : qs[i]? with
    | none => rw [hx] at hq; cases hq
    | some q0 =>
      rw [hx] at hq
      cases hq
      have hp := (h.2 i q0 hx).later (Int.le_of_lt h1)
      exact ⟨fun j _ hz => absurd (em_none j) hz, fun j _ hz => absurd (em_none j) hz, fun hz => absurd rfl hz, hp.ct, hp.don⟩
  | put i q q1 hi hq hc hd hk hp =>
    have hs := setl_inv h.1.hr h.1.hv hi (hp (h.2 i q hq)) hk
    have hst : PStep q (setl ep l.length v (4 * ep + 1 + (i : Int)) q1) := by
      have := hs.2
      exact ⟨fun e => by rw [← hd] at e ⊢; exact this.don e, fun e => by rw [← hc] at e ⊢; exact this.ct e⟩
    refine ⟨⟨hok, fun k x hx => ?_⟩, Int.le_refl _, fun e => absurd rfl e, fun k x hx => ?_⟩
    · by_cases e : k = i
      · subst e
        have := set_get (setl ep l.length v (4 * ep + 1 + (k : Int)) q1) hq
        rw [this] at hx
        cases hx
        exact hs.1
      · rw [List.getElem?_set_ne (fun e2 => e e2.symm)] at hx
        exact h.2 k x hx
    · by_cases e : k = i
      · subst e
        rw [hq] at hx
        cases hx
        exact ⟨_, set_get _ hq, hst⟩
      · exact ⟨x, by simp only; rw [List.getElem?_set_ne (fun e2 => e e2.symm)]; exact hx, PStep.refl _⟩
theorem z_inv {ep : Int} {l : List Int} (hr : rightC ep l = true) : SInv ep l 0 (z4P.map Pl.pp) := by
  have hz : ∀ q, q ∈ z4P.map Pl.pp → q = zPl.pp := fun q hq => by simpa [z4P] using hq
  refine ⟨⟨hr, by omega, rfl, fun q hq => ?_, fun q hq => ?_⟩, fun i q hq => ?_⟩
  · rw [hz q hq]; exact ⟨rfl, rfl, show (⟨#[]⟩ : ByteArray).size ≤ 64 by decide, show (⟨#[]⟩ : ByteArray).size ≤ 64 by decide⟩
  · rw [hz q hq]; exact Nat.zero_le 16
  · rw [hz q (List.mem_of_getElem? hq)]
    exact ⟨fun j _ h => absurd (em_none j) h, fun j _ h => absurd (em_none j) h, fun h => absurd rfl h, fun h => absurd rfl h, fun h => absurd rfl h⟩
/-- Never more stands there than the bound. -/
theorem cnt_members {l : List Int} {L : List ByteArray} (hL : L.length = 16) (h : ∀ j : Nat, j < 16 → (L.getD j ⟨#[]⟩).size ≠ 0 → hasM l (j : Int) = true) : 16 ≤ cntS L ⟨#[]⟩ + l.length := by
  have h1 : cntS L ⟨#[]⟩ + (L.countP fun s => !decide (s = ⟨#[]⟩)) = 16 := by
    have e : (fun s : ByteArray => !decide (s = ⟨#[]⟩)) = fun a => decide ¬decide (a = ⟨#[]⟩) = true := by funext a; simp
    rw [← hL, cntS, e]; exact (List.length_eq_countP_add_countP (fun s : ByteArray => decide (s = ⟨#[]⟩)) (l := L)).symm
  have h2 : (L.countP fun s => !decide (s = ⟨#[]⟩)) = (((List.range 16).filter fun i : Nat => !decide (L.getD i ⟨#[]⟩ = ⟨#[]⟩)).map fun i : Nat => (i : Int)).length := by
    have hl : L = (List.range 16).map fun i => L.getD i ⟨#[]⟩ := by
      apply List.ext_getElem (by rw [List.length_map, List.length_range, hL])
      intro i h1 h2
      simp [List.getD_eq_getElem?_getD, List.getElem?_eq_getElem h1]
    rw [List.length_map, ← List.countP_eq_length_filter]
    conv => lhs; rw [hl]
    rw [List.countP_map]
    rfl
  have h3 : ((((List.range 16).filter fun i : Nat => !decide (L.getD i ⟨#[]⟩ = ⟨#[]⟩)).map fun i : Nat => (i : Int))).length ≤ l.length := by
    refine nodup_len _ _ ?_ ?_
    · have h : List.Pairwise (fun a b : Nat => a < b) ((List.range 16).filter fun i : Nat => !decide (L.getD i ⟨#[]⟩ = ⟨#[]⟩)) := (List.pairwise_lt_range).filter _
      exact List.pairwise_map.2 (h.imp (fun hab => by omega))
    · intro x hx
      obtain ⟨i, hi, rfl⟩ := List.mem_map.1 hx
      obtain ⟨h4, h5⟩ := List.mem_filter.1 hi
      refine of_decide_eq_true (h i (List.mem_range.1 h4) ?_)
      intro e
      have : L.getD i ⟨#[]⟩ = ⟨#[]⟩ := bytes_eq (by have := List.eq_nil_of_length_eq_zero (l := (L.getD i ⟨#[]⟩).data.toList) (by simpa using e); rw [this])
      rw [this] at h5
      simp at h5
  omega
theorem size_bound {ep : Int} {l : List Int} {v : Int} {qs : List Pp} (h : SInv ep l v qs) : 0 ≤ sizeQ qs ∧ sizeQ qs ≤ 4 * (1 + 2 * (l.length : Int)) := by
  have hb : ∀ q, q ∈ qs → 0 ≤ sizeP q ∧ sizeP q ≤ 1 + 2 * (l.length : Int) := fun q hq => by
    obtain ⟨i, hi⟩ := List.getElem?_of_mem hq
    have hp := h.2 i q hi
    have hk := h.1.ok q hq
    have h1 := cnt_members hk.pre hp.pre
    have h2 := cnt_members hk.com hp.com
    have h3 := cntS_le q.pre ⟨#[]⟩ hk.pre
    have h4 := cntS_le q.com ⟨#[]⟩ hk.com
    unfold sizeP
    split <;> omega
  have h4 := h.1.four
  match qs, h4, hb with
  | [a, b, c, d], _, hb =>
    have ha := hb a (by simp)
    have hb' := hb b (by simp)
    have hc := hb c (by simp)
    have hd := hb d (by simp)
    simp only [sizeQ, List.map_cons, List.map_nil, List.sum_cons, List.sum_nil]
    omega
end Go.Proofs.Ytohhlolmojeomaa
