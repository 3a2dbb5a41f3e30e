/- Two logs of one view that hear one request a slot of each who is not bad prepare nothing unlike. No walk here. -/
import Derived.Test.YtohhlolmojeomaaSlVM
namespace Go.Proofs.Ytohhlolmojeomaa
open Go.RowKit

/-- What was told first by somebody in a slot. -/
def isKey (o p : Sp) : Bool := decide (p.fr = o.fr) && decide (p.sl = o.sl)
def firstS (said : List Sp) (o : Sp) : Option Sp := said.find? (isKey o)
def spZ : Sp := ⟨0, 0, 0, 0, zeroQ, false⟩
/-- What becomes of a step: an honest member's Prepare is of its first request. -/
def told1 (bad : List Int) (said : List Sp) (o : Sp) : List Sp × Sp :=
  if o.k % 4 = 2 ∧ hasM bad o.fr = false then (match firstS said o with | some p => (said, { o with a := p.a }) | none => (said ++ [o], o)) else (said, o)
def agOne (ep : Int) (l bad : List Int) (said : List Sp) (qs : List Pp) (o : Sp) : List Sp × List Pp :=
  if o.k % 4 = 0 then (said, qs) else ((told1 bad said o).1, (stp ep l 0 qs (told1 bad said o).2).2.2)
/-- Of each who speaks in a slot there is one text. -/
def OneS (said : List Sp) : Prop := ∀ p q, p ∈ said → q ∈ said → p.fr = q.fr → p.sl = q.sl → rqT p.a = rqT q.a
structure PHas (ep : Int) (l bad : List Int) (said : List Sp) (i : Nat) (q : Pp) : Prop where
  pre : ∀ j : Nat, j < 16 → (q.pre.getD j ⟨#[]⟩).size ≠ 0 → hasM bad (j : Int) = true ∨ ∃ p, p ∈ said ∧ p.fr = (j : Int) ∧ p.sl = 4 * ep + 1 + (i : Int) ∧ q.pre.getD j ⟨#[]⟩ = rqT p.a
  ct : q.ct.2.2.2.length ≠ 0 → ∃ A : List Int, A.Nodup ∧ (∀ x, x ∈ A → x ∈ l) ∧ quoZ (l.length : Int) ≤ (A.length : Int) ∧ (rqT q.ct.2.2.1).size ≠ 0 ∧ ∀ x, x ∈ A → ∃ j : Nat, j < 16 ∧ x = (j : Int) ∧ q.pre.getD j ⟨#[]⟩ = rqT q.ct.2.2.1
def AInv (ep : Int) (l bad : List Int) (said : List Sp) (qs : List Pp) : Prop := SInv ep l 0 qs ∧ ∀ i q, qs[i]? = some q → PHas ep l bad said i q
theorem PHas.more {ep : Int} {l bad : List Int} {said s2 : List Sp} {i : Nat} {q : Pp} (h : PHas ep l bad said i q) (hs : ∀ p, p ∈ said → p ∈ s2) : PHas ep l bad s2 i q :=
  ⟨fun j hj hz => (h.pre j hj hz).imp id (fun ⟨p, h1, h2⟩ => ⟨p, hs p h1, h2⟩), h.ct⟩
theorem AInv.more {ep : Int} {l bad : List Int} {said s2 : List Sp} {qs : List Pp} (h : AInv ep l bad said qs) (hs : ∀ p, p ∈ said → p ∈ s2) : AInv ep l bad s2 qs := ⟨h.1, fun i q hq => (h.2 i q hq).more hs⟩
theorem told1_more (bad : List Int) (said : List Sp) (o : Sp) : ∀ p, p ∈ said → p ∈ (told1 bad said o).1 := fun p hp => by
  unfold told1
  split
  · split
    · exact hp
    · exact List.mem_append_left _ hp
  · exact hp
theorem told1_one {bad : List Int} {said : List Sp} {o : Sp} (h : OneS said) : OneS (told1 bad said o).1 := by
  unfold told1
  split
  · split
    · exact h
    · rename_i hf
      have hn : ∀ p, p ∈ said → ¬ (p.fr = o.fr ∧ p.sl = o.sl) := fun p hp e => by
        have := List.find?_eq_none.1 hf p hp
        simp [isKey, e.1, e.2] at this
      intro p q hp hq h1 h2
      rcases List.mem_append.1 hp with hp | hp <;> rcases List.mem_append.1 hq with hq | hq
      · exact h p q hp hq h1 h2
      · rw [List.mem_singleton.1 hq] at h1 h2; exact absurd ⟨h1, h2⟩ (hn p hp)
      · rw [List.mem_singleton.1 hp] at h1 h2; exact absurd ⟨h1.symm, h2.symm⟩ (hn q hq)
      · rw [List.mem_singleton.1 hp, List.mem_singleton.1 hq]
  · exact h
/-- What a step is told as, in the words of who is bad. -/
theorem told1_is (bad : List Int) (said : List Sp) (o : Sp) : (told1 bad said o).2.k = o.k ∧ (told1 bad said o).2.fr = o.fr ∧ (told1 bad said o).2.sl = o.sl ∧ (o.k % 4 = 2 → hasM bad o.fr = true ∨ ∃ p, p ∈ (told1 bad said o).1 ∧ p.fr = o.fr ∧ p.sl = o.sl ∧ (told1 bad said o).2.a = p.a) := by
  unfold told1
  split
  · rename_i h
    split
    · rename_i p hf
      have h1 := List.find?_some hf
      simp only [isKey, Bool.and_eq_true, decide_eq_true_eq] at h1
      exact ⟨rfl, rfl, rfl, fun _ => .inr ⟨p, List.mem_of_find?_eq_some hf, h1.1, h1.2, rfl⟩⟩
    · exact ⟨rfl, rfl, rfl, fun _ => .inr ⟨o, List.mem_append_right _ (List.mem_singleton.2 rfl), rfl, rfl, rfl⟩⟩
  · rename_i h
    refine ⟨rfl, rfl, rfl, fun hk => .inl ?_⟩
    cases hb : hasM bad o.fr with
    | true => rfl
    | false => exact absurd ⟨hk, hb⟩ h
/-- A step that is no Enter, slot by slot. -/
inductive StpP (ep : Int) (l : List Int) (v : Int) (qs : List Pp) (o : Sp) : Int × Int × List Pp → Prop where
  | no (er : Int) : StpP ep l v qs o (er, v, qs)
  | put (i : Nat) (q q1 : Pp) (hi : i < 4) (hq : qs[i]? = some q) (hc : q1.ct = q.ct) (hk : PpOk q1) (hp : PInv ep l v i q → PInv ep l v i q1) (hpre : q1.pre = q.pre ∨ (o.k % 4 = 2 ∧ ∃ j : Nat, j < 16 ∧ o.fr = (j : Int) ∧ o.sl = 4 * ep + 1 + (i : Int) ∧ (q.pre.getD j ⟨#[]⟩).size = 0 ∧ q1.pre = q.pre.set j (rqT o.a))) : StpP ep l v qs o (0, v, qs.set i (setl ep l.length v (4 * ep + 1 + (i : Int)) q1))
theorem stp_p {ep : Int} {l : List Int} {v : Int} {qs : List Pp} (h : QOk ep l v qs) (o : Sp) (hb : o.a.b < 18446744073709551616) (h0 : o.k % 4 ≠ 0) : StpP ep l v qs o (stp ep l v qs o) := by
  unfold stp
  rw [if_neg h0]
  split
  · unfold proS
    split
    · exact .no 1
    · rename_i hr
      have hr : rqE o.a = 0 := by simpa using hr
      split
      · exact .no 14
      · rename_i ho
        obtain ⟨hs, hi⟩ := ix_slot ho
        obtain ⟨hg, hk⟩ := h.get ho
        generalize ixS ep o.sl = i at hs hi hg hk ⊢
        generalize qs.getD i q0P = q at hg hk ⊢
        rw [hs]
        split
        · exact .put i q { q with pro := rqT o.a } hi hg rfl ⟨hk.pre, hk.com, (rqT_sz hr).2, hk.don⟩ (fun hp => ⟨hp.pre, hp.com, fun _ => (back_factsS hr hb).1, hp.ct, hp.don⟩) (.inl rfl)
        · split
          · exact .no 7
          · exact .no 22
  · split
    · rename_i hk2
      unfold preS
      split
      · exact .no 1
      · split
        · exact .no 14
        · rename_i ho
          obtain ⟨hs, hi⟩ := ix_slot ho
          obtain ⟨hg, hk⟩ := h.get ho
          have hsl := hs
          generalize ixS ep o.sl = i at hs hi hg hk hsl ⊢
          generalize qs.getD i q0P = q at hg hk ⊢
          rw [hs]
          split
          · exact .no 8
          · rename_i hh
            have hh : hasM l o.fr = true := by simpa using hh
            obtain ⟨j, hj, hf⟩ := mem_nat h.hr hh
            rw [hf] at hh ⊢
            split
            · exact .no 16
            · rw [Int.toNat_natCast]
              split
              · rename_i hz
                refine .put i q { q with pre := q.pre.set j (rqT o.a) } hi hg rfl ⟨by rw [List.length_set]; exact hk.pre, hk.com, hk.pro, hk.don⟩ (fun hp => ⟨fun k hk3 hz => ?_, hp.com, hp.pro, hp.ct, hp.don⟩) (.inr ⟨hk2, j, hj, hf, hsl, hz, rfl⟩)
                simp only [getD_setS (show j < q.pre.length by rw [hk.pre]; exact hj)] at hz
                split at hz
                · rename_i e; rw [e]; exact hh
                · exact hp.pre k hk3 hz
              · exact .no 7
    · unfold comS
      split
      · exact .no 1
      · split
        · exact .no 14
        · rename_i ho
          obtain ⟨hs, hi⟩ := ix_slot ho
          obtain ⟨hg, hk⟩ := h.get ho
          generalize ixS ep o.sl = i at hs hi hg hk ⊢
          generalize qs.getD i q0P = q at hg hk ⊢
          rw [hs]
          split
          · exact .no 8
          · rename_i hh
            have hh : hasM l o.fr = true := by simpa using hh
            obtain ⟨j, hj, hf⟩ := mem_nat h.hr hh
            rw [hf] at hh ⊢
            rw [Int.toNat_natCast]
            split
            · refine .put i q { q with com := q.com.set j (rqT o.a) } hi hg rfl ⟨hk.pre, by rw [List.length_set]; exact hk.com, hk.pro, hk.don⟩ (fun hp => ⟨hp.pre, fun k hk3 hz => ?_, hp.pro, hp.ct, hp.don⟩) (.inl rfl)
              simp only [getD_setS (show j < q.com.length by rw [hk.com]; exact hj)] at hz
              split at hz
              · rename_i e; rw [e]; exact hh
              · exact hp.com k hk3 hz
            · exact .no 7
theorem setl_pre (ep : Int) (n : Nat) (v s : Int) (q : Pp) : (setl ep n v s q).pre = q.pre := by
  unfold setl
  split <;> rfl
theorem setl_has {ep : Int} {l bad : List Int} {said : List Sp} {v : Int} {i : Nat} {q : Pp} (_hr : rightC ep l = true) (h : PHas ep l bad said i q) (hp : PInv ep l v i q) (hk : PpOk q) : PHas ep l bad said i (setl ep l.length v (4 * ep + 1 + (i : Int)) q) := by
  refine ⟨fun j hj => by rw [setl_pre]; exact h.pre j hj, fun hc => ?_⟩
  rw [setl_pre]
  unfold setl at hc ⊢
  split
  · rename_i hpr
    rw [if_pos hpr] at hc
    simp only at hc ⊢
    split
    · simp only [isPrep, Bool.and_eq_true, decide_eq_true_eq, quoOk] at hpr
      obtain ⟨hz, hq⟩ := hpr
      have ht := told_factsS (hp.pro hz)
      have hcnt : (memS q.pre q.pro 16).length = cntS q.pre q.pro := by
        have := whoS_cnt (L := q.pre) q.pro ⟨#[]⟩ 16 (by rw [hk.pre]; exact Nat.le_refl _)
        rw [whoS_mem, List.length_map] at this
        rw [this, ← hk.pre, List.take_length]; rfl
      refine ⟨memS q.pre q.pro 16, (memS_inc _ _ _).imp (fun hab e => by omega), fun x hx => ?_, by rw [hcnt]; exact hq, ?_, fun x hx => ?_⟩
      · obtain ⟨j, hj, rfl, he⟩ := memS_in hx
        exact of_decide_eq_true (hp.pre j hj (by rw [he]; exact hz))
      · show (rqT (rdR q.pro)).size ≠ 0
        rw [ht.2.1]; exact hz
      · obtain ⟨j, hj, rfl, he⟩ := memS_in hx
        exact ⟨j, hj, rfl, by rw [he]; exact ht.2.1.symm⟩
    · rename_i hn
      exact h.ct (fun e => hn (.inl e))
  · rename_i hpr
    rw [if_neg hpr] at hc
    exact h.ct hc
theorem ag_one {ep : Int} {l bad : List Int} {said : List Sp} {qs : List Pp} (h : AInv ep l bad said qs) (o : Sp) (hb : (told1 bad said o).2.a.b < 18446744073709551616) : AInv ep l bad (agOne ep l bad said qs o).1 (agOne ep l bad said qs o).2 := by
  unfold agOne
  split
  · exact h
  · rename_i h0
    have hm := h.more (told1_more bad said o)
    obtain ⟨t1, t2, t3, t4⟩ := told1_is bad said o
    generalize told1 bad said o = T at hm t1 t2 t3 t4 hb ⊢
    obtain ⟨s2, o2⟩ := T
    simp only at hm t1 t2 t3 t4 hb ⊢
    have hst := (stp_inv hm.1 o2 hb).1
    have hsp := stp_p hm.1.1 o2 hb (by rw [t1]; exact h0)
    generalize stp ep l 0 qs o2 = r at hst hsp ⊢
    cases hsp with
    | no er => exact hm
    | put i q q1 hi hq hc hk hp hpre =>
      refine ⟨hst, fun k x hx => ?_⟩
      by_cases e : k = i
      · subst e
        rw [set_get _ hq] at hx
        cases hx
        have hin := hp (hm.1.2 k q hq)
        have hh := hm.2 k q hq
        refine setl_has hm.1.1.hr ?_ hin hk
        rcases hpre with e | ⟨hk2, j, hj, hf, hsl, hz, e⟩
        · exact ⟨by rw [e]; exact hh.pre, by rw [e, hc]; exact hh.ct⟩
        · have hlen : j < q.pre.length := by have := hk.pre; rw [e, List.length_set] at this; rw [this]; exact hj
          refine ⟨fun j2 hj2 hz2 => ?_, fun hc2 => ?_⟩
          · rw [e, getD_setS hlen] at hz2 ⊢
            by_cases ej : j2 = j
            · subst ej
              rw [if_pos rfl]
              rcases t4 (by rw [← t1]; exact hk2) with hbd | ⟨p, p1, p2, p3, p4⟩
              · left; rw [← t2, hf] at hbd; exact hbd
              · right; exact ⟨p, p1, by rw [p2, ← t2, hf], by rw [p3, ← t3, hsl], by rw [p4]⟩
            · rw [if_neg ej] at hz2 ⊢
              exact hh.pre j2 hj2 hz2
          · rw [hc] at hc2 ⊢
            obtain ⟨A, a1, a2, a3, a4, a5⟩ := hh.ct hc2
            refine ⟨A, a1, a2, a3, a4, fun x hx => ?_⟩
            obtain ⟨j2, b1, b2, b3⟩ := a5 x hx
            refine ⟨j2, b1, b2, ?_⟩
            rw [e, getD_setS hlen, if_neg]
            · exact b3
            · intro ej
              rw [ej, ] at b3
              rw [b3] at hz
              exact a4 hz
      · rw [List.getElem?_set_ne (fun e2 => e e2.symm)] at hx
        exact hm.2 k x hx
theorem filter_twoS (A : List Int) (p : Int → Bool) : (A.filter p).length + (A.filter fun x => !p x).length = A.length := by
  induction A with
  | nil => rfl
  | cons x A ih => cases h : p x <;> simp [h] <;> omega
theorem meet_lenS (A B l : List Int) (hA : A.Nodup) (hB : B.Nodup) (hAl : ∀ x, x ∈ A → x ∈ l) (hBl : ∀ x, x ∈ B → x ∈ l) : A.length + B.length ≤ l.length + (A.filter fun x => decide (x ∈ B)).length := by
  have h1 := nodup_len (B ++ A.filter (fun x => !decide (x ∈ B))) l (List.nodup_append.2 ⟨hB, hA.filter _, fun x hx y hy e => by
    subst e
    have := (List.mem_filter.1 hy).2
    simp [hx] at this⟩) (fun x hx => by
    rcases List.mem_append.1 hx with h | h
    · exact hBl x h
    · exact hAl x (List.mem_filter.1 h).1)
  rw [List.length_append] at h1
  have h2 := filter_twoS A fun x => decide (x ∈ B)
  omega
def wildS (l bad : List Int) : Nat := (l.filter fun x => hasM bad x).length
/-- Two certificates of one slot are of one request. -/
theorem ag_same {ep : Int} {l bad : List Int} {said : List Sp} {qa qb : List Pp} (ha : AInv ep l bad said qa) (hb : AInv ep l bad said qb) (h1 : OneS said) (hw : (wildS l bad : Int) ≤ fltZ (l.length : Int)) {i : Nat} {x y : Pp} (hx : qa[i]? = some x) (hy : qb[i]? = some y) (cx : x.ct.2.2.2.length ≠ 0) (cy : y.ct.2.2.2.length ≠ 0) : rqT x.ct.2.2.1 = rqT y.ct.2.2.1 := by
  obtain ⟨A, a1, a2, a3, a4, a5⟩ := (ha.2 i x hx).ct cx
  obtain ⟨B, b1, b2, b3, b4, b5⟩ := (hb.2 i y hy).ct cy
  have hm := meet_lenS A B l a1 b1 a2 b2
  have hl := mem_len (rightC_ep ha.1.1.hr).2
  have hq : fltZ (l.length : Int) < ((A.filter fun x => decide (x ∈ B)).length : Int) := by
    rw [quoZ_hi (by omega)] at a3 b3
    unfold fltZ at *
    split at * <;> omega
  by_cases he : ∃ z, z ∈ (A.filter fun x => decide (x ∈ B)) ∧ hasM bad z = false
  · obtain ⟨z, hz, hzb⟩ := he
    obtain ⟨hzA, hzB⟩ := List.mem_filter.1 hz
    obtain ⟨j, j1, j2, j3⟩ := a5 z hzA
    obtain ⟨k, k1, k2, k3⟩ := b5 z (of_decide_eq_true hzB)
    obtain rfl : j = k := by omega
    have p1 := (ha.2 i x hx).pre j j1 (by rw [j3]; exact a4)
    have p2 := (hb.2 i y hy).pre j j1 (by rw [k3]; exact b4)
    rw [← j2, hzb] at p1 p2
    rcases p1 with p1 | ⟨p, m1, m2, m3, m4⟩
    · cases p1
    · rcases p2 with p2 | ⟨q, n1, n2, n3, n4⟩
      · cases p2
      · rw [← j3, ← k3, m4, n4]
        exact h1 p q m1 n1 (by rw [m2, n2]) (by rw [m3, n3])
  · exfalso
    have hsub : (A.filter fun x => decide (x ∈ B)).length ≤ wildS l bad := nodup_len _ _ (a1.filter _) (fun z hz => by
      refine List.mem_filter.2 ⟨a2 z (List.mem_filter.1 hz).1, ?_⟩
      cases hzb : hasM bad z with
      | true => rfl
      | false => exact absurd ⟨z, hz, hzb⟩ he)
    omega
end Go.Proofs.Ytohhlolmojeomaa
