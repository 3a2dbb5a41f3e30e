/- A quorum of votes alike settles: what is there round by round. -/
import Derived.Test.YtkceihnjnjbceaaKh1
import Derived.Test.YtkceihnjnjbceaaVoPM
import Derived.Test.YtkceihnjnjbceaaVNilM
import Derived.Test.YtkceihnjnjbceaaKb1
namespace Go.Proofs.Ytkceihnjnjbceaa
open Go.RowKit

theorem own_len {w : World} {B : Nat} {v : Value} {vs : List Vo} (h : w.ownsRow B 3 1 v vs.length (iC (vs.map (·.1)))) : ∃ ad cap, v = .slice ad vs.length cap ∧ IntsIn w ad (vs.map (·.1)) := by
  rw [← List.length_map (f := fun v : Vo => v.1)] at h
  obtain ⟨ad, cap, e, hh⟩ := own_ints h
  rw [List.length_map] at e
  exact ⟨ad, cap, e, hh⟩
theorem own_intsV {w : World} {B : Nat} {ad : Option Addr} {cap : Nat} {vs : List Vo} (h : w.ownsRow B 3 1 (.slice ad vs.length cap) vs.length (iC (vs.map (·.1)))) : IntsIn w ad (vs.map (·.1)) := by
  obtain ⟨ad2, cap2, e, hh⟩ := own_len h
  cases e
  exact hh
/-- While votes come: F the tally's blocks, all below B; who voted stands in a row of its own at B or later. -/
structure EnSt (w0 w : World) (B : Nat) (F : List Nat) (v : Value) (s : Ta) (ep : Int) (cv u : Value) : Prop where
  own : w.ownsRow B 3 1 u s.vs.length (iC (s.vs.map (·.1)))
  tl : TlAt F w v s
  cf : CvAt w w0.heap.size ep cv
  bel : Below w0.heap.size w0 w
  far : ∀ b, b ∈ F → w0.heap.size < b ∧ b < B
  le : B ≤ w.heap.size
theorem EnSt.keep {w0 w w' : World} {B : Nat} {F : List Nat} {v : Value} {s : Ta} {ep : Int} {cv u : Value} (h : EnSt w0 w B F v s ep cv u) (hb : Below w.heap.size w w') : EnSt w0 w' B F v s ep cv u :=
  ⟨ownsRow_keep h.own hb, h.tl.keep hb, h.cf.keep hb, h.bel.trans (hb.mono h.bel.size), h.far, Nat.le_trans h.le hb.size⟩
/-- What a vote leaves, ahead of who voted being written. -/
structure EmSt (w0 w : World) (B : Nat) (F : List Nat) (v : Value) (s s2 : Ta) (ep : Int) (cv u : Value) : Prop where
  own : w.ownsRow B 3 1 u s.vs.length (iC (s.vs.map (·.1)))
  tl : TlAt F w v s2
  cf : CvAt w w0.heap.size ep cv
  bel : Below w0.heap.size w0 w
  far : ∀ b, b ∈ F → w0.heap.size < b ∧ b < B
  le : B ≤ w.heap.size
theorem EmSt.keep {w0 w w' : World} {B : Nat} {F : List Nat} {v : Value} {s s2 : Ta} {ep : Int} {cv u : Value} (h : EmSt w0 w B F v s s2 ep cv u) (hb : Below w.heap.size w w') : EmSt w0 w' B F v s s2 ep cv u :=
  ⟨ownsRow_keep h.own hb, h.tl.keep hb, h.cf.keep hb, h.bel.trans (hb.mono h.bel.size), h.far, Nat.le_trans h.le hb.size⟩
theorem own_out {w w' : World} {F : List Nat} {B : Nat} {e : TypeId} {sz : Nat} {v : Value} {n : Nat} {xs : List Value} (h : w.ownsRow B e sz v n xs) (ho : Out F w w') (hF : ∀ b, b ∈ F → b < B) : w'.ownsRow B e sz v n xs := by
  refine ⟨h.1, ?_⟩
  rcases h.2 with hn | ⟨g, cap, cur, hv, hB, hh, hr⟩
  · exact .inl hn
  · exact .inr ⟨g, cap, cur, hv, hB, (ho.block g (lt_of_blk hh) (fun hm => by have := hF g hm; omega)).trans hh, hr⟩
theorem EnSt.vote {w0 w w' : World} {B : Nat} {F : List Nat} {v : Value} {s s2 : Ta} {ep : Int} {cv u : Value} (h : EnSt w0 w B F v s ep cv u) (ho : Out F w w') (ht : TlAt F w' v s2) : EmSt w0 w' B F v s s2 ep cv u :=
  ⟨own_out h.own ho (fun b hb => (h.far b hb).2), ht, (ho.block _ (lt_of_blk h.cf) (fun hm => by have := (h.far _ hm).1; omega)).trans h.cf,
   ⟨ho.os.trans h.bel.os, ho.tape.trans h.bel.tape, ho.output.trans h.bel.output, Nat.le_trans h.bel.size ho.size, fun k hk => (ho.block k (Nat.lt_of_lt_of_le hk h.bel.size) (fun hm => by have := (h.far k hm).1; omega)).trans (h.bel.block k hk)⟩, h.far, Nat.le_trans h.le ho.size⟩
/-- One more who voted. -/
theorem EmSt.more {w0 w w' : World} {B : Nat} {F : List Nat} {v : Value} {s s2 : Ta} {ep : Int} {cv u u' : Value} (h : EmSt w0 w B F v s s2 ep cv u) (hg : w.grownBy w' u.ownBlock) (ho : w'.ownsRow B 3 1 u' s2.vs.length (iC (s2.vs.map (·.1)))) : EnSt w0 w' B F v s2 ep cv u' := by
  have hu : ∀ k, u.ownBlock = some k → B ≤ k := fun k hk => (h.own.lt k hk).1
  have hlow : Below B w w' := ⟨hg.os, hg.tape, hg.output, hg.size, fun k hk => hg.block k (Nat.lt_of_lt_of_le hk h.le) (fun e => by have := hu k e.symm; omega)⟩
  have hB0 : w0.heap.size < B ∨ F = [] := by
    cases F with
    | nil => exact .inr rfl
    | cons b F => exact .inl (by have := h.far b (List.mem_cons_self ..); omega)
  rcases hB0 with hB0 | hF
  · exact ⟨ho, h.tl.stay hg.size (fun b hb => hlow.block b (h.far b hb).2), (hlow.block _ hB0).trans h.cf, h.bel.trans (hlow.mono (by omega)), h.far, Nat.le_trans h.le hg.size⟩
  · obtain ⟨g, m, am, cm, _, e, _⟩ := h.tl
    rw [hF] at e
    cases e
/-- A cell of a block that is none of these is written. -/
theorem EnSt.setp {w0 w : World} {B : Nat} {F : List Nat} {v : Value} {s : Ta} {ep : Int} {cv u : Value} (h : EnSt w0 w B F v s ep cv u) (p o : Nat) (x : Value) (h1 : B ≤ p) (h2 : ∀ k, u.ownBlock = some k → k < p) (h3 : w0.heap.size < p) : EnSt w0 (w.setCell ⟨p, o, none⟩ x) B F v s ep cv u := by
  have hoth : ∀ k, k ≠ p → (w.setCell ⟨p, o, none⟩ x).heap[k]? = w.heap[k]? := fun k hk => Below.heap_setCell _ _ _ _ hk
  refine ⟨⟨h.own.1, ?_⟩, h.tl.stay (by simp) (fun b hb => hoth b (by have := (h.far b hb).2; omega)), (hoth _ (by omega)).trans h.cf, h.bel.setCell (by show w0.heap.size ≤ p; omega) _, h.far, by simpa using h.le⟩
  rcases h.own.2 with hn | ⟨g, cap, cur, hv, hB, hh, hr⟩
  · exact .inl hn
  · exact .inr ⟨g, cap, cur, hv, hB, (hoth g (by have := h2 g (by rw [hv]; rfl); omega)).trans hh, hr⟩
def bA (t C : ByteArray) : Bl := (t, C)
def tA (t : ByteArray) (j : Nat) : ByteArray := if j % 4 = 3 then t ++ qmark else t
structure EnIn (ep : Int) (l : List Int) (t C : ByteArray) (s : Ta) : Prop where
  ok : TOk s
  ep : s.ep = ep
  mem : s.mem = l
  two : ∀ v ∈ s.vs, v.2 = (t, C) ∨ v.2 = (t ++ qmark, C)
theorem q_ne (t C : ByteArray) : ((t, C) : Bl) ≠ (t ++ qmark, C) := fun e => by
  have h : (t ++ qmark).size = t.size + qmark.size := ByteArray.size_append
  rw [← (Prod.mk.inj e).1] at h
  have : qmark.size = 1 := rfl
  omega
theorem EnIn.sum {ep : Int} {l : List Int} {t C : ByteArray} {s : Ta} (h : EnIn ep l t C s) : cntB s.vs (t, C) + cntB s.vs (t ++ qmark, C) = s.vs.length := by
  have h2 := h.two
  generalize s.vs = vs at h2 ⊢
  induction vs with
  | nil => rfl
  | cons v vs ih =>
    have ih := ih (fun v hv => h2 v (List.mem_cons_of_mem _ hv))
    simp only [cntB, List.countP_cons, List.length_cons] at ih ⊢
    rcases h2 v (List.mem_cons_self ..) with e | e
    · simp only [e, decide_true, if_true, q_ne, decide_false]
      simp
      omega
    · have : ¬ ((t ++ qmark, C) : Bl) = (t, C) := fun e => q_ne t C e.symm
      simp only [e, decide_true, if_true, this, decide_false]
      simp
      omega
/-- A quorum just where so many voted alike. -/
theorem EnIn.ch {ep : Int} {l : List Int} {t C : ByteArray} {s : Ta} (h : EnIn ep l t C s) : chF s = (decide (quoT s ≤ (cntB s.vs (t, C) : Int)) || decide (quoT s ≤ (cntB s.vs (t ++ qmark, C) : Int))) := by
  rw [Bool.eq_iff_iff, chF_iff h.ok, Bool.or_eq_true, decide_eq_true_iff, decide_eq_true_iff]
  constructor
  · rintro ⟨b, hb⟩
    obtain ⟨v, hv, e⟩ := cntB_pos (vs := s.vs) (b := b) (by have := quoT_pos h.ok; omega)
    rcases h.two v hv with e2 | e2
    · left; rw [← e2, e]; exact hb
    · right; rw [← e2, e]; exact hb
  · rintro (hb | hb)
    · exact ⟨_, hb⟩
    · exact ⟨_, hb⟩
theorem tA_size (t : ByteArray) (j : Nat) : (tA t j).size ≤ t.size + 1 ∧ t.size ≤ (tA t j).size := by
  rw [tA]
  split
  · have h : (t ++ qmark).size = t.size + qmark.size := ByteArray.size_append
    have : qmark.size = 1 := rfl
    omega
  · omega
theorem EnIn.add {ep : Int} {l : List Int} {t C : ByteArray} {s : Ta} (h : EnIn ep l t C s) (j : Nat) (f : Int) (ht : t.size + 1 ≤ 140737488355328) (h0 : 0 < t.size) (hr : rightC (ep + 1) l = true) (hC : C = textC (ep + 1) l) :
    voB ep l (tA t j) l = true ∧ voC ep l (tA t j) l = C ∧
    ((f ∈ l ∧ voted s.vs f = false) → addE s f (tA t j) l (sgOf f (voS ep l (tA t j) l) C 0) = 0 ∧ added s f (tA t j) l (sgOf f (voS ep l (tA t j) l) C 0) = ⟨ep, l, s.vs ++ [(f, (tA t j, C))]⟩) ∧
    (¬ (f ∈ l ∧ voted s.vs f = false) → addE s f (tA t j) l (sgOf f (voS ep l (tA t j) l) C 0) ≠ 0 ∧ added s f (tA t j) l (sgOf f (voS ep l (tA t j) l) C 0) = s) := by
  have hs := tA_size t j
  have h1 : rightC ep l = true := by rw [← h.ep, ← h.mem]; exact h.ok.right
  have hv : voB ep l (tA t j) l = true := by rw [voB, h1, hr, decide_eq_true (by omega)]; rfl
  have hc : voC ep l (tA t j) l = C := by rw [voC, if_pos hv, hC]
  have hsg : sgOf f (voS ep l (tA t j) l) C 0 = twoS f (voS s.ep s.mem (tA t j) l) (voC s.ep s.mem (tA t j) l) := by rw [h.ep, h.mem, hc]; rfl
  have hE : addE s f (tA t j) l (sgOf f (voS ep l (tA t j) l) C 0) = (if hasM l f then (if voted s.vs f then 7 else 0) else 8) := by
    rw [addE, if_pos hsg, h.ep, h.mem, if_pos hv]
  refine ⟨hv, hc, fun ⟨k1, k2⟩ => ?_, fun hn => ?_⟩
  · have hE0 : addE s f (tA t j) l (sgOf f (voS ep l (tA t j) l) C 0) = 0 := by rw [hE, if_pos (show hasM l f = true from decide_eq_true k1), k2]; rfl
    refine ⟨hE0, ?_⟩
    rw [added, if_pos hE0, h.ep, h.mem, hc]
  · have hE0 : addE s f (tA t j) l (sgOf f (voS ep l (tA t j) l) C 0) ≠ 0 := by
      rw [hE]
      by_cases k1 : f ∈ l
      · cases k2 : voted s.vs f with
        | false => exact absurd ⟨k1, k2⟩ hn
        | true => rw [if_pos (show hasM l f = true from decide_eq_true k1)]; decide
      · rw [if_neg (by rw [hasM, decide_eq_false k1]; decide)]; decide
    exact ⟨hE0, by rw [added, if_neg hE0]⟩
theorem EnIn.next {ep : Int} {l : List Int} {t C : ByteArray} {s : Ta} (h : EnIn ep l t C s) (j : Nat) (f : Int) (ht : t.size + 1 ≤ 140737488355328) (h0 : 0 < t.size) (hr : rightC (ep + 1) l = true) (hC : C = textC (ep + 1) l) (k : f ∈ l ∧ voted s.vs f = false) : EnIn ep l t C ⟨ep, l, s.vs ++ [(f, (tA t j, C))]⟩ := by
  obtain ⟨_, _, h3, _⟩ := h.add j f ht h0 hr hC
  have hs := tA_size t j
  have hok := h.ok.add (f := f) (t := tA t j) (by omega) (nx := l) (sg := sgOf f (voS ep l (tA t j) l) C 0)
  rw [(h3 k).2] at hok
  refine ⟨hok, rfl, rfl, fun v hv => ?_⟩
  rcases List.mem_append.1 hv with hv | hv
  · exact h.two v hv
  · rw [List.mem_singleton.1 hv]
    show (tA t j, C) = _ ∨ (tA t j, C) = _
    rw [tA]
    split
    · exact .inr rfl
    · exact .inl rfl
end Go.Proofs.Ytkceihnjnjbceaa
