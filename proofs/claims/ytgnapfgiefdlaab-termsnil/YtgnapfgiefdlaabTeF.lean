/- The document's Gather. -/
import Derived.Test.YtgnapfgiefdlaabTeE
import Derived.Test.YtgnapfgiefdlaabTeB
import Derived.Test.YtgnapfgiefdlaabCoE
import Derived.Test.YtgnapfgiefdlaabBaE
namespace Go.Proofs.Ytgnapfgiefdlaab
open Go.RowKit

theorem Try.info23 : (Try.prog.info? 23).map (fun i => (i.zero, i.size, i.bytes)) = some (some (.agg #[.int .i64 0, .string ⟨#[]⟩]), 2, 24) := by kernel_rfl
theorem own_pairsT {w : World} {B : Nat} {v : Value} {ps : List (Int × ByteArray)} {T : TypeId} (h : w.ownsRow B T 2 v ps.length (pC ps)) : ∃ ad cap, v = .slice ad ps.length cap ∧ PairsIn w ad ps := by
  rcases h.2 with ⟨hv, h0⟩ | ⟨g, cap, cur, hv, hB, hh, hx⟩
  · exact ⟨none, 0, by rw [hv, h0], .inl (List.eq_nil_of_length_eq_zero h0)⟩
  · refine ⟨_, cap, hv, .inr ⟨g, 0, rfl, lt_of_blk hh, fun j p hj => ?_⟩⟩
    subst hv
    have h1 := h.cells (g := g) rfl _ _ (pC_get ps j p hj).1
    have h2 := h.cells (g := g) rfl _ _ (pC_get ps j p hj).2
    rw [Addr.add_lit] at h1 h2
    exact ⟨h1, by rw [Nat.add_assoc]; exact h2⟩
/-! Sorting in place: all but the k-th of the first i + 1 rise. -/
theorem getD_set (L : List Int) (k j : Nat) (y : Int) (hk : k < L.length) : (L.set k y).getD j 0 = if j = k then y else L.getD j 0 := by
  rw [List.getD_eq_getElem?_getD, List.getD_eq_getElem?_getD, List.getElem?_set]
  by_cases h : k = j
  · rw [if_pos h, if_pos hk, if_pos h.symm]; rfl
  · rw [if_neg h, if_neg (fun e => h e.symm)]
def srt (L : List Int) (i k : Nat) : Prop := ∀ a b, a < b → b ≤ i → b ≠ k → L.getD a 0 < L.getD b 0
def rose (L : List Int) (i : Nat) : Prop := ∀ a b, a < b → b < i → L.getD a 0 < L.getD b 0
theorem rose.srt {L : List Int} {i : Nat} (h : rose L i) : srt L i i := fun a b h1 h2 h3 => h a b h1 (by omega)
def swp (L : List Int) (k : Nat) : List Int := (L.set (k + 1) (L.getD k 0)).set k (L.getD (k + 1) 0)
theorem swp_len (L : List Int) (k : Nat) : (swp L k).length = L.length := by simp [swp]
theorem swp_get (L : List Int) (k j : Nat) (hk : k + 1 < L.length) : (swp L k).getD j 0 = if j = k then L.getD (k + 1) 0 else if j = k + 1 then L.getD k 0 else L.getD j 0 := by
  rw [swp, getD_set _ _ _ _ (by simp; omega), getD_set _ _ _ _ hk]
theorem swp_perm (L : List Int) (k : Nat) (hk : k + 1 < L.length) : (swp L k).Perm L := by
  have := List.set_set_perm hk (show k < L.length by omega)
  rw [swp, getD_get L k (by omega), getD_get L (k + 1) hk]
  exact this
theorem srt.swp {L : List Int} {i k : Nat} (h : srt L i (k + 1)) (hi : i < L.length) (hk : k + 1 ≤ i) (hg : L.getD (k + 1) 0 < L.getD k 0) : srt (swp L k) i k := fun a b h1 h2 h3 => by
  rw [swp_get L k a (by omega), swp_get L k b (by omega)]
  rw [if_neg h3]
  by_cases hb : b = k + 1
  · rw [if_pos hb]
    by_cases ha : a = k
    · rw [if_pos ha]; exact hg
    · rw [if_neg ha, if_neg (by omega)]
      exact h a k (by omega) (by omega) (by omega)
  · rw [if_neg hb]
    by_cases ha : a = k
    · rw [if_pos ha]; exact h (k + 1) b (by omega) h2 hb
    · rw [if_neg ha]
      by_cases ha2 : a = k + 1
      · rw [if_pos ha2]; exact h k b (by omega) h2 hb
      · rw [if_neg ha2]; exact h a b h1 h2 hb
theorem srt.first {L : List Int} {i : Nat} (h : srt L i 0) : rose L (i + 1) := fun a b h1 h2 => h a b h1 (by omega) (by omega)
theorem srt.here {L : List Int} {i k : Nat} (h : srt L i (k + 1)) (hd : L.Nodup) (hi : i < L.length) (hk : k + 1 ≤ i) (hg : ¬ (L.getD (k + 1) 0 < L.getD k 0)) : rose L (i + 1) := fun a b h1 h2 => by
  have hne : L.getD k 0 ≠ L.getD (k + 1) 0 := fun e => by
    rw [getD_get L k (by omega), getD_get L (k + 1) (by omega)] at e
    exact List.pairwise_iff_getElem.1 hd k (k + 1) (by omega) (by omega) (by omega) e
  by_cases hb : b = k + 1
  · subst hb
    by_cases ha : a = k
    · subst ha; omega
    · have := h a k (by omega) (by omega) (by omega)
      omega
  · exact h a b h1 (by omega) hb
theorem rose.inc {L : List Int} (h : rose L L.length) : Inc L := List.pairwise_iff_getElem.2 (fun a b ha hb hab => by
  have := h a b hab hb
  rwa [getD_get L a ha, getD_get L b hb] at this)
/-! .. in memory. -/
theorem pC_set (ps : List (Int × ByteArray)) : ∀ (k : Nat) (p : Int × ByteArray), (((pC ps).set (k * 2) (.int .i64 p.1)).set (k * 2 + 1) (.string p.2)) = pC (ps.set k p) := by
  induction ps with
  | nil => intro k p; rfl
  | cons q ps ih =>
    intro k p
    cases k with
    | zero => rfl
    | succ k =>
      rw [pC_cons, show (k + 1) * 2 = k * 2 + 1 + 1 by omega, List.set_cons_succ, List.set_cons_succ, List.set_cons_succ, List.set_cons_succ, ih k p, List.set_cons_succ, pC_cons]
theorem gP_set (t : ByteArray) (L : List Int) (k : Nat) (x : Int) : gP t (L.set k x) = (gP t L).set k (x, t) := by simp [gP, List.map_set]
theorem own_cellset {w : World} {B z : Nat} {g cp n : Nat} {xs : List Value} {e : TypeId} (h : w.ownsRow B e z (.slice (some ⟨g, 0, none⟩) n cp) n xs) (o : Nat) (x : Value) : (w.setCell ⟨g, o, none⟩ x).ownsRow B e z (.slice (some ⟨g, 0, none⟩) n cp) n (xs.set o x) := by
  refine ⟨by rw [List.length_set]; exact h.1, ?_⟩
  rcases h.2 with ⟨hv, _⟩ | ⟨g', cap, cur, hv, hB, hh, hc1, hc2, hc3, hc4⟩
  · exact absurd hv (by simp)
  · cases hv
    refine .inr ⟨g, cp, _, rfl, hB, (blk_set hh o x).trans rfl, hc1, hc2, by simp [hc3], ?_⟩
    rw [← hc4]
    simp [List.take_set]
theorem own_two {w : World} {B : Nat} {g cp n : Nat} {ps : List (Int × ByteArray)} {e : TypeId} (h : w.ownsRow B e 2 (.slice (some ⟨g, 0, none⟩) n cp) n (pC ps)) (k : Nat) (p : Int × ByteArray) : ((w.setCell ⟨g, k * 2, none⟩ (.int .i64 p.1)).setCell ⟨g, k * 2 + 1, none⟩ (.string p.2)).ownsRow B e 2 (.slice (some ⟨g, 0, none⟩) n cp) n (pC (ps.set k p)) := by
  have := own_cellset (own_cellset h (k * 2) (.int .i64 p.1)) (k * 2 + 1) (.string p.2)
  rwa [pC_set] at this
theorem ownsRow_low {w : World} {B B' : Nat} {e : TypeId} {z : Nat} {v : Value} {n : Nat} {xs : List Value} (h : w.ownsRow B e z v n xs) (hB : B' ≤ B) : w.ownsRow B' e z v n xs := by
  refine ⟨h.1, ?_⟩
  rcases h.2 with hn | ⟨g, cap, cur, hv, hg, hx⟩
  · exact .inl hn
  · exact .inr ⟨g, cap, cur, hv, by omega, hx⟩
theorem below_drewN (w : World) (n : Nat) : Below w.heap.size w (w.drewN n) := ⟨rfl, rfl, rfl, Nat.le_refl _, fun _ _ => rfl⟩
/-- What is gathered so far lies in a row of its own. -/
structure GaSt (w0 w : World) (v : Value) (t : ByteArray) (O : List Int) : Prop where
  own : w.ownsRow w0.heap.size 23 2 v O.length (pC (gP t O))
  bel : Below w0.heap.size w0 w
theorem GaSt.keep {w0 w w' : World} {v : Value} {t : ByteArray} {O : List Int} (h : GaSt w0 w v t O) (hb : Below w.heap.size w w') : GaSt w0 w' v t O := ⟨ownsRow_keep h.own hb, h.bel.trans (hb.mono h.bel.size)⟩
theorem GaSt.pairs {w0 w : World} {v : Value} {t : ByteArray} {O : List Int} (h : GaSt w0 w v t O) : ∃ ad cap, v = .slice ad O.length cap ∧ PairsIn w ad (gP t O) := by
  obtain ⟨ad, cap, hv, hi⟩ := own_pairsT (ps := gP t O) (by rw [gP_len]; exact h.own)
  rw [gP_len] at hv
  exact ⟨ad, cap, hv, hi⟩
theorem GaSt.cells {w0 w : World} {g n cp : Nat} {t : ByteArray} {L : List Int} (h : GaSt w0 w (.slice (some ⟨g, 0, none⟩) n cp) t L) (k : Nat) (hk : k < L.length) : w.cell? ⟨g, k * 2, none⟩ = some (.int .i64 (L.getD k 0)) ∧ w.cell? ⟨g, k * 2 + 1, none⟩ = some (.string t) := by
  have hp : (gP t L)[k]? = some (L.getD k 0, t) := by rw [gP, List.getElem?_map, getD_some hk]; rfl
  have h1 := h.own.cells (g := g) rfl _ _ (pC_get _ k _ hp).1
  have h2 := h.own.cells (g := g) rfl _ _ (pC_get _ k _ hp).2
  rw [Addr.add_lit, Nat.zero_add] at h1 h2
  exact ⟨h1, h2⟩
theorem GaSt.blk {w0 w : World} {g n cp : Nat} {t : ByteArray} {L : List Int} (h : GaSt w0 w (.slice (some ⟨g, 0, none⟩) n cp) t L) : w0.heap.size ≤ g ∧ g < w.heap.size := h.own.lt g rfl
theorem GaSt.free {w0 w : World} {g n cp : Nat} {t : ByteArray} {L : List Int} (h : GaSt w0 w (.slice (some ⟨g, 0, none⟩) n cp) t L) (hn : L.length = n) (j : Nat) : w.frozen? ⟨g, j, none⟩ = false := by
  subst hn
  exact h.own.frozenAt j
theorem GaSt.put {w0 w : World} {g n cp : Nat} {t : ByteArray} {L : List Int} (h : GaSt w0 w (.slice (some ⟨g, 0, none⟩) n cp) t L) (hn : L.length = n) (k : Nat) (y : Int) : GaSt w0 ((w.setCell ⟨g, k * 2, none⟩ (.int .i64 y)).setCell ⟨g, k * 2 + 1, none⟩ (.string t)) (.slice (some ⟨g, 0, none⟩) n cp) t (L.set k y) := by
  subst hn
  refine ⟨?_, (h.bel.setCell h.blk.1 _).setCell h.blk.1 _⟩
  rw [List.length_set, gP_set]
  exact own_two h.own k (y, t)
end Go.Proofs.Ytgnapfgiefdlaab
