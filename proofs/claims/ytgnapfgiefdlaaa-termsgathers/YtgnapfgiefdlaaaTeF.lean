/- The document's Gather. -/
import Derived.Test.YtgnapfgiefdlaaaTeE
import Derived.Test.YtgnapfgiefdlaaaTeB
import Derived.Test.YtgnapfgiefdlaaaCoE
import Derived.Test.YtgnapfgiefdlaaaBaE
namespace Go.Proofs.Ytgnapfgiefdlaaa
open Go.RowKit

theorem Try.info34 : (Try.prog.info? 34).map (fun i => (i.zero, i.size, i.bytes)) = some (some (.agg #[.int .i64 0, .string ⟨#[]⟩]), 2, 24) := by kernel_rfl
theorem own_pairsT {w : World} {B : Nat} {v : Value} {ps : List (Int × ByteArray)} {T : TypeId} (h : w.ownsRow B T 2 v ps.length (pC ps)) : ∃ ad cap, v = .slice ad ps.length cap ∧ PairsIn w ad ps := by
  rcases h.2 with ⟨hv, h0⟩ | ⟨g, cap, cur, hv, hB, hh, hx⟩
  · exact ⟨none, 0, by rw [hv, h0], .inl (List.eq_nil_of_length_eq_zero h0)⟩
  · refine ⟨_, cap, hv, .inr ⟨g, 0, rfl, lt_of_blk hh, fun j p hj => ?_⟩⟩
    subst hv
    have h1 := h.cells (g := g) rfl _ _ (pC_get ps j p hj).1
    have h2 := h.cells (g := g) rfl _ _ (pC_get ps j p hj).2
    rw [Addr.add_lit] at h1 h2
    exact ⟨h1, by rw [Nat.add_assoc]; exact h2⟩
/-! Sorting in place: all but the k-th of the first i + 1 rise. -/
theorem getD_set (L : List Int) (k j : Nat) (y : Int) (hk : k < L.length) : (L.set k y).getD j 0 = if j = k then y else L.getD j 0 := by
  rw [List.getD_eq_getElem?_getD, List.getD_eq_getElem?_getD, List.getElem?_set]
  by_cases h : k = j
  · rw [if_pos h, if_pos hk, if_pos h.symm]; rfl
  · rw [if_neg h, if_neg (fun e => h e.symm)]
def srt (L : List Int) (i k : Nat) : Prop := ∀ a b, a < b → b ≤ i → b ≠ k → L.getD a 0 < L.getD b 0
def rose (L : List Int) (i : Nat) : Prop := ∀ a b, a < b → b < i → L.getD a 0 < L.getD b 0
theorem rose.srt {L : List Int} {i : Nat} (h : rose L i) : srt L i i := fun a b h1 h2 h3 => h a b h1 (by omega)
def swp (L : List Int) (k : Nat) : List Int := (L.set (k + 1) (L.getD k 0)).set k (L.getD (k + 1) 0)
theorem swp_len (L : List Int) (k : Nat) : (swp L k).length = L.length := by simp [swp]
theorem swp_get (L : List Int) (k j : Nat) (hk : k + 1 < L.length) : (swp L k).getD j 0 = if j = k then L.getD (k + 1) 0 else if j = k + 1 then L.getD k 0 else L.getD j 0 := by
  rw [swp, getD_set _ _ _ _ (by simp; omega), getD_set _ _ _ _ hk]
theorem swp_perm (L : List Int) (k : Nat) (hk : k + 1 < L.length) : (swp L k).Perm L := by
  have := List.set_set_perm hk (show k < L.length by omega)
  rw [swp, getD_get L k (by omega), getD_get L (k + 1) hk]
  exact this
theorem srt.swp {L : List Int} {i k : Nat} (h : srt L i (k + 1)) (hi : i < L.length) (hk : k + 1 ≤ i) (hg : L.getD (k + 1) 0 < L.getD k 0) : srt (swp L k) i k := fun a b h1 h2 h3 => by
  rw [swp_get L k a (by omega), swp_get L k b (by omega)]
  rw [if_neg h3]
  by_cases hb : b = k + 1
  · rw [if_pos hb]
    by_cases ha : a = k
    · rw [if_pos ha]; exact hg
    · rw [if_neg ha, if_neg (by omega)]
      exact h a k (by omega) (by omega) (by omega)
  · rw [if_neg hb]
    by_cases ha : a = k
    · rw [if_pos ha]; exact h (k + 1) b (by omega) h2 hb
    · rw [if_neg ha]
      by_cases ha2 : a = k + 1
      · rw [if_pos ha2]; exact h k b (by omega) h2 hb
      · rw [if_neg ha2]; exact h a b h1 h2 hb
theorem srt.first {L : List Int} {i : Nat} (h : srt L i 0) : rose L (i + 1) := fun a b h1 h2 => h a b h1 (by omega) (by omega)
theorem srt.here {L : List Int} {i k : Nat} (h : srt L i (k + 1)) (hd : L.Nodup) (hi : i < L.length) (hk : k + 1 ≤ i) (hg : ¬ (L.getD (k + 1) 0 < L.getD k 0)) : rose L (i + 1) := fun a b h1 h2 => by
  have hne : L.getD k 0 ≠ L.getD (k + 1) 0 := fun e => by
    rw [getD_get L k (by omega), getD_get L (k + 1) (by omega)] at e
    exact List.pairwise_iff_getElem.1 hd k (k + 1) (by omega) (by omega) (by omega) e
  by_cases hb : b = k + 1
  · subst hb
    by_cases ha : a = k
    · subst ha; omega
    · have := h a k (by omega) (by omega) (by omega)
      omega
  · exact h a b h1 (by omega) hb
theorem rose.inc {L : List Int} (h : rose L L.length) : Inc L := List.pairwise_iff_getElem.2 (fun a b ha hb hab => by
  have := h a b hab hb
  rwa [getD_get L a ha, getD_get L b hb] at this)
/-! .. in memory. -/
theorem pC_set (ps : List (Int × ByteArray)) : ∀ (k : Nat) (p : Int × ByteArray), (((pC ps).set (k * 2) (.int .i64 p.1)).set (k * 2 + 1) (.string p.2)) = pC (ps.set k p) := by
  induction ps with
  | nil => intro k p; rfl
  | cons q ps ih =>
    intro k p
    cases k with
    | zero => rfl
    | succ k =>
      rw [pC_cons, show (k + 1) * 2 = k * 2 + 1 + 1 by omega, List.set_cons_succ, List.set_cons_succ, List.set_cons_succ, List.set_cons_succ, ih k p, List.set_cons_succ, pC_cons]
theorem gP_set (t : ByteArray) (L : List Int) (k : Nat) (x : Int) : gP t (L.set k x) = (gP t L).set k (x, t) := by simp [gP, List.map_set]
theorem own_cellset {w : World} {B z : Nat} {g cp n : Nat} {xs : List Value} {e : TypeId} (h : w.ownsRow B e z (.slice (some ⟨g, 0, none⟩) n cp) n xs) (o : Nat) (x : Value) : (w.setCell ⟨g, o, none⟩ x).ownsRow B e z (.slice (some ⟨g, 0, none⟩) n cp) n (xs.set o x) := by
  refine ⟨by rw [List.length_set]; exact h.1, ?_⟩
  rcases h.2 with ⟨hv, _⟩ | ⟨g', cap, cur, hv, hB, hh, hc1, hc2, hc3, hc4⟩
  · exact absurd hv (by simp)
  · cases hv
    refine .inr ⟨g, cp, _, rfl, hB, (blk_set hh o x).trans rfl, hc1, hc2, by simp [hc3], ?_⟩
    rw [← hc4]
    simp [List.take_set]
theorem own_two {w : World} {B : Nat} {g cp n : Nat} {ps : List (Int × ByteArray)} {e : TypeId} (h : w.ownsRow B e 2 (.slice (some ⟨g, 0, none⟩) n cp) n (pC ps)) (k : Nat) (p : Int × ByteArray) : ((w.setCell ⟨g, k * 2, none⟩ (.int .i64 p.1)).setCell ⟨g, k * 2 + 1, none⟩ (.string p.2)).ownsRow B e 2 (.slice (some ⟨g, 0, none⟩) n cp) n (pC (ps.set k p)) := by
  have := own_cellset (own_cellset h (k * 2) (.int .i64 p.1)) (k * 2 + 1) (.string p.2)
  rwa [pC_set] at this
theorem ownsRow_low {w : World} {B B' : Nat} {e : TypeId} {z : Nat} {v : Value} {n : Nat} {xs : List Value} (h : w.ownsRow B e z v n xs) (hB : B' ≤ B) : w.ownsRow B' e z v n xs := by
  refine ⟨h.1, ?_⟩
  rcases h.2 with hn | ⟨g, cap, cur, hv, hg, hx⟩
  · exact .inl hn
  · exact .inr ⟨g, cap, cur, hv, by omega, hx⟩
theorem below_drewN (w : World) (n : Nat) : Below w.heap.size w (w.drewN n) := ⟨rfl, rfl, rfl, Nat.le_refl _, fun _ _ => rfl⟩
/-- What is gathered so far lies in a row of its own. -/
structure GaSt (w0 w : World) (v : Value) (t : ByteArray) (O : List Int) : Prop where
  own : w.ownsRow w0.heap.size 34 2 v O.length (pC (gP t O))
  bel : Below w0.heap.size w0 w
theorem GaSt.keep {w0 w w' : World} {v : Value} {t : ByteArray} {O : List Int} (h : GaSt w0 w v t O) (hb : Below w.heap.size w w') : GaSt w0 w' v t O := ⟨ownsRow_keep h.own hb, h.bel.trans (hb.mono h.bel.size)⟩
theorem GaSt.pairs {w0 w : World} {v : Value} {t : ByteArray} {O : List Int} (h : GaSt w0 w v t O) : ∃ ad cap, v = .slice ad O.length cap ∧ PairsIn w ad (gP t O) := by
  obtain ⟨ad, cap, hv, hi⟩ := own_pairsT (ps := gP t O) (by rw [gP_len]; exact h.own)
  rw [gP_len] at hv
  exact ⟨ad, cap, hv, hi⟩
theorem GaSt.cells {w0 w : World} {g n cp : Nat} {t : ByteArray} {L : List Int} (h : GaSt w0 w (.slice (some ⟨g, 0, none⟩) n cp) t L) (k : Nat) (hk : k < L.length) : w.cell? ⟨g, k * 2, none⟩ = some (.int .i64 (L.getD k 0)) ∧ w.cell? ⟨g, k * 2 + 1, none⟩ = some (.string t) := by
  have hp : (gP t L)[k]? = some (L.getD k 0, t) := by rw [gP, List.getElem?_map, getD_some hk]; rfl
  have h1 := h.own.cells (g := g) rfl _ _ (pC_get _ k _ hp).1
  have h2 := h.own.cells (g := g) rfl _ _ (pC_get _ k _ hp).2
  rw [Addr.add_lit, Nat.zero_add] at h1 h2
  exact ⟨h1, h2⟩
theorem GaSt.blk {w0 w : World} {g n cp : Nat} {t : ByteArray} {L : List Int} (h : GaSt w0 w (.slice (some ⟨g, 0, none⟩) n cp) t L) : w0.heap.size ≤ g ∧ g < w.heap.size := h.own.lt g rfl
theorem GaSt.free {w0 w : World} {g n cp : Nat} {t : ByteArray} {L : List Int} (h : GaSt w0 w (.slice (some ⟨g, 0, none⟩) n cp) t L) (hn : L.length = n) (j : Nat) : w.frozen? ⟨g, j, none⟩ = false := by
  subst hn
  exact h.own.frozenAt j
theorem GaSt.put {w0 w : World} {g n cp : Nat} {t : ByteArray} {L : List Int} (h : GaSt w0 w (.slice (some ⟨g, 0, none⟩) n cp) t L) (hn : L.length = n) (k : Nat) (y : Int) : GaSt w0 ((w.setCell ⟨g, k * 2, none⟩ (.int .i64 y)).setCell ⟨g, k * 2 + 1, none⟩ (.string t)) (.slice (some ⟨g, 0, none⟩) n cp) t (L.set k y) := by
  subst hn
  refine ⟨?_, (h.bel.setCell h.blk.1 _).setCell h.blk.1 _⟩
  rw [List.length_set, gP_set]
  exact own_two h.own k (y, t)
set_option maxRecDepth 100000 in
set_option maxHeartbeats 3200000 in
theorem wgather_any (ep : Int) (a : Option Addr) (n cap : Nat) (l : List Int) (hn : l.length = n) (hm : n ≤ maxLen) (t : ByteArray) (b : Option Addr) (m cp : Nat) (ss : List (Int × ByteArray)) (hsn : ss.length = m) (hsm : m * 24 ≤ 140737488355328) (w : World) (hI : IntsIn w a l) (hP : PairsIn w b ss) :
    Calls Try.prog 13 #[.agg #[.int .i64 ep, .slice a n cap], .string t, .slice b m cp] w fun e w' => ∃ v, e = .returned v ∧ w'.ownsRow w.heap.size 34 2 v (gathL l t ss).length (pC (gP t (gathL l t ss))) ∧ Below w.heap.size w w' := by
  have hm2 : (n : Int) ≤ 9223372036854775807 := by unfold maxLen at hm; omega
  have HF := hid (conf_cells w (.int .i64 ep) (.slice a n cap))
  have HI := hid (And.intro hI hn)
  have HS : Hid (∀ (x : Int) (u : World), PairsIn u b ss → Calls Try.prog 27 #[.slice b m cp, .agg #[.int .i64 x, .string t]] u fun e w' => e = .returned (.bool (stands ss (x, t))) ∧ Below u.heap.size u w') := hid (fun x u hu => wstands_any b m cp ss hsn (by unfold maxLen; omega) x t u hu)
  have HP := hid hP
  clear hI hP
  go_enter Try.func13, Try.ntmps13
  go_wp2
  obtain ⟨i0, hi0, hz0, hz1, hz2⟩ := info_parts Try.info34
  obtain ⟨W, eW⟩ : ∃ W, W = w.alloc (.cells #[.int .i64 ep, .slice a n cap] 24) := ⟨_, rfl⟩
  have HW : Hid (W.heap[w.heap.size]? = some (.cells [.int .i64 ep, .slice a n cap].toArray 24 (0, 0)) ∧ W.heap.size = w.heap.size + 1 ∧ Below w.heap.size w W ∧ IntsIn W a l ∧ PairsIn W b ss) := hid (by
    rw [eW]
    exact ⟨HF.out, by simp, (Below.refl _ _).alloc (Nat.le_refl _) _, HI.out.1.alloc _, HP.out.keep ((Below.refl _ _).alloc (Nat.le_refl _) _) (Nat.le_refl _)⟩)
  rw [← eW]
  clear eW HF
  go_loopw [7, 8] (fun v i wr => ∃ j : Nat, j ≤ n ∧ i = .int .i64 (j : Int) ∧ GaSt W wr v t (gOut l t ss j))
    (fun _ i _ => ((n : Int) - intOf i).toNat)
  case atStart => exact ⟨0, by omega, rfl, ⟨⟨rfl, .inl ⟨rfl, rfl⟩⟩, Below.refl _ _⟩⟩
  case round =>
    obtain ⟨j, hj, rfl, hO⟩ := hrel
    have HO := hid hO
    clear hO
    have c1 : wr.cell? ⟨w.heap.size, 1, none⟩ = some (.slice a n cap) := cell_at (L := [.int .i64 ep, .slice a n cap]) ((HO.out.bel.block _ (lt_of_blk HW.out.1)).trans HW.out.1) 1 _ rfl
    by_cases hjn : j = n
    · have hj1 : ¬ ((j : Int) < (n : Int)) := by omega
      have hO := HO.out
      rw [hjn] at hO
      obtain ⟨O, eO⟩ : ∃ O, O = gOut l t ss n := ⟨_, rfl⟩
      rw [← eO] at hO
      have hOl : O.length ≤ m := by rw [eO, ← hsn]; exact gOut_le l t ss n (by rw [HI.out.2]; omega)
      have hOd : O.Nodup := by rw [eO]; exact gOut_nodup l t ss n
      have HG : Hid (∀ S, Inc S → (∀ z, z ∈ S ↔ z ∈ O) → S = gathL l t ss) := hid (fun S h1 h2 => gathL_eq h1 (fun z => by rw [h2, eO, HI.out.2]))
      have HQ := hid hO
      clear hj hjn hO HO eO
      obtain ⟨ao, co, hu7, _⟩ := HQ.out.pairs
      subst hu7
      have HD := hid hOd
      have hO0 : (O.length : Int) ≤ 9223372036854775806 := by omega
      have hO1 : (0 : Int) ≤ (O.length : Int) := Int.natCast_nonneg _
      have HZ : Hid (GaSt W wr (.slice ao O.length co) t O) := HQ
      clear HQ hOd hOl
      go_wp2
      clear c1 hj1
      go_loopw [10] (fun i wr => ∃ (p : Nat) (L : List Int), p ≤ O.length ∧ i = .int .i64 (p : Int) ∧ L.length = O.length ∧ GaSt W wr (.slice ao O.length co) t L ∧ L.Perm O ∧ rose L p)
        (fun i _ => ((O.length : Int) - intOf i).toNat)
      case atStart => exact ⟨0, O, by omega, rfl, rfl, HZ.out, .refl _, fun a b h1 h2 => by omega⟩
      case round =>
        obtain ⟨p, L, hp, rfl, hL, hG, hpm, hro⟩ := hrel
        by_cases hpn : p = O.length
        · have HE : Hid (L = gathL l t ss) := hid (HG.out L (by rw [hpn, ← hL] at hro; exact hro.inc) (fun z => hpm.mem_iff))
          have HL := hid (And.intro hG hL)
          have hp1 : ¬ ((p : Int) < (O.length : Int)) := by omega
          clear hG hpm hro hp hL hpn
          go_wp2
          go_ret
          exact ⟨_, rfl, by rw [← HE.out, HL.out.2]; have := HL.out.1.own; rw [HL.out.2] at this; exact ownsRow_low this (by have := HW.out.2.1; omega), HW.out.2.2.1.trans (HL.out.1.bel.mono (by have := HW.out.2.1; omega))⟩
        · have hp1 : (p : Int) < (O.length : Int) := by omega
          have hp0 : (0 : Int) ≤ (p : Int) := Int.natCast_nonneg _
          have HJ := hid (And.intro hp hpn)
          have HL := hid hL
          have HK : Hid (GaSt W wr (.slice ao O.length co) t L ∧ L.Perm O ∧ srt L p p) := hid ⟨hG, hpm, hro.srt⟩
          obtain ⟨g, rfl, HB⟩ : ∃ g, ao = some ⟨g, 0, none⟩ ∧ Hid (W.heap.size ≤ g) := by
            rcases hG.own.2 with ⟨hv, h0⟩ | ⟨g, cap, cur, hv, hB, _⟩
            · omega
            · have e : ao = some ⟨g, 0, none⟩ := by injection hv
              exact ⟨g, e, hid hB⟩
          clear hG hpm hro hp hL hpn
          go_wp2
          go_loopw [11] (fun k wr => ∃ (q : Nat) (L : List Int), q ≤ p ∧ k = .int .i64 (q : Int) ∧ L.length = O.length ∧ GaSt W wr (.slice (some ⟨g, 0, none⟩) O.length co) t L ∧ L.Perm O ∧ srt L p q)
            (fun k _ => (intOf k).toNat)
          case atStart => exact ⟨p, L, by omega, rfl, HL.out, HK.out.1, HK.out.2.1, HK.out.2.2⟩
          case round =>
            obtain ⟨q, M, hq, rfl, hM, hG, hpm, hsr⟩ := hrel
            by_cases hq0 : q = 0
            · subst hq0
              have HN : Hid (M.length = O.length ∧ GaSt W wr (.slice (some ⟨g, 0, none⟩) O.length co) t M ∧ M.Perm O ∧ rose M (p + 1)) := hid ⟨hM, hG, hpm, hsr.first⟩
              clear hM hG hpm hsr hq
              go_wp2
              go_quiet (fail)
              go_wp2
              go_roundw
              case rel => exact ⟨p + 1, M, by have := HJ.out; omega, by go_num, HN.out.1, HN.out.2.1.keep (below_drewN _ _), HN.out.2.2⟩
              case measure => simp [intOf]; omega
            · obtain ⟨r, er⟩ : ∃ r, q = r + 1 := ⟨q - 1, by omega⟩
              have hqM : q < M.length := by omega
              have HC : Hid ((wr.cell? ⟨g, r * 2, none⟩ = some (.int .i64 (M.getD r 0)) ∧ wr.cell? ⟨g, r * 2 + 1, none⟩ = some (.string t)) ∧ wr.cell? ⟨g, q * 2, none⟩ = some (.int .i64 (M.getD q 0)) ∧ wr.cell? ⟨g, q * 2 + 1, none⟩ = some (.string t)) := hid ⟨GaSt.cells hG r (by omega), GaSt.cells hG q hqM⟩
              have hyes : M.getD q 0 < M.getD r 0 → srt (swp M r) p r := by rw [er] at hsr ⊢; exact hsr.swp (by omega) (by omega)
              have hno : ¬ (M.getD q 0 < M.getD r 0) → rose M (p + 1) := by rw [er] at hsr ⊢; exact hsr.here (hpm.nodup_iff.2 HD.out) (by omega) (by omega)
              obtain ⟨c0, c1⟩ := HC.out.1
              obtain ⟨d0, d1⟩ := HC.out.2
              obtain ⟨y, ey⟩ : ∃ y, y = M.getD r 0 := ⟨_, rfl⟩
              obtain ⟨x, ex⟩ : ∃ x, x = M.getD q 0 := ⟨_, rfl⟩
              rw [← ey] at c0
              rw [← ex] at d0
              rw [← ex, ← ey] at hyes hno
              have h1 : (q : Int) - 1 = (r : Int) := by omega
              have h2 : (0 : Int) < (q : Int) := by omega
              have h7 : 0 < q := by omega
              have h3 : (0 : Int) ≤ (r : Int) := Int.natCast_nonneg _
              have h4 : (r : Int) < (O.length : Int) := by omega
              have h5 : (q : Int) < (O.length : Int) := by omega
              have h6 : (0 : Int) ≤ (q : Int) := Int.natCast_nonneg _
              have HM := hid (And.intro hM (And.intro hG hpm))
              have HQq := hid (And.intro hq er)
              have HX := hid (And.intro ex ey)
              clear hM hG hpm hsr hq HC hqM ex ey er
              by_cases hlt : x < y
              · have HY := hid (hyes hlt)
                clear hyes hno
                go_wp2
                go_quiet (fail)
                obtain ⟨u, eu⟩ : ∃ u, u = wr.drewN nq := ⟨_, rfl⟩
                rw [← eu]
                have HU : Hid (GaSt W u (.slice (some ⟨g, 0, none⟩) O.length co) t M) := hid (by rw [eu]; exact HM.out.2.1.keep (below_drewN _ _))
                replace c0 : u.cell? ⟨g, r * 2, none⟩ = some (.int .i64 y) := by rw [eu]; exact c0
                replace c1 : u.cell? ⟨g, r * 2 + 1, none⟩ = some (.string t) := by rw [eu]; exact c1
                replace d0 : u.cell? ⟨g, q * 2, none⟩ = some (.int .i64 x) := by rw [eu]; exact d0
                replace d1 : u.cell? ⟨g, q * 2 + 1, none⟩ = some (.string t) := by rw [eu]; exact d1
                clear eu
                have hgu : g ≠ u.heap.size := Nat.ne_of_lt HU.out.blk.2
                have hrq : r ≠ q := by have := HQq.out; omega
                have HV : Hid (GaSt W (u.alloc (.cells #[.int .i64 x, .string t] 34)) (.slice (some ⟨g, 0, none⟩) O.length co) t M) := hid (HU.out.keep ((Below.refl _ _).alloc (Nat.le_refl _) _))
                have HVl := hid HM.out.1
                have A0 := HV.out.cells r (by have := HQq.out; have := HVl.out; omega)
                have A1 := HV.out.cells q (by have := HQq.out; have := HVl.out; omega)
                rw [← HX.out.1] at A1
                rw [← HX.out.2] at A0
                obtain ⟨a0, a1⟩ := A0
                obtain ⟨b0, b1⟩ := A1
                have fr := HV.out.free HVl.out
                have HXb := hid (cell_two (heap_alloc_last u (.cells #[.int .i64 x, .string t] 34)))
                have HS2 : Hid ((M.set q y).set r x = swp M r) := hid (by rw [HX.out.1, HX.out.2, HQq.out.2]; rfl)
                go_wp2
                go_roundw
                case rel =>
                  have hf := (HV.out.put HVl.out q y).put ((List.length_set ..).trans HVl.out) r x
                  rw [HS2.out] at hf
                  exact ⟨r, swp M r, by have := HQq.out; omega, by go_num, (swp_len M r).trans HVl.out, hf, (swp_perm M r (by have := HQq.out; have := HVl.out; omega)).trans HM.out.2.2, HY.out⟩
                case measure => simp [intOf]; omega
              · have HNo := hid (hno hlt)
                clear hyes hno
                go_wp2
                go_quiet (fail)
                go_wp2
                go_roundw
                case rel => exact ⟨p + 1, M, by have := HJ.out; omega, by go_num, HM.out.1, HM.out.2.1.keep (below_drewN _ _), HM.out.2.2, HNo.out⟩
                case measure => simp [intOf]; omega
    · have hj1 : (j : Int) < (n : Int) := by omega
      have hj0 : (0 : Int) ≤ (j : Int) := Int.natCast_nonneg _
      have hjl : j < l.length := by rw [HI.out.2]; omega
      have hyes := @gOut_yes l t ss j
      have hno := @gOut_no l t ss j
      obtain ⟨O, eO⟩ : ∃ O, O = gOut l t ss j := ⟨_, rfl⟩
      have hOl : O.length ≤ j := by rw [eO]; exact gOut_len l t ss j
      rw [← eO] at HO hyes hno
      obtain ⟨g, off, rfl, hg, hcell⟩ := HI.out.1.at j _ (getD_some hjl)
      generalize l.getD j 0 = x at hcell hyes hno
      have hbw : Below w.heap.size w wr := HW.out.2.2.1.trans (HO.out.bel.mono (by have := HW.out.2.1; omega))
      have z0 : wr.cell? ⟨g, off + j, none⟩ = some (.int .i64 x) := (hbw.cell (p := ⟨g, _, none⟩) hg).trans hcell
      have HA : Hid (GaSt W (wr.alloc (.cells #[.int .i64 x, .string t] 34)) u7 t O) := hid (HO.out.keep ((Below.refl _ _).alloc (Nat.le_refl _) _))
      have HC := hid (heap_alloc_last wr (.cells #[.int .i64 x, .string t] 34))
      have HPw : Hid (∀ u, Below W.heap.size W u → PairsIn u b ss) := hid (fun u hu => HW.out.2.2.2.2.keep hu (Nat.le_refl _))
      have HJ := hid (And.intro hj hjn)
      have HYes := hid hyes
      have HNo := hid hno
      have hOm : O.length ≤ m := by rw [eO, ← hsn]; exact gOut_le l t ss j (by omega)
      have hlm := gOut_le l t ss (j + 1) hjl
      have HN : Hid (O.length * 24 ≤ 140737488355328) := hid (by omega)
      have HLm : Hid ((gOut l t ss (j + 1)).length ≤ m) := hid (by rw [← hsn]; exact hlm)
      clear hcell hg hbw hyes hno hj hjn hjl hOl hOm hlm eO HO
      cases h1 : stands ss (x, t) with
      | false =>
        have HSx : Hid (∀ u : World, PairsIn u b ss → Calls Try.prog 27 #[.slice b m cp, .agg #[.int .i64 x, .string t]] u fun e w' => e = .returned (.bool false) ∧ Below u.heap.size u w') := hid (fun u hu => by rw [← h1]; exact HS.out x u hu)
        have HR : Hid (gOut l t ss (j + 1) = O) := hid (HNo.out (fun h => by rw [h1] at h; exact absurd h.1 (by decide)))
        clear h1
        go_wp2_with (go_at_call 27; refine (HSx.out _ (HPw.out _ HA.out.bel)).mono ?_; rintro e w2 ⟨rfl, hb2⟩; have H2 := hid (HA.out.keep hb2); clear hb2)
        go_roundw
        case rel => exact ⟨j + 1, by have := HJ.out; omega, by go_num, by rw [HR.out]; exact H2.out⟩
        case measure => simp [intOf]; omega
      | true =>
        have HSx : Hid (∀ u : World, PairsIn u b ss → Calls Try.prog 27 #[.slice b m cp, .agg #[.int .i64 x, .string t]] u fun e w' => e = .returned (.bool true) ∧ Below u.heap.size u w') := hid (fun u hu => by rw [← h1]; exact HS.out x u hu)
        obtain ⟨ao, co, hu7, _⟩ := HA.out.pairs
        subst hu7
        have hT : ∀ u : World, PairsIn u ao (gP t O) → Calls Try.prog 27 #[.slice ao O.length co, .agg #[.int .i64 x, .string t]] u fun e w' => e = .returned (.bool (hasM O x)) ∧ Below u.heap.size u w' := fun u hu => by
          have := wstands_any ao O.length co (gP t O) (gP_len t O) (by have := HN.out; unfold maxLen; omega) x t u hu
          rwa [gP_stands] at this
        have hPo : ∀ u : World, GaSt W u (.slice ao O.length co) t O → PairsIn u ao (gP t O) := fun u hu => by
          obtain ⟨ad, cp2, hv, hi⟩ := hu.pairs
          cases hv
          exact hi
        have HPo := hid hPo
        clear hPo
        cases h2 : hasM O x with
        | true =>
          rw [h2] at hT
          have HT := hid hT
          have HR : Hid (gOut l t ss (j + 1) = O) := hid (HNo.out (fun h => by rw [h2] at h; exact absurd h.2 (by decide)))
          clear h1 h2 hT
          go_wp2_with (first
            | (go_at_call 27; have := H2; refine (HT.out _ (HPo.out _ H2.out)).mono ?_; rintro e w3 ⟨rfl, hb3⟩; have H3 := hid (H2.out.keep hb3); clear hb3)
            | (go_at_call 27; refine (HSx.out _ (HPw.out _ HA.out.bel)).mono ?_; rintro e w2 ⟨rfl, hb2⟩; have H2 := hid (HA.out.keep hb2); have s0 : w2.cell? ⟨wr.heap.size, 0, none⟩ = some (.int .i64 x) := (cell_two ((hb2.block _ (by simp)).trans HC.out)).1; have s1 : w2.cell? ⟨wr.heap.size, 1, none⟩ = some (.string t) := (cell_two ((hb2.block _ (by simp)).trans HC.out)).2; clear hb2))
          go_roundw
          case rel => exact ⟨j + 1, by have := HJ.out; omega, by go_num, by rw [HR.out]; exact H3.out⟩
          case measure => simp [intOf]; omega
        | false =>
          rw [h2] at hT
          have HT := hid hT
          have HR : Hid (gOut l t ss (j + 1) = O ++ [x]) := hid (HYes.out h1 h2)
          have HN1 : Hid ((O.length + 1) * 24 ≤ 140737488355328) := hid (by have := HLm.out; rw [HR.out, List.length_append, List.length_singleton] at this; omega)
          clear h1 h2 hT
          go_wp2_with (first
            | (go_at_call 27; have := H2; refine (HT.out _ (HPo.out _ H2.out)).mono ?_; rintro e w3 ⟨rfl, hb3⟩; have H3 := hid (H2.out.keep hb3); have q0 : w3.cell? ⟨wr.heap.size, 0, none⟩ = some (.int .i64 x) := (hb3.cell (p := ⟨wr.heap.size, 0, none⟩) (HC3.out)).trans s0; have q1 : w3.cell? ⟨wr.heap.size, 1, none⟩ = some (.string t) := (hb3.cell (p := ⟨wr.heap.size, 1, none⟩) (HC3.out)).trans s1; clear hb3)
            | (go_at_call 27; refine (HSx.out _ (HPw.out _ HA.out.bel)).mono ?_; rintro e w2 ⟨rfl, hb2⟩; have H2 := hid (HA.out.keep hb2); have s0 : w2.cell? ⟨wr.heap.size, 0, none⟩ = some (.int .i64 x) := (cell_two ((hb2.block _ (by simp)).trans HC.out)).1; have s1 : w2.cell? ⟨wr.heap.size, 1, none⟩ = some (.string t) := (cell_two ((hb2.block _ (by simp)).trans HC.out)).2; have HC3 : Hid (wr.heap.size < w2.heap.size) := hid (by have := hb2.size; simp at this; omega); clear hb2)
            | (at_builtin; refine wpList_append_own _ rfl _ _ 25 rfl W.heap.size 34 i0 (.agg #[.int .i64 0, .string ⟨#[]⟩]) 2 24 Try.underlying25 hi0 hz0 hz1 hz2 rfl (by decide) _ O.length _ rfl (by exact H3.out.own.alloc _) ⟨_, 0, none⟩ 1 1 (pC [(x, t)]) rfl rfl (World.news_of_block (t := 34) (fr := (0, 0)) (heap_alloc_last _ _)) (by simp [pC, Value.oneCell']) (by have := HN1.out; unfold maxLen; omega) (by have := HN1.out; omega) (by have := H3.out.bel.size; simp; omega) ?_; intro v8 w8 hown8 hgrow8 hnil8
               have H8 : Hid (GaSt W w8 v8 t (O ++ [x])) := hid ⟨by rw [List.length_append, gP_app, pC_app]; exact hown8, (H3.out.bel.alloc H3.out.bel.size _).grown hgrow8 (by have := H3.out.bel.size; simp; omega) (fun k hk => (H3.out.own.lt k hk).1)⟩
               clear hown8 hgrow8 hnil8))
          go_roundw
          case rel => exact ⟨j + 1, by have := HJ.out; omega, by go_num, by rw [HR.out]; exact H8.out⟩
          case measure => simp [intOf]; omega
end Go.Proofs.Ytgnapfgiefdlaaa
