/- Texts laid together: TeB TeF TeQ VoF CoR VoH. -/
import Derived.Test.YtclfphffbfdimaaKb1
import Derived.Deep.QuietTactic
import Derived.Test.YtclfphffbfdimaaKc1
import Derived.Deep.RegionHeld3
import Derived.Test.YtclfphffbfdimaaKe1
import Derived.Test.YtclfphffbfdimaaKf1
import Derived.Test.YtclfphffbfdimaaKd1
/- The document's: is a signature in the list? -/
namespace Go.Proofs.Ytclfphffbfdimaa
open Go.RowKit

theorem data_list (b : ByteArray) : b.toList = b.data.toList := ByteArray.toList_eq b
theorem SgP.new (w : World) (q : Int) (r : ByteArray) : (w.alloc (.cells #[.int .i64 q, .string r] 47)).heap[w.heap.size]? = some (.cells #[.int .i64 q, .string r] 47 (0, 0)) := heap_alloc_last w _
set_option maxRecDepth 100000 in
set_option maxHeartbeats 1600000 in
/-- The same lists are the same. -/
theorem wsame_yes (a1 a2 : Option Addr) (n c1 c2 : Nat) (ps : List (Int × ByteArray)) (hn : ps.length = n) (hm : n ≤ maxLen) (w : World) (h1 : PairsIn w a1 ps) (h2 : PairsIn w a2 ps) :
    Calls Try.prog 40 #[.slice a1 n c1, .slice a2 n c2] w fun e w' => e = .returned (.bool true) ∧ Below w.heap.size w w' := by
  have hm2 : (n : Int) ≤ 9223372036854775807 := by unfold maxLen at hm; omega
  have HP := hid (And.intro h1 h2)
  have HN := hid hn
  clear h1 h2 hm hn
  go_enter Try.func40, Try.ntmps40
  go_wp2
  go_loopw [5] (fun i wr => ∃ j : Nat, j ≤ n ∧ i = .int .i64 (j : Int) ∧ Below w.heap.size w wr)
    (fun i _ => ((n : Int) - intOf i).toNat)
  case atStart => exact ⟨0, by omega, rfl, Below.refl _ _⟩
  case round =>
    obtain ⟨j, hj, rfl, hbel⟩ := hrel
    have HB := hid hbel
    clear hbel
    by_cases hjn : j = n
    · have hj1 : ¬ ((j : Int) < (n : Int)) := by omega
      clear hj hjn
      go_wp2
      go_ret
      exact ⟨rfl, HB.out⟩
    · have hj1 : (j : Int) < (n : Int) := by omega
      have hj0 : (0 : Int) ≤ (j : Int) := Int.natCast_nonneg _
      have hp := getP_some (ps := ps) (j := j) (by rw [HN.out]; omega)
      obtain ⟨g1, o1, rfl, hg1, x1, y1⟩ := HP.out.1.at j _ hp
      obtain ⟨g2, o2, rfl, hg2, x2, y2⟩ := HP.out.2.at j _ hp
      obtain ⟨x, ex⟩ : ∃ x, x = idOf ps j := ⟨_, rfl⟩
      obtain ⟨r, er⟩ : ∃ r, r = rtOf ps j := ⟨_, rfl⟩
      rw [← ex] at x1 x2
      rw [← er] at y1 y2
      have hbx : ∀ q : Cls wr, Below w.heap.size w q.1 := fun q => HB.out.trans (q.2.mono HB.out.size)
      have d1 : ∀ q : Cls wr, q.1.cell? ⟨g1, o1 + j * 2, none⟩ = some (.int .i64 x) := fun q => ((hbx q).cell (p := ⟨g1, _, none⟩) hg1).trans x1
      have d2 : ∀ q : Cls wr, q.1.cell? ⟨g1, o1 + j * 2 + 1, none⟩ = some (.string r) := fun q => ((hbx q).cell (p := ⟨g1, _, none⟩) hg1).trans y1
      have d3 : ∀ q : Cls wr, q.1.cell? ⟨g2, o2 + j * 2, none⟩ = some (.int .i64 x) := fun q => ((hbx q).cell (p := ⟨g2, _, none⟩) hg2).trans x2
      have d4 : ∀ q : Cls wr, q.1.cell? ⟨g2, o2 + j * 2 + 1, none⟩ = some (.string r) := fun q => ((hbx q).cell (p := ⟨g2, _, none⟩) hg2).trans y2
      have HJ := hid (And.intro hj hjn)
      clear hp x1 y1 x2 y2 hbx hg1 hg2 ex er hj hjn
      go_wp2
      haveI := Cls.ne wr
      refine wp_region_cls wr (by kernel_rfl) (by kernel_rfl) ?_
      repeat (go_big_quiet_step ((fail)))
      refine wpQuiet_nil ?_
      rintro _ ⟨q, rfl⟩
      go_wp2
      go_roundw
      case rel => exact ⟨j + 1, by have := HJ.out; omega, by go_num, HB.out.trans (q.2.mono HB.out.size)⟩
      case measure => simp [intOf]; omega
end Go.Proofs.Ytclfphffbfdimaa

/- The document's Gather. -/
namespace Go.Proofs.Ytclfphffbfdimaa
open Go.RowKit

theorem Try.info47 : (Try.prog.info? 47).map (fun i => (i.zero, i.size, i.bytes)) = some (some (.agg #[.int .i64 0, .string ⟨#[]⟩]), 2, 24) := by kernel_rfl
theorem own_pairsT {w : World} {B : Nat} {v : Value} {ps : List (Int × ByteArray)} {T : TypeId} (h : w.ownsRow B T 2 v ps.length (pC ps)) : ∃ ad cap, v = .slice ad ps.length cap ∧ PairsIn w ad ps := by
  rcases h.2 with ⟨hv, h0⟩ | ⟨g, cap, cur, hv, hB, hh, hx⟩
  · exact ⟨none, 0, by rw [hv, h0], .inl (List.eq_nil_of_length_eq_zero h0)⟩
  · refine ⟨_, cap, hv, .inr ⟨g, 0, rfl, lt_of_blk hh, fun j p hj => ?_⟩⟩
    subst hv
    have h1 := h.cells (g := g) rfl _ _ (pC_get ps j p hj).1
    have h2 := h.cells (g := g) rfl _ _ (pC_get ps j p hj).2
    rw [Addr.add_lit] at h1 h2
    exact ⟨h1, by rw [Nat.add_assoc]; exact h2⟩
/-! Sorting in place: all but the k-th of the first i + 1 rise. -/
theorem getD_set (L : List Int) (k j : Nat) (y : Int) (hk : k < L.length) : (L.set k y).getD j 0 = if j = k then y else L.getD j 0 := by
  rw [List.getD_eq_getElem?_getD, List.getD_eq_getElem?_getD, List.getElem?_set]
  by_cases h : k = j
  · rw [if_pos h, if_pos hk, if_pos h.symm]; rfl
  · rw [if_neg h, if_neg (fun e => h e.symm)]
def srt (L : List Int) (i k : Nat) : Prop := ∀ a b, a < b → b ≤ i → b ≠ k → L.getD a 0 < L.getD b 0
def rose (L : List Int) (i : Nat) : Prop := ∀ a b, a < b → b < i → L.getD a 0 < L.getD b 0
theorem rose.srt {L : List Int} {i : Nat} (h : rose L i) : srt L i i := fun a b h1 h2 h3 => h a b h1 (by omega)
def swp (L : List Int) (k : Nat) : List Int := (L.set (k + 1) (L.getD k 0)).set k (L.getD (k + 1) 0)
theorem swp_len (L : List Int) (k : Nat) : (swp L k).length = L.length := by simp [swp]
theorem swp_get (L : List Int) (k j : Nat) (hk : k + 1 < L.length) : (swp L k).getD j 0 = if j = k then L.getD (k + 1) 0 else if j = k + 1 then L.getD k 0 else L.getD j 0 := by
  rw [swp, getD_set _ _ _ _ (by simp; omega), getD_set _ _ _ _ hk]
theorem swp_perm (L : List Int) (k : Nat) (hk : k + 1 < L.length) : (swp L k).Perm L := by
  have := List.set_set_perm hk (show k < L.length by omega)
  rw [swp, getD_get L k (by omega), getD_get L (k + 1) hk]
  exact this
theorem srt.swp {L : List Int} {i k : Nat} (h : srt L i (k + 1)) (hi : i < L.length) (hk : k + 1 ≤ i) (hg : L.getD (k + 1) 0 < L.getD k 0) : srt (swp L k) i k := fun a b h1 h2 h3 => by
  rw [swp_get L k a (by omega), swp_get L k b (by omega)]
  rw [if_neg h3]
  by_cases hb : b = k + 1
  · rw [if_pos hb]
    by_cases ha : a = k
    · rw [if_pos ha]; exact hg
    · rw [if_neg ha, if_neg (by omega)]
      exact h a k (by omega) (by omega) (by omega)
  · rw [if_neg hb]
    by_cases ha : a = k
    · rw [if_pos ha]; exact h (k + 1) b (by omega) h2 hb
    · rw [if_neg ha]
      by_cases ha2 : a = k + 1
      · rw [if_pos ha2]; exact h k b (by omega) h2 hb
      · rw [if_neg ha2]; exact h a b h1 h2 hb
theorem srt.first {L : List Int} {i : Nat} (h : srt L i 0) : rose L (i + 1) := fun a b h1 h2 => h a b h1 (by omega) (by omega)
theorem srt.here {L : List Int} {i k : Nat} (h : srt L i (k + 1)) (hd : L.Nodup) (hi : i < L.length) (hk : k + 1 ≤ i) (hg : ¬ (L.getD (k + 1) 0 < L.getD k 0)) : rose L (i + 1) := fun a b h1 h2 => by
  have hne : L.getD k 0 ≠ L.getD (k + 1) 0 := fun e => by
    rw [getD_get L k (by omega), getD_get L (k + 1) (by omega)] at e
    exact List.pairwise_iff_getElem.1 hd k (k + 1) (by omega) (by omega) (by omega) e
  by_cases hb : b = k + 1
  · subst hb
    by_cases ha : a = k
    · subst ha; omega
    · have := h a k (by omega) (by omega) (by omega)
      omega
  · exact h a b h1 (by omega) hb
theorem rose.inc {L : List Int} (h : rose L L.length) : Inc L := List.pairwise_iff_getElem.2 (fun a b ha hb hab => by
  have := h a b hab hb
  rwa [getD_get L a ha, getD_get L b hb] at this)
/-! .. in memory. -/
theorem pC_set (ps : List (Int × ByteArray)) : ∀ (k : Nat) (p : Int × ByteArray), (((pC ps).set (k * 2) (.int .i64 p.1)).set (k * 2 + 1) (.string p.2)) = pC (ps.set k p) := by
  induction ps with
  | nil => intro k p; rfl
  | cons q ps ih =>
    intro k p
    cases k with
    | zero => rfl
    | succ k =>
      rw [pC_cons, show (k + 1) * 2 = k * 2 + 1 + 1 by omega, List.set_cons_succ, List.set_cons_succ, List.set_cons_succ, List.set_cons_succ, ih k p, List.set_cons_succ, pC_cons]
theorem gP_set (t : ByteArray) (L : List Int) (k : Nat) (x : Int) : gP t (L.set k x) = (gP t L).set k (x, t) := by simp [gP, List.map_set]
theorem own_cellset {w : World} {B z : Nat} {g cp n : Nat} {xs : List Value} {e : TypeId} (h : w.ownsRow B e z (.slice (some ⟨g, 0, none⟩) n cp) n xs) (o : Nat) (x : Value) : (w.setCell ⟨g, o, none⟩ x).ownsRow B e z (.slice (some ⟨g, 0, none⟩) n cp) n (xs.set o x) := by
  refine ⟨by rw [List.length_set]; exact h.1, ?_⟩
  rcases h.2 with ⟨hv, _⟩ | ⟨g', cap, cur, hv, hB, hh, hc1, hc2, hc3, hc4⟩
  · exact absurd hv (by simp)
  · cases hv
    refine .inr ⟨g, cp, _, rfl, hB, (blk_set hh o x).trans rfl, hc1, hc2, by simp [hc3], ?_⟩
    rw [← hc4]
    simp [List.take_set]
theorem own_two {w : World} {B : Nat} {g cp n : Nat} {ps : List (Int × ByteArray)} {e : TypeId} (h : w.ownsRow B e 2 (.slice (some ⟨g, 0, none⟩) n cp) n (pC ps)) (k : Nat) (p : Int × ByteArray) : ((w.setCell ⟨g, k * 2, none⟩ (.int .i64 p.1)).setCell ⟨g, k * 2 + 1, none⟩ (.string p.2)).ownsRow B e 2 (.slice (some ⟨g, 0, none⟩) n cp) n (pC (ps.set k p)) := by
  have := own_cellset (own_cellset h (k * 2) (.int .i64 p.1)) (k * 2 + 1) (.string p.2)
  rwa [pC_set] at this
theorem ownsRow_low {w : World} {B B' : Nat} {e : TypeId} {z : Nat} {v : Value} {n : Nat} {xs : List Value} (h : w.ownsRow B e z v n xs) (hB : B' ≤ B) : w.ownsRow B' e z v n xs := by
  refine ⟨h.1, ?_⟩
  rcases h.2 with hn | ⟨g, cap, cur, hv, hg, hx⟩
  · exact .inl hn
  · exact .inr ⟨g, cap, cur, hv, by omega, hx⟩
theorem below_drewN (w : World) (n : Nat) : Below w.heap.size w (w.drewN n) := ⟨rfl, rfl, rfl, Nat.le_refl _, fun _ _ => rfl⟩
/-- What is gathered so far lies in a row of its own. -/
structure GaSt (w0 w : World) (v : Value) (t : ByteArray) (O : List Int) : Prop where
  own : w.ownsRow w0.heap.size 47 2 v O.length (pC (gP t O))
  bel : Below w0.heap.size w0 w
theorem GaSt.keep {w0 w w' : World} {v : Value} {t : ByteArray} {O : List Int} (h : GaSt w0 w v t O) (hb : Below w.heap.size w w') : GaSt w0 w' v t O := ⟨ownsRow_keep h.own hb, h.bel.trans (hb.mono h.bel.size)⟩
theorem GaSt.pairs {w0 w : World} {v : Value} {t : ByteArray} {O : List Int} (h : GaSt w0 w v t O) : ∃ ad cap, v = .slice ad O.length cap ∧ PairsIn w ad (gP t O) := by
  obtain ⟨ad, cap, hv, hi⟩ := own_pairsT (ps := gP t O) (by rw [gP_len]; exact h.own)
  rw [gP_len] at hv
  exact ⟨ad, cap, hv, hi⟩
theorem GaSt.cells {w0 w : World} {g n cp : Nat} {t : ByteArray} {L : List Int} (h : GaSt w0 w (.slice (some ⟨g, 0, none⟩) n cp) t L) (k : Nat) (hk : k < L.length) : w.cell? ⟨g, k * 2, none⟩ = some (.int .i64 (L.getD k 0)) ∧ w.cell? ⟨g, k * 2 + 1, none⟩ = some (.string t) := by
  have hp : (gP t L)[k]? = some (L.getD k 0, t) := by rw [gP, List.getElem?_map, getD_some hk]; rfl
  have h1 := h.own.cells (g := g) rfl _ _ (pC_get _ k _ hp).1
  have h2 := h.own.cells (g := g) rfl _ _ (pC_get _ k _ hp).2
  rw [Addr.add_lit, Nat.zero_add] at h1 h2
  exact ⟨h1, h2⟩
theorem GaSt.blk {w0 w : World} {g n cp : Nat} {t : ByteArray} {L : List Int} (h : GaSt w0 w (.slice (some ⟨g, 0, none⟩) n cp) t L) : w0.heap.size ≤ g ∧ g < w.heap.size := h.own.lt g rfl
theorem GaSt.free {w0 w : World} {g n cp : Nat} {t : ByteArray} {L : List Int} (h : GaSt w0 w (.slice (some ⟨g, 0, none⟩) n cp) t L) (hn : L.length = n) (j : Nat) : w.frozen? ⟨g, j, none⟩ = false := by
  subst hn
  exact h.own.frozenAt j
theorem GaSt.put {w0 w : World} {g n cp : Nat} {t : ByteArray} {L : List Int} (h : GaSt w0 w (.slice (some ⟨g, 0, none⟩) n cp) t L) (hn : L.length = n) (k : Nat) (y : Int) : GaSt w0 ((w.setCell ⟨g, k * 2, none⟩ (.int .i64 y)).setCell ⟨g, k * 2 + 1, none⟩ (.string t)) (.slice (some ⟨g, 0, none⟩) n cp) t (L.set k y) := by
  subst hn
  refine ⟨?_, (h.bel.setCell h.blk.1 _).setCell h.blk.1 _⟩
  rw [List.length_set, gP_set]
  exact own_two h.own k (y, t)
end Go.Proofs.Ytclfphffbfdimaa

/- Lists of signatures copied into rows of one's own; a thing said by Heard in memory. -/
namespace Go.Proofs.Ytclfphffbfdimaa
open Go.RowKit

theorem pC_two : ∀ (ps : List (Int × ByteArray)) (j : Nat) (u : Value), (pC ps)[j]? = some u → ∃ p, ps[j / 2]? = some p ∧ ((j % 2 = 0 ∧ u = .int .i64 p.1) ∨ (j % 2 = 1 ∧ u = .string p.2))
  | [], j, u, h => by simp [pC] at h
  | p :: ps, 0, u, h => by
    rw [pC_cons] at h
    simp at h
    exact ⟨p, by simp, .inl ⟨rfl, h.symm⟩⟩
  | p :: ps, 1, u, h => by
    rw [pC_cons] at h
    simp at h
    exact ⟨p, by simp, .inr ⟨rfl, h.symm⟩⟩
  | p :: ps, j + 2, u, h => by
    rw [pC_cons] at h
    simp at h
    obtain ⟨q, hq, hu⟩ := pC_two ps j u h
    refine ⟨q, ?_, ?_⟩
    · rw [show (j + 2) / 2 = j / 2 + 1 by omega]
      simpa using hq
    · rw [show (j + 2) % 2 = j % 2 by omega]
      exact hu
theorem pC_cell1 (ps : List (Int × ByteArray)) : ∀ v ∈ pC ps, v.oneCell' = true := by
  intro v hv
  obtain ⟨j, hj, rfl⟩ := List.getElem_of_mem hv
  obtain ⟨p, _, h | h⟩ := pC_two ps j _ (List.getElem?_eq_getElem hj)
  · rw [h.2]; rfl
  · rw [h.2]; rfl
theorem pairs_cells {w : World} {ad : Addr} {ps : List (Int × ByteArray)} (h : PairsIn w (some ad) ps) (j : Nat) (u : Value) (hu : (pC ps)[j]? = some u) : w.cell? (ad.add j) = some u := by
  obtain ⟨p, hp, hu⟩ := pC_two ps j u hu
  obtain ⟨g, off, ha, hg, h0, h1⟩ := h.at (j / 2) p hp
  cases ha
  rw [Addr.add_lit]
  rcases hu with ⟨hj, rfl⟩ | ⟨hj, rfl⟩
  · rw [show off + j = off + j / 2 * 2 by omega]; exact h0
  · rw [show off + j = off + j / 2 * 2 + 1 by omega]; exact h1
/-- The slice v holds the signatures ps, in a row of its own; nothing below B has turned since w0. -/
structure OwnedT (B : Nat) (w0 w : World) (v : Value) (ps : List (Int × ByteArray)) : Prop where
  own : w.ownsRow B 47 2 v ps.length (pC ps)
  bel : Below B w0 w
  le : B ≤ w.heap.size
theorem OwnedT.nil {B : Nat} {w0 w : World} (h : Below B w0 w) (hB : B ≤ w.heap.size) : OwnedT B w0 w (.slice none 0 0) [] := ⟨⟨rfl, .inl ⟨rfl, rfl⟩⟩, h, hB⟩
theorem OwnedT.alloc {B : Nat} {w0 w : World} {v : Value} {l : List (Int × ByteArray)} (h : OwnedT B w0 w v l) (o : Obj) : OwnedT B w0 (w.alloc o) v l :=
  ⟨h.own.alloc o, h.bel.alloc h.le o, by have := h.le; simp; omega⟩
theorem OwnedT.grow {B : Nat} {w0 w w2 : World} {v v2 : Value} {l xs : List (Int × ByteArray)} {m : Nat} (h : OwnedT B w0 w v l) (hm : xs.length = m) (h2 : w2.ownsRow B 47 2 v2 (l.length + m) (pC l ++ pC xs)) (hg : w.grownBy w2 v.ownBlock) : OwnedT B w0 w2 v2 (l ++ xs) :=
  ⟨by rw [List.length_append, pC_app, hm]; exact h2, h.bel.grown hg h.le (fun k hk => (h.own.lt k hk).1), Nat.le_trans h.le hg.size⟩
theorem OwnedT.form {B : Nat} {w0 w : World} {v : Value} {l : List (Int × ByteArray)} (h : OwnedT B w0 w v l) (hl : 0 < l.length) : ∃ g cap, v = .slice (some ⟨g, 0, none⟩) l.length cap ∧ l.length ≤ cap ∧ cap ≤ maxLen ∧ g < w.heap.size ∧ B ≤ g ∧ PairsIn w (some ⟨g, 0, none⟩) l := by
  rcases h.own.2 with ⟨_, h0⟩ | ⟨g, cap, cur, hv, hb, hh, hnc, hcp, hcs, htake⟩
  · omega
  · obtain ⟨ad, c2, hv2, hp⟩ := own_pairsT h.own
    rw [hv] at hv2
    cases hv2
    exact ⟨g, cap, hv, hnc, hcp, lt_of_blk hh, hb, hp⟩
section
variable {o : Oper} {a : Act} {w : World} {Q : Exit → Act → World → Prop} {ops : Array Oper} {rest : List Oper} {K : Act → World → Prop}
/-- A copy of one's own. -/
theorem owp_ownT (x y : Operand) (ho : o.op = .call { callee := .builtin .append, args := #[x, y], argTypes := #[39, 39] })
    (hx : a.eval x = .slice none 0 0) (ad : Option Addr) (n cap : Nat) (ps : List (Int × ByteArray)) (hy : a.eval y = .slice ad n cap) (hn : ps.length = n) (hS : PairsIn w ad ps) (hl : n * 24 ≤ 140737488355328)
    (h : ∀ v' w', Hid (OwnedT w.heap.size w w' v' ps) → K (a.put o.dst v') w') : o.wp Try.prog a w K Q := by
  obtain ⟨i0, hi0, hz0, hz1, hz2⟩ := info_parts Try.info47
  cases ad with
  | none =>
    obtain rfl : ps = [] := by rcases hS with h | ⟨g, off, ha, _⟩; exact h; cases ha
    obtain rfl : 0 = n := hn
    refine owp_value (v := .slice none 0 0) (w' := w) ?_ (h _ _ (OwnedT.nil (Below.refl _ _) (Nat.le_refl _)))
    simp [execOp, ho, resolve, invoke, builtin, hx, hy, Builtin.append_, run_underlying Try.underlying39, sizeOf, typeInfo, hi0, Builtin.lenOf, Builtin.firstCells, Result.andThen]
  | some ad =>
    refine wp_append_own w x y 39 ho w.heap.size 47 i0 (.agg #[.int .i64 0, .string ⟨#[]⟩]) 2 24 Try.underlying39 hi0 hz0 hz1 hz2 rfl (by decide) (.slice none 0 0) 0 [] hx ⟨rfl, .inl ⟨rfl, rfl⟩⟩ ad n cap (pC ps) hy (by rw [pC_len, hn]) (fun j v hv => pairs_cells hS j v hv) (pC_cell1 ps) (by unfold maxLen; omega) (by omega) (Nat.le_refl _) (fun v' w' hown hgrow _ => ?_)
    rw [Nat.zero_add, List.nil_append, ← hn] at hown
    exact h _ _ ⟨hown, (Below.refl _ _).grown hgrow (Nat.le_refl _) (fun k hk => by cases hk), hgrow.size⟩
theorem wl_ownT (hgd : o.guard = none) (x y : Operand) (ho : o.op = .call { callee := .builtin .append, args := #[x, y], argTypes := #[39, 39] })
    (hx : a.eval x = .slice none 0 0) (ad : Option Addr) (n cap : Nat) (ps : List (Int × ByteArray)) (hy : a.eval y = .slice ad n cap) (hn : ps.length = n) (hS : PairsIn w ad ps) (hl : n * 24 ≤ 140737488355328)
    (h : ∀ v' w', Hid (OwnedT w.heap.size w w' v' ps) → wpList Try.prog ops Q rest (a.put o.dst v') w') : wpList Try.prog ops Q (o :: rest) a w :=
  wpList_plain hgd fun _ hK => owp_ownT x y ho hx ad n cap ps hy hn hS hl fun v' w' h' => hK _ _ (h v' w' h')
end
theorem gathL_le (l : List Int) (t : ByteArray) (ss : List (Int × ByteArray)) : (gathL l t ss).length ≤ ss.length := by
  rw [gathL, List.length_mergeSort]
  exact gOut_le l t ss l.length (Nat.le_refl _)
end Go.Proofs.Ytclfphffbfdimaa

/- The program's tally: the signatures of all who voted so. -/
namespace Go.Proofs.Ytclfphffbfdimaa
open Go.RowKit

theorem OwnedT.keepV {B : Nat} {w0 w w' : World} {v : Value} {ps : List (Int × ByteArray)} (h : OwnedT B w0 w v ps) (hb : Below w.heap.size w w') : OwnedT B w0 w' v ps :=
  ⟨ownsRow_keep h.own hb, h.bel.trans (hb.mono h.le), Nat.le_trans h.le hb.size⟩
def sgTo (s : Ta) (b : Bl) (t : ByteArray) (j : Nat) : List (Int × ByteArray) := ((s.mem.take j).filter fun id => decide (castOf s.vs id = b)).map fun id => (id, t)
theorem sgTo_all (s : Ta) (b : Bl) (t : ByteArray) (j : Nat) (h : s.mem.length ≤ j) : sgTo s b t j = signsOf s b t := by rw [sgTo, List.take_of_length_le h, signsOf]
theorem sgTo_succ (s : Ta) (b : Bl) (t : ByteArray) (j : Nat) (h : j < s.mem.length) : sgTo s b t (j + 1) = sgTo s b t j ++ (if castOf s.vs (s.mem.getD j 0) = b then [(s.mem.getD j 0, t)] else []) := by
  rw [sgTo, sgTo, List.take_succ_eq_append_getElem h, List.filter_append, List.map_append, getD_get _ _ h]
  congr 1
  by_cases e : castOf s.vs s.mem[j] = b <;> simp [e]
theorem sgTo_len (s : Ta) (b : Bl) (t : ByteArray) (j : Nat) : (sgTo s b t j).length ≤ j := by
  rw [sgTo, List.length_map]
  exact Nat.le_trans (List.length_filter_le _ _) (by rw [List.length_take]; omega)
theorem bl_ne {x y : Bl} (h : ¬ x = y) : ((x.1.toList == y.1.toList) && (x.2.toList == y.2.toList)) = false := by
  cases e : ((x.1.toList == y.1.toList) && (x.2.toList == y.2.toList)) with
  | false => rfl
  | true =>
    simp only [ByteArray.toList_eq, Bool.and_eq_true, beq_iff_eq] at e
    exact absurd (Prod.ext (bytes_eq e.1) (bytes_eq e.2)) h
set_option maxRecDepth 100000 in
set_option maxHeartbeats 6400000 in
theorem vsign_any (g m : Nat) (am : Option Addr) (cm : Nat) (s : Ta) (b : Bl) (t : ByteArray) (w : World) (h : TlA w g m am cm s) :
    Calls Try.prog 43 #[.pointer (some ⟨g, 0, none⟩), .agg #[.string b.1, .string b.2], .string t] w fun e w' => ∃ v, e = .returned v ∧ OwnedT w.heap.size w w' v (signsOf s b t) := by
  obtain ⟨i0, hi0, hz0, hz1, hz2⟩ := info_parts Try.info47
  have hml := h.ok.mlen
  have hgl := lt_of_blk h.blk
  obtain ⟨n, en⟩ : ∃ n, n = s.mem.length := ⟨_, rfl⟩
  have HZ := hid en
  obtain ⟨wa, ea⟩ : ∃ wa, wa = w.alloc (.cells #[.string b.1, .string b.2] 76) := ⟨_, rfl⟩
  have hba : Below w.heap.size w wa := by rw [ea]; exact (Below.refl _ _).alloc (Nat.le_refl _) _
  have HA : Hid (TlA wa g m am cm s ∧ wa.heap[w.heap.size]? = some (.cells #[.string b.1, .string b.2] 76 (0, 0)) ∧ Below w.heap.size w wa) := hid ⟨h.keep hba, by rw [ea]; exact heap_alloc_last w _, hba⟩
  have HE := hid ea
  have c1 : w.cell? ⟨g, 1, none⟩ = some (.slice am n cm) := by rw [en]; exact h.c1
  have hn10 : (n : Int) ≤ 10 := by omega
  clear h en hml ea hba
  go_enter Try.func43, Try.ntmps43
  go_wp2
  rw [← HE.out]
  go_loopw [7, 16] (fun v i wr => ∃ j : Nat, j ≤ n ∧ i = .int .i64 (j : Int) ∧ OwnedT wa.heap.size wa wr v (sgTo s b t j))
    (fun _ i _ => ((n : Int) - intOf i).toNat)
  case atStart => exact ⟨0, by omega, rfl, OwnedT.nil (Below.refl _ _) (Nat.le_refl _)⟩
  case round =>
    obtain ⟨j, hj, rfl, hst⟩ := hrel
    clear c1
    by_cases hjn : j = n
    · have hj1 : ¬ ((j : Int) < (n : Int)) := by omega
      rw [sgTo_all _ _ _ _ (by have := HZ.out; omega)] at hst
      have HS := hid hst
      clear hst hj hjn
      go_wp2
      go_ret
      exact ⟨_, rfl, ownsRow_low HS.out.own HA.out.2.2.size, HA.out.2.2.trans (HS.out.bel.mono HA.out.2.2.size), Nat.le_trans HA.out.2.2.size HS.out.le⟩
    · have hj1 : (j : Int) < (n : Int) := by omega
      have hj0 : (0 : Int) ≤ (j : Int) := Int.natCast_nonneg _
      have hjl : j < s.mem.length := by have := HZ.out; omega
      have ht := HA.out.1.keep hst.bel
      obtain ⟨ga, off, rfl, hga, hcell⟩ := ht.im.at j _ (getD_some hjl)
      have hid16 := ht.ok.ids (i := s.mem.getD j 0) (by rw [getD_get _ _ hjl]; exact List.getElem_mem hjl)
      have hsuc := sgTo_succ s b t j hjl
      have hlen := sgTo_len s b t j
      obtain ⟨X, eX⟩ : ∃ X : Nat, s.mem.getD j 0 = (X : Int) := ⟨(s.mem.getD j 0).toNat, by omega⟩
      rw [eX] at hcell hid16 hsuc
      have hX : X < 16 := by omega
      have hX1 : (X : Int) < 16 := by omega
      have hX0 : (0 : Int) ≤ (X : Int) := Int.natCast_nonneg _
      have HL : Hid (∀ ww : World, Below wr.heap.size wr ww → ww.cell? ⟨g, 2 + X * 2, none⟩ = some (.string (castOf s.vs (X : Int)).1) ∧ ww.cell? ⟨g, 2 + X * 2 + 1, none⟩ = some (.string (castOf s.vs (X : Int)).2) ∧ ww.cell? ⟨w.heap.size, 0, none⟩ = some (.string b.1) ∧ ww.cell? ⟨w.heap.size, 1, none⟩ = some (.string b.2)) := hid (fun ww hw => by
        obtain ⟨q0, q1⟩ := (ht.keep hw).cc X hX
        have hq := cell_two (((hst.bel.trans (hw.mono hst.le)).block _ (lt_of_blk HA.out.2.1)).trans HA.out.2.1)
        exact ⟨q0, q1, hq.1, hq.2⟩)
      obtain ⟨c, ec⟩ : ∃ c, c = castOf s.vs (X : Int) := ⟨_, rfl⟩
      rw [← ec] at HL hsuc
      have HO := hid hst
      obtain ⟨L, eL⟩ : ∃ L, L = sgTo s b t j := ⟨_, rfl⟩
      rw [← eL] at HO hsuc hlen
      have HJ := hid (And.intro hj (And.intro hjn hlen))
      have HSu := hid hsuc
      have hvs : ∃ ao co, u7 = .slice ao L.length co := by
        rw [← eL] at hst
        rcases hst.own.2 with ⟨hv, h0⟩ | ⟨g1, cap, cur, hv, _⟩
        · exact ⟨none, 0, by rw [hv, h0]⟩
        · exact ⟨_, _, hv⟩
      obtain ⟨ao, co, rfl⟩ := hvs
      clear hst ht hj hjn hjl hid16 hX hga eX ec eL hsuc hlen
      obtain ⟨c1, c2⟩ := c
      obtain ⟨b1, b2⟩ := b
      by_cases hc : (c1, c2) = (b1, b2)
      · obtain ⟨rfl, rfl⟩ := Prod.mk.inj hc
        rw [if_pos rfl] at HSu
        go_wp2
        have HS0 : Hid (Below wr.heap.size wr wr.drew) := hid (Below.refl _ _).drew
        refine wp_region_G (S := fun ww => Below wr.heap.size wr ww) (ex := []) (by kernel_rfl) ?_
        try (change wpAnyG _ _ _ _ _ _ _ _ _ (World.drew _))
        refine wpAnyG_take (i := 0) (v := ?v11) rfl (by kernel_rfl) (fun _ _ _ h => h) (Or.inl ⟨by rfl, ?hy11⟩) HS0.out ?rest11
        case hy11 => (intro ww _; go_simp; try with_reducible rfl)
        go_simp
        refine wpAnyG_take (i := 1) (v := ?v12) rfl (by kernel_rfl) (fun _ _ _ h => h) (Or.inl ⟨by rfl, ?hy12⟩) HS0.out ?rest12
        case hy12 => (intro ww _; go_simp; try with_reducible rfl)
        go_simp
        refine wpAnyG_take (i := 2) (v := ?v13) rfl (by kernel_rfl) (fun _ _ _ h => h) (Or.inl ⟨by rfl, ?hy13⟩) HS0.out ?rest13
        case hy13 => (intro ww _; go_simp; try with_reducible rfl)
        go_simp
        refine wpAnyG_take (i := 3) (v := ?v14) rfl (by kernel_rfl) (fun _ _ _ h => h) (Or.inl ⟨by rfl, ?hy14⟩) HS0.out ?rest14
        case hy14 => (intro ww _; go_simp; try with_reducible rfl)
        go_simp
        refine wpAnyG_take (i := 4) (v := ?v15) rfl (by kernel_rfl) (fun _ _ _ h => h) (Or.inl ⟨by rfl, ?hy15⟩) HS0.out ?rest15
        case hy15 => (intro ww _; go_simp; try with_reducible rfl)
        go_simp
        refine wpAnyG_take (i := 5) (v := ?v16) rfl (by kernel_rfl) (fun _ _ _ h => h) (Or.inl ⟨by rfl, ?hy16⟩) HS0.out ?rest16
        case hy16 => (intro ww hS; obtain ⟨y0, y1, y2, y3⟩ := HL.out ww hS; go_simp; try with_reducible rfl)
        go_simp
        refine wpAnyG_take (i := 6) (v := ?v17) rfl (by kernel_rfl) (fun _ _ _ h => h) (Or.inl ⟨by rfl, ?hy17⟩) HS0.out ?rest17
        case hy17 => (intro ww hS; obtain ⟨y0, y1, y2, y3⟩ := HL.out ww hS; go_simp; try with_reducible rfl)
        go_simp
        refine wpAnyG_take (i := 7) (v := ?v18) rfl (by kernel_rfl) (fun _ _ _ h => h) (Or.inl ⟨by rfl, ?hy18⟩) HS0.out ?rest18
        case hy18 => (intro ww _; go_simp; try with_reducible rfl)
        go_simp
        refine wpAnyG_done (by kernel_rfl) ?_ _
        go_simp
        have HP := hid ((HO.out.alloc (.cells #[.int .i64 (X : Int), .string t] 47)).keepV (Below.refl _ _).drew)
        have HNw : Hid ((wr.alloc (.cells #[.int .i64 (X : Int), .string t] 47)).drew.heap[wr.heap.size]? = some (.cells #[.int .i64 (X : Int), .string t] 47 (0, 0))) := hid (heap_alloc_last wr _)
        go_wp2_with (at_builtin; refine wpList_append_own _ rfl _ _ 39 rfl wa.heap.size 47 i0 (.agg #[.int .i64 0, .string ⟨#[]⟩]) 2 24 Try.underlying39 hi0 hz0 hz1 hz2 rfl (by decide) _ L.length _ rfl (by exact HP.out.own) ⟨_, 0, none⟩ 1 1 (pC [((X : Int), t)]) rfl rfl (World.news_of_block (t := 47) (fr := (0, 0)) HNw.out) (by simp [pC, Value.oneCell']) (by have := HJ.out; unfold maxLen; omega) (by have := HJ.out; omega) HP.out.le ?_; intro v8 w8 hown8 hgrow8 hnil8; have H8 := hid (HP.out.grow (xs := [((X : Int), t)]) rfl hown8 hgrow8); clear hown8 hgrow8 hnil8)
        go_roundw
        case rel => exact ⟨j + 1, by have := HJ.out; omega, by go_num, by rw [HSu.out]; exact H8.out⟩
        case measure => simp [intOf]; omega
      · rw [if_neg hc, List.append_nil] at HSu
        by_cases h1 : c1 = b1
        · obtain rfl := h1
          have hb2 : (c2.toList == b2.toList) = false := text_neS (fun e => hc (by rw [e]))
          clear hc
          go_wp2
          have HS0 : Hid (Below wr.heap.size wr wr.drew) := hid (Below.refl _ _).drew
          refine wp_region_G (S := fun ww => Below wr.heap.size wr ww) (ex := []) (by kernel_rfl) ?_
          try (change wpAnyG _ _ _ _ _ _ _ _ _ (World.drew _))
          refine wpAnyG_take (i := 0) (v := ?v31) rfl (by kernel_rfl) (fun _ _ _ h => h) (Or.inl ⟨by rfl, ?hy31⟩) HS0.out ?rest31
          case hy31 => (intro ww _; go_simp; try with_reducible rfl)
          go_simp
          refine wpAnyG_take (i := 1) (v := ?v32) rfl (by kernel_rfl) (fun _ _ _ h => h) (Or.inl ⟨by rfl, ?hy32⟩) HS0.out ?rest32
          case hy32 => (intro ww _; go_simp; try with_reducible rfl)
          go_simp
          refine wpAnyG_take (i := 2) (v := ?v33) rfl (by kernel_rfl) (fun _ _ _ h => h) (Or.inl ⟨by rfl, ?hy33⟩) HS0.out ?rest33
          case hy33 => (intro ww _; go_simp; try with_reducible rfl)
          go_simp
          refine wpAnyG_take (i := 3) (v := ?v34) rfl (by kernel_rfl) (fun _ _ _ h => h) (Or.inl ⟨by rfl, ?hy34⟩) HS0.out ?rest34
          case hy34 => (intro ww _; go_simp; try with_reducible rfl)
          go_simp
          refine wpAnyG_take (i := 4) (v := ?v35) rfl (by kernel_rfl) (fun _ _ _ h => h) (Or.inl ⟨by rfl, ?hy35⟩) HS0.out ?rest35
          case hy35 => (intro ww _; go_simp; try with_reducible rfl)
          go_simp
          refine wpAnyG_take (i := 5) (v := ?v36) rfl (by kernel_rfl) (fun _ _ _ h => h) (Or.inl ⟨by rfl, ?hy36⟩) HS0.out ?rest36
          case hy36 => (intro ww hS; obtain ⟨y0, y1, y2, y3⟩ := HL.out ww hS; go_simp; try with_reducible rfl)
          go_simp
          refine wpAnyG_take (i := 6) (v := ?v37) rfl (by kernel_rfl) (fun _ _ _ h => h) (Or.inl ⟨by rfl, ?hy37⟩) HS0.out ?rest37
          case hy37 => (intro ww hS; obtain ⟨y0, y1, y2, y3⟩ := HL.out ww hS; go_simp; try with_reducible rfl)
          go_simp
          refine wpAnyG_take (i := 7) (v := ?v38) rfl (by kernel_rfl) (fun _ _ _ h => h) (Or.inl ⟨by rfl, ?hy38⟩) HS0.out ?rest38
          case hy38 => (intro ww _; go_simp; try with_reducible rfl)
          go_simp
          refine wpAnyG_done (by kernel_rfl) ?_ _
          go_simp
          go_wp2
          go_roundw
          case rel => exact ⟨j + 1, by have := HJ.out; omega, by go_num, by rw [HSu.out]; exact HO.out.keepV (Below.refl _ _).drew⟩
          case measure => simp [intOf]; omega
        · have hb1 : (c1.toList == b1.toList) = false := text_neS h1
          clear hc h1
          go_wp2
          have HS0 : Hid (Below wr.heap.size wr wr.drew) := hid (Below.refl _ _).drew
          refine wp_region_G (S := fun ww => Below wr.heap.size wr ww) (ex := []) (by kernel_rfl) ?_
          try (change wpAnyG _ _ _ _ _ _ _ _ _ (World.drew _))
          refine wpAnyG_take (i := 0) (v := ?v51) rfl (by kernel_rfl) (fun _ _ _ h => h) (Or.inl ⟨by rfl, ?hy51⟩) HS0.out ?rest51
          case hy51 => (intro ww _; go_simp; try with_reducible rfl)
          go_simp
          refine wpAnyG_take (i := 1) (v := ?v52) rfl (by kernel_rfl) (fun _ _ _ h => h) (Or.inl ⟨by rfl, ?hy52⟩) HS0.out ?rest52
          case hy52 => (intro ww _; go_simp; try with_reducible rfl)
          go_simp
          refine wpAnyG_take (i := 2) (v := ?v53) rfl (by kernel_rfl) (fun _ _ _ h => h) (Or.inl ⟨by rfl, ?hy53⟩) HS0.out ?rest53
          case hy53 => (intro ww _; go_simp; try with_reducible rfl)
          go_simp
          refine wpAnyG_take (i := 3) (v := ?v54) rfl (by kernel_rfl) (fun _ _ _ h => h) (Or.inl ⟨by rfl, ?hy54⟩) HS0.out ?rest54
          case hy54 => (intro ww _; go_simp; try with_reducible rfl)
          go_simp
          refine wpAnyG_take (i := 4) (v := ?v55) rfl (by kernel_rfl) (fun _ _ _ h => h) (Or.inl ⟨by rfl, ?hy55⟩) HS0.out ?rest55
          case hy55 => (intro ww _; go_simp; try with_reducible rfl)
          go_simp
          refine wpAnyG_take (i := 5) (v := ?v56) rfl (by kernel_rfl) (fun _ _ _ h => h) (Or.inl ⟨by rfl, ?hy56⟩) HS0.out ?rest56
          case hy56 => (intro ww hS; obtain ⟨y0, y1, y2, y3⟩ := HL.out ww hS; go_simp; try with_reducible rfl)
          go_simp
          refine wpAnyG_take (i := 6) (v := ?v57) rfl (by kernel_rfl) (fun _ _ _ h => h) (Or.inl ⟨by rfl, ?hy57⟩) HS0.out ?rest57
          case hy57 => (intro ww hS; obtain ⟨y0, y1, y2, y3⟩ := HL.out ww hS; go_simp; try with_reducible rfl)
          go_simp
          refine wpAnyG_take (i := 7) (v := ?v58) rfl (by kernel_rfl) (fun _ _ _ h => h) (Or.inl ⟨by rfl, ?hy58⟩) HS0.out ?rest58
          case hy58 => (intro ww _; go_simp; try with_reducible rfl)
          go_simp
          refine wpAnyG_done (by kernel_rfl) ?_ _
          go_simp
          go_wp2
          go_roundw
          case rel => exact ⟨j + 1, by have := HJ.out; omega, by go_num, by rw [HSu.out]; exact HO.out.keepV (Below.refl _ _).drew⟩
          case measure => simp [intOf]; omega
end Go.Proofs.Ytclfphffbfdimaa

/- What the program reads as a configuration. -/
namespace Go.Proofs.Ytclfphffbfdimaa
open Go.RowKit

/-- The result's block is as laid, the program's reader stands at s; nothing else has turned since w0. -/
structure RpSt (w0 w : World) (s : ByteArray) (sh : Bool) : Prop where
  res : w.heap[w0.heap.size]? = some (.cells #[.int .i64 0, .slice none 0 0] 24 (0, 0))
  rd : RdAt w (w0.heap.size + 1) s sh
  bel : Below w0.heap.size w0 w
theorem RpSt.kept {w0 w w' : World} {s s' : ByteArray} {sh sh' : Bool} (h : RpSt w0 w s sh) (k : Kept (w0.heap.size + 1) none w w') (hr : RdAt w' (w0.heap.size + 1) s' sh') : RpSt w0 w' s' sh' :=
  ⟨(k.block _ (lt_of_blk h.res) (by omega) (by simp)).trans h.res, hr, h.bel.trans (k.below (Nat.le_of_lt (lt_of_blk h.res)) (by omega) (fun g hg => by cases hg))⟩
theorem RpSt.keep {w0 w w' : World} {s : ByteArray} {sh : Bool} (h : RpSt w0 w s sh) (hb : Below w.heap.size w w') : RpSt w0 w' s sh :=
  ⟨(hb.block _ (lt_of_blk h.res)).trans h.res, (hb.block _ (lt_of_blk h.rd)).trans h.rd, h.bel.trans (hb.mono h.bel.size)⟩
/-- .. and the numbers l lie in the row b. -/
structure RmSt (w0 w : World) (s : ByteArray) (sh : Bool) (b : Nat) (l : List Int) : Prop where
  st : RpSt w0 w s sh
  row : w.heap[b]? = some (.cells (iC l).toArray 3 (0, 0))
  hb : w0.heap.size + 2 ≤ b
theorem RmSt.kept {w0 w w' : World} {s s' : ByteArray} {sh sh' : Bool} {b : Nat} {l : List Int} (h : RmSt w0 w s sh b l) (k : Kept (w0.heap.size + 1) none w w') (hr : RdAt w' (w0.heap.size + 1) s' sh') : RmSt w0 w' s' sh' b l :=
  ⟨h.st.kept k hr, (k.block _ (lt_of_blk h.row) (by have := h.hb; omega) (by simp)).trans h.row, h.hb⟩
theorem RmSt.keep {w0 w w' : World} {s : ByteArray} {sh : Bool} {b : Nat} {l : List Int} (h : RmSt w0 w s sh b l) (hb : Below w.heap.size w w') : RmSt w0 w' s sh b l :=
  ⟨h.st.keep hb, (hb.block _ (lt_of_blk h.row)).trans h.row, h.hb⟩
theorem RmSt.put {w0 w : World} {s : ByteArray} {sh : Bool} {b : Nat} {l l2 : List Int} (h : RmSt w0 w s sh b l) (j : Nat) (y : Int) (hl : l.set j y = l2) : RmSt w0 (w.setCell ⟨b, j, none⟩ (.int .i64 y)) s sh b l2 := by
  have hb := h.hb
  refine ⟨⟨(Below.heap_setCell _ _ _ _ (show w0.heap.size ≠ b by omega)).trans h.st.res, (Below.heap_setCell _ _ _ _ (show w0.heap.size + 1 ≠ b by omega)).trans h.st.rd, h.st.bel.setCell (p := ⟨b, j, none⟩) (by show w0.heap.size ≤ b; omega) _⟩, (blk_set h.row j _).trans ?_, h.hb⟩
  subst hl
  rw [List.setIfInBounds_toArray]
  simp [iC, List.map_set]
/-- What is read so far, and room for the rest. -/
def rdP (s : ByteArray) (sh : Bool) (N j : Nat) : List Int := rdL s sh j ++ List.replicate (N - j) 0
theorem rdP_set (s : ByteArray) (sh : Bool) (N j : Nat) (hj : j < N) : (rdP s sh N j).set j (rN (rdS s sh j).1 (rdS s sh j).2 1 : Int) = rdP s sh N (j + 1) := by
  obtain ⟨m, hm⟩ : ∃ m, N - j = m + 1 := ⟨N - j - 1, by omega⟩
  rw [rdP, rdP, hm, show N - (j + 1) = m by omega, List.set_append_right _ _ (by rw [rdL_len]; omega), rdL_len, Nat.sub_self, List.replicate_succ, List.set_cons_zero, rdL, List.append_assoc]
  rfl
theorem rdP_all (s : ByteArray) (sh : Bool) (N : Nat) : rdP s sh N N = rdL s sh N := by rw [rdP, Nat.sub_self, List.replicate_zero, List.append_nil]
theorem rdP_len (s : ByteArray) (sh : Bool) (N j : Nat) (hj : j ≤ N) : (rdP s sh N j).length = N := by rw [rdP, List.length_append, rdL_len, List.length_replicate]; omega
set_option maxRecDepth 100000 in
set_option maxHeartbeats 3200000 in
theorem cread_any (t : ByteArray) (w : World) :
    Calls Try.prog 42 #[.string t] w fun e w' => ∃ v, e = .returned (.tuple #[.agg #[.int .i64 (readZ t), v], .int .i64 (readE t)]) ∧ OwnedI w.heap.size w w' v (readM t) := by
  have H0 : Hid (RpSt w ((w.alloc (.cells #[.int .i64 0, .slice none 0 0] 24)).alloc (.cells #[.string t, .bool false] 115)) t false) := hid
    ⟨(Below.heap_alloc _ _ _ (by simp)).trans (heap_alloc_last w _), snd_alloc w _ _, ((Below.refl _ _).alloc (Nat.le_refl _) _).alloc (by simp) _⟩
  have hN1 : cN t < 256 := by have := rN_lt (cS2 t).1 (cS2 t).2 1; simpa [cN] using this
  obtain ⟨N, eN⟩ : ∃ N, N = cN t := ⟨_, rfl⟩
  obtain ⟨E, eE⟩ : ∃ E, E = cE t := ⟨_, rfl⟩
  obtain ⟨H, eH⟩ : ∃ H, H = cH t := ⟨_, rfl⟩
  have hN2 : (N : Int) < 256 := by omega
  have HC := hid (And.intro eN (And.intro eE eH))
  have HA : Hid (∀ u : World, RpSt w u t false → Calls Try.prog 60 #[.pointer (some ⟨w.heap.size + 1, 0, none⟩)] u fun e w' => e = .returned (.int .i64 (H : Int)) ∧ RpSt w w' (cS1 t).1 (cS1 t).2) := hid (fun u hu => (rbyte_any _ _ _ u hu.rd).mono fun e w' ⟨he, hr, hk⟩ => ⟨by rw [he, eH]; rfl, hu.kept hk hr⟩)
  have HB : Hid (∀ u : World, RpSt w u (cS1 t).1 (cS1 t).2 → Calls Try.prog 61 #[.pointer (some ⟨w.heap.size + 1, 0, none⟩)] u fun e w' => e = .returned (.int .i64 (E : Int)) ∧ RpSt w w' (cS2 t).1 (cS2 t).2) := hid (fun u hu => (rword_any _ _ _ u hu.rd).mono fun e w' ⟨he, hr, hk⟩ => ⟨by rw [he, eE]; rfl, hu.kept hk hr⟩)
  have HD : Hid (∀ u : World, RpSt w u (cS2 t).1 (cS2 t).2 → Calls Try.prog 60 #[.pointer (some ⟨w.heap.size + 1, 0, none⟩)] u fun e w' => e = .returned (.int .i64 (N : Int)) ∧ RpSt w w' (cS3 t).1 (cS3 t).2) := hid (fun u hu => (rbyte_any _ _ _ u hu.rd).mono fun e w' ⟨he, hr, hk⟩ => ⟨by rw [he, eN]; rfl, hu.kept hk hr⟩)
  have HMk : Hid (∀ u : World, (Instr.makeSlice 22 (.int .i64 (N : Int)) (.int .i64 (N : Int))).run Try.prog u = .ok (.slice (some ⟨u.heap.size, 0, none⟩) N N) (u.alloc (.cells (iC (List.replicate N 0)).toArray 3))) := hid (fun u => run_makeI N N (by omega) (by omega) u)
  clear eN eE eH hN1
  go_enter Try.func42, Try.ntmps42
  go_wp2_with (first
    | (go_at_call 59; refine (read_any _ _).mono ?_; rintro e w1 ⟨rfl, rfl⟩)
    | (go_at_call 61; refine (HB.out _ (by exact H1.out)).mono ?_; rintro e w2 ⟨rfl, h2⟩; have H2 := hid h2; clear h2)
    | (go_at_call 60; have := H2; refine (HD.out _ (by exact H2.out)).mono ?_; rintro e w3 ⟨rfl, h3⟩; have H3 := hid h3; clear h3)
    | (go_at_call 60; refine (HA.out _ (by exact H0.out)).mono ?_; rintro e w1 ⟨rfl, h1⟩; have H1 := hid h1; clear h1)
    | rw [HMk.out])
  obtain ⟨b, eb⟩ : ∃ b, b = w3.heap.size := ⟨_, rfl⟩
  obtain ⟨S, eS⟩ : ∃ S, S = cS3 t := ⟨_, rfl⟩
  rw [← eS] at H3
  have H4 : Hid (RmSt w (w3.alloc (.cells (iC (List.replicate N 0)).toArray 3)) S.1 S.2 b (rdP S.1 S.2 N 0)) := hid ⟨H3.out.keep ((Below.refl _ _).alloc (Nat.le_refl _) _), by rw [eb]; exact heap_alloc_last w3 _, by rw [eb]; exact lt_of_blk H3.out.rd⟩
  rw [← eb]
  have HS := hid eS
  clear eb eS this H0 H1 H2
  go_loopw [21] (fun i wr => ∃ j : Nat, j ≤ N ∧ i = .int .i64 (j : Int) ∧ RmSt w wr (rdS S.1 S.2 j).1 (rdS S.1 S.2 j).2 b (rdP S.1 S.2 N j))
    (fun i _ => ((N : Int) - intOf i).toNat)
  case atStart => exact ⟨0, by omega, rfl, H4.out⟩
  case round =>
    obtain ⟨j, hj, rfl, hO⟩ := hrel
    have HO := hid hO
    clear hO H3
    by_cases hjn : j = N
    · have hj1 : ¬ ((j : Int) < (N : Int)) := by omega
      have hO := HO.out
      rw [hjn, rdP_all] at hO
      have HM : Hid (rdL S.1 S.2 N = cM t ∧ rdS S.1 S.2 N = cF t) := hid (by rw [HS.out, HC.out.1]; exact ⟨rfl, rfl⟩)
      rw [HM.out.1, HM.out.2] at hO
      have HF := hid hO
      clear hj hjn hO HO
      have HLN : Hid ((cM t).length = N) := hid (by rw [← HM.out.1, rdL_len])
      have HG : Hid (RmSt w (wr.alloc (.cells #[.int .i64 (E : Int), .slice (some ⟨b, 0, none⟩) N N] 24)) (cF t).1 (cF t).2 b (cM t)) := hid (HF.out.keep ((Below.refl _ _).alloc (Nat.le_refl _) _))
      have HK : Hid ((wr.alloc (.cells #[.int .i64 (E : Int), .slice (some ⟨b, 0, none⟩) N N] 24)).heap[wr.heap.size]? = some (.cells #[.int .i64 (E : Int), .slice (some ⟨b, 0, none⟩) N N] 24 (0, 0))) := hid (heap_alloc_last wr _)
      obtain ⟨wz, ewz⟩ : ∃ wz, wz = wr.alloc (.cells #[.int .i64 (E : Int), .slice (some ⟨b, 0, none⟩) N N] 24) := ⟨_, rfl⟩
      have r0 : wz.cell? ⟨w.heap.size, 0, none⟩ = some (.int .i64 0) := by rw [ewz]; exact cell_of_blk HG.out.st.res 0 (by simp)
      have r1 : wz.cell? ⟨w.heap.size, 1, none⟩ = some (.slice none 0 0) := by rw [ewz]; exact cell_of_blk HG.out.st.res 1 (by simp)
      have f0 : wz.frozen? ⟨w.heap.size, 0, none⟩ = false := by rw [ewz]; exact free_of_blk HG.out.st.res 0
      have f1 : wz.frozen? ⟨w.heap.size, 1, none⟩ = false := by rw [ewz]; exact free_of_blk HG.out.st.res 1
      have k0 : wz.cell? ⟨wr.heap.size, 0, none⟩ = some (.int .i64 (E : Int)) := by rw [ewz]; exact cell_of_blk HK.out 0 (by simp)
      have k1 : wz.cell? ⟨wr.heap.size, 1, none⟩ = some (.slice (some ⟨b, 0, none⟩) N N) := by rw [ewz]; exact cell_of_blk HK.out 1 (by simp)
      have HI : Hid (IntsIn wz (some ⟨b, 0, none⟩) (cM t)) := hid (by rw [ewz]; exact .inr ⟨b, 0, rfl, lt_of_blk HG.out.row, fun i z hz => heap_cells HG.out.row i _ (iC_get _ i z hz)⟩)
      rw [ewz] at r0 r1 f0 f1 k0 k1
      by_cases hH : H = 67
      · have hH1 : (H : Int) = 67 := by omega
        have hE := end_any (w.heap.size + 1) (cF t).1 (cF t).2 wz (by rw [ewz]; exact HG.out.st.rd)
        rw [ewz] at hE HI
        by_cases he : endOf (cF t).1 (cF t).2 = 0
        · rw [he] at hE
          have HEnd := hid hE
          have HRt : Hid (∀ (bb : Bool), rightC (E : Int) (cM t) = bb → ∀ u : World, IntsIn u (some ⟨b, 0, none⟩) (cM t) → Calls Try.prog 27 #[.agg #[.int .i64 (E : Int), .slice (some ⟨b, 0, none⟩) N N]] u fun e w' => e = .returned (.bool bb) ∧ Below u.heap.size u w') := hid (fun bb hbb u hu => by rw [← hbb]; exact cright_any (E : Int) _ N N (cM t) HLN.out (by unfold maxLen; omega) u hu)
          cases hr : rightC (E : Int) (cM t) with
          | true =>
            have HRb := hid (HRt.out true hr)
            have HB : Hid (readB t = true) := hid (by rw [readB, ← HC.out.2.2, ← HC.out.2.1, decide_eq_true hH, decide_eq_true he, hr]; rfl)
            clear hH he hr hE ewz
            go_wp2_with (first
              | (go_at_call 62; refine (HEnd.out).mono ?_; rintro e wx ⟨rfl, rfl⟩)
              | (go_at_call 27; refine (HRb.out _ (by exact HI.out)).mono ?_; rintro e w7 ⟨rfl, hb7⟩; have H7 := hid hb7; clear hb7
                 have HR7 := hid ((H7.out.block _ (lt_of_blk HG.out.st.res)).trans HG.out.st.res)
                 have HK7 := hid ((H7.out.block _ (lt_of_blk HK.out)).trans HK.out)
                 have HM7 := hid ((H7.out.block _ (lt_of_blk HG.out.row)).trans HG.out.row)
                 have q0 : w7.cell? ⟨wr.heap.size, 0, none⟩ = some (.int .i64 (E : Int)) := cell_of_blk HK7.out 0 (by simp)
                 have q1 : w7.cell? ⟨wr.heap.size, 1, none⟩ = some (.slice (some ⟨b, 0, none⟩) N N) := cell_of_blk HK7.out 1 (by simp)
                 have s0 : w7.cell? ⟨w.heap.size, 0, none⟩ = some (.int .i64 0) := cell_of_blk HR7.out 0 (by simp)
                 have s1 : w7.cell? ⟨w.heap.size, 1, none⟩ = some (.slice none 0 0) := cell_of_blk HR7.out 1 (by simp)
                 have g0 : w7.frozen? ⟨w.heap.size, 0, none⟩ = false := free_of_blk HR7.out 0
                 have g1 : w7.frozen? ⟨w.heap.size, 1, none⟩ = false := free_of_blk HR7.out 1))
            refine ret_cell2 (s := 2) (s2 := 3) (ad := ⟨w.heap.size, 0, none⟩) rfl rfl (load_conf _ _ (.int .i64 (E : Int)) (.slice (some ⟨b, 0, none⟩) N N) (cell_of_blk (res_set HR7.out) 0 (by simp)) (cell_of_blk (res_set HR7.out) 1 (by simp))) rfl rfl ?_
            have hb2 := HG.out.hb
            have hbl := ((HG.out.st.bel.trans (H7.out.mono HG.out.st.bel.size)).setCell (p := ⟨w.heap.size, 0, none⟩) (Nat.le_refl _) (.int .i64 (E : Int))).setCell (p := ⟨w.heap.size, 1, none⟩) (Nat.le_refl _) (.slice (some ⟨b, 0, none⟩) N N)
            rw [readZ, readM, readE, HB.out, ← HC.out.2.1]
            refine ⟨_, rfl, own_of_blk (zs := cM t) (rest := []) ?_ (by omega) (by rw [HLN.out]; rfl) (by unfold maxLen; omega) HLN.out.symm hbl⟩
            rw [List.append_nil]
            exact (Below.heap_setCell _ _ _ _ (show b ≠ w.heap.size by omega)).trans ((Below.heap_setCell _ _ _ _ (show b ≠ w.heap.size by omega)).trans HM7.out)
          | false =>
            have HRb := hid (HRt.out false hr)
            have HB : Hid (readB t = false) := hid (by rw [readB, ← HC.out.2.1, hr]; simp)
            clear hH he hr hE ewz
            go_wp2_with (first
              | (go_at_call 62; refine (HEnd.out).mono ?_; rintro e wx ⟨rfl, rfl⟩)
              | (go_at_call 27; refine (HRb.out _ (by exact HI.out)).mono ?_; rintro e w7 ⟨rfl, hb7⟩; have H7 := hid hb7; clear hb7
                 have HR7 := hid ((H7.out.block _ (lt_of_blk HG.out.st.res)).trans HG.out.st.res)
                 have s0 : w7.cell? ⟨w.heap.size, 0, none⟩ = some (.int .i64 0) := cell_of_blk HR7.out 0 (by simp)
                 have s1 : w7.cell? ⟨w.heap.size, 1, none⟩ = some (.slice none 0 0) := cell_of_blk HR7.out 1 (by simp)
                 have g0 : w7.frozen? ⟨w.heap.size, 0, none⟩ = false := free_of_blk HR7.out 0
                 have g1 : w7.frozen? ⟨w.heap.size, 1, none⟩ = false := free_of_blk HR7.out 1))
            refine ret_cell2 (s := 2) (s2 := 3) (ad := ⟨w.heap.size, 0, none⟩) rfl rfl (load_conf _ _ (.int .i64 0) (.slice none 0 0) (cell_of_blk (res_set HR7.out) 0 (by simp)) (cell_of_blk (res_set HR7.out) 1 (by simp))) rfl rfl ?_
            rw [readZ, readM, readE, HB.out]
            have hbl := ((HG.out.st.bel.trans (H7.out.mono HG.out.st.bel.size)).setCell (p := ⟨w.heap.size, 0, none⟩) (Nat.le_refl _) (.int .i64 0)).setCell (p := ⟨w.heap.size, 1, none⟩) (Nat.le_refl _) (.slice none 0 0)
            exact ⟨_, rfl, OwnedI.nil hbl hbl.size⟩
        · have HB : Hid (readB t = false) := hid (by rw [readB, decide_eq_false he]; simp)
          generalize endOf (cF t).1 (cF t).2 = er at hE he
          have HEnd := hid hE
          clear hH hE ewz
          go_wp2_with (go_at_call 62; refine (HEnd.out).mono ?_; rintro e wx ⟨rfl, rfl⟩)
          refine ret_cell2 (s := 2) (s2 := 3) (ad := ⟨w.heap.size, 0, none⟩) rfl rfl (load_conf _ _ (.int .i64 0) (.slice none 0 0) (cell_of_blk (res_set HG.out.st.res) 0 (by simp)) (cell_of_blk (res_set HG.out.st.res) 1 (by simp))) rfl rfl ?_
          rw [readZ, readM, readE, HB.out]
          have hbl := (HG.out.st.bel.setCell (p := ⟨w.heap.size, 0, none⟩) (Nat.le_refl _) (.int .i64 0)).setCell (p := ⟨w.heap.size, 1, none⟩) (Nat.le_refl _) (.slice none 0 0)
          exact ⟨_, rfl, OwnedI.nil hbl hbl.size⟩
      · have hH1 : ¬ ((H : Int) = 67) := by omega
        have HB : Hid (readB t = false) := hid (by rw [readB, ← HC.out.2.2, decide_eq_false hH]; rfl)
        clear hH ewz
        go_wp2
        refine ret_cell2 (s := 2) (s2 := 3) (ad := ⟨w.heap.size, 0, none⟩) rfl rfl (load_conf _ _ (.int .i64 0) (.slice none 0 0) (cell_of_blk (res_set HG.out.st.res) 0 (by simp)) (cell_of_blk (res_set HG.out.st.res) 1 (by simp))) rfl rfl ?_
        rw [readZ, readM, readE, HB.out]
        have hbl := (HG.out.st.bel.setCell (p := ⟨w.heap.size, 0, none⟩) (Nat.le_refl _) (.int .i64 0)).setCell (p := ⟨w.heap.size, 1, none⟩) (Nat.le_refl _) (.slice none 0 0)
        exact ⟨_, rfl, OwnedI.nil hbl hbl.size⟩
    · have hj1 : (j : Int) < (N : Int) := by omega
      have hj0 : (0 : Int) ≤ (j : Int) := Int.natCast_nonneg _
      obtain ⟨y, ey⟩ : ∃ y, y = rN (rdS S.1 S.2 j).1 (rdS S.1 S.2 j).2 1 := ⟨_, rfl⟩
      have HL : Hid ((rdP S.1 S.2 N j).set j (y : Int) = rdP S.1 S.2 N (j + 1)) := hid (by rw [ey]; exact rdP_set S.1 S.2 N j (by omega))
      have HK : Hid (∀ u : World, RmSt w u (rdS S.1 S.2 j).1 (rdS S.1 S.2 j).2 b (rdP S.1 S.2 N j) → Calls Try.prog 60 #[.pointer (some ⟨w.heap.size + 1, 0, none⟩)] u fun e w' => e = .returned (.int .i64 (y : Int)) ∧ RmSt w w' (rdS S.1 S.2 (j + 1)).1 (rdS S.1 S.2 (j + 1)).2 b (rdP S.1 S.2 N j)) := hid (fun u hu => (rbyte_any _ _ _ u hu.st.rd).mono fun e w' ⟨he, hr, hk⟩ => ⟨by rw [he, ey], hu.kept hk hr⟩)
      have HLn : Hid (j < (iC (rdP S.1 S.2 N j)).toArray.size) := hid (by show j < (iC (rdP S.1 S.2 N j)).length; rw [iC_len, rdP_len _ _ _ _ hj]; omega)
      have HJ := hid (And.intro hj hjn)
      clear ey hj hjn
      go_wp2_with (go_at_call 60; refine (HK.out _ (by exact HO.out)).mono ?_; rintro e w5 ⟨rfl, h5⟩; have H5 := hid h5; clear h5; have z5 := cell_of_blk H5.out.row j HLn.out; have f5 := free_of_blk H5.out.row j)
      go_roundw
      case rel => exact ⟨j + 1, by have := HJ.out; omega, by go_num, H5.out.put j _ HL.out⟩
      case measure => simp [intOf]; omega
end Go.Proofs.Ytclfphffbfdimaa

/- The program's tally: what is settled. -/
namespace Go.Proofs.Ytclfphffbfdimaa
open Go.RowKit

def nxB (s : Ta) : List Int := readM (chB s).2
def setS (s : Ta) : ByteArray := stT (4 * (s.ep + 1)) (chB s).1
/-- What a ballot that is chosen says. -/
theorem chosen_is {s : Ta} (h : TOk s) (hf : chosenOf s = some (chB s)) : voB s.ep s.mem (chB s).1 (nxB s) = true ∧ readZ (chB s).2 = s.ep + 1 ∧ voS s.ep s.mem (chB s).1 (nxB s) = setS s ∧ voC s.ep s.mem (chB s).1 (nxB s) = (chB s).2 ∧ (chB s).1.size ≤ 140737488355328 ∧ rightC (s.ep + 1) (nxB s) = true := by
  obtain ⟨_, v, hv, e⟩ := chosen_some h hf
  obtain ⟨h1, h2, nx, h3, h4⟩ := h.bal v hv
  rw [e] at h1 h2 h4
  have h5 := read_text _ _ h3
  rw [← h4] at h5
  have hn : nxB s = nx := h5.2.2
  have hb : voB s.ep s.mem (chB s).1 (nxB s) = true := by rw [voB, h.right, hn, h3, decide_eq_true h1]; rfl
  refine ⟨hb, h5.2.1, by rw [voS, if_pos hb, setS], by rw [voC, if_pos hb, hn, h4], h2, by rw [hn]; exact h3⟩
theorem chB_of {s : Ta} (h : chF s = true) : chosenOf s = some (chB s) := by
  unfold chF at h
  unfold chB
  cases e : chosenOf s with
  | none => rw [e] at h; cases h
  | some b => rfl
theorem load_set (w : World) (b : Nat) (x0 x1 x2 x3 x4 : Value) (h : w.heap[b]? = some (.cells #[x0, x1, x2, x3, x4] 51 (0, 0))) : (loadVar 51 ⟨b, 0, none⟩).run Try.prog w = .ok (.agg #[x0, x1, x2, x3, x4]) w := by
  have c0 := cell_at (L := [x0, x1, x2, x3, x4]) h 0 _ rfl
  have c1 := cell_at (L := [x0, x1, x2, x3, x4]) h 1 _ rfl
  have c2 := cell_at (L := [x0, x1, x2, x3, x4]) h 2 _ rfl
  have c3 := cell_at (L := [x0, x1, x2, x3, x4]) h 3 _ rfl
  have c4 := cell_at (L := [x0, x1, x2, x3, x4]) h 4 _ rfl
  go_simp
theorem set_put {w : World} {b : Nat} {y0 y1 y2 y3 y4 : Value} {T : TypeId} (h : w.heap[b]? = some (.cells #[y0, y1, y2, y3, y4] T (0, 0))) (x0 x1 x2 x3 x4 : Value) : (((((w.setCell ⟨b, 0, none⟩ x0).setCell ⟨b, 1, none⟩ x1).setCell ⟨b, 2, none⟩ x2).setCell ⟨b, 3, none⟩ x3).setCell ⟨b, 4, none⟩ x4).heap[b]? = some (.cells #[x0, x1, x2, x3, x4] T (0, 0)) := by
  have h0 : (w.setCell ⟨b, 0, none⟩ x0).heap[b]? = some (.cells #[x0, y1, y2, y3, y4] T (0, 0)) := (blk_set h 0 x0).trans (by simp)
  have h1 := (blk_set h0 1 x1).trans (show _ = some (Obj.cells #[x0, x1, y2, y3, y4] T (0, 0)) by simp)
  have h2 := (blk_set h1 2 x2).trans (show _ = some (Obj.cells #[x0, x1, x2, y3, y4] T (0, 0)) by simp)
  have h3 := (blk_set h2 3 x3).trans (show _ = some (Obj.cells #[x0, x1, x2, x3, y4] T (0, 0)) by simp)
  exact (blk_set h3 4 x4).trans (by simp)
theorem OwnedT.sl {B : Nat} {w0 w : World} {v : Value} {ps : List (Int × ByteArray)} (h : OwnedT B w0 w v ps) : ∃ ad cap, v = .slice ad ps.length cap ∧ PairsIn w ad ps ∧ ∀ x, ad = some x → B ≤ x.block ∧ x.block < w.heap.size := by
  obtain ⟨ad, cap, hv, hp⟩ := own_pairsT h.own
  refine ⟨ad, cap, hv, hp, fun x hx => ?_⟩
  rcases h.own.2 with ⟨hv2, h0⟩ | ⟨g, cap2, cur, hv2, hb, hh, hr⟩
  · rw [hv, hx] at hv2; cases hv2
  · rw [hv, hx] at hv2; cases hv2; exact ⟨hb, lt_of_blk hh⟩
theorem pairs_stayV {w w' : World} {a : Option Addr} {l : List (Int × ByteArray)} (h : PairsIn w a l) (hs : w.heap.size ≤ w'.heap.size) (hb : ∀ x, a = some x → w'.heap[x.block]? = w.heap[x.block]?) : PairsIn w' a l := by
  rcases h with h | ⟨g, off, ha, hg, hc⟩
  · exact .inl h
  · exact .inr ⟨g, off, ha, Nat.lt_of_lt_of_le hg hs, fun j z hz => ⟨(World.cell?_of_block (a := ⟨g, off + j * 2, none⟩) (show w'.heap[g]? = w.heap[g]? from hb _ ha)).trans (hc j z hz).1, (World.cell?_of_block (a := ⟨g, off + j * 2 + 1, none⟩) (show w'.heap[g]? = w.heap[g]? from hb _ ha)).trans (hc j z hz).2⟩⟩
def NoSet : Value := .tuple #[.agg #[.string ⟨#[]⟩, .slice none 0 0, .int .i64 0, .slice none 0 0, .slice none 0 0], .bool false]
set_option maxRecDepth 100000 in
set_option maxHeartbeats 1600000 in
theorem vsettled_nil (w : World) : Calls Try.prog 18 #[.pointer none] w fun e w' => e = .returned NoSet ∧ Below w.heap.size w w' := by
  have HC : Hid (∀ u : World, Calls Try.prog 41 #[.pointer none] u fun e w' => e = .returned (.tuple #[.agg #[.string ⟨#[]⟩, .string ⟨#[]⟩], .bool false]) ∧ Below u.heap.size u w') := hid vchosen_nil
  have HR0 : Hid ((w.alloc (.cells #[.string ⟨#[]⟩, .slice none 0 0, .int .i64 0, .slice none 0 0, .slice none 0 0] 51)).heap[w.heap.size]? = some (.cells #[.string ⟨#[]⟩, .slice none 0 0, .int .i64 0, .slice none 0 0, .slice none 0 0] 51 (0, 0))) := hid (heap_alloc_last w _)
  go_enter Try.func18, Try.ntmps18
  go_wp2_with (go_at_call 41; refine (HC.out _ ).mono ?_; rintro e w1 ⟨rfl, hb1⟩; have H1 : Hid (w1.heap[w.heap.size]? = some (.cells #[.string ⟨#[]⟩, .slice none 0 0, .int .i64 0, .slice none 0 0, .slice none 0 0] 51 (0, 0)) ∧ Below w.heap.size w w1) := hid ⟨(hb1.block _ (by simp)).trans HR0.out, ((Below.refl w.heap.size w).alloc (Nat.le_refl _) _).trans (hb1.mono (by simp))⟩; have f0 := free_at H1.out.1 0; have f1 := free_at H1.out.1 1; have f2 := free_at H1.out.1 2; have f3 := free_at H1.out.1 3; have f4 := free_at H1.out.1 4; have z0 := cell_at (L := [_, _, _, _, _]) H1.out.1 0 _ rfl; have z1 := cell_at (L := [_, _, _, _, _]) H1.out.1 1 _ rfl; have z2 := cell_at (L := [_, _, _, _, _]) H1.out.1 2 _ rfl; have z3 := cell_at (L := [_, _, _, _, _]) H1.out.1 3 _ rfl; have z4 := cell_at (L := [_, _, _, _, _]) H1.out.1 4 _ rfl; have hl1 : w.heap.size < w1.heap.size := Nat.lt_of_lt_of_le (by simp) hb1.size; clear hb1)
  have hfin := (Below.heap_alloc (((((w1.setCell ⟨w.heap.size, 0, none⟩ (.string ⟨#[]⟩)).setCell ⟨w.heap.size, 1, none⟩ (.slice none 0 0)).setCell ⟨w.heap.size, 2, none⟩ (.int .i64 0)).setCell ⟨w.heap.size, 3, none⟩ (.slice none 0 0)).setCell ⟨w.heap.size, 4, none⟩ (.slice none 0 0)) (.cells #[.string ⟨#[]⟩, .string ⟨#[]⟩] 76) w.heap.size (by simpa using hl1)).trans (set_put H1.out.1 (.string ⟨#[]⟩) (.slice none 0 0) (.int .i64 0) (.slice none 0 0) (.slice none 0 0))
  refine ret_cell2 (s := 2) (s2 := 3) (ad := ⟨w.heap.size, 0, none⟩) rfl rfl (load_set _ _ _ _ _ _ _ hfin) rfl rfl ?_
  refine ⟨rfl, Below.alloc ?_ (by simpa using H1.out.2.size) _⟩
  exact ((((H1.out.2.setCell (Nat.le_refl _) _).setCell (Nat.le_refl _) _).setCell (Nat.le_refl _) _).setCell (Nat.le_refl _) _).setCell (Nat.le_refl _) _
set_option maxRecDepth 100000 in
set_option maxHeartbeats 1600000 in
theorem vsettled_no (g m : Nat) (am : Option Addr) (cm : Nat) (s : Ta) (w : World) (h : TlA w g m am cm s) (hf : chF s = false) : Calls Try.prog 18 #[.pointer (some ⟨g, 0, none⟩)] w fun e w' => e = .returned NoSet ∧ Below w.heap.size w w' := by
  have hb0 : chB s = noB := by
    unfold chF at hf
    unfold chB
    cases e : chosenOf s with
    | none => rfl
    | some b => rw [e] at hf; cases hf
  have HC : Hid (∀ u : World, TlA u g m am cm s → Calls Try.prog 41 #[.pointer (some ⟨g, 0, none⟩)] u fun e w' => e = .returned (.tuple #[.agg #[.string ⟨#[]⟩, .string ⟨#[]⟩], .bool false]) ∧ Below u.heap.size u w') := hid (fun u hu => by have := vchosen_any g m am cm s u hu; rw [hf, hb0] at this; exact this)
  have HT := hid h
  clear h hf hb0
  have HR0 : Hid ((w.alloc (.cells #[.string ⟨#[]⟩, .slice none 0 0, .int .i64 0, .slice none 0 0, .slice none 0 0] 51)).heap[w.heap.size]? = some (.cells #[.string ⟨#[]⟩, .slice none 0 0, .int .i64 0, .slice none 0 0, .slice none 0 0] 51 (0, 0))) := hid (heap_alloc_last w _)
  go_enter Try.func18, Try.ntmps18
  go_wp2_with (go_at_call 41; refine (HC.out _ (by exact HT.out.alloc _)).mono ?_; rintro e w1 ⟨rfl, hb1⟩; have H1 : Hid (w1.heap[w.heap.size]? = some (.cells #[.string ⟨#[]⟩, .slice none 0 0, .int .i64 0, .slice none 0 0, .slice none 0 0] 51 (0, 0)) ∧ Below w.heap.size w w1) := hid ⟨(hb1.block _ (by simp)).trans HR0.out, ((Below.refl w.heap.size w).alloc (Nat.le_refl _) _).trans (hb1.mono (by simp))⟩; have f0 := free_at H1.out.1 0; have f1 := free_at H1.out.1 1; have f2 := free_at H1.out.1 2; have f3 := free_at H1.out.1 3; have f4 := free_at H1.out.1 4; have z0 := cell_at (L := [_, _, _, _, _]) H1.out.1 0 _ rfl; have z1 := cell_at (L := [_, _, _, _, _]) H1.out.1 1 _ rfl; have z2 := cell_at (L := [_, _, _, _, _]) H1.out.1 2 _ rfl; have z3 := cell_at (L := [_, _, _, _, _]) H1.out.1 3 _ rfl; have z4 := cell_at (L := [_, _, _, _, _]) H1.out.1 4 _ rfl; have hl1 : w.heap.size < w1.heap.size := Nat.lt_of_lt_of_le (by simp) hb1.size; clear hb1)
  have hfin := (Below.heap_alloc (((((w1.setCell ⟨w.heap.size, 0, none⟩ (.string ⟨#[]⟩)).setCell ⟨w.heap.size, 1, none⟩ (.slice none 0 0)).setCell ⟨w.heap.size, 2, none⟩ (.int .i64 0)).setCell ⟨w.heap.size, 3, none⟩ (.slice none 0 0)).setCell ⟨w.heap.size, 4, none⟩ (.slice none 0 0)) (.cells #[.string ⟨#[]⟩, .string ⟨#[]⟩] 76) w.heap.size (by simpa using hl1)).trans (set_put H1.out.1 (.string ⟨#[]⟩) (.slice none 0 0) (.int .i64 0) (.slice none 0 0) (.slice none 0 0))
  refine ret_cell2 (s := 2) (s2 := 3) (ad := ⟨w.heap.size, 0, none⟩) rfl rfl (load_set _ _ _ _ _ _ _ hfin) rfl rfl ?_
  refine ⟨rfl, Below.alloc ?_ (by simpa using H1.out.2.size) _⟩
  exact ((((H1.out.2.setCell (Nat.le_refl _) _).setCell (Nat.le_refl _) _).setCell (Nat.le_refl _) _).setCell (Nat.le_refl _) _).setCell (Nat.le_refl _) _
/-- While what is settled is told: q the ballot, c the next configuration. -/
structure SeSt (w0 w : World) (s : Ta) (g m : Nat) (am : Option Addr) (cm q c : Nat) (vm : Value) : Prop where
  res : w.heap[w0.heap.size]? = some (.cells #[.string ⟨#[]⟩, .slice none 0 0, .int .i64 0, .slice none 0 0, .slice none 0 0] 51 (0, 0))
  tl : TlA w g m am cm s
  bal : w.heap[q]? = some (.cells #[.string (chB s).1, .string (chB s).2] 76 (0, 0))
  cf : CvAt w c (s.ep + 1) vm
  ints : ∃ ad cap, vm = .slice ad (nxB s).length cap ∧ IntsIn w ad (nxB s) ∧ ∀ x, ad = some x → w0.heap.size < x.block ∧ x.block < w.heap.size
  bel : Below w0.heap.size w0 w
  far : ∀ b, b ∈ fpT g m am → b < w0.heap.size
theorem SeSt.keep {w0 w w' : World} {s : Ta} {g m : Nat} {am : Option Addr} {cm q c : Nat} {vm : Value} (h : SeSt w0 w s g m am cm q c vm) (hb : Below w.heap.size w w') : SeSt w0 w' s g m am cm q c vm := by
  obtain ⟨ad, cap, h1, h2, h3⟩ := h.ints
  exact ⟨(hb.block _ (lt_of_blk h.res)).trans h.res, h.tl.keep hb, (hb.block _ (lt_of_blk h.bal)).trans h.bal, h.cf.keep hb, ⟨ad, cap, h1, h2.keep hb (Nat.le_refl _), fun x hx => ⟨(h3 x hx).1, Nat.lt_of_lt_of_le (h3 x hx).2 hb.size⟩⟩, h.bel.trans (hb.mono h.bel.size), h.far⟩
/-- What is settled, in memory. -/
def SetIn (w : World) (s : Ta) (v : Value) : Prop := ∃ a1 c1 a2 c2 a3 c3, v = .tuple #[.agg #[.string (chB s).1, .slice a1 (signsOf s (chB s) (setS s)).length c1, .int .i64 (s.ep + 1), .slice a2 (nxB s).length c2, .slice a3 (signsOf s (chB s) (chB s).2).length c3], .bool true] ∧ PairsIn w a1 (signsOf s (chB s) (setS s)) ∧ IntsIn w a2 (nxB s) ∧ PairsIn w a3 (signsOf s (chB s) (chB s).2)
/-- The next members are told in new memory. -/
def SetFar (B : Nat) (v : Value) : Prop := ∀ x0 x1 x2 a2 n2 c2 x4 b, v = .tuple #[.agg #[x0, x1, x2, .slice a2 n2 c2, x4], b] → ∀ x, a2 = some x → B < x.block
set_option maxRecDepth 100000 in
set_option maxHeartbeats 6400000 in
theorem vsettled_yes (g m : Nat) (am : Option Addr) (cm : Nat) (s : Ta) (w : World) (h : TlA w g m am cm s) (hf : chF s = true) :
    Calls Try.prog 18 #[.pointer (some ⟨g, 0, none⟩)] w fun e w' => ∃ v, e = .returned v ∧ SetIn w' s v ∧ Below w.heap.size w w' ∧ SetFar w.heap.size v := by
  have hml := h.ok.mlen
  have hfar := h.lt
  obtain ⟨hvo, hrz, hvs, hvc, hsz, hrn⟩ := chosen_is h.ok (chB_of hf)
  have hnl := mem_len (rightC_ep hrn).2
  have HC : Hid (∀ u : World, TlA u g m am cm s → Calls Try.prog 41 #[.pointer (some ⟨g, 0, none⟩)] u fun e w' => e = .returned (.tuple #[.agg #[.string (chB s).1, .string (chB s).2], .bool true]) ∧ Below u.heap.size u w') := hid (fun u hu => by have := vchosen_any g m am cm s u hu; rw [hf] at this; exact this)
  have HRd : Hid (∀ u : World, Calls Try.prog 42 #[.string (chB s).2] u fun e w' => ∃ v, e = .returned (.tuple #[.agg #[.int .i64 (s.ep + 1), v], .int .i64 (readE (chB s).2)]) ∧ OwnedI u.heap.size u w' v (nxB s)) := hid (fun u => by have := cread_any (chB s).2 u; rw [hrz] at this; exact this)
  have HX : Hid (∀ (u : World) (ad : Option Addr) (cap : Nat), TlA u g m am cm s → IntsIn u ad (nxB s) → Calls Try.prog 10 #[.agg #[.int .i64 s.ep, .slice am s.mem.length cm], .string (chB s).1, .slice ad (nxB s).length cap] u fun e w' => e = .returned (.tuple #[.string (setS s), .string (chB s).2, .int .i64 0]) ∧ Below u.heap.size u w') := hid (fun u ad cap hu hi => by
    have := vtexts_any s.ep am _ cm s.mem rfl (by unfold maxLen; omega) (chB s).1 hsz ad _ cap (nxB s) rfl (by unfold maxLen; omega) u hu.im hi
    rw [hvs, hvc, voE, if_pos hvo] at this
    exact this)
  have HSg : Hid (∀ (u : World) (t : ByteArray), TlA u g m am cm s → Calls Try.prog 43 #[.pointer (some ⟨g, 0, none⟩), .agg #[.string (chB s).1, .string (chB s).2], .string t] u fun e w' => ∃ v, e = .returned v ∧ OwnedT u.heap.size u w' v (signsOf s (chB s) t)) := hid (fun u t hu => vsign_any g m am cm s (chB s) t u hu)
  have HT := hid (And.intro h hfar)
  have HR0 : Hid ((w.alloc (.cells #[.string ⟨#[]⟩, .slice none 0 0, .int .i64 0, .slice none 0 0, .slice none 0 0] 51)).heap[w.heap.size]? = some (.cells #[.string ⟨#[]⟩, .slice none 0 0, .int .i64 0, .slice none 0 0, .slice none 0 0] 51 (0, 0))) := hid (heap_alloc_last w _)
  have c0 := h.c0
  clear h hf hfar hvo hrz hvs hvc hsz hrn hnl hml
  generalize readE (chB s).2 = RE at HRd
  go_enter Try.func18, Try.ntmps18
  go_wp2_with (first
    | (go_at_call 41; refine (HC.out _ (by exact HT.out.1.alloc _)).mono ?_; rintro e w1 ⟨rfl, hb1⟩; have H1 : Hid (w1.heap[w.heap.size]? = some (.cells #[.string ⟨#[]⟩, .slice none 0 0, .int .i64 0, .slice none 0 0, .slice none 0 0] 51 (0, 0)) ∧ Below w.heap.size w w1) := hid ⟨(hb1.block _ (by simp)).trans HR0.out, ((Below.refl w.heap.size w).alloc (Nat.le_refl _) _).trans (hb1.mono (by simp))⟩; clear hb1)
    | (go_at_call 42; refine (HRd.out _).mono ?_; rintro e w2 ⟨v2, rfl, ho2⟩; have hb2 := ho2.bel; obtain ⟨ad2, cp2, rfl, hi2, hx2⟩ := ho2.slice; have H2 : Hid (IntsIn w2 ad2 (nxB s) ∧ (∀ x, ad2 = some x → w1.heap.size < x.block ∧ x.block < w2.heap.size) ∧ Below (w1.heap.size + 1) (w1.alloc (.cells #[.string (chB s).1, .string (chB s).2] 76)) w2) := hid ⟨hi2, (fun x hx => ⟨by have := (hx2 x hx).1; simp at this; omega, (hx2 x hx).2⟩), by simpa using hb2⟩; clear ho2 hb2 hi2 hx2))
  obtain ⟨w3, e3⟩ : ∃ w3, w3 = w2.alloc (.cells #[.int .i64 (s.ep + 1), .slice ad2 (nxB s).length cp2] 24) := ⟨_, rfl⟩
  have hb13 : Below w1.heap.size w1 w2 := ((Below.refl _ _).alloc (Nat.le_refl _) _).trans (H2.out.2.2.mono (by omega))
  have hb23 : Below w2.heap.size w2 w3 := by rw [e3]; exact (Below.refl _ _).alloc (Nat.le_refl _) _
  have hb03 := hb13.trans (hb23.mono hb13.size)
  have hbb := H1.out.2.trans (hb03.mono H1.out.2.size)
  have hblk : w2.heap[w1.heap.size]? = some (.cells #[.string (chB s).1, .string (chB s).2] 76 (0, 0)) := (H2.out.2.2.block _ (by omega)).trans (heap_alloc_last w1 _)
  have H3 : Hid (SeSt w w3 s g m am cm w1.heap.size w2.heap.size (.slice ad2 (nxB s).length cp2)) := hid ⟨(hb03.block _ (lt_of_blk H1.out.1)).trans H1.out.1, HT.out.1.keep hbb, (hb23.block _ (lt_of_blk hblk)).trans hblk, (by rw [e3]; exact heap_alloc_last w2 _), ⟨ad2, cp2, rfl, H2.out.1.keep hb23 (Nat.le_refl _), fun x hx => ⟨by have := (H2.out.2.1 x hx).1; have := H1.out.2.size; omega, Nat.lt_of_lt_of_le (H2.out.2.1 x hx).2 hb23.size⟩⟩, hbb, HT.out.2⟩
  have HI3 : Hid (IntsIn w3 ad2 (nxB s)) := hid (H2.out.1.keep hb23 (Nat.le_refl _))
  rw [← e3]
  clear e3 hb13 hb23 hb03 hbb hblk c0 H2 H1
  generalize w1.heap.size = q at H3 ⊢
  generalize w2.heap.size = c at H3 ⊢
  clear w1 w2
  have HL : Hid (∀ ww : World, SeSt w ww s g m am cm q c (.slice ad2 (nxB s).length cp2) → ((ww.cell? ⟨g, 0, none⟩ = some (.int .i64 s.ep) ∧ ww.cell? ⟨g, 1, none⟩ = some (.slice am s.mem.length cm)) ∧ ww.cell? ⟨q, 0, none⟩ = some (.string (chB s).1) ∧ ww.cell? ⟨q, 1, none⟩ = some (.string (chB s).2)) ∧ ww.cell? ⟨c, 0, none⟩ = some (.int .i64 (s.ep + 1)) ∧ ww.cell? ⟨c, 1, none⟩ = some (.slice ad2 (nxB s).length cp2)) := hid (fun ww hw => ⟨⟨⟨hw.tl.c0, hw.tl.c1⟩, (cell_two hw.bal).1, (cell_two hw.bal).2⟩, hw.cf.cells.1, hw.cf.cells.2⟩)
  have HSd : Hid (SeSt w w3.drew s g m am cm q c (.slice ad2 (nxB s).length cp2)) := hid (H3.out.keep (Below.refl _ _).drew)
  generalize hA : setS s = A at HX ⊢
  generalize hB1 : (chB s).1 = b1 at HX HL HSg HC ⊢
  generalize hB2 : (chB s).2 = b2 at HX HL HSg HC ⊢
  refine wp_region_G (S := fun ww => SeSt w ww s g m am cm q c (.slice ad2 (nxB s).length cp2)) (ex := []) (by kernel_rfl) ?_
  try (change wpAnyG _ _ _ _ _ _ _ _ _ (World.drew _))
  refine wpAnyG_take (i := 0) (v := ?v1) rfl (by kernel_rfl) (fun _ _ _ h => h) (Or.inl ⟨by rfl, ?hy1⟩) HSd.out ?rest1
  case hy1 => (intro ww _; go_simp; try with_reducible rfl)
  go_simp
  refine wpAnyG_take (i := 1) (v := ?v2) rfl (by kernel_rfl) (fun _ _ _ h => h) (Or.inl ⟨by rfl, ?hy2⟩) HSd.out ?rest2
  case hy2 => (intro ww _; go_simp; try with_reducible rfl)
  go_simp
  refine wpAnyG_take (i := 2) (v := ?v3) rfl (by kernel_rfl) (fun _ _ _ h => h) (Or.inl ⟨by rfl, ?hy3⟩) HSd.out ?rest3
  case hy3 => (intro ww _; go_simp; try with_reducible rfl)
  go_simp
  refine wpAnyG_take (i := 3) (v := ?v4) rfl (by kernel_rfl) (fun _ _ _ h => h) (Or.inl ⟨by rfl, ?hy4⟩) HSd.out ?rest4
  case hy4 => (intro ww hS; obtain ⟨⟨⟨y0, y1⟩, y2, y3⟩, y4, y5⟩ := HL.out ww hS; go_simp; try with_reducible rfl)
  go_simp
  refine wpAnyG_take (i := 4) (v := ?v5) rfl (by kernel_rfl) (fun _ _ _ h => h) (Or.inl ⟨by rfl, ?hy5⟩) HSd.out ?rest5
  case hy5 => (intro ww _; go_simp; try with_reducible rfl)
  go_simp
  refine wpAnyG_take (i := 5) (v := ?v6) rfl (by kernel_rfl) (fun _ _ _ h => h) (Or.inl ⟨by rfl, ?hy6⟩) HSd.out ?rest6
  case hy6 => (intro ww hS; obtain ⟨⟨⟨y0, y1⟩, y2, y3⟩, y4, y5⟩ := HL.out ww hS; go_simp; try with_reducible rfl)
  go_simp
  refine wpAnyG_take (i := 6) (v := ?v7) rfl (by kernel_rfl) (fun _ _ _ h => h) (Or.inl ⟨by rfl, ?hy7⟩) HSd.out ?rest7
  case hy7 => (intro ww _; go_simp; try with_reducible rfl)
  go_simp
  refine wpAnyG_take (i := 7) (v := ?v8) rfl (by kernel_rfl) (fun _ _ _ h => h) (Or.inl ⟨by rfl, ?hy8⟩) HSd.out ?rest8
  case hy8 => (intro ww hS; obtain ⟨⟨⟨y0, y1⟩, y2, y3⟩, y4, y5⟩ := HL.out ww hS; go_simp; try with_reducible rfl)
  go_simp
  refine wpAnyG_all (rs := [8]) (by kernel_rfl) (by simp) ?_
  intro i hi
  obtain rfl := List.mem_singleton.1 hi
  clear hi
  refine wpOp_v rfl (by rfl) (fun K hK => ?_)
  go_simp
  refine (HX.out _ _ _ HSd.out.tl HI3.out).mono ?_
  rintro e w4 ⟨rfl, hb4⟩
  have H4 : Hid (SeSt w w4 s g m am cm q c (.slice ad2 (nxB s).length cp2)) := hid (HSd.out.keep hb4)
  clear hb4
  refine hK _ _ ⟨fun _ => H4.out, ?_⟩
  clear hK K
  go_simp
  refine wpAnyG_take (i := 9) (v := ?v9) rfl (by kernel_rfl) (fun _ _ _ h => h) (Or.inl ⟨by rfl, ?hy9⟩) H4.out ?rest9
  case hy9 => (intro ww _; go_simp; try with_reducible rfl)
  go_simp
  refine wpAnyG_take (i := 10) (v := ?v10) rfl (by kernel_rfl) (fun _ _ _ h => h) (Or.inl ⟨by rfl, ?hy10⟩) H4.out ?rest10
  case hy10 => (intro ww _; go_simp; try with_reducible rfl)
  go_simp
  refine wpAnyG_take (i := 11) (v := ?v11) rfl (by kernel_rfl) (fun _ _ _ h => h) (Or.inl ⟨by rfl, ?hy11⟩) H4.out ?rest11
  case hy11 => (intro ww _; go_simp; try with_reducible rfl)
  go_simp
  refine wpAnyG_take (i := 12) (v := ?v12) rfl (by kernel_rfl) (fun _ _ _ h => h) (Or.inl ⟨by rfl, ?hy12⟩) H4.out ?rest12
  case hy12 => (intro ww _; go_simp; try with_reducible rfl)
  go_simp
  refine wpAnyG_all (rs := [13]) (by kernel_rfl) (by simp) ?_
  intro i hi
  obtain rfl := List.mem_singleton.1 hi
  clear hi
  refine wpOp_v rfl (by rfl) (fun K hK => ?_)
  go_simp
  refine hK _ _ ⟨fun _ => H4.out, ?_⟩
  clear hK K
  go_simp
  refine wpAnyG_all (rs := [14]) (by kernel_rfl) (by simp) ?_
  intro i hi
  obtain rfl := List.mem_singleton.1 hi
  clear hi
  refine wpOp_v rfl (by rfl) (fun K hK => ?_)
  go_simp
  refine hK _ _ ⟨fun _ => H4.out, ?_⟩
  clear hK K
  go_simp
  refine wpAnyG_all (rs := [15]) (by kernel_rfl) (by simp) ?_
  intro i hi
  obtain rfl := List.mem_singleton.1 hi
  clear hi
  refine wpOp_v rfl (by rfl) (fun K hK => ?_)
  go_simp
  refine hK _ _ ⟨fun _ => H4.out, ?_⟩
  clear hK K
  go_simp
  refine wpAnyG_done (by kernel_rfl) ?_ _
  go_simp
  have HSe : Hid (SeSt w w4.drew s g m am cm q c (.slice ad2 (nxB s).length cp2)) := hid (H4.out.keep (Below.refl _ _).drew)
  go_wp2
  refine wp_region_G (S := fun ww => SeSt w ww s g m am cm q c (.slice ad2 (nxB s).length cp2)) (ex := [13, 14]) (by kernel_rfl) ?_
  try (change wpAnyG _ _ _ _ _ _ _ _ _ (World.drew _))
  refine wpAnyG_take (i := 0) (v := ?v13) rfl (by kernel_rfl) (fun _ _ _ h => h) (Or.inl ⟨by rfl, ?hy13⟩) HSe.out ?rest13
  case hy13 => (intro ww _; go_simp; try with_reducible rfl)
  go_simp
  refine wpAnyG_take (i := 1) (v := ?v14) rfl (by kernel_rfl) (fun _ _ _ h => h) (Or.inl ⟨by rfl, ?hy14⟩) HSe.out ?rest14
  case hy14 => (intro ww hS; obtain ⟨⟨⟨y0, y1⟩, y2, y3⟩, y4, y5⟩ := HL.out ww hS; go_simp; try with_reducible rfl)
  go_simp
  refine wpAnyG_take (i := 2) (v := ?v15) rfl (by kernel_rfl) (fun _ _ _ h => h) (Or.inl ⟨by rfl, ?hy15⟩) HSe.out ?rest15
  case hy15 => (intro ww _; go_simp; try with_reducible rfl)
  go_simp
  refine wpAnyG_take (i := 3) (v := ?v16) rfl (by kernel_rfl) (fun _ _ _ h => h) (Or.inl ⟨by rfl, ?hy16⟩) HSe.out ?rest16
  case hy16 => (intro ww hS; obtain ⟨⟨⟨y0, y1⟩, y2, y3⟩, y4, y5⟩ := HL.out ww hS; go_simp; try with_reducible rfl)
  go_simp
  refine wpAnyG_take (i := 4) (v := ?v17) rfl (by kernel_rfl) (fun _ _ _ h => h) (Or.inl ⟨by rfl, ?hy17⟩) HSe.out ?rest17
  case hy17 => (intro ww _; go_simp; try with_reducible rfl)
  go_simp
  refine wpAnyG_take (i := 6) (v := ?v18) rfl (by kernel_rfl) (fun _ _ _ h => h) (Or.inl ⟨by rfl, ?hy18⟩) HSe.out ?rest18
  case hy18 => (intro ww hS; obtain ⟨⟨⟨y0, y1⟩, y2, y3⟩, y4, y5⟩ := HL.out ww hS; go_simp; try with_reducible rfl)
  go_simp
  refine wpAnyG_take (i := 7) (v := ?v19) rfl (by kernel_rfl) (fun _ _ _ h => h) (Or.inl ⟨by rfl, ?hy19⟩) HSe.out ?rest19
  case hy19 => (intro ww _; go_simp; try with_reducible rfl)
  go_simp
  refine wpAnyG_take (i := 8) (v := ?v20) rfl (by kernel_rfl) (fun _ _ _ h => h) (Or.inl ⟨by rfl, ?hy20⟩) HSe.out ?rest20
  case hy20 => (intro ww hS; obtain ⟨⟨⟨y0, y1⟩, y2, y3⟩, y4, y5⟩ := HL.out ww hS; go_simp; try with_reducible rfl)
  go_simp
  refine wpAnyG_take (i := 9) (v := ?v21) rfl (by kernel_rfl) (fun _ _ _ h => h) (Or.inl ⟨by rfl, ?hy21⟩) HSe.out ?rest21
  case hy21 => (intro ww _; go_simp; try with_reducible rfl)
  go_simp
  refine wpAnyG_all (rs := [5]) (by kernel_rfl) (by simp) ?_
  intro i hi
  obtain rfl := List.mem_singleton.1 hi
  clear hi
  refine wpOp_v rfl (by rfl) (fun K hK => ?_)
  go_simp
  refine (HSg.out _ A HSe.out.tl).mono ?_
  rintro e w5 ⟨vv, rfl, ho⟩
  obtain ⟨v5, cv5, rfl, hp, hfr⟩ := ho.sl
  have H5 : Hid (SeSt w w5 s g m am cm q c (.slice ad2 (nxB s).length cp2) ∧ PairsIn w5 v5 (signsOf s (chB s) A) ∧ (∀ x, v5 = some x → w.heap.size < x.block ∧ x.block < w5.heap.size) ∧ Below w4.drew.heap.size w4.drew w5) := hid ⟨HSe.out.keep ho.bel, hp, (fun x hx => ⟨by have h1 := (hfr x hx).1; have h2 := lt_of_blk HSe.out.res; omega, (hfr x hx).2⟩), ho.bel⟩
  clear ho hp hfr
  refine hK _ _ ⟨fun _ => H5.out.1, ?_⟩
  clear hK K
  go_simp
  refine wpAnyG_all (rs := [10]) (by kernel_rfl) (by simp) ?_
  intro i hi
  obtain rfl := List.mem_singleton.1 hi
  clear hi
  refine wpOp_v rfl (by rfl) (fun K hK => ?_)
  have H5s := hid H5.out.1
  go_simp
  refine (HSg.out _ b2 H5s.out.tl).mono ?_
  rintro e w6 ⟨vv, rfl, ho⟩
  obtain ⟨v6, cv6, rfl, hp, hfr⟩ := ho.sl
  have H6 : Hid (SeSt w w6 s g m am cm q c (.slice ad2 (nxB s).length cp2) ∧ PairsIn w6 v6 (signsOf s (chB s) b2) ∧ (∀ x, v6 = some x → w.heap.size < x.block ∧ x.block < w6.heap.size) ∧ Below w5.heap.size w5 w6) := hid ⟨H5s.out.keep ho.bel, hp, (fun x hx => ⟨by have h1 := (hfr x hx).1; have h2 := lt_of_blk H5s.out.res; omega, (hfr x hx).2⟩), ho.bel⟩
  clear ho hp hfr
  refine hK _ _ ⟨fun _ => H6.out.1, ?_⟩
  clear hK K
  go_simp
  refine wpAnyG_take (i := 11) (v := ?v22) rfl (by kernel_rfl) (fun _ _ _ h => h) (Or.inl ⟨by rfl, ?hy22⟩) H6.out.1 ?rest22
  case hy22 => (intro ww _; go_simp; try with_reducible rfl)
  go_simp
  refine wpAnyG_take (i := 12) (v := ?v23) rfl (by kernel_rfl) (fun _ _ _ h => h) (Or.inl ⟨by rfl, ?hy23⟩) H6.out.1 ?rest23
  case hy23 => (intro ww _; go_simp; try with_reducible rfl)
  go_simp
  have hres := H6.out.1.res
  have f0 := free_at hres 0
  have f1 := free_at hres 1
  have f2 := free_at hres 2
  have f3 := free_at hres 3
  have f4 := free_at hres 4
  have z0 := cell_at (L := [_, _, _, _, _]) hres 0 _ rfl
  have z1 := cell_at (L := [_, _, _, _, _]) hres 1 _ rfl
  have z2 := cell_at (L := [_, _, _, _, _]) hres 2 _ rfl
  have z3 := cell_at (L := [_, _, _, _, _]) hres 3 _ rfl
  have z4 := cell_at (L := [_, _, _, _, _]) hres 4 _ rfl
  clear hres
  refine wpAnyG_all (rs := [13]) (by kernel_rfl) (by simp) ?_
  intro i hi
  obtain rfl := List.mem_singleton.1 hi
  clear hi
  refine wpOp_v rfl (by rfl) (fun K hK => ?_)
  go_simp
  clear f0 f1 f2 f3 f4 z0 z1 z2 z3 z4
  refine hK _ _ ⟨fun h => absurd (by simp) h, ?_⟩
  clear hK K
  go_simp
  refine wpAnyG_all (rs := [14]) (by kernel_rfl) (by simp) ?_
  intro i hi
  obtain rfl := List.mem_singleton.1 hi
  clear hi
  refine wpOp_v rfl (by rfl) (fun K hK => ?_)
  go_simp
  refine hK _ _ ⟨fun h => absurd (by simp) h, ?_⟩
  clear hK K
  go_simp
  refine wpAnyG_done (by kernel_rfl) ?_ _
  go_simp
  go_wp2
  have hres := H6.out.1.res
  refine ret_cell2 (s := 2) (s2 := 3) (ad := ⟨w.heap.size, 0, none⟩) rfl rfl (load_set _ _ _ _ _ _ _ (set_put hres _ _ _ _ _)) rfl rfl ?_
  have hoth : ∀ k, k ≠ w.heap.size → (((((w6.setCell ⟨w.heap.size, 0, none⟩ (.string b1)).setCell ⟨w.heap.size, 1, none⟩ (.slice v5 (signsOf s (chB s) A).length cv5)).setCell ⟨w.heap.size, 2, none⟩ (.int .i64 (s.ep + 1))).setCell ⟨w.heap.size, 3, none⟩ (.slice ad2 (nxB s).length cp2)).setCell ⟨w.heap.size, 4, none⟩ (.slice v6 (signsOf s (chB s) b2).length cv6)).heap[k]? = w6.heap[k]? := fun k hk => by
    rw [Below.heap_setCell _ _ _ _ hk, Below.heap_setCell _ _ _ _ hk, Below.heap_setCell _ _ _ _ hk, Below.heap_setCell _ _ _ _ hk, Below.heap_setCell _ _ _ _ hk]
  obtain ⟨ad, cap, hv, hi, hx⟩ := H6.out.1.ints
  cases hv
  refine ⟨_, rfl, ⟨v5, cv5, ad2, cp2, v6, cv6, by rw [hA, hB1, hB2]; rfl, ?_, ?_, ?_⟩, ?_, fun y0 y1 y2 a9 n9 c9 y4 b9 hv9 x hx9 => by cases hv9; exact (hx x hx9).1⟩
  · rw [hA]
    exact pairs_stayV (H5.out.2.1.keep H6.out.2.2.2 (Nat.le_refl _)) (by simp) (fun x hx5 => hoth _ (by have := (H5.out.2.2.1 x hx5).1; omega))
  · exact ints_stayV hi (by simp) (fun x hx5 => hoth _ (by have := (hx x hx5).1; omega))
  · rw [hB2]
    exact pairs_stayV H6.out.2.1 (by simp) (fun x hx5 => hoth _ (by have := (H6.out.2.2.1 x hx5).1; omega))
  · exact ((((H6.out.1.bel.setCell (Nat.le_refl _) _).setCell (Nat.le_refl _) _).setCell (Nat.le_refl _) _).setCell (Nat.le_refl _) _).setCell (Nat.le_refl _) _
end Go.Proofs.Ytclfphffbfdimaa
