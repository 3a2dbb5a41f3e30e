/- Texts laid together: WtA WsA MwT TxA DsD DsE PwA CoM CoN CoV WsD WiMs TsA CoW CoT TsB TsT TsC TeD. -/
import Derived.Test.YtgmekkgbobmplaaGreatNa4
import Derived.Test.YtgmekkgbobmplaaGreatNa5
import Derived.Deep.RegionHeld3
import Derived.Lib.RowBridge
import Derived.Test.YtgmekkgbobmplaaGreatNa7
import Derived.BigQuiet
import Derived.Test.YtgmekkgbobmplaaGreatNa3
import Derived.Test.YtgmekkgbobmplaaGreatNa2
import Derived.Test.YtgmekkgbobmplaaGreatNa1
import Derived.Deep.QuietTactic
import Derived.Lib.SlicesCompact
import Derived.Laws.CopyOwn
import Derived.Shelf.Slices.Clone
import Derived.Shelf.Slices.CompactI
import Derived.Shelf.Slices.Empties
import Derived.Shelf.Slices.In.SortNone
import Derived.Shelf.Sort.Plain
import Derived.Sort.OwnSortedInts
import Derived.Lib.OwnBridge
/- A list of signatures of one's own, and more of them behind it. -/
namespace Go.Proofs.YtgmekkgbobmplaaGreat
open Go.RowKit
theorem infoSg : (Tryz.prog.info? 87).map (fun i => (i.zero, i.size, i.bytes)) = some (some (.agg #[.int .i64 0, .string ⟨#[]⟩]), 2, 24) := by kernel_rfl

theorem own_pairsG {w : World} {B : Nat} {v : Value} {ps : List (Int × ByteArray)} {T : TypeId} (h : w.ownsRow B T 2 v ps.length (pC ps)) : ∃ ad cap, v = .slice ad ps.length cap ∧ PairsIn w ad ps := by
  rcases h.2 with ⟨hv, h0⟩ | ⟨g, cap, cur, hv, hB, hh, hx⟩
  · exact ⟨none, 0, by rw [hv, h0], .inl (List.eq_nil_of_length_eq_zero h0)⟩
  · refine ⟨_, cap, hv, .inr ⟨g, 0, rfl, lt_of_blk hh, fun j p hj => ?_⟩⟩
    subst hv
    have h1 := h.cells (g := g) rfl _ _ (pC_get ps j p hj).1
    have h2 := h.cells (g := g) rfl _ _ (pC_get ps j p hj).2
    rw [Addr.add_lit] at h1 h2
    exact ⟨h1, by rw [Nat.add_assoc]; exact h2⟩
/-! Sorting in place: all but the k-th of the first i + 1 rise. -/
theorem pC_twoG : ∀ (ps : List (Int × ByteArray)) (j : Nat) (u : Value), (pC ps)[j]? = some u → ∃ p, ps[j / 2]? = some p ∧ ((j % 2 = 0 ∧ u = .int .i64 p.1) ∨ (j % 2 = 1 ∧ u = .string p.2))
  | [], j, u, h => by simp [pC] at h
  | p :: ps, 0, u, h => by
    rw [pC_cons] at h
    simp at h
    exact ⟨p, by simp, .inl ⟨rfl, h.symm⟩⟩
  | p :: ps, 1, u, h => by
    rw [pC_cons] at h
    simp at h
    exact ⟨p, by simp, .inr ⟨rfl, h.symm⟩⟩
  | p :: ps, j + 2, u, h => by
    rw [pC_cons] at h
    simp at h
    obtain ⟨q, hq, hu⟩ := pC_twoG ps j u h
    refine ⟨q, ?_, ?_⟩
    · rw [show (j + 2) / 2 = j / 2 + 1 by omega]
      simpa using hq
    · rw [show (j + 2) % 2 = j % 2 by omega]
      exact hu
theorem pC_cellG (ps : List (Int × ByteArray)) : ∀ v ∈ pC ps, v.oneCell' = true := by
  intro v hv
  obtain ⟨j, hj, rfl⟩ := List.getElem_of_mem hv
  obtain ⟨p, _, h | h⟩ := pC_twoG ps j _ (List.getElem?_eq_getElem hj)
  · rw [h.2]; rfl
  · rw [h.2]; rfl
theorem pairs_cellsG {w : World} {ad : Addr} {ps : List (Int × ByteArray)} (h : PairsIn w (some ad) ps) (j : Nat) (u : Value) (hu : (pC ps)[j]? = some u) : w.cell? (ad.add j) = some u := by
  obtain ⟨p, hp, hu⟩ := pC_twoG ps j u hu
  obtain ⟨g, off, ha, hg, h0, h1⟩ := h.at (j / 2) p hp
  cases ha
  rw [Addr.add_lit]
  rcases hu with ⟨hj, rfl⟩ | ⟨hj, rfl⟩
  · rw [show off + j = off + j / 2 * 2 by omega]; exact h0
  · rw [show off + j = off + j / 2 * 2 + 1 by omega]; exact h1
/-- The slice v holds the signatures ps, in a row of its own; nothing below B has turned since w0. -/
structure OwnedG (B : Nat) (w0 w : World) (v : Value) (ps : List (Int × ByteArray)) : Prop where
  own : w.ownsRow B 87 2 v ps.length (pC ps)
  bel : Below B w0 w
  le : B ≤ w.heap.size
theorem OwnedG.nil {B : Nat} {w0 w : World} (h : Below B w0 w) (hB : B ≤ w.heap.size) : OwnedG B w0 w (.slice none 0 0) [] := ⟨⟨rfl, .inl ⟨rfl, rfl⟩⟩, h, hB⟩
theorem OwnedG.alloc {B : Nat} {w0 w : World} {v : Value} {l : List (Int × ByteArray)} (h : OwnedG B w0 w v l) (o : Obj) : OwnedG B w0 (w.alloc o) v l :=
  ⟨h.own.alloc o, h.bel.alloc h.le o, by have := h.le; simp; omega⟩
theorem OwnedG.grow {B : Nat} {w0 w w2 : World} {v v2 : Value} {l xs : List (Int × ByteArray)} {m : Nat} (h : OwnedG B w0 w v l) (hm : xs.length = m) (h2 : w2.ownsRow B 87 2 v2 (l.length + m) (pC l ++ pC xs)) (hg : w.grownBy w2 v.ownBlock) : OwnedG B w0 w2 v2 (l ++ xs) :=
  ⟨by rw [List.length_append, pC_app, hm]; exact h2, h.bel.grown hg h.le (fun k hk => (h.own.lt k hk).1), Nat.le_trans h.le hg.size⟩
theorem OwnedG.form {B : Nat} {w0 w : World} {v : Value} {l : List (Int × ByteArray)} (h : OwnedG B w0 w v l) (hl : 0 < l.length) : ∃ g cap, v = .slice (some ⟨g, 0, none⟩) l.length cap ∧ l.length ≤ cap ∧ cap ≤ maxLen ∧ g < w.heap.size ∧ B ≤ g ∧ PairsIn w (some ⟨g, 0, none⟩) l := by
  rcases h.own.2 with ⟨_, h0⟩ | ⟨g, cap, cur, hv, hb, hh, hnc, hcp, hcs, htake⟩
  · omega
  · obtain ⟨ad, c2, hv2, hp⟩ := own_pairsG h.own
    rw [hv] at hv2
    cases hv2
    exact ⟨g, cap, hv, hnc, hcp, lt_of_blk hh, hb, hp⟩
section
variable {o : Oper} {a : Act} {w : World} {Q : Exit → Act → World → Prop} {K : Act → World → Prop}
/-- More behind one's own. -/
theorem owp_sigs (x y : Operand) (ho : o.op = .call { callee := .builtin .append, args := #[x, y], argTypes := #[44, 44] }) (B : Nat) (w0 : World) (v : Value) (l : List (Int × ByteArray))
    (hx : a.eval x = v) (hO : OwnedG B w0 w v l) (ad : Option Addr) (n cap : Nat) (ps : List (Int × ByteArray)) (hy : a.eval y = .slice ad n cap) (hn : ps.length = n) (hS : PairsIn w ad ps) (hl : (l.length + n) * 24 ≤ 140737488355328)
    (h : ∀ v' w', Hid (OwnedG B w0 w' v' (l ++ ps)) → K (a.put o.dst v') w') : o.wp Tryz.prog a w K Q := by
  obtain ⟨i0, hi0, hz0, hz1, hz2⟩ := info_parts infoSg
  cases ad with
  | none =>
    obtain rfl : ps = [] := by rcases hS with h | ⟨g, off, ha, _⟩; exact h; cases ha
    obtain rfl : 0 = n := hn
    have hk := h v w (by rw [List.append_nil]; exact hO)
    rcases hO.own.2 with ⟨hv, h0⟩ | ⟨g, c, cur, hv, hB, hh, hnc, hcp, hcs, htake⟩
    · subst hv
      refine owp_value (v := .slice none 0 0) (w' := w) ?_ hk
      simp [execOp, ho, resolve, invoke, builtin, hx, hy, Builtin.append_, run_underlying Tryz.underlying44, sizeOf, typeInfo, hi0, Builtin.lenOf, Builtin.firstCells, Result.andThen]
    · subst hv
      refine owp_value (v := .slice (some ⟨g, 0, none⟩) l.length c) (w' := w) ?_ hk
      simp [hnc, storeCells, execOp, ho, resolve, invoke, builtin, hx, hy, Builtin.append_, run_underlying Tryz.underlying44, sizeOf, typeInfo, hi0, Builtin.lenOf, Builtin.firstCells, Result.andThen]
  | some ad =>
    refine wp_append_own w x y 44 ho B 87 i0 (.agg #[.int .i64 0, .string ⟨#[]⟩]) 2 24 Tryz.underlying44 hi0 hz0 hz1 hz2 rfl (by decide) v l.length (pC l) hx hO.own ad n cap (pC ps) hy (by rw [pC_len, hn]) (fun j v hv => pairs_cellsG hS j v hv) (pC_cellG ps) (by unfold maxLen; omega) (by omega) hO.le (fun v' w' hown hgrow _ => ?_)
    exact h _ _ (hO.grow hn hown hgrow)
theorem wl_sigs {ops : Array Oper} {rest : List Oper} {Q : Exit → Act → World → Prop} (hgd : o.guard = none) (x y : Operand) (ho : o.op = .call { callee := .builtin .append, args := #[x, y], argTypes := #[44, 44] }) (B : Nat) (w0 : World) (v : Value) (l : List (Int × ByteArray))
    (hx : a.eval x = v) (hO : OwnedG B w0 w v l) (ad : Option Addr) (n cap : Nat) (ps : List (Int × ByteArray)) (hy : a.eval y = .slice ad n cap) (hn : ps.length = n) (hS : PairsIn w ad ps) (hl : (l.length + n) * 24 ≤ 140737488355328)
    (h : ∀ v' w', Hid (OwnedG B w0 w' v' (l ++ ps)) → wpList Tryz.prog ops Q rest (a.put o.dst v') w') : wpList Tryz.prog ops Q (o :: rest) a w :=
  wpList_plain hgd fun _ hK => owp_sigs x y ho B w0 v l hx hO ad n cap ps hy hn hS hl fun v' w' h' => hK _ _ (h v' w' h')
end

/-- All signatures of a change, of a message. -/
def cgG (c : Cg) : List Sg := c.2.2.1.flatMap (fun x => x.2.2.2) ++ [c.2.2.2]
def tmG (m : Ms) : List Sg := m.sg ++ (m.cg.flatMap cgG ++ m.ln.flatMap (fun k => k.2))
theorem OwnedG.pairs {B : Nat} {w0 w : World} {v : Value} {l : List (Int × ByteArray)} (h : OwnedG B w0 w v l) : ∃ a cap, v = .slice a l.length cap ∧ PairsIn w a l ∧ ∀ x, a = some x → B ≤ x.block := by
  by_cases hl : 0 < l.length
  · obtain ⟨g, cap, hv, _, _, _, hB, hp⟩ := h.form hl
    exact ⟨_, cap, hv, hp, fun x hx => by cases hx; exact hB⟩
  · have h0 : l = [] := List.eq_nil_of_length_eq_zero (by omega)
    subst h0
    rcases h.own.2 with ⟨hv, _⟩ | ⟨g, cap, cur, hv, hB, _⟩
    · exact ⟨none, 0, hv, .inl rfl, fun x hx => by cases hx⟩
    · exact ⟨_, cap, hv, .inl rfl, fun x hx => by cases hx; exact hB⟩
end Go.Proofs.YtgmekkgbobmplaaGreat

/- The document's test of two lists of signatures, whatever they are. -/
namespace Go.Proofs.YtgmekkgbobmplaaGreat
open Go.RowKit

theorem text_neS {x y : ByteArray} (h : ¬ x = y) : (x.toList == y.toList) = false := by
  rw [beq_eq_false_iff_ne, ByteArray.toList_eq, ByteArray.toList_eq]
  intro he
  exact h (ByteArray.ext (Array.toList_inj.1 he))
theorem pairs_at {w : World} {a : Option Addr} {ps : List (Int × ByteArray)} (h : PairsIn w a ps) (j : Nat) (p : Int × ByteArray) (hp : ps[j]? = some p) : ∃ g off, a = some ⟨g, off, none⟩ ∧ g < w.heap.size ∧ w.cell? ⟨g, off + j * 2, none⟩ = some (.int .i64 p.1) ∧ w.cell? ⟨g, off + j * 2 + 1, none⟩ = some (.string p.2) := by
  rcases h with e | ⟨g, off, ha, hg, hc⟩
  · rw [e] at hp; cases hp
  · obtain ⟨k1, k2⟩ := hc j p hp
    exact ⟨g, off, ha, hg, k1, k2⟩
set_option maxRecDepth 100000 in
set_option maxHeartbeats 3200000 in
theorem wsame_dec (a1 a2 : Option Addr) (n1 n2 c1 c2 : Nat) (l1 l2 : List (Int × ByteArray)) (hn1 : l1.length = n1) (hn2 : l2.length = n2) (hm1 : n1 ≤ maxLen) (hm2 : n2 ≤ maxLen) (w : World) (h1 : PairsIn w a1 l1) (h2 : PairsIn w a2 l2) :
    Calls Tryz.prog 80 #[.slice a1 n1 c1, .slice a2 n2 c2] w fun e w' => e = .returned (.bool (decide (l1 = l2))) ∧ Below w.heap.size w w' := by
  by_cases hne : n1 = n2
  · subst hne
    have hm3 : (n1 : Int) ≤ 9223372036854775807 := by unfold maxLen at hm1; omega
    have HZ := hid (And.intro h1 (And.intro h2 (And.intro hn1 hn2)))
    clear h1 h2 hn1 hn2 hm1 hm2
    go_enter Tryz.func80, Tryz.ntmps80
    go_wp2
    go_loopw [5] (fun i wr => ∃ j : Nat, j ≤ n1 ∧ i = .int .i64 (j : Int) ∧ Below w.heap.size w wr ∧ l1.take j = l2.take j)
      (fun i _ => ((n1 : Int) - intOf i).toNat)
    case atStart => exact ⟨0, by omega, rfl, Below.refl _ _, rfl⟩
    case round =>
      obtain ⟨j, hj, rfl, hbel, htk⟩ := hrel
      have HB := hid (And.intro hbel htk)
      clear hbel htk
      by_cases hjn : j = n1
      · have hj1 : ¬ ((j : Int) < (n1 : Int)) := by omega
        have HE : Hid (l1 = l2) := hid (by
          have := HB.out.2
          rw [List.take_of_length_le (by have := HZ.out.2.2.1; omega), List.take_of_length_le (by have := HZ.out.2.2.2; omega)] at this
          exact this)
        clear hj hjn
        go_wp2
        go_ret
        exact ⟨(congrArg (fun b => Ending.returned (.bool b)) (decide_eq_true HE.out)).symm, HB.out.1⟩
      · have hj1 : (j : Int) < (n1 : Int) := by omega
        have hj0 : (0 : Int) ≤ (j : Int) := Int.natCast_nonneg _
        obtain ⟨s, es⟩ : ∃ s, l1[j]? = some s := ⟨_, List.getElem?_eq_getElem (by rw [HZ.out.2.2.1]; omega)⟩
        obtain ⟨t, et⟩ : ∃ t, l2[j]? = some t := ⟨_, List.getElem?_eq_getElem (by rw [HZ.out.2.2.2]; omega)⟩
        obtain ⟨g1, off1, rfl, hg1, hx1, hy1⟩ := pairs_at HZ.out.1 j s es
        obtain ⟨g2, off2, rfl, hg2, hx2, hy2⟩ := pairs_at HZ.out.2.1 j t et
        have cx1 : wr.cell? ⟨g1, off1 + j * 2, none⟩ = some (.int .i64 s.1) := (HB.out.1.cell (p := ⟨g1, off1 + j * 2, none⟩) hg1).trans hx1
        have cy1 : wr.cell? ⟨g1, off1 + j * 2 + 1, none⟩ = some (.string s.2) := (HB.out.1.cell (p := ⟨g1, off1 + j * 2 + 1, none⟩) hg1).trans hy1
        have cx2 : wr.cell? ⟨g2, off2 + j * 2, none⟩ = some (.int .i64 t.1) := (HB.out.1.cell (p := ⟨g2, off2 + j * 2, none⟩) hg2).trans hx2
        have cy2 : wr.cell? ⟨g2, off2 + j * 2 + 1, none⟩ = some (.string t.2) := (HB.out.1.cell (p := ⟨g2, off2 + j * 2 + 1, none⟩) hg2).trans hy2
        have HS := hid (And.intro es et)
        clear es et hg1 hg2 hx1 hy1 hx2 hy2
        by_cases hst : s = t
        · subst hst
          go_wp2
          go_quiet (fail)
          go_wp2
          go_roundw
          case rel => exact ⟨j + 1, by omega, rfl, ⟨HB.out.1.os, HB.out.1.tape, HB.out.1.output, HB.out.1.size, HB.out.1.block⟩, take_grow HB.out.2 HS.out.1 HS.out.2⟩
          case measure => simp [intOf]; omega
        · have HN : Hid (l1 ≠ l2) := hid (ne_of_at HS.out.1 HS.out.2 hst)
          by_cases hs1 : s.1 = t.1
          · have hs2 : ¬ s.2 = t.2 := fun e => hst (Prod.ext hs1 e)
            have hb1 : (s.1 == t.1) = true := by simpa using hs1
            have hb2 : (s.2.toList == t.2.toList) = false := text_neS hs2
            clear hs1 hst
            go_wp2
            go_quiet (fail)
            go_wp2
            go_ret
            exact ⟨(congrArg (fun b => Ending.returned (.bool b)) (decide_eq_false HN.out)).symm, ⟨HB.out.1.os, HB.out.1.tape, HB.out.1.output, HB.out.1.size, HB.out.1.block⟩⟩
          · have hb1 : (s.1 == t.1) = false := by simpa using hs1
            have hb3 : (s.1 != t.1) = true := by simpa using hs1
            clear hst
            go_wp2
            go_quiet (fail)
            go_wp2
            go_ret
            exact ⟨(congrArg (fun b => Ending.returned (.bool b)) (decide_eq_false HN.out)).symm, ⟨HB.out.1.os, HB.out.1.tape, HB.out.1.output, HB.out.1.size, HB.out.1.block⟩⟩
  · have hz : ¬ ((n1 : Int) = (n2 : Int)) := by omega
    have HN : Hid (l1 ≠ l2) := hid (fun e => hne (by rw [← hn1, ← hn2, e]))
    clear hne hn1 hn2 h1 h2 hm1 hm2
    go_enter Tryz.func80, Tryz.ntmps80
    go_wp2
    go_ret
    exact ⟨(congrArg (fun b => Ending.returned (.bool b)) (decide_eq_false HN.out)).symm, Below.refl _ _⟩
end Go.Proofs.YtgmekkgbobmplaaGreat

/- The contracts of the document's writer: texts. -/
namespace Go.Proofs.YtgmekkgbobmplaaGreat
open Go.RowKit

set_option maxRecDepth 100000 in
set_option maxHeartbeats 1600000 in
theorem mtext_in (c : Nat) (v : Value) (lim : Int) (l : List UInt8) (er : Int) (s : ByteArray) (w : World) (h : MwAt w c v lim l er)
    (h0 : 0 ≤ lim) (h1 : lim ≤ 9223372036854775807) (hl : l.length + (s.size + 10) ≤ 140737488355328) (hs : s.size ≤ 65535) (E : Int) (hE : adm lim l.length er true (2 + s.size : Nat) = E) (L : List UInt8) (hL : (if E = 0 then l ++ (be 2 s.size ++ s.data.toList) else l) = L) :
    Calls Tryz.prog 75 #[.pointer (some ⟨c, 0, none⟩), .string s] w fun e w' => e = .returned (.tuple #[]) ∧ ∃ v', MwAt w' c v' lim L E ∧ Kept c v.ownBlock w w' ∧ Moved w v v' := by
  obtain ⟨i0, hi0, hz0, hz1, hz2⟩ := info_parts Tryz.info5
  have HH := hid h
  have HC := hid (big_any s.size 2 w (by omega) (by omega))
  have HL := hid hL
  have HE := hid hE
  have hsi : (s.size : Int) ≤ 65535 := by omega
  have hd : s.data.toList.length = s.size := by rw [Array.length_toList]; rfl
  have HD := hid hd
  clear h hL hE hd hs
  go_enter Tryz.func75, Tryz.ntmps75
  go_wp2_with fail
  refine HC.out.mono ?_
  rintro e w1 ⟨rfl, hb1, hbel⟩
  have ho : w1.ownsRow w.heap.size 5 1 (.slice (some ⟨w.heap.size, 0, none⟩) 2 2) 2 (bC (be 2 s.size)) :=
    ⟨by rw [bC_len, be_len], .inr ⟨w.heap.size, 2, _, rfl, Nat.le_refl _, hb1, Nat.le_refl _, by decide, by simp [bC_len, be_len], by rw [List.toList_toArray, List.take_of_length_le (by rw [bC_len, be_len]; decide)]⟩⟩
  have HB := hid hbel
  have hz := hbel.size
  clear hb1 hbel
  go_wp2_with (at_builtin; refine wpList_append_str _ rfl _ _ rfl w.heap.size i0 hi0 hz0 hz1 hz2 _ 2 (bC (be 2 s.size)) rfl ho s rfl (by omega) hz ?_)
  intro v2 w2 hown2 hgrow hat
  obtain ⟨g, cap, hv2, hg2, -⟩ := hown2.form (by omega)
  have hbel2 : Below w.heap.size w w2 := HB.out.grown hgrow hz (fun k hk => by simp [Value.ownBlock] at hk; omega)
  have hsrc : ∀ j u, (bC (be 2 s.size ++ s.data.toList))[j]? = some u → w2.cell? ⟨g, j, none⟩ = some u := by
    intro j u hj
    rw [bC_app] at hj
    have := hown2.cells (g := g) (by rw [hv2]; rfl) j u hj
    rwa [Addr.add_lit, Nat.zero_add] at this
  have HP := hid (mput_len c v lim l er g cap (be 2 s.size ++ s.data.toList) (2 + s.size) (by rw [List.length_append, be_len, HD.out]) w2 (HH.out.above hbel2) h0 h1 (by omega) hsrc)
  rw [HE.out, HL.out] at HP
  have HK := hid (show Kept c v.ownBlock w w2 from ⟨hbel2.os, hbel2.tape, hbel2.output, hbel2.size, fun j hj _ _ => hbel2.block j hj⟩)
  rw [hv2]
  clear hown2 hgrow hat hbel2 hsrc hv2 ho
  go_wp2_with fail
  refine HP.out.mono ?_
  rintro e w3 ⟨rfl, v3, hx3, hk3, hm3⟩
  have H3 := hid (And.intro hx3 (And.intro (HK.out.trans hk3 (.inl rfl)) ((Moved.refl w v).trans hm3 HK.out.size)))
  clear hx3 hk3 hm3
  go_wp2
  go_end0
  exact ⟨rfl, v3, H3.out⟩

set_option maxHeartbeats 800000 in
theorem mtext_out (c : Nat) (v : Value) (lim : Int) (l : List UInt8) (er : Int) (s : ByteArray) (w : World) (h : MwAt w c v lim l er) (hs : (65535 : Int) < s.size) (E : Int) (hE : adm lim l.length er false (2 + s.size) = E) :
    Calls Tryz.prog 75 #[.pointer (some ⟨c, 0, none⟩), .string s] w fun e w' => e = .returned (.tuple #[]) ∧ ∃ v', MwAt w' c v' lim l E ∧ Kept c v.ownBlock w w' ∧ Moved w v v' := by
  have HC := hid (mput_bad c v lim l er (2 + s.size) w h)
  rw [hE] at HC
  clear h hE
  go_enter Tryz.func75, Tryz.ntmps75
  go_wp2_with fail
  refine HC.out.mono ?_
  rintro e w1 ⟨rfl, hx1, hk1⟩
  have H1 := hid (And.intro hx1 (kept_none (r := v.ownBlock) hk1))
  clear hx1 hk1
  go_wp2
  first | go_end0 | refine bodyPost_ret (results_none rfl _ _ _) rfl ?_
  exact ⟨rfl, v, H1.out.1, H1.out.2, Moved.refl _ _⟩

theorem mtext_w (c : Nat) (v : Value) (lim : Int) (l : List UInt8) (er : Int) (s : ByteArray) (w : World) (h : MwAt w c v lim l er)
    (h0 : 0 ≤ lim) (h1 : lim ≤ 9223372036854775807) (hl : l.length + (s.size + 10) ≤ 140737488355328) :
    Calls Tryz.prog 75 #[.pointer (some ⟨c, 0, none⟩), .string s] w fun e w' => e = .returned (.tuple #[]) ∧ ∃ v', MwAt w' c v' lim (xL lim l er s) (xE lim l er s) ∧ Kept c v.ownBlock w w' ∧ Moved w v v' := by
  by_cases hs : s.size ≤ 65535
  · have e : xE lim l er s = adm lim l.length er true (2 + s.size : Nat) := by simp [xE, hs]
    exact mtext_in c v lim l er s w h h0 h1 hl hs _ e.symm _ rfl
  · have e : xE lim l er s = adm lim l.length er false (2 + s.size) := by simp [xE, hs]
    have hd : ¬ xE lim l er s = 0 := by rw [e]; unfold adm; split <;> simp_all
    rw [xL, if_neg hd]
    exact mtext_out c v lim l er s w h (by omega) _ e.symm
end Go.Proofs.YtgmekkgbobmplaaGreat

/- The document's writer, as the walks of its users see it: what lies in it, numbers, bits, texts put to it, its end. -/
namespace Go.Proofs.YtgmekkgbobmplaaGreat
open Go.RowKit

/-- The document's writer at block c, with room for lim, and l in it; nothing below c has turned since w0. -/
def TxAt (lim : Int) (c : Nat) (w0 w : World) (l : List UInt8) : Prop := (∃ v, MwAt w c v lim l 0) ∧ Below c w0 w
theorem wLx (lim : Int) (l : List UInt8) (s n : Nat) (hn : n < 256 ^ s) (hl : (l.length : Int) + s ≤ lim) : wL lim l 0 s (n : Int) = l ++ be s n ∧ wE lim l 0 s (n : Int) = 0 := by
  have h : adm lim l.length 0 (inR s (n : Int)) s = 0 := by
    have hi : inR s (n : Int) = true := by
      unfold inR
      exact decide_eq_true ⟨Int.natCast_nonneg _, by exact_mod_cast hn⟩
    rw [hi]
    unfold adm
    rw [if_pos rfl, if_pos rfl, if_neg (by omega)]
  exact ⟨by rw [wL, if_pos h, Int.toNat_natCast], by rw [wE, h]⟩
theorem txnum (lim : Int) (h0 : 0 ≤ lim) (h1 : lim ≤ 4294967296) (c : Nat) (w0 w : World) (l : List UInt8) (n s : Nat) (hs : s ≤ 4) (hn : n < 256 ^ s) (hl : (l.length : Int) + s ≤ lim) (h : TxAt lim c w0 w l) :
    Calls Tryz.prog 73 #[.pointer (some ⟨c, 0, none⟩), .int .i64 (n : Int), .int .i64 (s : Int)] w fun e w' => e = .returned (.tuple #[]) ∧ TxAt lim c w0 w' (l ++ be s n) := by
  obtain ⟨⟨v, hv⟩, hb⟩ := h
  refine (mnum_w c v lim l 0 n s hs w hv h0 (by omega) (by omega)).mono ?_
  rintro e w' ⟨rfl, v', h', hk, _⟩
  rw [(wLx lim l s n hn hl).1, (wLx lim l s n hn hl).2] at h'
  exact ⟨rfl, ⟨v', h'⟩, hb.trans (hk.below (Nat.le_of_lt hv.lt) (Nat.le_refl _) (fun g hg => by have := (hv.own.lt g hg).1; omega))⟩
theorem txnew (lim : Int) (h0 : 0 ≤ lim) (w : World) : Calls Tryz.prog 72 #[.int .i64 lim] w fun e w' => e = .returned (.pointer (some ⟨w.heap.size, 0, none⟩)) ∧ TxAt lim w.heap.size w w' [] := by
  refine (mnew_any lim w).mono ?_
  rintro e w' ⟨rfl, rfl⟩
  rw [show max lim 0 = lim by omega]
  exact ⟨rfl, ⟨_, ⟨heap_alloc_last w _, ⟨rfl, .inl ⟨rfl, rfl⟩⟩⟩⟩, (Below.refl _ _).alloc (Nat.le_refl _) _⟩
theorem xLx (lim : Int) (l : List UInt8) (s : ByteArray) (hs : s.size ≤ 65535) (hl : (l.length : Int) + (2 + s.size) ≤ lim) : xL lim l 0 s = l ++ (be 2 s.size ++ s.data.toList) ∧ xE lim l 0 s = 0 := by
  have h : xE lim l 0 s = 0 := by
    unfold xE adm
    rw [if_pos rfl, decide_eq_true hs, if_pos rfl, if_neg (by omega)]
  exact ⟨by rw [xL, if_pos h], h⟩
theorem txtext (lim : Int) (h0 : 0 ≤ lim) (h1 : lim ≤ 4294967296) (c : Nat) (w0 w : World) (l : List UInt8) (s : ByteArray) (hs : s.size ≤ 65535) (hl : (l.length : Int) + (2 + s.size) ≤ lim) (h : TxAt lim c w0 w l) :
    Calls Tryz.prog 75 #[.pointer (some ⟨c, 0, none⟩), .string s] w fun e w' => e = .returned (.tuple #[]) ∧ TxAt lim c w0 w' (l ++ (be 2 s.size ++ s.data.toList)) := by
  obtain ⟨⟨v, hv⟩, hb⟩ := h
  refine (mtext_w c v lim l 0 s w hv h0 (by omega) (by omega)).mono ?_
  rintro e w' ⟨rfl, v', h', hk, _⟩
  rw [(xLx lim l s hs hl).1, (xLx lim l s hs hl).2] at h'
  exact ⟨rfl, ⟨v', h'⟩, hb.trans (hk.below (Nat.le_of_lt hv.lt) (Nat.le_refl _) (fun g hg => by have := (hv.own.lt g hg).1; omega))⟩
theorem bLx (lim : Int) (l : List UInt8) (n : Nat) (hl : (l.length : Int) + 8 ≤ lim) : bL lim l 0 n = l ++ be 8 n ∧ bE lim l 0 = 0 := by
  have h : bE lim l 0 = 0 := by
    unfold bE adm
    rw [if_pos rfl, if_pos rfl, if_neg (by omega)]
  exact ⟨by rw [bL, if_pos h], h⟩
theorem txbits (lim : Int) (h0 : 0 ≤ lim) (h1 : lim ≤ 4294967296) (c : Nat) (w0 w : World) (l : List UInt8) (n : Nat) (hn : n < 18446744073709551616) (hl : (l.length : Int) + 8 ≤ lim) (h : TxAt lim c w0 w l) :
    Calls Tryz.prog 88 #[.pointer (some ⟨c, 0, none⟩), .int .u64 (n : Int)] w fun e w' => e = .returned (.tuple #[]) ∧ TxAt lim c w0 w' (l ++ be 8 n) := by
  obtain ⟨⟨v, hv⟩, hb⟩ := h
  refine (mbits_w c v lim l 0 n w hv h0 (by omega) (by omega) hn).mono ?_
  rintro e w' ⟨rfl, v', h', hk, _⟩
  rw [(bLx lim l n hl).1, (bLx lim l n hl).2] at h'
  exact ⟨rfl, ⟨v', h'⟩, hb.trans (hk.below (Nat.le_of_lt hv.lt) (Nat.le_refl _) (fun g hg => by have := (hv.own.lt g hg).1; omega))⟩
theorem txdone (lim : Int) (c : Nat) (w0 w : World) (l : List UInt8) (h : TxAt lim c w0 w l) :
    Calls Tryz.prog 78 #[.pointer (some ⟨c, 0, none⟩)] w fun e w' => e = .returned (.tuple #[.string ⟨l.toArray⟩, .int .i64 0]) ∧ Below c w0 w' := by
  obtain ⟨⟨v, hv⟩, hb⟩ := h
  refine (mdone_ok c v lim l w hv).mono ?_
  rintro e w' ⟨rfl, rfl⟩
  exact ⟨rfl, hb⟩
/-- .. with whatever error. -/
def TeAt (lim : Int) (c : Nat) (w0 w : World) (l : List UInt8) (er : Int) : Prop := (∃ v, MwAt w c v lim l er) ∧ Below c w0 w
theorem TxAt.te {lim : Int} {c : Nat} {w0 w : World} {l : List UInt8} (h : TxAt lim c w0 w l) : TeAt lim c w0 w l 0 := h
theorem tenum (lim : Int) (h0 : 0 ≤ lim) (h1 : lim ≤ 4294967296) (c : Nat) (w0 w : World) (l : List UInt8) (er n : Int) (s : Nat) (hs : s ≤ 4) (hl : l.length ≤ 4294967296) (h : TeAt lim c w0 w l er) :
    Calls Tryz.prog 73 #[.pointer (some ⟨c, 0, none⟩), .int .i64 n, .int .i64 (s : Int)] w fun e w' => e = .returned (.tuple #[]) ∧ TeAt lim c w0 w' (wL lim l er s n) (wE lim l er s n) := by
  obtain ⟨⟨v, hv⟩, hb⟩ := h
  refine (mnum_w c v lim l er n s hs w hv h0 (by omega) (by omega)).mono ?_
  rintro e w' ⟨rfl, v', h', hk, _⟩
  exact ⟨rfl, ⟨v', h'⟩, hb.trans (hk.below (Nat.le_of_lt hv.lt) (Nat.le_refl _) (fun g hg => by have := (hv.own.lt g hg).1; omega))⟩
def teT (l : List UInt8) (er : Int) : ByteArray := if er = 0 then ⟨l.toArray⟩ else ⟨#[]⟩
theorem tedone (lim : Int) (c : Nat) (w0 w : World) (l : List UInt8) (er : Int) (h : TeAt lim c w0 w l er) :
    Calls Tryz.prog 78 #[.pointer (some ⟨c, 0, none⟩)] w fun e w' => e = .returned (.tuple #[.string (teT l er), .int .i64 er]) ∧ Below c w0 w' := by
  by_cases he : er = 0
  · subst he
    exact txdone lim c w0 w l h
  · obtain ⟨⟨v, hv⟩, hb⟩ := h
    rw [teT, if_neg he]
    refine (mdone_err c v lim l er w hv (by simpa using he)).mono ?_
    rintro e w' ⟨rfl, rfl⟩
    exact ⟨rfl, hb.drew⟩
end Go.Proofs.YtgmekkgbobmplaaGreat

/- The document's text of a request. -/
namespace Go.Proofs.YtgmekkgbobmplaaGreat
open Go.RowKit

theorem below_up {B C : Nat} {x y z : World} (h : Below B x y) (k : Below C y z) (hC : B ≤ C) (_hs : C ≤ y.heap.size) : Below B x z := h.trans (k.mono hC)
set_option maxRecDepth 100000 in
set_option maxHeartbeats 6400000 in
theorem qtext_any (r : Rq) (hb : r.b < 18446744073709551616) (w : World) : Calls Tryz.prog 126 #[.agg #[.int .i64 r.c, .int .i64 r.st, .int .i64 r.k, .string r.key, .float .f64 r.b, .int .i64 r.id]] w fun e w' => e = .returned (.tuple #[.string (rqT r), .int .i64 (rqE r)]) ∧ Below w.heap.size w w' := by
  have H0 : Hid (RqAt (w.alloc (.cells #[.int .i64 r.c, .int .i64 r.st, .int .i64 r.k, .string r.key, .float .f64 r.b, .int .i64 r.id] 41)) w.heap.size r ∧ Below w.heap.size w (w.alloc (.cells #[.int .i64 r.c, .int .i64 r.st, .int .i64 r.k, .string r.key, .float .f64 r.b, .int .i64 r.id] 41))) := hid ⟨heap_alloc_last w _, (Below.refl w.heap.size w).alloc (Nat.le_refl _) _⟩
  have HN : Hid (∀ X, nullB r = X → ∀ u, Calls Tryz.prog 48 #[.agg #[.int .i64 r.c, .int .i64 r.st, .int .i64 r.k, .string r.key, .float .f64 r.b, .int .i64 r.id]] u fun e w' => e = .returned (.bool X) ∧ Below u.heap.size u w') := hid (fun X hX u => by rw [← hX]; exact qnull_any r u)
  have HR : Hid (∀ X, rightB r = X → ∀ u, Calls Tryz.prog 46 #[.agg #[.int .i64 r.c, .int .i64 r.st, .int .i64 r.k, .string r.key, .float .f64 r.b, .int .i64 r.id]] u fun e w' => e = .returned (.bool X) ∧ Below u.heap.size u w') := hid (fun X hX u => by rw [← hX]; exact qright_any r u)
  cases hN : nullB r with
  | true =>
    rw [show rqT r = ⟨#[0]⟩ by rw [rqT, if_pos hN], show rqE r = 0 by rw [rqE, if_pos hN]]
    have HNb := hid (HN.out _ hN)
    clear hN hb
    go_enter Tryz.func126, Tryz.ntmps126
    go_wp2_with (go_at_call 48; refine (HNb.out _).mono ?_; rintro e w1 ⟨rfl, hb1⟩; have H1 := hid (And.intro (H0.out.1.keep hb1) (H0.out.2.trans (hb1.mono H0.out.2.size))); clear hb1; obtain ⟨⟨z0, z1⟩, z2, z3, z4, z5⟩ := H1.out.1.cells)
    go_ret2
    exact ⟨rfl, H1.out.2⟩
  | false =>
    have HNb := hid (HN.out _ hN)
    cases hR : rightB r with
    | false =>
      rw [show rqT r = ⟨#[]⟩ by rw [rqT, hN, hR]; rfl, show rqE r = 1 by rw [rqE, hN, hR]; rfl]
      have HRb := hid (HR.out _ hR)
      clear hN hR hb
      go_enter Tryz.func126, Tryz.ntmps126
      go_wp2_with (first
        | (go_at_call 48; refine (HNb.out _).mono ?_; rintro e w1 ⟨rfl, hb1⟩; have H1 := hid (And.intro (H0.out.1.keep hb1) (H0.out.2.trans (hb1.mono H0.out.2.size))); clear hb1; obtain ⟨⟨z0, z1⟩, z2, z3, z4, z5⟩ := H1.out.1.cells)
        | (go_at_call 46; refine (HRb.out _).mono ?_; rintro e w2 ⟨rfl, hb2⟩; have H2 := hid (And.intro (H1.out.1.keep hb2) (H1.out.2.trans (hb2.mono H1.out.2.size))); clear hb2 z0 z1 z2 z3 z4 z5; obtain ⟨⟨z0, z1⟩, z2, z3, z4, z5⟩ := H2.out.1.cells))
      go_ret2
      exact ⟨rfl, H2.out.2⟩
    | true =>
      rw [show rqT r = ⟨(rqL r).toArray⟩ by rw [rqT, hN, hR]; rfl, show rqE r = 0 by rw [rqE, hN, hR]; rfl]
      have HRb := hid (HR.out _ hR)
      obtain ⟨⟨c1, c2⟩, ⟨s1, s2⟩, ⟨k1, k2⟩, hk, i1, i2⟩ := right_fields hR
      have HZ := hid (And.intro hk (canW_lt hb))
      obtain ⟨C, eC⟩ : ∃ C : Nat, r.c = (C : Int) := ⟨r.c.toNat, by omega⟩
      obtain ⟨S, eS⟩ : ∃ S : Nat, r.st = (S : Int) := ⟨r.st.toNat, by omega⟩
      obtain ⟨N, eN⟩ : ∃ N : Nat, r.k = (N : Int) := ⟨r.k.toNat, by omega⟩
      obtain ⟨I, eI⟩ : ∃ I : Nat, r.id = (I : Int) := ⟨r.id.toNat, by omega⟩
      have HF : Hid ((C < 256 ∧ S < 4294967296 ∧ N < 256 ∧ I < 256) ∧ rqL r = be 1 1 ++ (be 1 C ++ (be 4 S ++ (be 1 N ++ (be 2 r.key.size ++ (r.key.data.toList ++ (be 8 (canW r.b) ++ be 1 I))))))) := hid ⟨by omega, by rw [rqL, eC, eS, eN, eI]; rfl⟩
      clear c1 c2 s1 s2 k1 k2 hk i1 i2 hN hR hb
      obtain ⟨c, st, k, key, b, id⟩ := r
      simp only at eC eS eN eI HF HZ H0 HN HR HNb HRb ⊢
      subst eC eS eN eI
      have HKB : Hid (∀ u, Calls Tryz.prog 89 #[.float .f64 b] u fun e w' => e = .returned (.int .u64 (canW b : Nat)) ∧ w' = u) := hid (fun u => kbits_any b u)
      generalize canW b = W8 at HF HZ HKB
      go_enter Tryz.func126, Tryz.ntmps126
      go_wp2_with (first
        | (go_at_call 48; refine (HNb.out _).mono ?_; rintro e w1 ⟨rfl, hb1⟩; have H1 := hid (And.intro (H0.out.1.keep hb1) (H0.out.2.trans (hb1.mono H0.out.2.size))); clear hb1; obtain ⟨⟨z0, z1⟩, z2, z3, z4, z5⟩ := H1.out.1.cells)
        | (go_at_call 46; refine (HRb.out _).mono ?_; rintro e w2 ⟨rfl, hb2⟩; have H2 := hid (And.intro (H1.out.1.keep hb2) (H1.out.2.trans (hb2.mono H1.out.2.size))); clear hb2 z0 z1 z2 z3 z4 z5; obtain ⟨⟨z0, z1⟩, z2, z3, z4, z5⟩ := H2.out.1.cells)
        | (go_at_call 72; refine (txnew 100 (by decide) _).mono ?_; rintro e w3 ⟨rfl, h3⟩; have T0 := hid h3; clear h3; have HQT0 : Hid (RqAt w3 w.heap.size ⟨C, S, N, key, b, I⟩) := hid (((T0.out.2).block _ (lt_of_blk H2.out.1)).trans H2.out.1); (try clear z0 z1 z2 z3 z4 z5); obtain ⟨⟨z0, z1⟩, z2, z3, z4, z5⟩ := HQT0.out.cells)
        | (go_at_call 73; have := T6; refine (txnum 100 (by decide) (by decide) _ _ _ ([] ++ be 1 1 ++ be 1 C ++ be 4 S ++ be 1 N ++ (be 2 key.size ++ key.data.toList) ++ be 8 W8) I 1 (by decide) (by have := HF.out.1.2.2.2; omega) (by have := HZ.out.1; simp only [List.length_append, List.length_nil, be_len]; (try rw [data_len]); omega) (by exact T6.out)).mono ?_; rintro e v6 ⟨rfl, h6⟩; have T7 := hid h6; clear h6; have HQT7 : Hid (RqAt v6 w.heap.size ⟨C, S, N, key, b, I⟩) := hid (((T7.out.2).block _ (lt_of_blk H2.out.1)).trans H2.out.1); (try clear z0 z1 z2 z3 z4 z5); obtain ⟨⟨z0, z1⟩, z2, z3, z4, z5⟩ := HQT7.out.cells)
        | (go_at_call 88; have := T5; refine (txbits 100 (by decide) (by decide) _ _ _ ([] ++ be 1 1 ++ be 1 C ++ be 4 S ++ be 1 N ++ (be 2 key.size ++ key.data.toList)) W8 HZ.out.2 (by have := HZ.out.1; simp only [List.length_append, List.length_nil, be_len]; (try rw [data_len]); omega) (by exact T5.out)).mono ?_; rintro e v5 ⟨rfl, h5⟩; have T6 := hid h5; clear h5; have HQT6 : Hid (RqAt v5 w.heap.size ⟨C, S, N, key, b, I⟩) := hid (((T6.out.2).block _ (lt_of_blk H2.out.1)).trans H2.out.1); (try clear z0 z1 z2 z3 z4 z5); obtain ⟨⟨z0, z1⟩, z2, z3, z4, z5⟩ := HQT6.out.cells)
        | (go_at_call 75; have := T4; refine (txtext 100 (by decide) (by decide) _ _ _ ([] ++ be 1 1 ++ be 1 C ++ be 4 S ++ be 1 N) key (by have := HZ.out.1; omega) (by have := HZ.out.1; simp only [List.length_append, List.length_nil, be_len]; (try rw [data_len]); omega) (by exact T4.out)).mono ?_; rintro e v4 ⟨rfl, h4⟩; have T5 := hid h4; clear h4; have HQT5 : Hid (RqAt v4 w.heap.size ⟨C, S, N, key, b, I⟩) := hid (((T5.out.2).block _ (lt_of_blk H2.out.1)).trans H2.out.1); (try clear z0 z1 z2 z3 z4 z5); obtain ⟨⟨z0, z1⟩, z2, z3, z4, z5⟩ := HQT5.out.cells)
        | (go_at_call 73; have := T3; refine (txnum 100 (by decide) (by decide) _ _ _ ([] ++ be 1 1 ++ be 1 C ++ be 4 S) N 1 (by decide) (by have := HF.out.1.2.2.1; omega) (by have := HZ.out.1; simp only [List.length_append, List.length_nil, be_len]; (try rw [data_len]); omega) (by exact T3.out)).mono ?_; rintro e v3 ⟨rfl, h3⟩; have T4 := hid h3; clear h3; have HQT4 : Hid (RqAt v3 w.heap.size ⟨C, S, N, key, b, I⟩) := hid (((T4.out.2).block _ (lt_of_blk H2.out.1)).trans H2.out.1); (try clear z0 z1 z2 z3 z4 z5); obtain ⟨⟨z0, z1⟩, z2, z3, z4, z5⟩ := HQT4.out.cells)
        | (go_at_call 73; have := T2; refine (txnum 100 (by decide) (by decide) _ _ _ ([] ++ be 1 1 ++ be 1 C) S 4 (by decide) (by have := HF.out.1.2.1; omega) (by have := HZ.out.1; simp only [List.length_append, List.length_nil, be_len]; (try rw [data_len]); omega) (by exact T2.out)).mono ?_; rintro e v2 ⟨rfl, h2⟩; have T3 := hid h2; clear h2; have HQT3 : Hid (RqAt v2 w.heap.size ⟨C, S, N, key, b, I⟩) := hid (((T3.out.2).block _ (lt_of_blk H2.out.1)).trans H2.out.1); (try clear z0 z1 z2 z3 z4 z5); obtain ⟨⟨z0, z1⟩, z2, z3, z4, z5⟩ := HQT3.out.cells)
        | (go_at_call 73; have := T1; refine (txnum 100 (by decide) (by decide) _ _ _ ([] ++ be 1 1) C 1 (by decide) (by have := HF.out.1.1; omega) (by have := HZ.out.1; simp only [List.length_append, List.length_nil, be_len]; (try rw [data_len]); omega) (by exact T1.out)).mono ?_; rintro e v1 ⟨rfl, h1⟩; have T2 := hid h1; clear h1; have HQT2 : Hid (RqAt v1 w.heap.size ⟨C, S, N, key, b, I⟩) := hid (((T2.out.2).block _ (lt_of_blk H2.out.1)).trans H2.out.1); (try clear z0 z1 z2 z3 z4 z5); obtain ⟨⟨z0, z1⟩, z2, z3, z4, z5⟩ := HQT2.out.cells)
        | (go_at_call 73; have := T0; refine (txnum 100 (by decide) (by decide) _ _ _ [] 1 1 (by decide) (by decide) (by decide) (by exact T0.out)).mono ?_; rintro e v0 ⟨rfl, h0⟩; have T1 := hid h0; clear h0; have HQT1 : Hid (RqAt v0 w.heap.size ⟨C, S, N, key, b, I⟩) := hid (((T1.out.2).block _ (lt_of_blk H2.out.1)).trans H2.out.1); (try clear z0 z1 z2 z3 z4 z5); obtain ⟨⟨z0, z1⟩, z2, z3, z4, z5⟩ := HQT1.out.cells)
        | (go_at_call 89; refine (HKB.out _).mono ?_; rintro e w9 ⟨rfl, rfl⟩)
        | (go_at_call 78; refine (txdone 100 _ _ _ _ (by exact T7.out)).mono ?_; rintro e wd ⟨rfl, hd⟩; have HDn := hid (H2.out.2.trans (hd.mono H2.out.2.size)); clear hd))
      go_ret2
      refine ⟨?_, HDn.out⟩
      rw [HF.out.2]
      rfl
end Go.Proofs.YtgmekkgbobmplaaGreat

/- What the document reads any bytes as: a request. -/
namespace Go.Proofs.YtgmekkgbobmplaaGreat
open Go.RowKit

theorem rq_st {w : World} {b : Nat} {r : Rq} (h : RqAt w b r) (v : Int) : RqAt (w.setCell ⟨b, 1, none⟩ (.int .i64 v)) b { r with st := v } := (blk_set h 1 _).trans (by simp)
theorem rq_k {w : World} {b : Nat} {r : Rq} (h : RqAt w b r) (v : Int) : RqAt (w.setCell ⟨b, 2, none⟩ (.int .i64 v)) b { r with k := v } := (blk_set h 2 _).trans (by simp)
theorem rq_key {w : World} {b : Nat} {r : Rq} (h : RqAt w b r) (v : ByteArray) : RqAt (w.setCell ⟨b, 3, none⟩ (.string v)) b { r with key := v } := (blk_set h 3 _).trans (by simp)
theorem rq_b {w : World} {b : Nat} {r : Rq} (h : RqAt w b r) (v : Nat) : RqAt (w.setCell ⟨b, 4, none⟩ (.float .f64 v)) b { r with b := v } := (blk_set h 4 _).trans (by simp)
theorem rq_id {w : World} {b : Nat} {r : Rq} (h : RqAt w b r) (v : Int) : RqAt (w.setCell ⟨b, 5, none⟩ (.int .i64 v)) b { r with id := v } := (blk_set h 5 _).trans (by simp)
theorem load_rq (w : World) (b : Nat) (r : Rq) (h : RqAt w b r) : (loadVar 41 ⟨b, 0, none⟩).run Tryz.prog w = .ok (.agg #[.int .i64 r.c, .int .i64 r.st, .int .i64 r.k, .string r.key, .float .f64 r.b, .int .i64 r.id]) w := by
  obtain ⟨⟨z0, z1⟩, z2, z3, z4, z5⟩ := h.cells
  clear h
  go_simp
theorem rd_sizes (s : ByteArray) (sh : Bool) (n : Nat) : (rS s sh n).size ≤ s.size := by
  rw [rS]
  split
  · rw [← data_len, ext_data, List.length_drop, List.length_take, data_len]
    omega
  · exact Nat.le_refl _
end Go.Proofs.YtgmekkgbobmplaaGreat

/- The program's writer, as the walks of its users see it: what lies in it, numbers, bits, texts put to it, its end. -/
namespace Go.Proofs.YtgmekkgbobmplaaGreat
open Go.RowKit

/-- The program's writer at block c, with room for lim, l in it, its error er; nothing below c has turned since w0. -/
def PeAt (lim : Int) (c : Nat) (w0 w : World) (l : List UInt8) (er : Int) : Prop := (∃ v, WrAt w c v lim l er) ∧ Below c w0 w
/-- .. with no error. -/
def PwAt (lim : Int) (c : Nat) (w0 w : World) (l : List UInt8) : Prop := (∃ v, WrAt w c v lim l 0) ∧ Below c w0 w
theorem PwAt.pe {lim : Int} {c : Nat} {w0 w : World} {l : List UInt8} (h : PwAt lim c w0 w l) : PeAt lim c w0 w l 0 := h
theorem pwnew (lim : Int) (h0 : 0 ≤ lim) (w : World) : Calls Tryz.prog 66 #[.int .i64 lim] w fun e w' => e = .returned (.pointer (some ⟨w.heap.size, 0, none⟩)) ∧ PwAt lim w.heap.size w w' [] := by
  refine (new_any lim w).mono ?_
  rintro e w' ⟨rfl, rfl⟩
  rw [show max lim 0 = lim by omega]
  exact ⟨rfl, ⟨_, ⟨heap_alloc_last w _, ⟨rfl, .inl ⟨rfl, rfl⟩⟩⟩⟩, (Below.refl _ _).alloc (Nat.le_refl _) _⟩
theorem pwbyte (lim : Int) (h0 : 0 ≤ lim) (h1 : lim ≤ 4294967296) (c : Nat) (w0 w : World) (l : List UInt8) (n : Nat) (hn : n < 256) (hl : (l.length : Int) + 1 ≤ lim) (h : PwAt lim c w0 w l) :
    Calls Tryz.prog 114 #[.pointer (some ⟨c, 0, none⟩), .int .i64 (n : Int)] w fun e w' => e = .returned (.tuple #[]) ∧ PwAt lim c w0 w' (l ++ be 1 n) := by
  obtain ⟨⟨v, hv⟩, hb⟩ := h
  refine (wbyte_any c v lim l 0 n w hv h0 (by omega) (by omega) (by omega)).mono ?_
  rintro e w' ⟨rfl, v', h', hk, _⟩
  rw [(wLx lim l 1 n (by omega) hl).1, (wLx lim l 1 n (by omega) hl).2] at h'
  exact ⟨rfl, ⟨v', h'⟩, hb.trans (hk.below (Nat.le_of_lt hv.lt) (Nat.le_refl _) (fun g hg => by have := (hv.own.lt g hg).1; omega))⟩
theorem pwlong (lim : Int) (h0 : 0 ≤ lim) (h1 : lim ≤ 4294967296) (c : Nat) (w0 w : World) (l : List UInt8) (n : Nat) (hn : n < 4294967296) (hl : (l.length : Int) + 4 ≤ lim) (h : PwAt lim c w0 w l) :
    Calls Tryz.prog 157 #[.pointer (some ⟨c, 0, none⟩), .int .i64 (n : Int)] w fun e w' => e = .returned (.tuple #[]) ∧ PwAt lim c w0 w' (l ++ be 4 n) := by
  obtain ⟨⟨v, hv⟩, hb⟩ := h
  refine (wlong_any c v lim l 0 n w hv h0 (by omega) (by omega) (by omega)).mono ?_
  rintro e w' ⟨rfl, v', h', hk, _⟩
  rw [(wLx lim l 4 n (by omega) hl).1, (wLx lim l 4 n (by omega) hl).2] at h'
  exact ⟨rfl, ⟨v', h'⟩, hb.trans (hk.below (Nat.le_of_lt hv.lt) (Nat.le_refl _) (fun g hg => by have := (hv.own.lt g hg).1; omega))⟩
theorem pelong (lim : Int) (h0 : 0 ≤ lim) (h1 : lim ≤ 4294967296) (c : Nat) (w0 w : World) (l : List UInt8) (er n : Int) (hn : n ≤ 9223372036854775807) (hl : l.length ≤ 4294967296) (h : PeAt lim c w0 w l er) :
    Calls Tryz.prog 157 #[.pointer (some ⟨c, 0, none⟩), .int .i64 n] w fun e w' => e = .returned (.tuple #[]) ∧ PeAt lim c w0 w' (wL lim l er 4 n) (wE lim l er 4 n) := by
  obtain ⟨⟨v, hv⟩, hb⟩ := h
  refine (wlong_any c v lim l er n w hv h0 (by omega) (by omega) hn).mono ?_
  rintro e w' ⟨rfl, v', h', hk, _⟩
  exact ⟨rfl, ⟨v', h'⟩, hb.trans (hk.below (Nat.le_of_lt hv.lt) (Nat.le_refl _) (fun g hg => by have := (hv.own.lt g hg).1; omega))⟩
theorem pwtext (lim : Int) (h0 : 0 ≤ lim) (h1 : lim ≤ 4294967296) (c : Nat) (w0 w : World) (l : List UInt8) (s : ByteArray) (hs : s.size ≤ 65535) (hl : (l.length : Int) + (2 + s.size) ≤ lim) (h : PwAt lim c w0 w l) :
    Calls Tryz.prog 117 #[.pointer (some ⟨c, 0, none⟩), .string s] w fun e w' => e = .returned (.tuple #[]) ∧ PwAt lim c w0 w' (l ++ (be 2 s.size ++ s.data.toList)) := by
  obtain ⟨⟨v, hv⟩, hb⟩ := h
  refine (wtext_any c v lim l 0 s w hv h0 (by omega) (by omega) (by omega) (fun _ => by omega)).mono ?_
  rintro e w' ⟨rfl, v', h', hk, _⟩
  rw [(xLx lim l s hs hl).1, (xLx lim l s hs hl).2] at h'
  exact ⟨rfl, ⟨v', h'⟩, hb.trans (hk.below (Nat.le_of_lt hv.lt) (Nat.le_refl _) (fun g hg => by have := (hv.own.lt g hg).1; omega))⟩
theorem pwbits (lim : Int) (h0 : 0 ≤ lim) (h1 : lim ≤ 4294967296) (c : Nat) (w0 w : World) (l : List UInt8) (n : Nat) (hn : n < 18446744073709551616) (hl : (l.length : Int) + 8 ≤ lim) (h : PwAt lim c w0 w l) :
    Calls Tryz.prog 143 #[.pointer (some ⟨c, 0, none⟩), .int .u64 (n : Int)] w fun e w' => e = .returned (.tuple #[]) ∧ PwAt lim c w0 w' (l ++ be 8 n) := by
  obtain ⟨⟨v, hv⟩, hb⟩ := h
  refine (wbits_any c v lim l 0 n w hv h0 (by omega) (by omega) hn).mono ?_
  rintro e w' ⟨rfl, v', h', hk, _⟩
  rw [(bLx lim l n hl).1, (bLx lim l n hl).2] at h'
  exact ⟨rfl, ⟨v', h'⟩, hb.trans (hk.below (Nat.le_of_lt hv.lt) (Nat.le_refl _) (fun g hg => by have := (hv.own.lt g hg).1; omega))⟩
theorem pwdone (lim : Int) (c : Nat) (w0 w : World) (l : List UInt8) (h : PwAt lim c w0 w l) :
    Calls Tryz.prog 68 #[.pointer (some ⟨c, 0, none⟩)] w fun e w' => e = .returned (.tuple #[.string ⟨l.toArray⟩, .int .i64 0]) ∧ Below c w0 w' := by
  obtain ⟨⟨v, hv⟩, hb⟩ := h
  refine (done_ok c v lim l w hv).mono ?_
  rintro e w' ⟨rfl, rfl⟩
  exact ⟨rfl, hb⟩
theorem pedone (lim : Int) (c : Nat) (w0 w : World) (l : List UInt8) (er : Int) (he : er ≠ 0) (h : PeAt lim c w0 w l er) :
    Calls Tryz.prog 68 #[.pointer (some ⟨c, 0, none⟩)] w fun e w' => e = .returned (.tuple #[.string ⟨#[]⟩, .int .i64 er]) ∧ Below c w0 w' := by
  obtain ⟨⟨v, hv⟩, hb⟩ := h
  refine (done_err c v lim l er w hv (by simpa using he)).mono ?_
  rintro e w' ⟨rfl, rfl⟩
  exact ⟨rfl, hb.drew⟩
end Go.Proofs.YtgmekkgbobmplaaGreat

/- The program's: who may be a member, which members are right. -/
namespace Go.Proofs.YtgmekkgbobmplaaGreat
open Go.RowKit

def isIdB (id : Int) : Bool := decide (0 ≤ id ∧ id < 16)
theorem cisID_any (id : Int) (w : World) : Calls Tryz.prog 169 #[.int .i64 id] w fun e w' => e = .returned (.bool (isIdB id)) ∧ w' = w := by
  by_cases h0 : 0 ≤ id
  · by_cases h1 : id < 16
    · have HF : Hid (isIdB id = true) := hid (decide_eq_true ⟨h0, h1⟩)
      rw [HF.out]
      go_enter Tryz.func169, Tryz.ntmps169
      go_wp2
      go_ret
      exact ⟨rfl, rfl⟩
    · have HF : Hid (isIdB id = false) := hid (decide_eq_false (fun h => h1 h.2))
      rw [HF.out]
      go_enter Tryz.func169, Tryz.ntmps169
      go_wp2
      go_ret
      exact ⟨rfl, rfl⟩
  · have HF : Hid (isIdB id = false) := hid (decide_eq_false (fun h => h0 h.1))
    rw [HF.out]
    go_enter Tryz.func169, Tryz.ntmps169
    go_wp2
    go_ret
    exact ⟨rfl, rfl⟩
set_option maxRecDepth 100000 in
set_option maxHeartbeats 3200000 in
theorem careRight_any (a : Option Addr) (n cap : Nat) (l : List Int) (hn : l.length = n) (hm : n ≤ maxLen) (w : World) (hI : IntsIn w a l) :
    Calls Tryz.prog 155 #[.slice a n cap] w fun e w' => e = .returned (.bool (memB l)) ∧ Below w.heap.size w w' := by
  have hm2 : (n : Int) ≤ 9223372036854775807 := by unfold maxLen at hm; omega
  have HI := hid hI
  have HN := hid hn
  clear hI hm hn
  by_cases h4 : n < 4
  · have k4 : (n : Int) < 4 := by omega
    have HF : Hid (memB l = false) := hid (by rw [memB, HN.out, decide_eq_false (fun h => by omega)]; simp)
    rw [HF.out]
    go_enter Tryz.func155, Tryz.ntmps155
    go_wp2
    go_ret
    exact ⟨rfl, Below.refl _ _⟩
  by_cases h10 : 10 < n
  · have k4 : ¬ ((n : Int) < 4) := by omega
    have k10 : (10 : Int) < (n : Int) := by omega
    have HF : Hid (memB l = false) := hid (by rw [memB, HN.out, decide_eq_false (fun h => by omega)]; simp)
    rw [HF.out]
    go_enter Tryz.func155, Tryz.ntmps155
    go_wp2
    go_ret
    exact ⟨rfl, Below.refl _ _⟩
  have k4 : ¬ ((n : Int) < 4) := by omega
  have k10 : ¬ ((10 : Int) < (n : Int)) := by omega
  have HQ := hid (And.intro h4 h10)
  clear h4 h10
  go_enter Tryz.func155, Tryz.ntmps155
  go_wp2
  go_loopw [15] (fun i wr => ∃ j : Nat, j ≤ n ∧ i = .int .i64 (j : Int) ∧ okTo l j = true ∧ wr = w)
    (fun i _ => ((n : Int) - intOf i).toNat)
  case atStart => exact ⟨0, by omega, rfl, rfl, rfl⟩
  case round =>
    obtain ⟨j, hj, rfl, hok, rfl⟩ := hrel
    by_cases hjn : j = n
    · have hj1 : ¬ ((j : Int) < (n : Int)) := by omega
      rw [hjn] at hok
      have HF : Hid (memB l = true) := hid (by have hq := HQ.out; rw [memB, HN.out, hok, decide_eq_true (And.intro (by omega) (by omega))]; rfl)
      clear hok hj hjn
      go_wp2
      go_ret
      exact ⟨by rw [HF.out]; rfl, Below.refl _ _⟩
    · have hj1 : (j : Int) < (n : Int) := by omega
      have hj0 : (0 : Int) ≤ (j : Int) := Int.natCast_nonneg _
      have hget : l[j]? = some (l.getD j 0) := by rw [List.getD_eq_getElem?_getD, List.getElem?_eq_getElem (by rw [HN.out]; omega)]; rfl
      obtain ⟨g, off, rfl, hg, hcell⟩ := HI.out.at j _ hget
      obtain ⟨x, ex⟩ : ∃ x, x = l.getD j 0 := ⟨_, rfl⟩
      rw [← ex] at hcell
      clear hget
      cases hx : isIdB x with
      | false =>
        have hx2 := of_decide_eq_false hx
        have HC : Hid (∀ u : World, Calls Tryz.prog 169 #[.int .i64 x] u fun e w' => e = .returned (.bool false) ∧ w' = u) := hid (fun u => by rw [← hx]; exact cisID_any x u)
        have HF : Hid (okTo l n = false) := hid (okTo_false l (j + 1) n (by rw [okTo_succ, okAt_no1 l j (by rw [← ex]; exact hx2)]; simp) (by omega))
        clear hok hj hjn ex hx hx2 hg
        go_wp2_with (go_at_call 169; refine (HC.out _).mono ?_; rintro e wx ⟨rfl, rfl⟩)
        go_ret
        exact ⟨by rw [memB, HN.out, HF.out]; rfl, Below.refl _ _⟩
      | true =>
        have hx2 := of_decide_eq_true hx
        have HC : Hid (∀ u : World, Calls Tryz.prog 169 #[.int .i64 x] u fun e w' => e = .returned (.bool true) ∧ w' = u) := hid (fun u => by rw [← hx]; exact cisID_any x u)
        by_cases hz : j = 0
        · have d4 : ¬ ((0 : Int) < (j : Int)) := by omega
          have HF : Hid (okTo l (j + 1) = true) := hid (by rw [okTo_succ, hok, show okAt l j = true by (have hx : l.getD 0 0 = x := by rw [ex, hz]); rw [hz]; exact okAt_yes0 l (by rw [hx]; exact hx2)]; rfl)
          have HJ := hid (And.intro hj hjn)
          clear hok hj hjn ex hz hx hx2 hg
          go_wp2_with (go_at_call 169; refine (HC.out _).mono ?_; rintro e wx ⟨rfl, rfl⟩)
          go_roundw
          case rel => exact ⟨j + 1, by have := HJ.out; omega, by go_num, HF.out, by first | exact rfl | exact trivial⟩
          case measure => simp [intOf]; omega
        · obtain ⟨i, rfl⟩ : ∃ i, j = i + 1 := ⟨j - 1, by omega⟩
          have hgetp : l[i]? = some (l.getD i 0) := by rw [List.getD_eq_getElem?_getD, List.getElem?_eq_getElem (by rw [HN.out]; omega)]; rfl
          obtain ⟨g', off', eg, hg', hcellp⟩ := HI.out.at i _ hgetp
          obtain ⟨rfl, rfl⟩ : g = g' ∧ off = off' := by simp at eg; exact eg
          obtain ⟨y, ey⟩ : ∃ y, y = l.getD i 0 := ⟨_, rfl⟩
          rw [← ey] at hcellp
          have hi0 : (0 : Int) < ((i + 1 : Nat) : Int) := by omega
          have hi1 : (i : Int) < (n : Int) := by omega
          have hi2 : (0 : Int) ≤ (i : Int) := by omega
          clear hgetp eg hz hg hg' hx
          by_cases hxy : x ≤ y
          · have HF : Hid (okTo l n = false) := hid (okTo_false l (i + 1 + 1) n (by rw [okTo_succ, okAt_no2 l (i + 1) (by omega) (by rw [← ex, show i + 1 - 1 = i from rfl, ← ey]; omega)]; simp) (by omega))
            clear hok hj hjn ex ey hx2
            go_wp2_with (go_at_call 169; refine (HC.out _).mono ?_; rintro e wx ⟨rfl, rfl⟩)
            go_ret
            exact ⟨by rw [memB, HN.out, HF.out]; rfl, Below.refl _ _⟩
          · have HF : Hid (okTo l (i + 1 + 1) = true) := hid (by rw [okTo_succ, hok, okAt_yes l (i + 1) (by rw [← ex]; exact hx2) (by rw [← ex, show i + 1 - 1 = i from rfl, ← ey]; omega)]; rfl)
            have HJ := hid (And.intro hj hjn)
            clear hok hj hjn ex ey hx2
            go_wp2_with (go_at_call 169; refine (HC.out _).mono ?_; rintro e wx ⟨rfl, rfl⟩)
            go_roundw
            case rel => exact ⟨i + 1 + 1, by have := HJ.out; omega, by go_num, HF.out, by first | exact rfl | exact trivial⟩
            case measure => simp [intOf]; omega
end Go.Proofs.YtgmekkgbobmplaaGreat

/- The program's counts. -/
namespace Go.Proofs.YtgmekkgbobmplaaGreat
open Go.RowKit

end Go.Proofs.YtgmekkgbobmplaaGreat

/- The program's council: which configurations are right. -/
namespace Go.Proofs.YtgmekkgbobmplaaGreat
open Go.RowKit

set_option maxRecDepth 100000 in
set_option maxHeartbeats 1600000 in
theorem cright_any (ep : Int) (a : Option Addr) (n cap : Nat) (l : List Int) (hn : l.length = n) (hm : n ≤ maxLen) (w : World) (hI : IntsIn w a l) :
    Calls Tryz.prog 139 #[.agg #[.int .i64 ep, .slice a n cap]] w fun e w' => e = .returned (.bool (rightC ep l)) ∧ Below w.heap.size w w' := by
  by_cases h0 : 0 ≤ ep
  · by_cases h60 : ep ≤ 60
    · have HM : Hid (∀ u : World, IntsIn u a l → Calls Tryz.prog 155 #[.slice a n cap] u fun e w' => e = .returned (.bool (memB l)) ∧ Below u.heap.size u w') := hid (fun u hu => careRight_any a n cap l hn hm u hu)
      have HR : Hid (rightC ep l = memB l) := hid (by rw [rightC, decide_eq_true (And.intro h0 h60)]; rfl)
      have HI := hid hI
      rw [HR.out]
      generalize memB l = b at HM
      clear hI hn hm
      go_enter Tryz.func139, Tryz.ntmps139
      go_wp2_with (go_at_call 155; refine (HM.out _ (by exact HI.out.alloc _)).mono ?_; rintro e w1 ⟨rfl, hb1⟩; have H1 := hid (((Below.refl w.heap.size w).alloc (Nat.le_refl _) _).trans (hb1.mono (by simp))); clear hb1)
      go_ret
      exact ⟨rfl, H1.out⟩
    · have HR : Hid (rightC ep l = false) := hid (by rw [rightC, decide_eq_false (fun h => h60 h.2)]; rfl)
      rw [HR.out]
      clear hI hn hm
      go_enter Tryz.func139, Tryz.ntmps139
      go_wp2
      go_ret
      exact ⟨rfl, (Below.refl _ _).alloc (Nat.le_refl _) _⟩
  · have HR : Hid (rightC ep l = false) := hid (by rw [rightC, decide_eq_false (fun h => h0 h.1)]; rfl)
    rw [HR.out]
    clear hI hn hm
    go_enter Tryz.func139, Tryz.ntmps139
    go_wp2
    go_ret
    exact ⟨rfl, (Below.refl _ _).alloc (Nat.le_refl _) _⟩
end Go.Proofs.YtgmekkgbobmplaaGreat

/- The document's test of two configurations, whatever they are. -/
namespace Go.Proofs.YtgmekkgbobmplaaGreat
open Go.RowKit

set_option maxRecDepth 100000 in
set_option maxHeartbeats 1600000 in
theorem vsame_dec (e1 e2 : Int) (a1 a2 : Option Addr) (n1 n2 c1 c2 : Nat) (l1 l2 : List Int) (hn1 : l1.length = n1) (hn2 : l2.length = n2) (hm1 : n1 ≤ maxLen) (hm2 : n2 ≤ maxLen) (w : World) (h1 : IntsIn w a1 l1) (h2 : IntsIn w a2 l2) :
    Calls Tryz.prog 79 #[.agg #[.int .i64 e1, .slice a1 n1 c1], .agg #[.int .i64 e2, .slice a2 n2 c2]] w fun e w' => e = .returned (.bool (decide (e1 = e2) && decide (l1 = l2))) ∧ Below w.heap.size w w' := by
  have HC : Hid (∀ u : World, IntsIn u a1 l1 → IntsIn u a2 l2 → Calls Tryz.prog 83 #[.slice a1 n1 c1, .slice a2 n2 c2] u fun e w' => e = .returned (.bool (decide (l1 = l2))) ∧ Below u.heap.size u w') := hid (fun u k1 k2 => sameInts_dec a1 a2 n1 n2 c1 c2 l1 l2 hn1 hn2 hm1 hm2 u k1 k2)
  have HI := hid (And.intro h1 h2)
  clear h1 h2 hn1 hn2 hm1 hm2
  by_cases he : e1 = e2
  · have hb : (e1 == e2) = true := by simpa using he
    rw [decide_eq_true he, Bool.true_and]
    clear he
    generalize decide (l1 = l2) = B at HC
    go_enter Tryz.func79, Tryz.ntmps79
    go_wp2_with (go_at_call 83; refine (HC.out _ (by exact (HI.out.1.alloc _).alloc _) (by exact (HI.out.2.alloc _).alloc _)).mono ?_; rintro e w1 ⟨rfl, hb1⟩; have H1 := hid ((((Below.refl w.heap.size w).alloc (Nat.le_refl _) _).alloc (by simp) _).trans (hb1.mono (by simp; omega))); clear hb1)
    go_ret
    exact ⟨rfl, H1.out⟩
  · have hb : (e1 == e2) = false := by simpa using he
    rw [decide_eq_false he, Bool.false_and]
    go_enter Tryz.func79, Tryz.ntmps79
    go_wp2
    go_ret
    exact ⟨by simp, ((Below.refl w.heap.size w).alloc (Nat.le_refl _) _).alloc (by simp) _⟩
end Go.Proofs.YtgmekkgbobmplaaGreat

/- A message's cells, and what a test of one says. No walk here. -/
namespace Go.Proofs.YtgmekkgbobmplaaGreat
open Go.RowKit
/-- The cells of a message whose lists lie there. -/
def msA (m : Ms) (a13 a14 a15 a16 : Option Addr) (c13 c14 c15 c16 : Nat) : List Value := [.int .i64 m.k, .int .i64 m.ep, .int .i64 m.v, .int .i64 m.sl, .int .i64 m.rq.c, .int .i64 m.rq.st, .int .i64 m.rq.k, .string m.rq.key, .float .f64 m.rq.b, .int .i64 m.rq.id, .int .i64 m.rs.1, .float .f64 m.rs.2, .string m.tx, .slice a13 m.nx.length c13, .slice a14 m.sg.length c14, .slice a15 m.cg.length c15, .slice a16 m.ln.length c16]
theorem msA_at {w : World} {b : Nat} {T : TypeId} {m : Ms} {a13 a14 a15 a16 : Option Addr} {c13 c14 c15 c16 : Nat} (h : BxAt w b (msA m a13 a14 a15 a16 c13 c14 c15 c16) T) :
    w.cell? ⟨b, 0, none⟩ = some (.int .i64 m.k) ∧ w.cell? ⟨b, 1, none⟩ = some (.int .i64 m.ep) ∧ w.cell? ⟨b, 2, none⟩ = some (.int .i64 m.v) ∧ w.cell? ⟨b, 3, none⟩ = some (.int .i64 m.sl) ∧ w.cell? ⟨b, 4, none⟩ = some (.int .i64 m.rq.c) ∧ w.cell? ⟨b, 5, none⟩ = some (.int .i64 m.rq.st) ∧ w.cell? ⟨b, 6, none⟩ = some (.int .i64 m.rq.k) ∧ w.cell? ⟨b, 7, none⟩ = some (.string m.rq.key) ∧ w.cell? ⟨b, 8, none⟩ = some (.float .f64 m.rq.b) ∧ w.cell? ⟨b, 9, none⟩ = some (.int .i64 m.rq.id) ∧ w.cell? ⟨b, 10, none⟩ = some (.int .i64 m.rs.1) ∧ w.cell? ⟨b, 11, none⟩ = some (.float .f64 m.rs.2) ∧ w.cell? ⟨b, 12, none⟩ = some (.string m.tx) ∧ w.cell? ⟨b, 13, none⟩ = some (.slice a13 m.nx.length c13) ∧ w.cell? ⟨b, 14, none⟩ = some (.slice a14 m.sg.length c14) ∧ w.cell? ⟨b, 15, none⟩ = some (.slice a15 m.cg.length c15) ∧ w.cell? ⟨b, 16, none⟩ = some (.slice a16 m.ln.length c16) := ⟨h.cell 0 _ rfl, h.cell 1 _ rfl, h.cell 2 _ rfl, h.cell 3 _ rfl, h.cell 4 _ rfl, h.cell 5 _ rfl, h.cell 6 _ rfl, h.cell 7 _ rfl, h.cell 8 _ rfl, h.cell 9 _ rfl, h.cell 10 _ rfl, h.cell 11 _ rfl, h.cell 12 _ rfl, h.cell 13 _ rfl, h.cell 14 _ rfl, h.cell 15 _ rfl, h.cell 16 _ rfl⟩
theorem msA_all {W : World} {b : Nat} {T : TypeId} {m : Ms} {a13 a14 a15 a16 : Option Addr} {c13 c14 c15 c16 : Nat} (h : BxAt W b (msA m a13 a14 a15 a16 c13 c14 c15 c16) T) :
    (∀ x : Cls W, x.1.cell? ⟨b, 0, none⟩ = some (.int .i64 m.k)) ∧ (∀ x : Cls W, x.1.cell? ⟨b, 1, none⟩ = some (.int .i64 m.ep)) ∧ (∀ x : Cls W, x.1.cell? ⟨b, 2, none⟩ = some (.int .i64 m.v)) ∧ (∀ x : Cls W, x.1.cell? ⟨b, 3, none⟩ = some (.int .i64 m.sl)) ∧ (∀ x : Cls W, x.1.cell? ⟨b, 4, none⟩ = some (.int .i64 m.rq.c)) ∧ (∀ x : Cls W, x.1.cell? ⟨b, 5, none⟩ = some (.int .i64 m.rq.st)) ∧ (∀ x : Cls W, x.1.cell? ⟨b, 6, none⟩ = some (.int .i64 m.rq.k)) ∧ (∀ x : Cls W, x.1.cell? ⟨b, 7, none⟩ = some (.string m.rq.key)) ∧ (∀ x : Cls W, x.1.cell? ⟨b, 8, none⟩ = some (.float .f64 m.rq.b)) ∧ (∀ x : Cls W, x.1.cell? ⟨b, 9, none⟩ = some (.int .i64 m.rq.id)) ∧ (∀ x : Cls W, x.1.cell? ⟨b, 10, none⟩ = some (.int .i64 m.rs.1)) ∧ (∀ x : Cls W, x.1.cell? ⟨b, 11, none⟩ = some (.float .f64 m.rs.2)) ∧ (∀ x : Cls W, x.1.cell? ⟨b, 12, none⟩ = some (.string m.tx)) ∧ (∀ x : Cls W, x.1.cell? ⟨b, 13, none⟩ = some (.slice a13 m.nx.length c13)) ∧ (∀ x : Cls W, x.1.cell? ⟨b, 14, none⟩ = some (.slice a14 m.sg.length c14)) ∧ (∀ x : Cls W, x.1.cell? ⟨b, 15, none⟩ = some (.slice a15 m.cg.length c15)) ∧ (∀ x : Cls W, x.1.cell? ⟨b, 16, none⟩ = some (.slice a16 m.ln.length c16)) := ⟨fun x => (h.keep x.2).cell 0 _ rfl, fun x => (h.keep x.2).cell 1 _ rfl, fun x => (h.keep x.2).cell 2 _ rfl, fun x => (h.keep x.2).cell 3 _ rfl, fun x => (h.keep x.2).cell 4 _ rfl, fun x => (h.keep x.2).cell 5 _ rfl, fun x => (h.keep x.2).cell 6 _ rfl, fun x => (h.keep x.2).cell 7 _ rfl, fun x => (h.keep x.2).cell 8 _ rfl, fun x => (h.keep x.2).cell 9 _ rfl, fun x => (h.keep x.2).cell 10 _ rfl, fun x => (h.keep x.2).cell 11 _ rfl, fun x => (h.keep x.2).cell 12 _ rfl, fun x => (h.keep x.2).cell 13 _ rfl, fun x => (h.keep x.2).cell 14 _ rfl, fun x => (h.keep x.2).cell 15 _ rfl, fun x => (h.keep x.2).cell 16 _ rfl⟩
theorem msA_new (m : Ms) (a13 a14 a15 a16 : Option Addr) (c13 c14 c15 c16 : Nat) (T : TypeId) (w : World) :
    ∃ wa, w.alloc (.cells (msA m a13 a14 a15 a16 c13 c14 c15 c16).toArray T) = wa ∧ Below w.heap.size w wa ∧ BxAt wa w.heap.size (msA m a13 a14 a15 a16 c13 c14 c15 c16) T := ⟨_, rfl, (Below.refl w.heap.size w).alloc (Nat.le_refl _) _, heap_alloc_last w _⟩
theorem bx_next {wa u u2 : World} {b : Nat} {L : List Value} {T : TypeId} (h : BxAt u b L T ∧ Below wa.heap.size wa u) (hb : Below u.heap.size u u2) : BxAt u2 b L T ∧ Below wa.heap.size wa u2 := ⟨h.1.keep hb, h.2.trans (hb.mono h.2.size)⟩
/-- A call's answer behind W, whatever is laid meanwhile. -/
def Tst (W : World) (f : FuncId) (args : Array Value) (v : Value) : Prop := ∀ u : World, Below W.heap.size W u → Calls Tryz.prog f args u fun e w' => e = .returned v ∧ Below u.heap.size u w'
theorem Tst.up {W wa : World} {f : FuncId} {args : Array Value} {v : Value} (h : Tst W f args v) (hw : Below W.heap.size W wa) : Tst wa f args v := fun u hu => h u (hw.trans (hu.mono hw.size))
end Go.Proofs.YtgmekkgbobmplaaGreat

/- Numbers sorted, each once; who signed a text. No walk here. -/
namespace Go.Proofs.YtgmekkgbobmplaaGreat
open Go.RowKit

/-- Sorted, each once. -/
def risen (l : List Int) : List Int := Lib.compact (l.mergeSort fun x y => decide (x ≤ y))
theorem up_inc (d : Array Int) (hs : ∀ i j : Nat, i < j → j < d.size → d[i]! ≤ d[j]!) : ∀ m, m ≤ d.size → Inc (Lib.compactUpTo d m) ∧ ∀ z, z ∈ Lib.compactUpTo d m ↔ ∃ j, j < m ∧ d[j]! = z
  | 0, _ => ⟨List.Pairwise.nil, fun z => ⟨fun h => by simp [Lib.compactUpTo] at h, fun ⟨j, h, _⟩ => by omega⟩⟩
  | m + 1, hm => by
    obtain ⟨i1, i2⟩ := up_inc d hs m (by omega)
    rw [Lib.compactUpTo_succ]
    cases hk : Lib.keeps d m with
    | true =>
      rw [if_pos rfl]
      constructor
      · refine List.pairwise_append.2 ⟨i1, List.pairwise_singleton .., fun x hx y hy => ?_⟩
        rw [List.mem_singleton.1 hy]
        obtain ⟨j, hj, rfl⟩ := (i2 x).1 hx
        have h1 := of_decide_eq_true hk
        rcases h1 with h1 | h1
        · omega
        · have h3 := hs (m - 1) m (by omega) (by omega)
          by_cases e : j = m - 1
          · rw [e]; omega
          · have h2 := hs j (m - 1) (by omega) (by omega)
            omega
      · intro z
        rw [List.mem_append, i2, List.mem_singleton]
        constructor
        · rintro (⟨j, hj, h⟩ | h)
          · exact ⟨j, by omega, h⟩
          · exact ⟨m, by omega, h.symm⟩
        · rintro ⟨j, hj, h⟩
          by_cases e : j = m
          · subst e; exact .inr h.symm
          · exact .inl ⟨j, by omega, h⟩
    | false =>
      rw [if_neg (by decide), List.append_nil]
      refine ⟨i1, fun z => ?_⟩
      rw [i2]
      have h1 := of_decide_eq_false hk
      have hm0 : m ≠ 0 := fun e => h1 (.inl e)
      have he : d[m]! = d[m - 1]! := Classical.byContradiction fun e => h1 (.inr e)
      constructor
      · rintro ⟨j, hj, h⟩
        exact ⟨j, by omega, h⟩
      · rintro ⟨j, hj, h⟩
        by_cases e : j = m
        · subst e; exact ⟨j - 1, by omega, by rw [← he]; exact h⟩
        · exact ⟨j, by omega, h⟩
theorem risen_spec (l : List Int) : Inc (risen l) ∧ ∀ z, z ∈ risen l ↔ z ∈ l := by
  obtain ⟨S, eS⟩ : ∃ S, S = l.mergeSort (fun x y => decide (x ≤ y)) := ⟨_, rfl⟩
  have hp : S.Pairwise (fun a b => decide (a ≤ b) = true) := by rw [eS]; exact List.pairwise_mergeSort (fun a b c h1 h2 => by simp at *; omega) (fun a b => by simp; omega) _
  have hm : ∀ z, z ∈ S ↔ z ∈ l := fun z => by rw [eS, List.mem_mergeSort]
  rw [risen, ← eS, Lib.compact]
  have hg : ∀ (j : Nat) (hj : j < S.length), S.toArray[j]! = S[j] := fun j hj => by simp [hj]
  obtain ⟨h1, h2⟩ := up_inc S.toArray (fun i j hij hj => by
    have hj' : j < S.length := by simpa using hj
    rw [hg i (by omega), hg j hj']
    exact of_decide_eq_true (List.pairwise_iff_getElem.1 hp i j (by omega) hj' hij)) S.length (by simp)
  refine ⟨h1, fun z => ?_⟩
  rw [h2, ← hm, List.mem_iff_getElem]
  constructor
  · rintro ⟨j, hj, h⟩
    exact ⟨j, hj, by rw [← hg j hj]; exact h⟩
  · rintro ⟨j, hj, h⟩
    exact ⟨j, hj, by rw [hg j hj]; exact h⟩
theorem risen_len (l : List Int) : (risen l).length ≤ l.length := by
  have := Lib.compact_length_le (l.mergeSort fun x y => decide (x ≤ y))
  rw [List.length_mergeSort] at this
  exact this
theorem risen_has (l : List Int) (z : Int) : hasM (risen l) z = hasM l z := by
  unfold hasM
  rw [Bool.eq_iff_iff, decide_eq_true_iff, decide_eq_true_iff]
  exact (risen_spec l).2 z
/-- Who signed the text, as often and in the order as they stand in the list. -/
def sgn (t : ByteArray) (ss : List (Int × ByteArray)) : List Int := (ss.filter fun p => decide (p.2.data.toList = t.data.toList)).map (·.1)
theorem sgn_mem (t : ByteArray) (ss : List (Int × ByteArray)) (z : Int) : z ∈ sgn t ss ↔ (z, t) ∈ ss := by
  unfold sgn
  rw [List.mem_map]
  constructor
  · rintro ⟨p, hp, rfl⟩
    obtain ⟨h1, h2⟩ := List.mem_filter.1 hp
    have : p.2 = t := bytes_eq (of_decide_eq_true h2)
    rw [← this]
    exact h1
  · intro h
    exact ⟨(z, t), List.mem_filter.2 ⟨h, decide_eq_true rfl⟩, rfl⟩
theorem sgn_len (t : ByteArray) (ss : List (Int × ByteArray)) : (sgn t ss).length ≤ ss.length := by
  unfold sgn
  rw [List.length_map]
  exact List.length_filter_le ..
theorem sgn_yes {t : ByteArray} {ss : List (Int × ByteArray)} {j : Nat} (hj : j < ss.length) (h : rtOf ss j = t) : sgn t (ss.take (j + 1)) = sgn t (ss.take j) ++ [idOf ss j] := by
  unfold sgn
  rw [List.take_add_one, getP_some hj, List.filter_append, List.map_append, Option.toList_some, List.filter_cons, h, decide_eq_true rfl, if_pos rfl]
  rfl
theorem sgn_no {t : ByteArray} {ss : List (Int × ByteArray)} {j : Nat} (hj : j < ss.length) (h : (rtOf ss j).data.toList ≠ t.data.toList) : sgn t (ss.take (j + 1)) = sgn t (ss.take j) := by
  unfold sgn
  rw [List.take_add_one, getP_some hj, List.filter_append, List.map_append, Option.toList_some, List.filter_cons, decide_eq_false h]
  exact List.append_nil _
/-- Of the first j of G those that are members. -/
def among (l G : List Int) (j : Nat) : List Int := (G.take j).filter (hasM l)
theorem among_yes {l G : List Int} {j : Nat} (hj : j < G.length) (h : hasM l (G.getD j 0) = true) : among l G (j + 1) = among l G j ++ [G.getD j 0] := by
  unfold among
  rw [List.take_add_one, getD_some hj, List.filter_append, Option.toList_some, List.filter_cons, h, if_pos rfl]
  rfl
theorem among_no {l G : List Int} {j : Nat} (hj : j < G.length) (h : hasM l (G.getD j 0) = false) : among l G (j + 1) = among l G j := by
  unfold among
  rw [List.take_add_one, getD_some hj, List.filter_append, Option.toList_some, List.filter_cons, h]
  exact List.append_nil _
theorem among_len (l G : List Int) (j : Nat) : (among l G j).length ≤ j := by
  unfold among
  have h1 := List.length_filter_le (hasM l) (G.take j)
  rw [List.length_take] at h1
  omega
theorem among_all (l : List Int) (t : ByteArray) (ss : List (Int × ByteArray)) : among l (risen (sgn t ss)) (risen (sgn t ss)).length = gathL l t ss := by
  have hR := risen_spec (sgn t ss)
  unfold among
  rw [List.take_length]
  refine gathL_eq (hR.1.filter _) (fun z => ?_)
  rw [List.mem_filter, hR.2, sgn_mem, gOut_mem l t ss z l.length (Nat.le_refl _), List.take_length]
  constructor
  · rintro ⟨h1, h2⟩
    exact ⟨of_decide_eq_true h2, h1⟩
  · rintro ⟨h1, h2⟩
    exact ⟨h2, decide_eq_true h1⟩
end Go.Proofs.YtgmekkgbobmplaaGreat

/- Lists of numbers that are made; a row of one's own by its block. -/
namespace Go.Proofs.YtgmekkgbobmplaaGreat
open Go.RowKit
set_option maxRecDepth 100000 in
theorem run_makeI (n m : Nat) (hnm : n ≤ m) (hm : m ≤ 1000) (u : World) : (Instr.makeSlice 22 (.int .i64 (n : Int)) (.int .i64 (m : Int))).run Tryz.prog u = .ok (.slice (some ⟨u.heap.size, 0, none⟩) n m) (u.alloc (.cells (iC (List.replicate m 0)).toArray 3)) := by
  obtain ⟨i0, hi0, hz0, hz1, hz2⟩ := info_parts Tryz.info3
  have h := run_make (P := Tryz.prog) u 22 3 i0 (.int .i64 0) Tryz.underlying22 hi0 hz0 .i64 .i64 n m (by omega) (by omega) (by rw [hz2]; omega) (by omega)
  rw [hz1, Int.toNat_natCast, Int.toNat_natCast, Nat.mul_one] at h
  rw [h]
  congr 4
  apply Array.ext'
  have h2 : (Value.int .i64 0).cells = #[.int .i64 0] := rfl
  rw [h2, toList_madeCells_one]
  show _ = iC _
  rw [iC, List.map_replicate]
theorem own_of_blk {B : Nat} {w0 w : World} {g cap n : Nat} {zs : List Int} {rest : List Value} (h : w.heap[g]? = some (.cells (iC zs ++ rest).toArray 3 (0, 0))) (hB : B ≤ g) (hc : zs.length + rest.length = cap) (hm : cap ≤ maxLen) (hn : n = zs.length) (hb : Below B w0 w) : OwnedI B w0 w (.slice (some ⟨g, 0, none⟩) n cap) zs := by
  subst hn
  refine ⟨⟨by rw [iC_len, Nat.mul_one], .inr ⟨g, cap, _, rfl, hB, h, by omega, hm, by simp [iC]; omega, ?_⟩⟩, hb, by have := lt_of_blk h; omega⟩
  rw [Nat.mul_one]
  simp [iC]
end Go.Proofs.YtgmekkgbobmplaaGreat

/- The program's: members in new memory. -/
namespace Go.Proofs.YtgmekkgbobmplaaGreat
open Go.RowKit

/-- The row g, new since w0, holds the numbers l and room for one more. -/
structure Copied (w0 w : World) (g : Nat) (l : List Int) : Prop where
  blk : w.heap[g]? = some (.cells (iC (l ++ [0])).toArray 3 (0, 0))
  lo : w0.heap.size ≤ g
  bel : Below w0.heap.size w0 w
theorem OwnedI.low {B : Nat} {w0 w1 w : World} {v : Value} {zs : List Int} (h : OwnedI w1.heap.size w1 w v zs) (hb : Below B w0 w1) (hB : B ≤ w1.heap.size) : OwnedI B w0 w v zs := by
  refine ⟨⟨h.own.1, ?_⟩, hb.trans (h.bel.mono hB), Nat.le_trans hB h.le⟩
  rcases h.own.2 with hn | ⟨g, cap, cur, hv, hg, hr⟩
  · exact .inl hn
  · exact .inr ⟨g, cap, cur, hv, Nat.le_trans hB hg, hr⟩
theorem Tryz.size3 : (Tryz.prog.info? 3).map (·.size) = some 1 := by kernel_rfl
set_option maxRecDepth 100000 in
theorem splice_copied (l : List Int) : splice (iC (List.replicate (l.length + 1) 0)) 0 (iC l) = iC (l ++ [0]) := by
  rw [splice, iC_len, iC_app]
  simp [iC]
theorem src_ints {w : World} {a : Option Addr} {l : List Int} {X : List Value} (h : IntsIn w a l) (h0 : 0 < l.length) (hX : X = iC l) : ∃ ad, a = some ad ∧ ∀ j v, X[j]? = some v → w.cell? (ad.add j) = some v := by
  subst hX
  rcases h with h | ⟨g, off, rfl, hg, hc⟩
  · rw [h] at h0; simp at h0
  · refine ⟨_, rfl, fun j v hv => ?_⟩
    obtain ⟨z, hz, rfl⟩ := iC_back l j v hv
    rw [Addr.add_lit]
    exact hc j z hz
theorem below_drew (B : Nat) (w : World) : Below B w w.drew := ⟨rfl, rfl, rfl, Nat.le_refl _, fun _ _ => rfl⟩
theorem below_sets {B b : Nat} {a : World} (hb : B ≤ b) : ∀ (vs : List Value) (o : Nat) (w : World), Below B a w → Below B a (w.setCells b o vs)
  | [], _, _, h => h
  | v :: vs, o, _, h => below_sets hb vs (o + 1) _ (h.setCell (p := ⟨b, o, none⟩) hb v)
theorem shift_cells (A D : List Value) (z v : Value) (p : Nat) (hA : A.length = p) :
    (((A ++ (D ++ [z])).take (p + 1) ++ D ++ (A ++ (D ++ [z])).drop (p + 1 + D.length)).take p ++ [v] ++ ((A ++ (D ++ [z])).take (p + 1) ++ D ++ (A ++ (D ++ [z])).drop (p + 1 + D.length)).drop (p + 1)) = A ++ [v] ++ D := by
  have e1 : (A ++ (D ++ [z])).drop (p + 1 + D.length) = [] := List.drop_eq_nil_of_le (by simp; omega)
  have l1 : ((A ++ (D ++ [z])).take (p + 1)).length = p + 1 := by rw [List.length_take]; simp; omega
  rw [e1, List.append_nil, List.take_append_of_le_length (by omega), List.take_take, Nat.min_eq_left (by omega), List.take_left' hA, List.drop_left' l1]
end Go.Proofs.YtgmekkgbobmplaaGreat

/- The program's: numbers sorted, each once, in new memory; is one among them. -/
namespace Go.Proofs.YtgmekkgbobmplaaGreat
open Go.RowKit

def renL2n15 : Go.Shelf.Ren := ⟨fun | 15 => 30 | n => n, fun | 3 => 3 | 4 => 4 | 22 => 22 | n => n, fun | n => n⟩
theorem layL2n15 : Go.Proofs.Lays2.n15 Tryz.prog renL2n15 := {
  mixed := by kernel_rfl
  f15 := Tryz.func30.trans (congrArg some (by kernel_rfl))
  t3 := Tryz.underlying3
  a3 := Tryz.isAgg3
  z3 := Tryz.sizeOf3
  v3 := Tryz.zeroValue3
  t4 := Tryz.underlying4
  a4 := Tryz.isAgg4
  z4 := Tryz.sizeOf4
  v4 := Tryz.zeroValue4
  t22 := Tryz.underlying22
  a22 := Tryz.isAgg22
  z22 := Tryz.sizeOf22
  v22 := Tryz.zeroValue22
  i3 := by kernel_rfl }
def renL2n20 : Go.Shelf.Ren := ⟨fun | 20 => 122 | n => n, fun | 0 => 0 | 3 => 3 | 4 => 4 | 22 => 22 | n => n, fun | n => n⟩
theorem layL2n20 : Go.Proofs.Lays2.n20 Tryz.prog renL2n20 := {
  mixed := by kernel_rfl
  f20 := Tryz.func122.trans (congrArg some (by kernel_rfl))
  t0 := Tryz.underlying0
  a0 := Tryz.isAgg0
  z0 := Tryz.sizeOf0
  v0 := Tryz.zeroValue0
  t3 := Tryz.underlying3
  a3 := Tryz.isAgg3
  z3 := Tryz.sizeOf3
  v3 := Tryz.zeroValue3
  t4 := Tryz.underlying4
  a4 := Tryz.isAgg4
  z4 := Tryz.sizeOf4
  v4 := Tryz.zeroValue4
  t22 := Tryz.underlying22
  a22 := Tryz.isAgg22
  z22 := Tryz.sizeOf22
  v22 := Tryz.zeroValue22
  i3 := by kernel_rfl }
def renLn189 : Go.Shelf.Ren := ⟨fun | 125 => 151 | 128 => 166 | 129 => 167 | 189 => 121 | 215 => 168 | 216 => 152 | 257 => 150 | 294 => 158 | 295 => 159 | 296 => 160 | 297 => 161 | 298 => 162 | 299 => 163 | 300 => 164 | 301 => 165 | 328 => 171 | 329 => 172 | 330 => 173 | 331 => 174 | 332 => 175 | 343 => 176 | n => n, fun | 0 => 0 | 3 => 3 | 4 => 4 | 5 => 5 | 9 => 9 | 28 => 22 | 46 => 64 | 51 => 195 | 53 => 142 | 131 => 79 | 182 => 188 | 183 => 189 | 218 => 198 | 222 => 202 | 228 => 204 | 229 => 205 | n => n, fun | n => n⟩
theorem layLn189 : Go.Proofs.Lays.n189 Tryz.prog renLn189 := {
  mixed := by kernel_rfl
  f125 := Tryz.func151.trans (congrArg some (by kernel_rfl))
  f128 := Tryz.func166.trans (congrArg some (by kernel_rfl))
  f129 := Tryz.func167.trans (congrArg some (by kernel_rfl))
  f189 := Tryz.func121.trans (congrArg some (by kernel_rfl))
  f215 := Tryz.func168.trans (congrArg some (by kernel_rfl))
  f216 := Tryz.func152.trans (congrArg some (by kernel_rfl))
  f257 := Tryz.func150.trans (congrArg some (by kernel_rfl))
  f294 := Tryz.func158.trans (congrArg some (by kernel_rfl))
  f295 := Tryz.func159.trans (congrArg some (by kernel_rfl))
  f296 := Tryz.func160.trans (congrArg some (by kernel_rfl))
  f297 := Tryz.func161.trans (congrArg some (by kernel_rfl))
  f298 := Tryz.func162.trans (congrArg some (by kernel_rfl))
  f299 := Tryz.func163.trans (congrArg some (by kernel_rfl))
  f300 := Tryz.func164.trans (congrArg some (by kernel_rfl))
  f301 := Tryz.func165.trans (congrArg some (by kernel_rfl))
  f328 := Tryz.func171.trans (congrArg some (by kernel_rfl))
  f329 := Tryz.func172.trans (congrArg some (by kernel_rfl))
  f330 := Tryz.func173.trans (congrArg some (by kernel_rfl))
  f331 := Tryz.func174.trans (congrArg some (by kernel_rfl))
  f332 := Tryz.func175.trans (congrArg some (by kernel_rfl))
  f343 := Tryz.func176.trans (congrArg some (by kernel_rfl))
  t0 := Tryz.underlying0
  a0 := Tryz.isAgg0
  z0 := Tryz.sizeOf0
  v0 := Tryz.zeroValue0
  t3 := Tryz.underlying3
  a3 := Tryz.isAgg3
  z3 := Tryz.sizeOf3
  v3 := Tryz.zeroValue3
  t4 := Tryz.underlying4
  a4 := Tryz.isAgg4
  z4 := Tryz.sizeOf4
  v4 := Tryz.zeroValue4
  t5 := Tryz.underlying5
  a5 := Tryz.isAgg5
  z5 := Tryz.sizeOf5
  v5 := Tryz.zeroValue5
  t9 := Tryz.underlying9
  a9 := Tryz.isAgg9
  z9 := Tryz.sizeOf9
  v9 := Tryz.zeroValue9
  t28 := Tryz.underlying22
  a28 := Tryz.isAgg22
  z28 := Tryz.sizeOf22
  v28 := Tryz.zeroValue22
  t46 := Tryz.underlying64
  a46 := Tryz.isAgg64
  z46 := Tryz.sizeOf64
  v46 := Tryz.zeroValue64
  t51 := Tryz.underlying195
  a51 := Tryz.isAgg195
  z51 := Tryz.sizeOf195
  v51 := Tryz.zeroValue195
  t53 := Tryz.underlying142
  a53 := Tryz.isAgg142
  z53 := Tryz.sizeOf142
  v53 := Tryz.zeroValue142
  t131 := Tryz.underlying79
  a131 := Tryz.isAgg79
  z131 := Tryz.sizeOf79
  v131 := Tryz.zeroValue79
  t182 := Tryz.underlying188
  a182 := Tryz.isAgg188
  z182 := Tryz.sizeOf188
  v182 := Tryz.zeroValue188
  t183 := Tryz.underlying189
  a183 := Tryz.isAgg189
  z183 := Tryz.sizeOf189
  v183 := Tryz.zeroValue189
  t218 := Tryz.underlying198
  a218 := Tryz.isAgg198
  z218 := Tryz.sizeOf198
  v218 := Tryz.zeroValue198
  t222 := Tryz.underlying202
  a222 := Tryz.isAgg202
  z222 := Tryz.sizeOf202
  v222 := Tryz.zeroValue202
  t228 := Tryz.underlying204
  a228 := Tryz.isAgg204
  z228 := Tryz.sizeOf204
  v228 := Tryz.zeroValue204
  t229 := Tryz.underlying205
  a229 := Tryz.isAgg205
  z229 := Tryz.sizeOf205
  v229 := Tryz.zeroValue205 }
/-- From what the three calls leave to a row of one's own. -/
theorem risen_own {w w1 : World} {g cap n nn q : Nat} {os : Array Obj} {l : List Int} (hown : w1.ownsRow w.heap.size 3 1 (.slice (some ⟨g, 0, none⟩) n cap) n (l.map (Value.int .i64))) (hbel : Below w.heap.size w w1) (hlen : l.length = n) :
    OwnedI w.heap.size w (Sort.putRow (Value.int .i64) (Sort.ahead (Sort.grow (Sort.putRow (Value.int .i64) (Sort.ahead w1 nn) g 0 (l.mergeSort fun x y => decide (x ≤ y)).toArray) os) q) g 0 (Lib.compact (l.mergeSort fun x y => decide (x ≤ y)) ++ List.replicate (n - (Lib.compact (l.mergeSort fun x y => decide (x ≤ y))).length) 0).toArray)
      (.slice (some ⟨g, 0, none⟩) (risen l).length cap) (risen l) := by
  have hl2 : (l.mergeSort fun x y => decide (x ≤ y)).length = l.length := List.length_mergeSort l
  have hle := Lib.compact_length_le (l.mergeSort fun x y => decide (x ≤ y))
  subst hlen
  rcases hown.2 with ⟨h0, _⟩ | ⟨g', cap', cur, hv, hbase, hb, h1, h2, h3, h4⟩
  · cases h0
  cases hv
  have hs := ownsRow_sortedI (n := nn) (os := os) (ts := l.mergeSort fun x y => decide (x ≤ y)) hl2 hbase hb h1 h2 h3
  have hc := Lib.ownsRow_putRow (q := q) (k := (Lib.compact (l.mergeSort fun x y => decide (x ≤ y))).length) (ys := Lib.compact (l.mergeSort fun x y => decide (x ≤ y)) ++ List.replicate (l.length - (Lib.compact (l.mergeSort fun x y => decide (x ≤ y))).length) 0) hs (by simp; omega) (by omega)
  rw [List.take_left] at hc
  refine ⟨hc, Lib.below_putRow (hbel.grown (grownBy_sortedI _) hbel.size (fun j hj => by cases hj; exact hbase)) hbase, ?_⟩
  have := hbel.size
  simp [Sort.putRow, Sort.mapBlock, Sort.ahead]
  omega
set_option maxRecDepth 100000 in
set_option maxHeartbeats 1600000 in
theorem trising_tail (arg : Value) (n : Nat) (l : List Int) (w : World) (hn : n ≤ 4611686018427387903)
    (hclone : Calls Tryz.prog 30 #[arg] w fun e w' => ∃ v', e = .returned v' ∧ w'.ownsRow w.heap.size 3 1 v' n (l.map (Value.int .i64)) ∧ v' ≠ .slice none 0 0 ∧ Below w.heap.size w w') :
    Calls Tryz.prog 69 #[arg] w fun e w' => ∃ v, e = .returned v ∧ OwnedI w.heap.size w w' v (risen l) := by
  have HC := hid hclone
  clear hclone
  go_enter Tryz.func69, Tryz.ntmps69
  go_wp2_with (first
    | (go_at_call 122; have := H2; refine H2.out.mono ?_; rintro e w3 ⟨rfl, q, rfl⟩)
    | (go_at_call 121; have := H1; refine H1.out.2.2.2.mono ?_; rintro e w2 ⟨rfl, nn, os, rfl⟩
       have H2 : Hid (Calls Tryz.prog 122 #[.slice (some ⟨g, 0, none⟩) n cap] (Sort.grow (Sort.putRow (Value.int .i64) (Sort.ahead w1 nn) g 0 (l.mergeSort fun x y => decide (x ≤ y)).toArray) os) fun e w' => e = .returned (.slice (some ⟨g, 0, none⟩) (Lib.compact (l.mergeSort fun x y => decide (x ≤ y))).length cap) ∧ ∃ q, w' = Sort.putRow (Value.int .i64) (Sort.ahead (Sort.grow (Sort.putRow (Value.int .i64) (Sort.ahead w1 nn) g 0 (l.mergeSort fun x y => decide (x ≤ y)).toArray) os) q) g 0 (Lib.compact (l.mergeSort fun x y => decide (x ≤ y)) ++ List.replicate (n - (Lib.compact (l.mergeSort fun x y => decide (x ≤ y))).length) 0).toArray) := hid (by
         have hl2 : (l.mergeSort fun x y => decide (x ≤ y)).length = n := by rw [List.length_mergeSort]; exact HX.out.2.2.1
         have hH2 : Sort.Holds (Value.int .i64) (Sort.grow (Sort.putRow (Value.int .i64) (Sort.ahead w1 nn) g 0 (l.mergeSort fun x y => decide (x ≤ y)).toArray) os) g 0 (l.mergeSort fun x y => decide (x ≤ y)).toArray :=
           Sort.holds_grow (Value.int .i64) _ os g 0 _ (by simpa [Sort.putRow, Sort.mapBlock, Sort.ahead] using HX.out.1) (Sort.holds_putRow (Value.int .i64) _ g 0 _ _ (Sort.holds_ahead (Value.int .i64) w1 nn g 0 _ HX.out.2.2.2) (by simp))
         have h := Any.slices_Compact_int layL2n20 g 0 cap (l.mergeSort fun x y => decide (x ≤ y)) _ hH2 (by omega) (by have := HX.out.2.1; omega)
         rw [hl2] at h
         exact h))
    | (go_at_call 30; refine HC.out.mono ?_; rintro e w1 ⟨v1, rfl, hown, hnn, hbel⟩
       obtain ⟨g, cap, rfl, hbg, hgl, hncap, hcm, hlen, hH⟩ := Lib.holds_of_ownsRow hown hnn
       have hsort := Any.slices_Sort_int layLn189 g 0 cap l w1 hH hgl (by omega)
       rw [hlen] at hsort
       have H1 := hid (And.intro hown (And.intro hbel (And.intro hlen hsort)))
       have HX : Hid (g < w1.heap.size ∧ n ≤ cap ∧ l.length = n ∧ Sort.Holds (Value.int .i64) w1 g 0 l.toArray) := hid ⟨hgl, hncap, hlen, hH⟩
       clear hown hbel hH hnn hlen hsort hbg hgl hncap hcm))
  go_ret
  exact ⟨_, rfl, risen_own H1.out.1 H1.out.2.1 H1.out.2.2.1⟩
theorem risen_nil : risen [] = [] := by simp [risen, Lib.compact, Lib.compactUpTo]
set_option maxRecDepth 100000 in
set_option maxHeartbeats 1600000 in
theorem trising_any (a : Option Addr) (n cap : Nat) (l : List Int) (hn : l.length = n) (hb : n * 8 ≤ 140737488355328) (w : World) (hI : IntsIn w a l) :
    Calls Tryz.prog 69 #[.slice a n cap] w fun e w' => ∃ v, e = .returned v ∧ OwnedI w.heap.size w w' v (risen l) := by
  rcases hI with rfl | ⟨g, off, rfl, hg, hc⟩
  · obtain rfl : 0 = n := hn
    cases a with
    | some ad => exact trising_tail _ 0 [] w (by omega) (Any.slices_Clone_int_zero layL2n15 ad cap w)
    | none =>
      rw [risen_nil]
      clear hb
      go_enter Tryz.func69, Tryz.ntmps69
      go_wp2_with (first
        | (go_at_call 122; refine (Any.slices_Compact_int_empty layL2n20 none 0 _).mono ?_; rintro e w3 ⟨rfl, rfl⟩)
        | (go_at_call 121; refine (Any.slices_Sort_int_none layLn189 none 0 _).mono ?_; rintro e w3 ⟨rfl, rfl⟩)
        | (go_at_call 30; refine (Any.slices_Clone_int_nil layL2n15 0 cap _).mono ?_; rintro e w3 ⟨rfl, rfl⟩))
      go_ret
      exact ⟨_, rfl, OwnedI.nil (Below.refl _ _) (Nat.le_refl _)⟩
  · have h := Any.slices_Clone_int layL2n15 g off n cap l w (by omega) hb (fun j hj => hc j _ (getD_some hj))
    rw [List.take_of_length_le (by omega)] at h
    exact trising_tail _ n l w (by omega) h
/-- A search by halves in a rising list. -/
theorem searchR_any (a : Option Addr) (n cap : Nat) (l : List Int) (hn : l.length = n) (hm : n * 8 ≤ 140737488355328) (hs : Inc l) (id : Int) (w : World) (hI : IntsIn w a l) :
    Calls Tryz.prog 123 #[.slice a n cap, .int .i64 id] w fun e w' => ∃ k : Int, e = .returned (.tuple #[.int .i64 k, .bool (hasM l id)]) ∧ Below w.heap.size w w' := by
  rcases hI with rfl | ⟨g, off, rfl, hg, hc⟩
  · obtain rfl : 0 = n := hn
    refine (Any.slices_BinarySearch_int_empty layL2n25 a cap id w).mono ?_
    rintro e w' ⟨rfl, rfl⟩
    exact ⟨0, rfl, Below.refl _ _⟩
  · have h := Any.slices_BinarySearch_int layL2n25 g off n cap l id w (by omega) (by omega) (fun j hj => hc j _ (getD_some hj)) (by rw [← hn, List.take_length]; exact hs.imp (fun h => Int.le_of_lt h))
    refine h.mono ?_
    rintro e w' ⟨rfl, q, rfl⟩
    refine ⟨((l.countP (· < id) : Nat) : Int), ?_, ⟨rfl, rfl, rfl, Nat.le_refl _, fun _ _ => rfl⟩⟩
    rw [← hn, List.take_length, show l.contains id = hasM l id by rw [hasM, List.contains_eq_mem]]
theorem tisAmong_any (a : Option Addr) (n cap : Nat) (l : List Int) (hn : l.length = n) (hm : n * 8 ≤ 140737488355328) (hs : Inc l) (id : Int) (w : World) (hI : IntsIn w a l) :
    Calls Tryz.prog 70 #[.slice a n cap, .int .i64 id] w fun e w' => e = .returned (.bool (hasM l id)) ∧ Below w.heap.size w w' := by
  have HC := hid (searchR_any a n cap l hn hm hs id w hI)
  clear hI hn hm hs
  go_enter Tryz.func70, Tryz.ntmps70
  go_wp2_with (go_at_call 123; refine HC.out.mono ?_; rintro e wx ⟨k, rfl, hb⟩; have H1 := hid hb; clear hb)
  go_ret
  exact ⟨rfl, H1.out⟩
end Go.Proofs.YtgmekkgbobmplaaGreat

/- Numbers of one's own: kept, read; texts unlike. No walk here. -/
namespace Go.Proofs.YtgmekkgbobmplaaGreat
open Go.RowKit

theorem OwnedI.keep {B : Nat} {w0 w w' : World} {v : Value} {l : List Int} (h : OwnedI B w0 w v l) (hb : Below w.heap.size w w') : OwnedI B w0 w' v l := by
  refine ⟨⟨h.own.1, ?_⟩, h.bel.trans (hb.mono h.le), Nat.le_trans h.le hb.size⟩
  rcases h.own.2 with hn | ⟨g, cap, cur, hv, hB, hh, hr⟩
  · exact .inl hn
  · exact .inr ⟨g, cap, cur, hv, hB, (hb.block g (lt_of_blk hh)).trans hh, hr⟩
theorem OwnedI.ints {B : Nat} {w0 w : World} {v : Value} {l : List Int} (h : OwnedI B w0 w v l) : ∃ a cap, v = .slice a l.length cap ∧ IntsIn w a l := by
  by_cases h0 : 0 < l.length
  · obtain ⟨g, cap, hv, _, _, hg, _, hc⟩ := h.form h0
    exact ⟨_, cap, hv, .inr ⟨g, 0, rfl, hg, fun j s hj => by rw [Nat.zero_add]; exact hc j s hj⟩⟩
  · obtain rfl : l = [] := List.eq_nil_of_length_eq_zero (by omega)
    rcases h.own.2 with ⟨hv, _⟩ | ⟨g, cap, cur, hv, _⟩
    · exact ⟨none, 0, hv, .inl rfl⟩
    · exact ⟨_, cap, hv, .inl rfl⟩
theorem text_no {r t : ByteArray} (h : r.data.toList ≠ t.data.toList) : (r.toList == t.toList) = false := by
  rw [data_list, data_list]
  simpa using h
end Go.Proofs.YtgmekkgbobmplaaGreat

/- The program's: who signed a text, gathered and counted. -/
namespace Go.Proofs.YtgmekkgbobmplaaGreat
open Go.RowKit

end Go.Proofs.YtgmekkgbobmplaaGreat

/- The document's: what can be made out of what was seen. -/
namespace Go.Proofs.YtgmekkgbobmplaaGreat
open Go.RowKit

/-- Each is by one of the bad, or stands in the list. -/
def derivA (l : List (Int × ByteArray)) (bad : List Int) (p : Int × ByteArray) : Bool := hasM bad p.1 || stands l p
def derivB (l : List (Int × ByteArray)) (bad : List Int) (ss : List (Int × ByteArray)) : Bool := ss.all (derivA l bad)
theorem deriv_snoc {l : List (Int × ByteArray)} {bad : List Int} {ss : List (Int × ByteArray)} {j : Nat} (hj : j < ss.length) (h : derivB l bad (ss.take j) = true) (hx : derivA l bad (idOf ss j, rtOf ss j) = true) : derivB l bad (ss.take (j + 1)) = true := by
  rw [derivB] at h ⊢
  rw [List.take_add_one, getP_some hj, List.all_append, h]
  simp [hx]
theorem deriv_no {l : List (Int × ByteArray)} {bad : List Int} {ss : List (Int × ByteArray)} {j : Nat} (hj : j < ss.length) (hx : derivA l bad (idOf ss j, rtOf ss j) = false) : derivB l bad ss = false := by
  cases e : derivB l bad ss with
  | false => rfl
  | true =>
    rw [derivB, List.all_eq_true] at e
    rw [e _ (List.mem_of_getElem? (getP_some hj))] at hx
    cases hx
set_option maxRecDepth 100000 in
set_option maxHeartbeats 3200000 in
theorem wderivable_any (al : Option Addr) (nl cl : Nat) (l : List (Int × ByteArray)) (hl : l.length = nl) (hlm : nl ≤ maxLen) (ab : Option Addr) (nb cb : Nat) (bad : List Int) (hb : bad.length = nb) (hbm : nb ≤ maxLen) (sa : Option Addr) (m cs : Nat) (ss : List (Int × ByteArray)) (hs : ss.length = m) (hsm : m ≤ maxLen) (w : World) (hL : PairsIn w al l) (hB : IntsIn w ab bad) (hS : PairsIn w sa ss) :
    Calls Tryz.prog 29 #[.slice al nl cl, .slice ab nb cb, .slice sa m cs] w fun e w' => e = .returned (.bool (derivB l bad ss)) ∧ Below w.heap.size w w' := by
  have hm2 : (m : Int) ≤ 9223372036854775807 := by unfold maxLen at hsm; omega
  have HH : Hid (∀ (z : Int) (u : World), IntsIn u ab bad → Calls Tryz.prog 27 #[.slice ab nb cb, .int .i64 z] u fun e w' => e = .returned (.bool (hasM bad z)) ∧ w' = u) := hid (fun z u hu => vhas_any ab nb cb bad hb hbm z u hu)
  have HT : Hid (∀ (q : Int) (r : ByteArray) (u : World), PairsIn u al l → Calls Tryz.prog 44 #[.slice al nl cl, .agg #[.int .i64 q, .string r]] u fun e w' => e = .returned (.bool (stands l (q, r))) ∧ Below u.heap.size u w') := hid (fun q r u hu => wstands_any al nl cl l hl hlm q r u hu)
  have HP := hid (And.intro hS (And.intro hs (And.intro hL hB)))
  clear hS hs hsm hL hB hl hlm hb hbm
  go_enter Tryz.func29, Tryz.ntmps29
  go_wp2
  go_loopw [7] (fun i wr => ∃ j : Nat, j ≤ m ∧ i = .int .i64 (j : Int) ∧ derivB l bad (ss.take j) = true ∧ Below w.heap.size w wr)
    (fun i _ => ((m : Int) - intOf i).toNat)
  case atStart => exact ⟨0, by omega, rfl, rfl, Below.refl _ _⟩
  case round =>
    obtain ⟨j, hj, rfl, hok, hbel⟩ := hrel
    have HB := hid hbel
    clear hbel
    by_cases hjn : j = m
    · have hj1 : ¬ ((j : Int) < (m : Int)) := by omega
      have HE : Hid (derivB l bad ss = true) := hid (by rwa [List.take_of_length_le (by rw [HP.out.2.1]; omega)] at hok)
      clear hok hj hjn
      go_wp2
      go_ret
      exact ⟨by rw [HE.out]; rfl, HB.out⟩
    · have hj1 : (j : Int) < (m : Int) := by omega
      have hj0 : (0 : Int) ≤ (j : Int) := Int.natCast_nonneg _
      have hjl : j < ss.length := by rw [HP.out.2.1]; omega
      obtain ⟨g, off, rfl, hg, x1, y1⟩ := HP.out.1.at j _ (getP_some hjl)
      have hsn := @deriv_snoc l bad ss j hjl hok
      have hno := @deriv_no l bad ss j hjl
      generalize idOf ss j = x at x1 hsn hno
      generalize rtOf ss j = r at y1 hsn hno
      have z0 : wr.cell? ⟨g, off + j * 2, none⟩ = some (.int .i64 x) := (HB.out.cell (p := ⟨g, _, none⟩) hg).trans x1
      have z1 : wr.cell? ⟨g, off + j * 2 + 1, none⟩ = some (.string r) := (HB.out.cell (p := ⟨g, _, none⟩) hg).trans y1
      have HJ := hid (And.intro hj hjn)
      obtain ⟨hh, ehh⟩ : ∃ b, b = hasM bad x := ⟨_, rfl⟩
      obtain ⟨st, est⟩ : ∃ b, b = stands l (x, r) := ⟨_, rfl⟩
      have HHx : Hid (Calls Tryz.prog 27 #[.slice ab nb cb, .int .i64 x] wr fun e w' => e = .returned (.bool hh) ∧ w' = wr) := hid (by rw [ehh]; exact HH.out x wr (HP.out.2.2.2.keep HB.out (Nat.le_refl _)))
      have HTx : Hid (Calls Tryz.prog 44 #[.slice al nl cl, .agg #[.int .i64 x, .string r]] wr fun e w' => e = .returned (.bool st) ∧ Below wr.heap.size wr w') := hid (by rw [est]; exact HT.out x r wr (HP.out.2.2.1.keep HB.out (Nat.le_refl _)))
      have HA : Hid (derivA l bad (x, r) = (hh || st)) := hid (by rw [derivA, ehh, est])
      have HSn := hid hsn
      have HNo := hid hno
      clear x1 y1 hg hok hj hjn hjl hsn hno ehh est
      cases hh with
      | true =>
        go_wp2_with (go_at_call 27; refine HHx.out.mono ?_; rintro e wx ⟨rfl, rfl⟩)
        go_roundw
        case rel => exact ⟨j + 1, by have := HJ.out; omega, by go_num, HSn.out (by rw [HA.out]; rfl), HB.out⟩
        case measure => simp [intOf]; omega
      | false =>
        cases st with
        | true =>
          go_wp2_with (first
            | (go_at_call 27; refine HHx.out.mono ?_; rintro e wx ⟨rfl, rfl⟩)
            | (go_at_call 44; refine HTx.out.mono ?_; rintro e w2 ⟨rfl, hb2⟩; have H2 := hid (HB.out.trans (hb2.mono HB.out.size)); clear hb2))
          go_roundw
          case rel => exact ⟨j + 1, by have := HJ.out; omega, by go_num, HSn.out (by rw [HA.out]; rfl), H2.out⟩
          case measure => simp [intOf]; omega
        | false =>
          go_wp2_with (first
            | (go_at_call 27; refine HHx.out.mono ?_; rintro e wx ⟨rfl, rfl⟩)
            | (go_at_call 44; refine HTx.out.mono ?_; rintro e w2 ⟨rfl, hb2⟩; have H2 := hid (HB.out.trans (hb2.mono HB.out.size)); clear hb2))
          go_ret
          exact ⟨by rw [HNo.out (by rw [HA.out]; rfl)]; rfl, H2.out⟩
end Go.Proofs.YtgmekkgbobmplaaGreat
