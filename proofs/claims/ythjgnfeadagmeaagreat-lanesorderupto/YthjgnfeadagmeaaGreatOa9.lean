/- Texts laid together: WtB WtD. -/
import Derived.Test.YthjgnfeadagmeaaGreatOa4
import Derived.Test.YthjgnfeadagmeaaGreatWsEM
import Derived.Test.YthjgnfeadagmeaaGreatOa6
import Derived.Deep.DeepCutAuto
import Derived.Deep.DeepMust
/- A message's signatures in their order: what is made, how many they are. No walk here. -/
namespace Go.Proofs.YthjgnfeadagmeaaGreat
open Go.RowKit

/-- New memory that holds these signatures, and may be written. -/
def NwG (B : Nat) (w : World) (a : Option Addr) (l : List Sg) : Prop := PairsIn w a l ∧ (l = [] ∨ ∃ g cs T, a = some ⟨g, 0, none⟩ ∧ B ≤ g ∧ w.heap[g]? = some (.cells cs T (0, 0)) ∧ 2 * l.length ≤ cs.size)
def TmPost (w : World) (m : Ms) (e : Ending) (w' : World) : Prop := ∃ a cap, e = .returned (.slice a (tmG m).length cap) ∧ NwG w.heap.size w' a (tmG m) ∧ Below w.heap.size w w'
theorem OwnedG.post {w wa wr : World} {v : Value} {m : Ms} {l : List Sg} (h : OwnedG wa.heap.size wa wr v l) (hw : Below w.heap.size w wa) (e : l = tmG m) : TmPost w m (.returned v) wr := by
  subst e
  obtain ⟨a, cap, hv, hp⟩ := own_pairsG h.own
  refine ⟨a, cap, by rw [hv], ⟨hp, ?_⟩, hw.trans (h.bel.mono hw.size)⟩
  rcases h.own.2 with ⟨_, h0⟩ | ⟨g, cp, cur, hv2, hB, hh, hnc, hcp, hcs, _⟩
  · exact .inl (List.eq_nil_of_length_eq_zero h0)
  · rw [hv] at hv2
    simp only [Value.slice.injEq] at hv2
    exact .inr ⟨g, _, _, hv2.1, Nat.le_trans hw.size hB, hh, by have := hcs; omega⟩
theorem own_rowK {w w' : World} {B : Nat} {T : TypeId} {sz n : Nat} {v : Value} {xs : List Value} (h : w.ownsRow B T sz v n xs) (hk : ∀ g, v.ownBlock = some g → w'.heap[g]? = w.heap[g]?) : w'.ownsRow B T sz v n xs := by
  obtain ⟨h1, h2⟩ := h
  refine ⟨h1, ?_⟩
  rcases h2 with h2 | ⟨g, cap, cur, hv, hB, hh, hr⟩
  · exact .inl h2
  · exact .inr ⟨g, cap, cur, hv, hB, (hk g (by rw [hv]; rfl)).trans hh, hr⟩
/-- Behind a store into a variable made last. -/
theorem own_store {w0 w w4 : World} {v : Value} {l : List Sg} {o : Obj} (h : OwnedG w0.heap.size w0 w v l) (ho : One w.heap.size (w.alloc o) w4) : OwnedG w0.heap.size w0 w4 v l := by
  have hb := ho.below (h.bel.alloc h.le o) h.le
  refine ⟨own_rowK h.own (fun g hg => ?_), hb, hb.size⟩
  have hlt := (h.own.lt g hg).2
  rw [ho.block g (by omega)]
  exact ((Below.refl w.heap.size w).alloc (Nat.le_refl _) o).block g hlt
theorem store_keeps {w w4 : World} {o : Obj} {g : Nat} (ho : One w.heap.size (w.alloc o) w4) (hlt : g < w.heap.size) : w4.heap[g]? = w.heap[g]? := by
  rw [ho.block g (by omega)]
  exact ((Below.refl w.heap.size w).alloc (Nat.le_refl _) o).block g hlt
theorem own_apart {w0 w : World} {v : Value} {l : List Sg} (h : OwnedG w0.heap.size w0 w v l) : v.ownBlock ≠ some w.heap.size := fun e => by have := (h.own.lt _ e).2; omega
section
variable {o : Oper} {a : Act} {w : World} {Q : Exit → Act → World → Prop} {K : Act → World → Prop} {ops : Array Oper} {rest : List Oper}
/-- More behind one's own; a block beside it stays. -/
theorem wl_sigsK (hgd : o.guard = none) (x y : Operand) (ho : o.op = .call { callee := .builtin .append, args := #[x, y], argTypes := #[44, 44] }) (B : Nat) (w0 : World) (v : Value) (l : List Sg)
    (hx : a.eval x = v) (hO : OwnedG B w0 w v l) (ad : Option Addr) (n cap : Nat) (ps : List Sg) (hy : a.eval y = .slice ad n cap) (hn : ps.length = n) (hS : PairsIn w ad ps) (hl : (l.length + n) * 24 ≤ 140737488355328)
    (b : Nat) (ob : Obj) (hb : w.heap[b]? = some ob ∧ v.ownBlock ≠ some b)
    (h : ∀ v' w', Hid (OwnedG B w0 w' v' (l ++ ps) ∧ w'.heap[b]? = some ob ∧ v'.ownBlock ≠ some b) → wpList Tryz.prog ops Q rest (a.put o.dst v') w') : wpList Tryz.prog ops Q (o :: rest) a w := by
  refine wpList_plain hgd fun K hK => ?_
  obtain ⟨i0, hi0, hz0, hz1, hz2⟩ := info_parts infoSg
  cases ad with
  | none =>
    obtain rfl : ps = [] := by rcases hS with h | ⟨g, off, ha, _⟩; exact h; cases ha
    obtain rfl : 0 = n := hn
    have hk := hK _ _ (h v w (by rw [List.append_nil]; exact ⟨hO, hb⟩))
    rcases hO.own.2 with ⟨hv, h0⟩ | ⟨g, c, cur, hv, hB, hh, hnc, hcp, hcs, htake⟩
    · subst hv
      refine owp_value (v := .slice none 0 0) (w' := w) ?_ hk
      simp [execOp, ho, resolve, invoke, builtin, hx, hy, Builtin.append_, run_underlying Tryz.underlying44, sizeOf, typeInfo, hi0, Builtin.lenOf, Builtin.firstCells, Result.andThen]
    · subst hv
      refine owp_value (v := .slice (some ⟨g, 0, none⟩) l.length c) (w' := w) ?_ hk
      simp [hnc, storeCells, execOp, ho, resolve, invoke, builtin, hx, hy, Builtin.append_, run_underlying Tryz.underlying44, sizeOf, typeInfo, hi0, Builtin.lenOf, Builtin.firstCells, Result.andThen]
  | some ad =>
    refine owp_append_at x y 44 ho B 87 i0 (.agg #[.int .i64 0, .string ⟨#[]⟩]) 2 24 Tryz.underlying44 hi0 hz0 hz1 hz2 rfl (by decide) v l.length (pC l) hx hO.own ad n cap (pC ps) hy (by rw [pC_len, hn]) (fun j v hv => pairs_cellsG hS j v hv) (pC_cellG ps) (by unfold maxLen; omega) (by omega) hO.le (fun v' w' hown hgrow hown2 => ?_)
    refine hK _ _ (h v' w' ⟨hO.grow hn hown hgrow, (hgrow.block b (lt_of_blk hb.1) hb.2.symm).trans hb.1, fun e => ?_⟩)
    have := lt_of_blk hb.1
    rcases hown2 with h2 | h2
    · exact hb.2 (h2 ▸ e)
    · rw [h2] at e; cases e; omega
end
theorem flat_take {α β : Type} {f : α → List β} {l : List α} {d : α} (j : Nat) (hj : j < l.length) : (l.take j).flatMap f ++ f (l.getD j d) = (l.take (j + 1)).flatMap f := by
  rw [List.take_succ_eq_append_getElem hj, List.flatMap_append]
  simp [hj]
theorem flat_take_le {α β : Type} (f : α → List β) (l : List α) (j : Nat) : ((l.take j).flatMap f).length ≤ (l.flatMap f).length := by
  have : l.flatMap f = (l.take j).flatMap f ++ (l.drop j).flatMap f := by rw [← List.flatMap_append, List.take_append_drop]
  rw [this, List.length_append]; omega
theorem tm_sg (m : Ms) : m.sg.length ≤ (tmG m).length := by rw [tmG, List.length_append]; omega
/-- Within a change: what there is so far, and the next certificate's. -/
theorem tm_ct {m : Ms} {j k : Nat} (hj : j < m.cg.length) (hk : k < (m.cg.getD j cg0).2.2.1.length) : (m.sg ++ (m.cg.take j).flatMap cgG ++ ((m.cg.getD j cg0).2.2.1.take k).flatMap (fun x => x.2.2.2)).length + ((m.cg.getD j cg0).2.2.1.getD k ct0).2.2.2.length ≤ (tmG m).length := by
  have h1 := flat_take_le cgG m.cg (j + 1)
  rw [← flat_take (d := cg0) j hj, List.length_append] at h1
  have h2 := flat_take_le (fun x : Ct => x.2.2.2) (m.cg.getD j cg0).2.2.1 (k + 1)
  rw [← flat_take (d := ct0) k hk, List.length_append] at h2
  have h3 : (cgG (m.cg.getD j cg0)).length = ((m.cg.getD j cg0).2.2.1.flatMap (fun x : Ct => x.2.2.2)).length + 1 := by rw [cgG, List.length_append]; rfl
  simp only [tmG, List.length_append] at *
  omega
theorem tm_cg {m : Ms} {j : Nat} (hj : j < m.cg.length) : (m.sg ++ (m.cg.take j).flatMap cgG ++ (m.cg.getD j cg0).2.2.1.flatMap (fun x => x.2.2.2)).length + 1 ≤ (tmG m).length := by
  have h1 := flat_take_le cgG m.cg (j + 1)
  rw [← flat_take (d := cg0) j hj, List.length_append] at h1
  have h3 : (cgG (m.cg.getD j cg0)).length = ((m.cg.getD j cg0).2.2.1.flatMap (fun x : Ct => x.2.2.2)).length + 1 := by rw [cgG, List.length_append]; rfl
  simp only [tmG, List.length_append] at *
  omega
theorem tm_ln {m : Ms} {j : Nat} (hj : j < m.ln.length) : (m.sg ++ m.cg.flatMap cgG ++ (m.ln.take j).flatMap (fun k => k.2)).length + (m.ln.getD j ln0).2.length ≤ (tmG m).length := by
  have h1 := flat_take_le (fun k : Ln => k.2) m.ln (j + 1)
  rw [← flat_take (d := ln0) j hj, List.length_append] at h1
  simp only [tmG, List.length_append] at *
  omega
theorem tm_24 {a n : Nat} (h : n * 24 ≤ 140737488355328) (ha : a ≤ n) : a * 24 ≤ 140737488355328 := by omega
theorem one_pair {w : World} (p : Sg) (T : TypeId) : PairsIn (w.alloc (.cells #[.int .i64 p.1, .string p.2] T)) (some ⟨w.heap.size, 0, none⟩) [p] := by
  refine .inr ⟨w.heap.size, 0, rfl, by simp, fun j q hq => ?_⟩
  match j, hq with
  | 0, hq => cases hq; exact ⟨cell_at (L := [.int .i64 p.1, .string p.2]) (heap_alloc_last w _) 0 _ rfl, cell_at (L := [.int .i64 p.1, .string p.2]) (heap_alloc_last w _) 1 _ rfl⟩
  | j + 1, hq => cases hq
end Go.Proofs.YthjgnfeadagmeaaGreat

/- The program's list of a message's signatures. -/
namespace Go.Proofs.YthjgnfeadagmeaaGreat
open Go.RowKit

set_option maxRecDepth 100000 in
set_option maxHeartbeats 6400000 in
theorem iterms_any {F : Nat → Prop} (m : Ms) (a13 a14 a15 a16 : Option Addr) (c13 c14 c15 c16 : Nat) (w : World) (hB : MsN m) (hT : (tmG m).length * 24 ≤ 140737488355328) (hL : MsL F w m (.slice a13 m.nx.length c13) (.slice a14 m.sg.length c14) (.slice a15 m.cg.length c15) (.slice a16 m.ln.length c16)) :
    Calls Tryz.prog 34 #[.agg (msA m a13 a14 a15 a16 c13 c14 c15 c16).toArray] w (TmPost w m) := by
  obtain ⟨wa, HA, hb, hx⟩ := msA_new m a13 a14 a15 a16 c13 c14 c15 c16 48 w
  have H0 := hid (And.intro hx hb)
  have HI := hid (And.intro hB (And.intro hT hL))
  have HS1 : Hid (m.sg.length * 24 ≤ 140737488355328) := hid (by have := tm_sg m; omega)
  have hcI : (m.cg.length : Int) ≤ 9223372036854775807 := by have := hB.cg.1; unfold maxLen at this; omega
  have hlI : (m.ln.length : Int) ≤ 9223372036854775807 := by have := hB.ln.1; unfold maxLen at this; omega
  have y8 := hx.cell 14 _ rfl
  clear hb hx hB hT hL
  unfold msA
  simp only [msA] at HA
  replace HA := hid HA
  go_enter Tryz.func34, Tryz.ntmps34
  try simp only [List.append]
  go_upto_region 1 with fail
  rw [HA.out]
  go_wp2_with (refine wl_sigs rfl _ _ rfl wa.heap.size wa (.slice none 0 0) [] rfl (OwnedG.nil (Below.refl _ _) (Nat.le_refl _)) a14 _ c14 m.sg rfl rfl ((sl_pairs HI.out.2.2.sg).keep H0.out.2 (Nat.le_refl _)) (by have := HS1.out; simp only [List.length_nil]; omega) ?_; intro v1 w1 H1; rw [List.nil_append] at H1; have y15 := (H0.out.1.keep H1.out.bel).cell 15 _ rfl)
  clear y8 y15
  go_loopw [3, 17] (fun v i wr => ∃ j : Nat, j ≤ m.cg.length ∧ i = .int .i64 (j : Int) ∧ OwnedG wa.heap.size wa wr v (m.sg ++ (m.cg.take j).flatMap cgG))
    (fun _ i _ => ((m.cg.length : Int) - intOf i).toNat)
  case atStart => exact ⟨0, Nat.zero_le _, rfl, by simpa using H1.out⟩
  case round =>
    obtain ⟨j, hj, rfl, hO⟩ := hrel
    have HO := hid hO
    clear hO H1
    have hj0 : (0 : Int) ≤ (j : Int) := Int.natCast_nonneg _
    by_cases hjn : j = m.cg.length
    · have hj1 : ¬ ((j : Int) < (m.cg.length : Int)) := by omega
      have HO2 := HO.out
      rw [hjn, List.take_length] at HO2
      replace HO2 := hid HO2
      have y16 := (H0.out.1.keep HO.out.bel).cell 16 _ rfl
      clear hj hjn HO
      go_wp2
      clear y16 hj1 hj0
      go_loopw [3, 42] (fun v i wr => ∃ j : Nat, j ≤ m.ln.length ∧ i = .int .i64 (j : Int) ∧ OwnedG wa.heap.size wa wr v (m.sg ++ m.cg.flatMap cgG ++ (m.ln.take j).flatMap (fun k => k.2)))
        (fun _ i _ => ((m.ln.length : Int) - intOf i).toNat)
      case atStart => exact ⟨0, Nat.zero_le _, rfl, by simpa using HO2.out⟩
      case round =>
        obtain ⟨j, hj, rfl, hO⟩ := hrel
        have HO := hid hO
        clear hO HO2
        have hj0 : (0 : Int) ≤ (j : Int) := Int.natCast_nonneg _
        by_cases hjn : j = m.ln.length
        · have hj1 : ¬ ((j : Int) < (m.ln.length : Int)) := by omega
          have HO3 := HO.out
          rw [hjn, List.take_length] at HO3
          replace HO3 := hid HO3
          clear hj hjn
          go_wp2
          go_ret
          exact HO3.out.post H0.out.2 (by rw [tmG, List.append_assoc])
        · have hj1 : (j : Int) < (m.ln.length : Int) := by omega
          have hjl : j < m.ln.length := by omega
          obtain ⟨g4, off4, cp4, a4, k4, a5, k5, hv4, hP4, hg4, hc4⟩ := ln_at HI.out.2.2.ln j hjl
          simp only [Value.slice.injEq] at hv4
          obtain ⟨rfl, -, rfl⟩ := hv4
          have HT4 := hid (tm_24 HI.out.2.1 (tm_ln (m := m) (j := j) hjl))
          have HFl := hid (flat_take (f := fun k : Ln => k.2) (d := ln0) j hjl)
          have HK := hid (And.intro hP4 (And.intro hg4 hc4))
          have HJ := hid (And.intro hj hjn)
          generalize m.ln.getD j ln0 = z at HK HT4 HFl
          clear hP4 hg4 hc4 hjl hj hjn
          have f0 : wr.cell? ⟨g4, off4 + j * 3, none⟩ = some (.int .i64 z.1.1) := ((H0.out.2.trans (HO.out.bel.mono H0.out.2.size)).cell (p := ⟨g4, off4 + j * 3 + 0, none⟩) HK.out.2.1).trans (HK.out.2.2 0 _ rfl)
          have f1 : wr.cell? ⟨g4, off4 + j * 3 + 1, none⟩ = some (.slice a4 z.1.2.length k4) := ((H0.out.2.trans (HO.out.bel.mono H0.out.2.size)).cell (p := ⟨g4, off4 + j * 3 + 1, none⟩) HK.out.2.1).trans (HK.out.2.2 1 _ rfl)
          have f2 : wr.cell? ⟨g4, off4 + j * 3 + 2, none⟩ = some (.slice a5 z.2.length k5) := ((H0.out.2.trans (HO.out.bel.mono H0.out.2.size)).cell (p := ⟨g4, off4 + j * 3 + 2, none⟩) HK.out.2.1).trans (HK.out.2.2 2 _ rfl)
          go_wp2_with (first
            | (refine wl_store_blk rfl 96 _ _ rfl wr.heap.size 0 rfl _ rfl [.int .i64 0, .slice none 0 0, .slice none 0 0] 96 (heap_alloc_last wr _) (by simp) (by kernel_rfl) (by simp [Value.oneCell']) ?_; intro w4 Hz; have HS := hid (own_store HO.out Hz.out.2); have v0 := BxAt.cell (L := [.int .i64 z.1.1, .slice a4 z.1.2.length k4, .slice a5 z.2.length k5]) Hz.out.1 0 _ rfl; have v1 := BxAt.cell (L := [.int .i64 z.1.1, .slice a4 z.1.2.length k4, .slice a5 z.2.length k5]) Hz.out.1 1 _ rfl; have v2 := BxAt.cell (L := [.int .i64 z.1.1, .slice a4 z.1.2.length k4, .slice a5 z.2.length k5]) Hz.out.1 2 _ rfl; clear Hz)
            | (refine wl_sigs rfl _ _ rfl wa.heap.size wa _ _ rfl HS.out a5 _ k5 z.2 rfl rfl (HK.out.1.2.keep (H0.out.2.trans (HS.out.bel.mono H0.out.2.size)) (Nat.le_refl _)) HT4.out ?_; intro v2 w2 H2))
          go_roundw
          case rel => exact ⟨j + 1, by have := HJ.out; omega, by go_num, by have := H2.out; rw [List.append_assoc, HFl.out] at this; exact this⟩
          case measure => simp [intOf]; omega
    · have hj1 : (j : Int) < (m.cg.length : Int) := by omega
      have hjl : j < m.cg.length := by omega
      obtain ⟨g1, off1, cp1, a2, n2, k2, hv1, hR1, hg1, hc1⟩ := cg_at HI.out.2.2.cg j hjl
      simp only [Value.slice.injEq] at hv1
      obtain ⟨rfl, -, rfl⟩ := hv1
      have hn2 : n2 = (m.cg.getD j cg0).2.2.1.length := by obtain ⟨_, _, hf⟩ := Reads.form hR1; injection hf with _ h2 _; rw [h2, List.length_map]
      subst hn2
      have HG := hid (And.intro hR1 (And.intro hg1 hc1))
      have HT1 := hid (fun k hk => tm_24 HI.out.2.1 (tm_ct (m := m) (j := j) (k := k) hjl hk))
      have HT2 := hid (tm_24 HI.out.2.1 (tm_cg (m := m) (j := j) hjl))
      have HFl := hid (flat_take (f := cgG) (d := cg0) j hjl)
      have HxM := hid (HI.out.1.cg.2 _ (getD_in (d := cg0) hjl))
      generalize m.cg.getD j cg0 = x at HG HT1 HT2 HFl HxM
      have hxI : (x.2.2.1.length : Int) ≤ 9223372036854775807 := by have := HxM.out.1; unfold maxLen at this; omega
      clear hR1 hg1 hc1 hjl
      have HCg : Hid (∀ u : World, Below wa.heap.size wa u → ∀ (q : Nat) (t : Value), (cgC x (.slice a2 x.2.2.1.length k2))[q]? = some t → u.cell? ⟨g1, off1 + j * 5 + q, none⟩ = some t) := hid (fun u hu q t ht => ((H0.out.2.trans (hu.mono H0.out.2.size)).cell (p := ⟨g1, off1 + j * 5 + q, none⟩) HG.out.2.1).trans (HG.out.2.2 q t ht))
      have HJ := hid (And.intro hj hjn)
      have f0 : wr.cell? ⟨g1, off1 + j * 5, none⟩ = some (.int .i64 x.1) := HCg.out wr HO.out.bel 0 _ rfl
      have f1 : wr.cell? ⟨g1, off1 + j * 5 + 1, none⟩ = some (.int .i64 x.2.1) := HCg.out wr HO.out.bel 1 _ rfl
      have f2 : wr.cell? ⟨g1, off1 + j * 5 + 2, none⟩ = some (.slice a2 x.2.2.1.length k2) := HCg.out wr HO.out.bel 2 _ rfl
      have f3 : wr.cell? ⟨g1, off1 + j * 5 + 3, none⟩ = some (.int .i64 x.2.2.2.1) := HCg.out wr HO.out.bel 3 _ rfl
      have f4 : wr.cell? ⟨g1, off1 + j * 5 + 4, none⟩ = some (.string x.2.2.2.2) := HCg.out wr HO.out.bel 4 _ rfl
      clear hj hjn
      obtain ⟨bk, ebk⟩ : ∃ bk, bk = wr.heap.size := ⟨_, rfl⟩
      go_wp2_with (refine wl_store_blk rfl 90 _ _ rfl wr.heap.size 0 rfl _ rfl [.int .i64 0, .int .i64 0, .slice none 0 0, .int .i64 0, .string ⟨#[]⟩] 90 (heap_alloc_last wr _) (by simp) (by kernel_rfl) (by simp [Value.oneCell']) ?_; go_must (intro w4 Hz; have HS := hid (And.intro (own_store HO.out Hz.out.2) (And.intro (show w4.heap[wr.heap.size]? = some (.cells [.int .i64 x.1, .int .i64 x.2.1, .slice a2 x.2.2.1.length k2, .int .i64 x.2.2.2.1, .string x.2.2.2.2].toArray 90 (0, 0)) from Hz.out.1) (own_apart HO.out))); clear Hz; have v0 := BxAt.cell (L := [.int .i64 x.1, .int .i64 x.2.1, .slice a2 x.2.2.1.length k2, .int .i64 x.2.2.2.1, .string x.2.2.2.2]) HS.out.2.1 2 _ rfl))
      clear f0 f1 f2 f3 f4 v0
      rw [← ebk] at HS ⊢
      clear ebk
      rename World => wJ
      go_loopw [3, 24] (fun v i wr => ∃ k : Nat, k ≤ x.2.2.1.length ∧ i = .int .i64 (k : Int) ∧ OwnedG wa.heap.size wa wr v (m.sg ++ (m.cg.take j).flatMap cgG ++ (x.2.2.1.take k).flatMap (fun x => x.2.2.2)) ∧ wr.heap[bk]? = some (.cells [.int .i64 x.1, .int .i64 x.2.1, .slice a2 x.2.2.1.length k2, .int .i64 x.2.2.2.1, .string x.2.2.2.2].toArray 90 (0, 0)) ∧ v.ownBlock ≠ some bk)
        (fun _ i _ => ((x.2.2.1.length : Int) - intOf i).toNat)
      case atStart => exact ⟨0, Nat.zero_le _, rfl, by simpa using HS.out.1, HS.out.2.1, HS.out.2.2⟩
      case round =>
        obtain ⟨k, hk, rfl, hO⟩ := hrel
        have HP := hid hO
        clear hO HO HS
        have hk0 : (0 : Int) ≤ (k : Int) := Int.natCast_nonneg _
        by_cases hkn : k = x.2.2.1.length
        · have hk1 : ¬ ((k : Int) < (x.2.2.1.length : Int)) := by omega
          have HP2 := HP.out
          rw [hkn, List.take_length] at HP2
          replace HP2 := hid HP2
          have v3 := BxAt.cell (L := [.int .i64 x.1, .int .i64 x.2.1, .slice a2 x.2.2.1.length k2, .int .i64 x.2.2.2.1, .string x.2.2.2.2]) HP2.out.2.1 3 _ rfl
          have v4 := BxAt.cell (L := [.int .i64 x.1, .int .i64 x.2.1, .slice a2 x.2.2.1.length k2, .int .i64 x.2.2.2.1, .string x.2.2.2.2]) HP2.out.2.1 4 _ rfl
          clear hk hkn HP
          go_wp2_with (refine wl_sigs rfl _ _ rfl wa.heap.size wa _ _ rfl (HP2.out.1.alloc _) (some ⟨wr.heap.size, 0, none⟩) 1 1 [x.2.2.2] rfl rfl (one_pair x.2.2.2 _) HT2.out ?_; intro v3 w3 H3)
          go_roundw
          case rel => exact ⟨j + 1, by have := HJ.out; omega, by go_num, by have := H3.out; rw [List.append_assoc, List.append_assoc, ← cgG, HFl.out] at this; exact this⟩
          case measure => simp [intOf]; omega
        · have hk1 : (k : Int) < (x.2.2.1.length : Int) := by omega
          have hkl : k < x.2.2.1.length := by omega
          obtain ⟨g3, off3, cp3, a3, k3, hv3, hP3, hg3, hc3⟩ := ct_at HG.out.1 k hkl
          simp only [Value.slice.injEq] at hv3
          obtain ⟨rfl, -, rfl⟩ := hv3
          have HT3 := hid (HT1.out k hkl)
          have HFk := hid (flat_take (f := fun x : Ct => x.2.2.2) (d := ct0) k hkl)
          have HK := hid (And.intro hP3 (And.intro hg3 hc3))
          generalize x.2.2.1.getD k ct0 = y at HK HT3 HFk
          clear hP3 hg3 hc3 hkl
          have HKj := hid (And.intro hk hkn)
          clear hk hkn
          have h0 : wr.cell? ⟨g3, off3 + k * 9, none⟩ = some (.int .i64 y.1) := ((H0.out.2.trans (HP.out.1.bel.mono H0.out.2.size)).cell (p := ⟨g3, off3 + k * 9 + 0, none⟩) HK.out.2.1).trans (HK.out.2.2 0 _ rfl)
          have h1 : wr.cell? ⟨g3, off3 + k * 9 + 1, none⟩ = some (.int .i64 y.2.1) := ((H0.out.2.trans (HP.out.1.bel.mono H0.out.2.size)).cell (p := ⟨g3, off3 + k * 9 + 1, none⟩) HK.out.2.1).trans (HK.out.2.2 1 _ rfl)
          have h2 : wr.cell? ⟨g3, off3 + k * 9 + 2, none⟩ = some (.int .i64 y.2.2.1.c) := ((H0.out.2.trans (HP.out.1.bel.mono H0.out.2.size)).cell (p := ⟨g3, off3 + k * 9 + 2, none⟩) HK.out.2.1).trans (HK.out.2.2 2 _ rfl)
          have h3 : wr.cell? ⟨g3, off3 + k * 9 + 3, none⟩ = some (.int .i64 y.2.2.1.st) := ((H0.out.2.trans (HP.out.1.bel.mono H0.out.2.size)).cell (p := ⟨g3, off3 + k * 9 + 3, none⟩) HK.out.2.1).trans (HK.out.2.2 3 _ rfl)
          have h4 : wr.cell? ⟨g3, off3 + k * 9 + 4, none⟩ = some (.int .i64 y.2.2.1.k) := ((H0.out.2.trans (HP.out.1.bel.mono H0.out.2.size)).cell (p := ⟨g3, off3 + k * 9 + 4, none⟩) HK.out.2.1).trans (HK.out.2.2 4 _ rfl)
          have h5 : wr.cell? ⟨g3, off3 + k * 9 + 5, none⟩ = some (.string y.2.2.1.key) := ((H0.out.2.trans (HP.out.1.bel.mono H0.out.2.size)).cell (p := ⟨g3, off3 + k * 9 + 5, none⟩) HK.out.2.1).trans (HK.out.2.2 5 _ rfl)
          have h6 : wr.cell? ⟨g3, off3 + k * 9 + 6, none⟩ = some (.float .f64 y.2.2.1.b) := ((H0.out.2.trans (HP.out.1.bel.mono H0.out.2.size)).cell (p := ⟨g3, off3 + k * 9 + 6, none⟩) HK.out.2.1).trans (HK.out.2.2 6 _ rfl)
          have h7 : wr.cell? ⟨g3, off3 + k * 9 + 7, none⟩ = some (.int .i64 y.2.2.1.id) := ((H0.out.2.trans (HP.out.1.bel.mono H0.out.2.size)).cell (p := ⟨g3, off3 + k * 9 + 7, none⟩) HK.out.2.1).trans (HK.out.2.2 7 _ rfl)
          have h8 : wr.cell? ⟨g3, off3 + k * 9 + 8, none⟩ = some (.slice a3 y.2.2.2.length k3) := ((H0.out.2.trans (HP.out.1.bel.mono H0.out.2.size)).cell (p := ⟨g3, off3 + k * 9 + 8, none⟩) HK.out.2.1).trans (HK.out.2.2 8 _ rfl)
          go_wp2_with (first
            | (refine wl_store_blk rfl 92 _ _ rfl wr.heap.size 0 rfl _ rfl [.int .i64 0, .int .i64 0, .int .i64 0, .int .i64 0, .int .i64 0, .string ⟨#[]⟩, .float .f64 0, .int .i64 0, .slice none 0 0] 92 (heap_alloc_last wr _) (by simp) (by kernel_rfl) (by simp [Value.oneCell']) ?_; intro w5 Hz; have HS := hid (And.intro (own_store HP.out.1 Hz.out.2) (And.intro ((store_keeps Hz.out.2 (lt_of_blk HP.out.2.1)).trans HP.out.2.1) HP.out.2.2)); have v8 := BxAt.cell (L := [.int .i64 y.1, .int .i64 y.2.1, .int .i64 y.2.2.1.c, .int .i64 y.2.2.1.st, .int .i64 y.2.2.1.k, .string y.2.2.1.key, .float .f64 y.2.2.1.b, .int .i64 y.2.2.1.id, .slice a3 y.2.2.2.length k3]) Hz.out.1 8 _ rfl; clear Hz)
            | (refine wl_sigsK rfl _ _ rfl wa.heap.size wa _ _ rfl HS.out.1 a3 _ k3 y.2.2.2 rfl rfl (HK.out.1.keep (H0.out.2.trans (HS.out.1.bel.mono H0.out.2.size)) (Nat.le_refl _)) HT3.out bk _ HS.out.2 ?_; intro v3 w3 H3))
          go_roundw
          case rel => exact ⟨k + 1, by have := HKj.out; omega, by go_num, by have := H3.out.1; rw [List.append_assoc, HFk.out] at this; exact this, H3.out.2⟩
          case measure => simp [intOf]; omega
end Go.Proofs.YthjgnfeadagmeaaGreat
