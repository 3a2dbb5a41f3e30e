/- Texts laid together: TeQ LiB LiC. -/
import Derived.Test.YtpholamobedkhaaMg04
import Derived.Deep.RegionHeld3
import Derived.Deep.RegionLaw
/- Lists of signatures copied into rows of one's own; a thing said by Heard in memory. -/
namespace Go.Proofs.Ytpholamobedkhaa
open Go.RowKit

theorem pC_two : ∀ (ps : List (Int × ByteArray)) (j : Nat) (u : Value), (pC ps)[j]? = some u → ∃ p, ps[j / 2]? = some p ∧ ((j % 2 = 0 ∧ u = .int .i64 p.1) ∨ (j % 2 = 1 ∧ u = .string p.2))
  | [], j, u, h => by simp [pC] at h
  | p :: ps, 0, u, h => by
    rw [pC_cons] at h
    simp at h
    exact ⟨p, by simp, .inl ⟨rfl, h.symm⟩⟩
  | p :: ps, 1, u, h => by
    rw [pC_cons] at h
    simp at h
    exact ⟨p, by simp, .inr ⟨rfl, h.symm⟩⟩
  | p :: ps, j + 2, u, h => by
    rw [pC_cons] at h
    simp at h
    obtain ⟨q, hq, hu⟩ := pC_two ps j u h
    refine ⟨q, ?_, ?_⟩
    · rw [show (j + 2) / 2 = j / 2 + 1 by omega]
      simpa using hq
    · rw [show (j + 2) % 2 = j % 2 by omega]
      exact hu
theorem pC_cell1 (ps : List (Int × ByteArray)) : ∀ v ∈ pC ps, v.oneCell' = true := by
  intro v hv
  obtain ⟨j, hj, rfl⟩ := List.getElem_of_mem hv
  obtain ⟨p, _, h | h⟩ := pC_two ps j _ (List.getElem?_eq_getElem hj)
  · rw [h.2]; rfl
  · rw [h.2]; rfl
theorem pairs_cells {w : World} {ad : Addr} {ps : List (Int × ByteArray)} (h : PairsIn w (some ad) ps) (j : Nat) (u : Value) (hu : (pC ps)[j]? = some u) : w.cell? (ad.add j) = some u := by
  obtain ⟨p, hp, hu⟩ := pC_two ps j u hu
  obtain ⟨g, off, ha, hg, h0, h1⟩ := h.at (j / 2) p hp
  cases ha
  rw [Addr.add_lit]
  rcases hu with ⟨hj, rfl⟩ | ⟨hj, rfl⟩
  · rw [show off + j = off + j / 2 * 2 by omega]; exact h0
  · rw [show off + j = off + j / 2 * 2 + 1 by omega]; exact h1
/-- The slice v holds the signatures ps, in a row of its own; nothing below B has turned since w0. -/
structure OwnedT (B : Nat) (w0 w : World) (v : Value) (ps : List (Int × ByteArray)) : Prop where
  own : w.ownsRow B 62 2 v ps.length (pC ps)
  bel : Below B w0 w
  le : B ≤ w.heap.size
theorem OwnedT.nil {B : Nat} {w0 w : World} (h : Below B w0 w) (hB : B ≤ w.heap.size) : OwnedT B w0 w (.slice none 0 0) [] := ⟨⟨rfl, .inl ⟨rfl, rfl⟩⟩, h, hB⟩
theorem OwnedT.alloc {B : Nat} {w0 w : World} {v : Value} {l : List (Int × ByteArray)} (h : OwnedT B w0 w v l) (o : Obj) : OwnedT B w0 (w.alloc o) v l :=
  ⟨h.own.alloc o, h.bel.alloc h.le o, by have := h.le; simp; omega⟩
theorem OwnedT.grow {B : Nat} {w0 w w2 : World} {v v2 : Value} {l xs : List (Int × ByteArray)} {m : Nat} (h : OwnedT B w0 w v l) (hm : xs.length = m) (h2 : w2.ownsRow B 62 2 v2 (l.length + m) (pC l ++ pC xs)) (hg : w.grownBy w2 v.ownBlock) : OwnedT B w0 w2 v2 (l ++ xs) :=
  ⟨by rw [List.length_append, pC_app, hm]; exact h2, h.bel.grown hg h.le (fun k hk => (h.own.lt k hk).1), Nat.le_trans h.le hg.size⟩
theorem OwnedT.form {B : Nat} {w0 w : World} {v : Value} {l : List (Int × ByteArray)} (h : OwnedT B w0 w v l) (hl : 0 < l.length) : ∃ g cap, v = .slice (some ⟨g, 0, none⟩) l.length cap ∧ l.length ≤ cap ∧ cap ≤ maxLen ∧ g < w.heap.size ∧ B ≤ g ∧ PairsIn w (some ⟨g, 0, none⟩) l := by
  rcases h.own.2 with ⟨_, h0⟩ | ⟨g, cap, cur, hv, hb, hh, hnc, hcp, hcs, htake⟩
  · omega
  · obtain ⟨ad, c2, hv2, hp⟩ := own_pairsT h.own
    rw [hv] at hv2
    cases hv2
    exact ⟨g, cap, hv, hnc, hcp, lt_of_blk hh, hb, hp⟩
section
variable {o : Oper} {a : Act} {w : World} {Q : Exit → Act → World → Prop} {ops : Array Oper} {rest : List Oper} {K : Act → World → Prop}
/-- A copy of one's own. -/
theorem owp_ownT (x y : Operand) (ho : o.op = .call { callee := .builtin .append, args := #[x, y], argTypes := #[25, 25] })
    (hx : a.eval x = .slice none 0 0) (ad : Option Addr) (n cap : Nat) (ps : List (Int × ByteArray)) (hy : a.eval y = .slice ad n cap) (hn : ps.length = n) (hS : PairsIn w ad ps) (hl : n * 24 ≤ 140737488355328)
    (h : ∀ v' w', Hid (OwnedT w.heap.size w w' v' ps) → K (a.put o.dst v') w') : o.wp Try.prog a w K Q := by
  obtain ⟨i0, hi0, hz0, hz1, hz2⟩ := info_parts Try.info62
  cases ad with
  | none =>
    obtain rfl : ps = [] := by rcases hS with h | ⟨g, off, ha, _⟩; exact h; cases ha
    obtain rfl : 0 = n := hn
    refine owp_value (v := .slice none 0 0) (w' := w) ?_ (h _ _ (OwnedT.nil (Below.refl _ _) (Nat.le_refl _)))
    simp [execOp, ho, resolve, invoke, builtin, hx, hy, Builtin.append_, run_underlying Try.underlying25, sizeOf, typeInfo, hi0, Builtin.lenOf, Builtin.firstCells, Result.andThen]
  | some ad =>
    refine wp_append_own w x y 25 ho w.heap.size 62 i0 (.agg #[.int .i64 0, .string ⟨#[]⟩]) 2 24 Try.underlying25 hi0 hz0 hz1 hz2 rfl (by decide) (.slice none 0 0) 0 [] hx ⟨rfl, .inl ⟨rfl, rfl⟩⟩ ad n cap (pC ps) hy (by rw [pC_len, hn]) (fun j v hv => pairs_cells hS j v hv) (pC_cell1 ps) (by unfold maxLen; omega) (by omega) (Nat.le_refl _) (fun v' w' hown hgrow _ => ?_)
    rw [Nat.zero_add, List.nil_append, ← hn] at hown
    exact h _ _ ⟨hown, (Below.refl _ _).grown hgrow (Nat.le_refl _) (fun k hk => by cases hk), hgrow.size⟩
theorem wl_ownT (hgd : o.guard = none) (x y : Operand) (ho : o.op = .call { callee := .builtin .append, args := #[x, y], argTypes := #[25, 25] })
    (hx : a.eval x = .slice none 0 0) (ad : Option Addr) (n cap : Nat) (ps : List (Int × ByteArray)) (hy : a.eval y = .slice ad n cap) (hn : ps.length = n) (hS : PairsIn w ad ps) (hl : n * 24 ≤ 140737488355328)
    (h : ∀ v' w', Hid (OwnedT w.heap.size w w' v' ps) → wpList Try.prog ops Q rest (a.put o.dst v') w') : wpList Try.prog ops Q (o :: rest) a w :=
  wpList_plain hgd fun _ hK => owp_ownT x y ho hx ad n cap ps hy hn hS hl fun v' w' h' => hK _ _ (h v' w' h')
end
theorem gathL_le (l : List Int) (t : ByteArray) (ss : List (Int × ByteArray)) : (gathL l t ss).length ≤ ss.length := by
  rw [gathL, List.length_mergeSort]
  exact gOut_le l t ss l.length (Nat.le_refl _)
end Go.Proofs.Ytpholamobedkhaa

/- The document's lineage: a link copied into memory of its own. -/
namespace Go.Proofs.Ytpholamobedkhaa
open Go.RowKit

section
variable {P : Program} {ops : Array Oper} {o : Oper} {a : Act} {w : World} {Q : Exit → Act → World → Prop} {K : Act → World → Prop}
theorem wpOp_k {i : Nat} (hi : ops[i]? = some o) (hw : Region.wanted o (yielded ops a.tmps) = true) (h : ∀ K' : Act → World → Prop, (∀ a w, K a w → K' a w) → o.wp P a w K' Q) : wpOp P ops Q i K a w := by
  unfold Go.wpOp
  simp only [hi, hw, if_true]
  exact .inl (h _ (fun _ _ h => h))
end
section
variable {o : Oper} {a : Act} {w : World} {Q : Exit → Act → World → Prop} {K : Act → World → Prop}
/-- A copy of one's own. -/
theorem owp_ownI (x y : Operand) (ho : o.op = .call { callee := .builtin .append, args := #[x, y], argTypes := #[22, 22] })
    (hx : a.eval x = .slice none 0 0) (ad : Option Addr) (n cap : Nat) (zs : List Int) (hy : a.eval y = .slice ad n cap) (hn : zs.length = n) (hS : IntsIn w ad zs) (hl : n ≤ 17592186043904)
    (h : ∀ v' w', Hid (OwnedI w.heap.size w w' v' zs) → K (a.put o.dst v') w') : o.wp Try.prog a w K Q := by
  obtain ⟨i0, hi0, hz0, hz1, hz2⟩ := info_parts Try.info3
  cases ad with
  | none =>
    obtain rfl : zs = [] := by rcases hS with h | ⟨g, off, ha, _⟩; exact h; cases ha
    obtain rfl : 0 = n := hn
    refine owp_value (v := .slice none 0 0) (w' := w) ?_ (h _ _ (OwnedI.nil (Below.refl _ _) (Nat.le_refl _)))
    simp [execOp, ho, resolve, invoke, builtin, hx, hy, Builtin.append_, run_underlying Try.underlying22, sizeOf, typeInfo, hi0, Builtin.lenOf, Builtin.firstCells, Result.andThen]
  | some ad =>
    refine wp_append_own w x y 22 ho w.heap.size 3 i0 (.int .i64 0) 1 8 Try.underlying22 hi0 hz0 hz1 hz2 rfl (by decide) (.slice none 0 0) 0 [] hx ⟨rfl, .inl ⟨rfl, rfl⟩⟩ ad n cap (iC zs) hy (by rw [iC_len, hn, Nat.mul_one]) (fun j v hv => ?_) (iC_one _) (by unfold maxLen; omega) (by omega) (Nat.le_refl _) (fun v' w' hown hgrow _ => ?_)
    · obtain ⟨s, hs, rfl⟩ := iC_back zs j v hv
      rcases hS with h | ⟨g, off, ha, hg, hc⟩
      · rw [h] at hs; simp at hs
      · cases ha
        rw [Addr.add_lit]
        exact hc j s hs
    · exact h v' w' ((OwnedI.nil (Below.refl w.heap.size w) (Nat.le_refl _)).grow (xs := zs) hn hown hgrow)
end
theorem OwnedI.slice {B : Nat} {w0 w : World} {v : Value} {zs : List Int} (h : OwnedI B w0 w v zs) : ∃ ad cap, v = .slice ad zs.length cap ∧ IntsIn w ad zs ∧ ∀ x, ad = some x → B ≤ x.block ∧ x.block < w.heap.size := by
  rcases h.own.2 with ⟨hv, h0⟩ | ⟨g, cap, cur, hv, hb, hh, hr⟩
  · exact ⟨none, 0, by rw [hv, h0], .inl (List.eq_nil_of_length_eq_zero h0), fun x hx => by cases hx⟩
  · refine ⟨_, cap, hv, .inr ⟨g, 0, rfl, lt_of_blk hh, fun j s hj => ?_⟩, fun x hx => by cases hx; exact ⟨hb, lt_of_blk hh⟩⟩
    subst hv
    have := h.own.cells (g := g) rfl j _ (iC_get zs j s hj)
    rwa [Addr.add_lit] at this
theorem OwnedT.slice {B : Nat} {w0 w : World} {v : Value} {ps : List (Int × ByteArray)} (h : OwnedT B w0 w v ps) : ∃ ad cap, v = .slice ad ps.length cap ∧ PairsIn w ad ps ∧ ∀ x, ad = some x → B ≤ x.block ∧ x.block < w.heap.size := by
  obtain ⟨ad, cap, hv, hp⟩ := own_pairsT h.own
  refine ⟨ad, cap, hv, hp, fun x hx => ?_⟩
  rcases h.own.2 with ⟨hv2, _⟩ | ⟨g, c, cur, hv2, hb, hh, _⟩
  · rw [hv, hx] at hv2; cases hv2
  · rw [hv, hx] at hv2; cases hv2; exact ⟨hb, lt_of_blk hh⟩
theorem ints_far {w w' : World} {ad : Option Addr} {l : List Int} (h : IntsIn w ad l) (hs : w.heap.size ≤ w'.heap.size) (hb : ∀ x, ad = some x → w'.heap[x.block]? = w.heap[x.block]?) : IntsIn w' ad l := by
  rcases h with h | ⟨g, off, rfl, hg, hc⟩
  · exact .inl h
  · exact .inr ⟨g, off, rfl, Nat.lt_of_lt_of_le hg hs, fun j z hz => (World.cell?_of_block (a := ⟨g, off + j, none⟩) (hb ⟨g, off, none⟩ rfl)).trans (hc j z hz)⟩
theorem pairs_far {w w' : World} {ad : Option Addr} {ps : List (Int × ByteArray)} (h : PairsIn w ad ps) (hs : w.heap.size ≤ w'.heap.size) (hb : ∀ x, ad = some x → w'.heap[x.block]? = w.heap[x.block]?) : PairsIn w' ad ps := by
  rcases h with h | ⟨g, off, rfl, hg, hc⟩
  · exact .inl h
  · exact .inr ⟨g, off, rfl, Nat.lt_of_lt_of_le hg hs, fun j p hp => ⟨(World.cell?_of_block (a := ⟨g, off + j * 2, none⟩) (hb ⟨g, off, none⟩ rfl)).trans (hc j p hp).1, (World.cell?_of_block (a := ⟨g, off + j * 2 + 1, none⟩) (hb ⟨g, off, none⟩ rfl)).trans (hc j p hp).2⟩⟩
/-- While a link is copied: the link's block, the result's block. -/
structure CpSt (w0 w : World) (e : Int) (vm vs : Value) : Prop where
  ln : LnAt w w0.heap.size e vm vs
  res : w.heap[w0.heap.size + 1]? = some (.cells #[.int .i64 0, .slice none 0 0, .slice none 0 0] 27 (0, 0))
  bel : Below w0.heap.size w0 w
theorem CpSt.keep {w0 w w' : World} {e : Int} {vm vs : Value} (h : CpSt w0 w e vm vs) (hb : Below w.heap.size w w') : CpSt w0 w' e vm vs :=
  ⟨h.ln.keep hb, (hb.block _ (lt_of_blk h.res)).trans h.res, h.bel.trans (hb.mono h.bel.size)⟩
theorem cell_three {w : World} {b : Nat} {x0 x1 x2 : Value} {T : TypeId} {fr : Nat × Nat} (h : w.heap[b]? = some (.cells #[x0, x1, x2] T fr)) : w.cell? ⟨b, 0, none⟩ = some x0 ∧ w.cell? ⟨b, 1, none⟩ = some x1 ∧ w.cell? ⟨b, 2, none⟩ = some x2 :=
  ⟨cell_at (L := [x0, x1, x2]) h 0 _ rfl, cell_at (L := [x0, x1, x2]) h 1 _ rfl, cell_at (L := [x0, x1, x2]) h 2 _ rfl⟩
theorem res_put3 {w : World} {b : Nat} {p q r x0 x1 x2 : Value} {T : TypeId} (h : w.heap[b]? = some (.cells #[p, q, r] T (0, 0))) : (((w.setCell ⟨b, 0, none⟩ x0).setCell ⟨b, 1, none⟩ x1).setCell ⟨b, 2, none⟩ x2).heap[b]? = some (.cells #[x0, x1, x2] T (0, 0)) := by
  have h1 : (w.setCell ⟨b, 0, none⟩ x0).heap[b]? = some (.cells #[x0, q, r] T (0, 0)) := (blk_set h 0 x0).trans (by simp)
  have h2 : ((w.setCell ⟨b, 0, none⟩ x0).setCell ⟨b, 1, none⟩ x1).heap[b]? = some (.cells #[x0, x1, r] T (0, 0)) := (blk_set h1 1 x1).trans (by simp)
  exact (blk_set h2 2 x2).trans (by simp)
theorem load_link (w : World) (b : Nat) (x0 x1 x2 : Value) (c0 : w.cell? ⟨b, 0, none⟩ = some x0) (c1 : w.cell? ⟨b, 1, none⟩ = some x1) (c2 : w.cell? ⟨b, 2, none⟩ = some x2) : (loadVar 27 ⟨b, 0, none⟩).run Try.prog w = .ok (.agg #[x0, x1, x2]) w := by
  go_simp
theorem ret_one {f : Func} {a : Act} {w : World} {Q : Ending → World → Prop} {s : Nat} {t : TypeId} {ad : Addr} {v : Value} (hr : f.results = #[.cell s t]) (hs : a.tmps.getD s undef = .pointer (some ad)) (hl : (loadVar t ad).run Try.prog w = .ok v w) (hd : a.defers = [])
    (h : Q (.returned v) w) : bodyPost Try.prog f Q .ret a w := by
  refine bodyPost_ret (v := v) ?_ hd h
  have h1 : a.tmps.getD s undef = .pointer (some ad) := hs
  simp [results, hr, -Array.getD_eq_getD_getElem?, h1, asAddr, hl]
set_option maxRecDepth 100000 in
set_option maxHeartbeats 3200000 in
theorem wcopied_any (e : Int) (a : Option Addr) (n cap : Nat) (l : List Int) (hn : l.length = n) (hm : n ≤ 17592186043904) (b : Option Addr) (m cp : Nat) (ss : List (Int × ByteArray)) (hsn : ss.length = m) (hsm : m * 24 ≤ 140737488355328) (w : World) (hI : IntsIn w a l) (hP : PairsIn w b ss) :
    Calls Try.prog 22 #[.agg #[.int .i64 e, .slice a n cap, .slice b m cp]] w fun r w' => ∃ a1 c1 a2 c2, r = .returned (.agg #[.int .i64 e, .slice a1 n c1, .slice a2 m c2]) ∧ IntsIn w' a1 l ∧ PairsIn w' a2 ss ∧ (∀ x, a1 = some x → w.heap.size ≤ x.block) ∧ (∀ x, a2 = some x → w.heap.size ≤ x.block) ∧ Below w.heap.size w w' := by
  have H0 : Hid (CpSt w ((w.alloc (.cells #[.int .i64 e, .slice a n cap, .slice b m cp] 27)).alloc (.cells #[.int .i64 0, .slice none 0 0, .slice none 0 0] 27)) e (.slice a n cap) (.slice b m cp)) := hid
    ⟨(Below.heap_alloc _ _ _ (by simp)).trans (heap_alloc_last w _), snd_alloc w _ _, ((Below.refl _ _).alloc (Nat.le_refl _) _).alloc (by simp) _⟩
  have HD : Hid (∀ u : World, Below w.heap.size w u → IntsIn u a l ∧ PairsIn u b ss) := hid (fun u hu => ⟨hI.keep hu (Nat.le_refl _), hP.keep hu (Nat.le_refl _)⟩)
  have HL := hid (And.intro (And.intro hn hm) (And.intro hsn hsm))
  clear hI hP hn hm hsn hsm
  go_enter Try.func22, Try.ntmps22
  go_wp2
  obtain ⟨w1, ew⟩ : ∃ w1, w1 = (w.alloc (.cells #[.int .i64 e, .slice a n cap, .slice b m cp] 27)).alloc (.cells #[.int .i64 0, .slice none 0 0, .slice none 0 0] 27) := ⟨_, rfl⟩
  rw [← ew] at H0 ⊢
  clear ew
  have H1 : Hid (CpSt w w1.drew e (.slice a n cap) (.slice b m cp)) := hid (H0.out.keep (Below.refl _ _).drew)
  have HS := hid H1.out.ln
  refine wp_region_held (S := fun ww => LnAt ww w.heap.size e (.slice a n cap) (.slice b m cp)) (by kernel_rfl) ?_
  try (change wpAnyH _ _ _ _ _ _ _ _ (World.drew _))
  refine wpAnyH_take (i := 0) (v := ?v1) rfl (by kernel_rfl) (by kernel_rfl) (by kernel_rfl) (fun _ _ _ h => h) (Or.inl ⟨by rfl, ?hy1⟩) HS.out ?rest1
  case hy1 => (intro ww _; go_simp; try with_reducible rfl)
  go_simp
  refine wpAnyH_take (i := 1) (v := ?v2) rfl (by kernel_rfl) (by kernel_rfl) (by kernel_rfl) (fun _ _ _ h => h) (Or.inl ⟨by rfl, ?hy2⟩) HS.out ?rest2
  case hy2 => (intro ww _; go_simp; try with_reducible rfl)
  go_simp
  refine wpAnyH_take (i := 2) (v := ?v3) rfl (by kernel_rfl) (by kernel_rfl) (by kernel_rfl) (fun _ _ _ h => h) (Or.inl ⟨by rfl, ?hy3⟩) HS.out ?rest3
  case hy3 => (intro ww hS; obtain ⟨y0, y1, y2⟩ := hS.cells; go_simp; try with_reducible rfl)
  go_simp
  refine wpAnyH_take (i := 3) (v := ?v4) rfl (by kernel_rfl) (by kernel_rfl) (by kernel_rfl) (fun _ _ _ h => h) (Or.inl ⟨by rfl, ?hy4⟩) HS.out ?rest4
  case hy4 => (intro ww _; go_simp; try with_reducible rfl)
  go_simp
  refine wpAnyH_take (i := 4) (v := ?v5) rfl (by kernel_rfl) (by kernel_rfl) (by kernel_rfl) (fun _ _ _ h => h) (Or.inl ⟨by rfl, ?hy5⟩) HS.out ?rest5
  case hy5 => (intro ww _; go_simp; try with_reducible rfl)
  go_simp
  refine wpAnyH_take (i := 5) (v := ?v6) rfl (by kernel_rfl) (by kernel_rfl) (by kernel_rfl) (fun _ _ _ h => h) (Or.inl ⟨by rfl, ?hy6⟩) HS.out ?rest6
  case hy6 => (intro ww hS; obtain ⟨y0, y1, y2⟩ := hS.cells; go_simp; try with_reducible rfl)
  go_simp
  refine wpAnyH_take (i := 8) (v := ?v7) rfl (by kernel_rfl) (by kernel_rfl) (by kernel_rfl) (fun _ _ _ h => h) (Or.inl ⟨by rfl, ?hy7⟩) HS.out ?rest7
  case hy7 => (intro ww _; go_simp; try with_reducible rfl)
  go_simp
  refine wpAnyH_take (i := 9) (v := ?v8) rfl (by kernel_rfl) (by kernel_rfl) (by kernel_rfl) (fun _ _ _ h => h) (Or.inl ⟨by rfl, ?hy8⟩) HS.out ?rest8
  case hy8 => (intro ww hS; obtain ⟨y0, y1, y2⟩ := hS.cells; go_simp; try with_reducible rfl)
  go_simp
  refine wpAnyH_all (rs := [6]) (by kernel_rfl) (by simp) ?_
  intro i hi
  obtain rfl := List.mem_singleton.1 hi
  clear hi
  refine wpOp_k rfl (by rfl) (fun K hK => ?_)
  refine owp_ownI _ _ rfl (by rfl) a n cap l (by rfl) HL.out.1.1 (HD.out _ H1.out.bel).1 HL.out.1.2 ?_
  intro v2 w2 H2
  have H2c := hid (H1.out.keep H2.out.bel)
  obtain ⟨a1, c1, hv2, hI2, hx2⟩ := H2.out.slice
  rw [HL.out.1.1] at hv2
  subst hv2
  have H2i := hid (And.intro hI2 hx2)
  clear hI2 hx2
  refine hK _ _ ⟨H2c.out.ln, ?_⟩
  clear hK K
  go_simp
  refine wpAnyH_take (i := 7) (v := ?v9) rfl (by kernel_rfl) (by kernel_rfl) (by kernel_rfl) (fun _ _ _ h => h) (Or.inl ⟨by rfl, ?hy9⟩) H2c.out.ln ?rest9
  case hy9 => (intro ww _; go_simp; try with_reducible rfl)
  go_simp
  refine wpAnyH_all (rs := [10]) (by kernel_rfl) (by simp) ?_
  intro i hi
  obtain rfl := List.mem_singleton.1 hi
  clear hi
  refine wpOp_k rfl (by rfl) (fun K hK => ?_)
  refine owp_ownT _ _ rfl (by rfl) b m cp ss (by rfl) HL.out.2.1 (HD.out _ H2c.out.bel).2 HL.out.2.2 ?_
  intro v3 w3 H3
  have H3c := hid (H2c.out.keep H3.out.bel)
  obtain ⟨a2, c2, hv3, hI3, hx3⟩ := H3.out.slice
  rw [HL.out.2.1] at hv3
  subst hv3
  have H3i := hid (And.intro hI3 (And.intro hx3 (H2i.out.1.keep H3.out.bel (Nat.le_refl _))))
  clear hI3 hx3
  refine hK _ _ ⟨H3c.out.ln, ?_⟩
  clear hK K
  go_simp
  refine wpAnyH_take (i := 11) (v := ?v10) rfl (by kernel_rfl) (by kernel_rfl) (by kernel_rfl) (fun _ _ _ h => h) (Or.inl ⟨by rfl, ?hy10⟩) H3c.out.ln ?rest10
  case hy10 => (intro ww _; go_simp; try with_reducible rfl)
  go_simp
  refine wpAnyH_all (rs := [12]) (by kernel_rfl) (by simp) ?_
  intro i hi
  obtain rfl := List.mem_singleton.1 hi
  clear hi
  refine wpOp_k rfl (by rfl) (fun K hK => ?_)
  have r0 := (cell_three H3c.out.res).1
  have r1 := (cell_three H3c.out.res).2.1
  have r2 := (cell_three H3c.out.res).2.2
  have f0 := free_at H3c.out.res 0
  have f1 := free_at H3c.out.res 1
  have f2 := free_at H3c.out.res 2
  go_simp
  refine hK _ _ ⟨?_, ?_⟩
  · refine (Below.heap_setCell _ _ _ _ ?_).trans ((Below.heap_setCell _ _ _ _ ?_).trans ((Below.heap_setCell _ _ _ _ ?_).trans H3c.out.ln)) <;> simp
  clear hK K r0 r1 r2 f0 f1 f2
  go_simp
  refine wpAnyH_done (by kernel_rfl) ?_ _
  go_simp
  go_wp2
  refine ret_one (s := 2) (ad := ⟨w.heap.size + 1, 0, none⟩) rfl rfl (load_link _ _ (.int .i64 e) (.slice a1 n c1) (.slice a2 m c2) (cell_three (res_put3 H3c.out.res)).1 (cell_three (res_put3 H3c.out.res)).2.1 (cell_three (res_put3 H3c.out.res)).2.2) rfl ?_
  have hlt := lt_of_blk H3c.out.res
  have hsz : w.heap.size + 1 < w1.drew.heap.size := lt_of_blk H1.out.res
  have hsz2 := H2.out.bel.size
  refine ⟨a1, c1, a2, c2, rfl, ints_far H3i.out.2.2 (by simp [World.setCell]) (fun x hx => ?_), pairs_far H3i.out.1 (by simp [World.setCell]) (fun x hx => ?_), fun x hx => ?_, fun x hx => ?_, ((H3c.out.bel.setCell (p := ⟨w.heap.size + 1, 0, none⟩) (Nat.le_succ _) _).setCell (p := ⟨w.heap.size + 1, 1, none⟩) (Nat.le_succ _) _).setCell (p := ⟨w.heap.size + 1, 2, none⟩) (Nat.le_succ _) _⟩
  · have h1 := (H2i.out.2 x hx).1
    refine (Below.heap_setCell _ _ _ _ ?_).trans ((Below.heap_setCell _ _ _ _ ?_).trans (Below.heap_setCell _ _ _ _ ?_)) <;> (show x.block ≠ w.heap.size + 1; omega)
  · have h1 := (H3i.out.2.1 x hx).1
    refine (Below.heap_setCell _ _ _ _ ?_).trans ((Below.heap_setCell _ _ _ _ ?_).trans (Below.heap_setCell _ _ _ _ ?_)) <;> (show x.block ≠ w.heap.size + 1; omega)
  · have h1 := (H2i.out.2 x hx).1
    omega
  · have h1 := (H3i.out.2.1 x hx).1
    omega
end Go.Proofs.Ytpholamobedkhaa

/- The document's tracker: in memory; At. -/
namespace Go.Proofs.Ytpholamobedkhaa
open Go.RowKit

abbrev Lk := Int × (List Int × List (Int × ByteArray))
def dLk (k : Lk) : List Dat := [.i k.1, dInts k.2.1, dPairs k.2.2]
def dLks (ls : List Lk) : List (List Dat) := ls.map dLk
theorem dLks_len (ls : List Lk) : (dLks ls).length = ls.length := List.length_map ..
theorem dLks_at {ls : List Lk} {j : Nat} {k : Lk} (h : ls[j]? = some k) : (dLks ls)[j]? = some (dLk k) := by rw [dLks, List.getElem?_map, h]; rfl
/-- The document's tracker at block b: its first configuration, its links (in a row of their own from block B on), all that they lead to in blocks of F. -/
structure MtAt (B : Nat) (F : Nat → Prop) (w : World) (b : Nat) (ep : Int) (fa : Option Addr) (fc : Nat) (fm : List Int) (vl : Value) (ls : List Lk) : Prop where
  blk : w.heap[b]? = some (.cells #[.int .i64 ep, .slice fa fm.length fc, vl] 70 (0, 0))
  fst : IntsIn w fa fm
  fF : ∀ x, fa = some x → fm ≠ [] → F x.block
  own : OwnD 27 3 B F w vl (dLks ls)
  bF : ¬ F b
  bv : vl.ownBlock ≠ some b
  flt : ∀ k, F k → k < w.heap.size
theorem MtAt.keep {B : Nat} {F : Nat → Prop} {w w' : World} {b : Nat} {ep : Int} {fa : Option Addr} {fc : Nat} {fm : List Int} {vl : Value} {ls : List Lk} (h : MtAt B F w b ep fa fc fm vl ls) (hb : Below w.heap.size w w') : MtAt B F w' b ep fa fc fm vl ls :=
  ⟨(hb.block _ (lt_of_blk h.blk)).trans h.blk, h.fst.keep hb (Nat.le_refl _), h.fF, h.own.under hb (Nat.le_refl _), h.bF, h.bv, fun k hk => Nat.lt_of_lt_of_le (h.flt k hk) hb.size⟩
theorem MtAt.form {B : Nat} {F : Nat → Prop} {w : World} {b : Nat} {ep : Int} {fa : Option Addr} {fc : Nat} {fm : List Int} {vl : Value} {ls : List Lk} (h : MtAt B F w b ep fa fc fm vl ls) : ∃ ad cap, vl = .slice ad ls.length cap := by
  obtain ⟨ad, cap, hv⟩ := h.own.form
  rw [dLks_len] at hv
  exact ⟨ad, cap, hv⟩
/-- The j-th link of a tracker. -/
theorem MtAt.at {B : Nat} {F : Nat → Prop} {w : World} {b : Nat} {ep : Int} {fa : Option Addr} {fc : Nat} {fm : List Int} {vl : Value} {ls : List Lk} (h : MtAt B F w b ep fa fc fm vl ls) (j : Nat) (k : Lk) (hj : ls[j]? = some k) :
    ∃ g off cap a1 c1 a2 c2, vl = .slice (some ⟨g, off, none⟩) ls.length cap ∧ g < w.heap.size ∧ w.cell? ⟨g, off + j * 3, none⟩ = some (.int .i64 k.1) ∧ w.cell? ⟨g, off + j * 3 + 1, none⟩ = some (.slice a1 k.2.1.length c1) ∧ w.cell? ⟨g, off + j * 3 + 2, none⟩ = some (.slice a2 k.2.2.length c2) ∧ IntsIn w a1 k.2.1 ∧ PairsIn w a2 k.2.2 := by
  obtain ⟨g, off, cap, hv, _, hg, _, hc⟩ := h.own.reads.at j (dLk k) (dLks_at hj)
  obtain ⟨u0, h0, r0⟩ := hc 0 (.i k.1) rfl
  obtain ⟨u1, h1, r1⟩ := hc 1 (dInts k.2.1) rfl
  obtain ⟨u2, h2, r2⟩ := hc 2 (dPairs k.2.2) rfl
  obtain ⟨a1, c1, e1, i1, _⟩ := reads_ints r1
  obtain ⟨a2, c2, e2, i2, _⟩ := reads_pairs r2
  rw [dLks_len] at hv
  exact ⟨g, off, cap, a1, c1, a2, c2, hv, hg, by rw [r0.int] at h0; exact h0, by rw [h1, e1], by rw [h2, e2], i1, i2⟩
/-- What At answers. -/
def atZ (ep : Int) (ls : List Lk) (e : Int) : Int := if e = 0 then ep else if 1 ≤ e ∧ e ≤ ls.length then (ls.getD (e - 1).toNat (0, [], [])).1 else 0
def atM (fm : List Int) (ls : List Lk) (e : Int) : List Int := if e = 0 then fm else if 1 ≤ e ∧ e ≤ ls.length then (ls.getD (e - 1).toNat (0, [], [])).2.1 else []
def atB (ls : List Lk) (e : Int) : Bool := decide (0 ≤ e ∧ e ≤ ls.length)
theorem load_conf (w : World) (b : Nat) (x y : Value) (c0 : w.cell? ⟨b, 0, none⟩ = some x) (c1 : w.cell? ⟨b, 1, none⟩ = some y) : (loadVar 24 ⟨b, 0, none⟩).run Try.prog w = .ok (.agg #[x, y]) w := by
  go_simp
theorem ints_put {w : World} {ad : Option Addr} {l : List Int} (h : IntsIn w ad l) (r o : Nat) (x : Value) (hne : ∀ y, ad = some y → l ≠ [] → y.block ≠ r) : IntsIn (w.setCell ⟨r, o, none⟩ x) ad l := by
  rcases h with h | ⟨g, off, rfl, hg, hc⟩
  · exact .inl h
  · cases l with
    | nil => exact .inl rfl
    | cons z l => exact .inr ⟨g, off, rfl, by simpa [World.setCell] using hg, fun j s hs => (World.cell?_of_block (a := ⟨g, off + j, none⟩) (Below.heap_setCell _ _ _ _ (hne _ rfl (by simp)))).trans (hc j s hs)⟩
theorem ints_lt {w : World} {ad : Option Addr} {l : List Int} (h : IntsIn w ad l) : ∀ x, ad = some x → l ≠ [] → x.block < w.heap.size := fun x hx hne => by
  rcases h with h | ⟨g, off, ha, hg, _⟩
  · exact absurd h hne
  · rw [hx] at ha; cases ha; exact hg
set_option maxRecDepth 100000 in
set_option maxHeartbeats 3200000 in
theorem wat_any (B : Nat) (F : Nat → Prop) (b : Nat) (ep : Int) (fa : Option Addr) (fc : Nat) (fm : List Int) (vl : Value) (ls : List Lk) (hl : ls.length ≤ 1000) (e : Int) (w : World) (h : MtAt B F w b ep fa fc fm vl ls) :
    Calls Try.prog 36 #[.pointer (some ⟨b, 0, none⟩), .int .i64 e] w fun r w' => ∃ ad cap, r = .returned (.tuple #[.agg #[.int .i64 (atZ ep ls e), .slice ad (atM fm ls e).length cap], .bool (atB ls e)]) ∧ IntsIn w' ad (atM fm ls e) ∧ Below w.heap.size w w' := by
  obtain ⟨la, lc, hv⟩ := h.form
  subst hv
  have hl2 : (ls.length : Int) ≤ 1000 := by omega
  have hW : (w.alloc (.cells #[.int .i64 0, .slice none 0 0] 24)).heap[w.heap.size]? = some (.cells #[.int .i64 0, .slice none 0 0] 24 (0, 0)) := heap_alloc_last w _
  have hA : Below w.heap.size w (w.alloc (.cells #[.int .i64 0, .slice none 0 0] 24)) := (Below.refl _ _).alloc (Nat.le_refl _) _
  have hM := h.keep hA
  have r0 := (cell_two hW).1
  have r1 := (cell_two hW).2
  have f0 := free_at hW 0
  have f1 := free_at hW 1
  have t0 := (cell_three hM.blk).1
  have t1 := (cell_three hM.blk).2.1
  have t2 := (cell_three hM.blk).2.2
  have HA := hid (And.intro hW (And.intro hA hM.fst))
  have HI0 := hid h.fst
  have HAt := hid h.at
  clear hW hA hM h hl
  by_cases e0 : e = 0
  · rw [show atZ ep ls e = ep by rw [atZ, if_pos e0], show atM fm ls e = fm by rw [atM, if_pos e0], show atB ls e = true by rw [atB, decide_eq_true (by omega)]]
    subst e0
    go_enter Try.func36, Try.ntmps36
    go_wp2
    refine ret_pair (s := 4) (s2 := 5) (ad := ⟨w.heap.size, 0, none⟩) rfl rfl (load_conf _ _ (.int .i64 ep) (.slice fa fm.length fc) (cell_two (T := 24) (fr := (0, 0)) (heap_alloc_last w _)).1 (cell_two (T := 24) (fr := (0, 0)) (heap_alloc_last w _)).2) rfl rfl ?_
    first | exact ⟨fa, fc, rfl, HI0.out.keep ((Below.refl w.heap.size w).alloc (Nat.le_refl _) _) (Nat.le_refl _), (Below.refl _ _).alloc (Nat.le_refl _) _⟩ | exact ⟨fa, ⟨fc, rfl⟩, HI0.out.keep ((Below.refl w.heap.size w).alloc (Nat.le_refl _) _) (Nat.le_refl _), (Below.refl _ _).alloc (Nat.le_refl _) _⟩
  · by_cases hin : 1 ≤ e ∧ e ≤ (ls.length : Int)
    · obtain ⟨j, hj⟩ : ∃ j : Nat, e = (j : Int) + 1 := ⟨(e - 1).toNat, by omega⟩
      have hjl : j < ls.length := by omega
      obtain ⟨k, hk⟩ : ∃ k, ls[j]? = some k := ⟨_, List.getElem?_eq_getElem hjl⟩
      have hgd : ls.getD (e - 1).toNat (0, [], []) = k := by
        rw [show (e - 1).toNat = j by omega, List.getD_eq_getElem?_getD, hk]; rfl
      rw [show atZ ep ls e = k.1 by rw [atZ, if_neg e0, if_pos hin, hgd], show atM fm ls e = k.2.1 by rw [atM, if_neg e0, if_pos hin, hgd], show atB ls e = true by rw [atB, decide_eq_true (by omega)]]
      obtain ⟨g, off, cap, a1, c1, a2, c2, hv, hg, k0, k1, _, hi1, _⟩ := HAt.out j k hk
      cases hv
      have q0 : (w.alloc (.cells #[.int .i64 0, .slice none 0 0] 24)).cell? ⟨g, off + j * 3, none⟩ = some (.int .i64 k.1) := (HA.out.2.1.cell (p := ⟨g, _, none⟩) hg).trans k0
      have q1 : (w.alloc (.cells #[.int .i64 0, .slice none 0 0] 24)).cell? ⟨g, off + j * 3 + 1, none⟩ = some (.slice a1 k.2.1.length c1) := (HA.out.2.1.cell (p := ⟨g, _, none⟩) hg).trans k1
      have HI1 := hid hi1
      subst hj
      have hj0 : (0 : Int) ≤ (j : Int) := Int.natCast_nonneg _
      have hj1 : (j : Int) < (ls.length : Int) := by omega
      have hj2 : ¬ ((j : Int) + 1 < 1) := by omega
      have hj3 : ¬ ((ls.length : Int) < (j : Int) + 1) := by omega
      have hj4 : ¬ ((j : Int) + 1 = 0) := by omega
      clear hin hjl hk hgd k0 k1 hg hi1 e0
      go_enter Try.func36, Try.ntmps36
      go_wp2
      refine ret_pair (s := 4) (s2 := 5) (ad := ⟨w.heap.size, 0, none⟩) rfl rfl (load_conf _ _ (.int .i64 k.1) (.slice a1 k.2.1.length c1) (cell_two (T := 24) (fr := (0, 0)) (heap_alloc_last w _)).1 (cell_two (T := 24) (fr := (0, 0)) (heap_alloc_last w _)).2) rfl rfl ?_
      first | exact ⟨a1, c1, rfl, HI1.out.keep ((Below.refl w.heap.size w).alloc (Nat.le_refl _) _) (Nat.le_refl _), (Below.refl _ _).alloc (Nat.le_refl _) _⟩ | exact ⟨a1, ⟨c1, rfl⟩, HI1.out.keep ((Below.refl w.heap.size w).alloc (Nat.le_refl _) _) (Nat.le_refl _), (Below.refl _ _).alloc (Nat.le_refl _) _⟩
    · rw [show atZ ep ls e = 0 by rw [atZ, if_neg e0, if_neg hin], show atM fm ls e = [] by rw [atM, if_neg e0, if_neg hin], show atB ls e = false by rw [atB, decide_eq_false (by omega)]]
      by_cases h1 : e < 1
      · clear hin
        go_enter Try.func36, Try.ntmps36
        go_wp2
        refine ret_pair (s := 4) (s2 := 5) (ad := ⟨w.heap.size, 0, none⟩) rfl rfl (load_conf _ _ (.int .i64 0) (.slice none 0 0) (cell_two (T := 24) (fr := (0, 0)) (heap_alloc_last w _)).1 (cell_two (T := 24) (fr := (0, 0)) (heap_alloc_last w _)).2) rfl rfl ?_
        first | exact ⟨none, 0, rfl, .inl rfl, (Below.refl _ _).alloc (Nat.le_refl _) _⟩ | exact ⟨none, ⟨0, rfl⟩, .inl rfl, (Below.refl _ _).alloc (Nat.le_refl _) _⟩
      · have h2 : (ls.length : Int) < e := by omega
        clear hin
        go_enter Try.func36, Try.ntmps36
        go_wp2
        refine ret_pair (s := 4) (s2 := 5) (ad := ⟨w.heap.size, 0, none⟩) rfl rfl (load_conf _ _ (.int .i64 0) (.slice none 0 0) (cell_two (T := 24) (fr := (0, 0)) (heap_alloc_last w _)).1 (cell_two (T := 24) (fr := (0, 0)) (heap_alloc_last w _)).2) rfl rfl ?_
        first | exact ⟨none, 0, rfl, .inl rfl, (Below.refl _ _).alloc (Nat.le_refl _) _⟩ | exact ⟨none, ⟨0, rfl⟩, .inl rfl, (Below.refl _ _).alloc (Nat.le_refl _) _⟩
end Go.Proofs.Ytpholamobedkhaa
