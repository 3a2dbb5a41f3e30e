/- Texts laid together: WiU WiV WiW WiX WiY WiZa. -/
import Derived.Test.YtfjcpghepkmbfaaGa3
import Derived.Test.YtfjcpghepkmbfaaGa4
import Derived.Test.YtfjcpghepkmbfaaGb1
import Derived.Maps.AppendAt
import Derived.Test.YtfjcpghepkmbfaaGa5
import Derived.Test.YtfjcpghepkmbfaaGb5
/- Memory that a reader of messages makes: one cell put, one element put behind; what a part leaves. No walk here. -/
namespace Go.Proofs.Ytfjcpghepkmbfaa
open Go.RowKit

theorem BxAt.kept {w w' : World} {b k : Nat} {L : List Value} {T : TypeId} (h : BxAt w k L T) (hk : Kept b none w w') (hne : k ≠ b) : BxAt w' k L T := (hk.block k (lt_of_blk h) hne (by simp)).trans h
theorem Kept.one {b k : Nat} {w0 w w' : World} (h : Kept b none w0 w) (ho : One k w w') (hk : w0.heap.size ≤ k) : Kept b none w0 w' :=
  ⟨ho.os.trans h.os, ho.tape.trans h.tape, ho.output.trans h.output, by rw [ho.size]; exact h.size, fun i hi hb hr => (ho.block i (by omega)).trans (h.block i hi hb hr)⟩
theorem RdAt.one {b k : Nat} {w w' : World} {s : ByteArray} {sh : Bool} (h : RdAt w b s sh) (ho : One k w w') (hk : b ≠ k) : RdAt w' b s sh := (ho.block b hk).trans h
theorem BxAt.one {b k : Nat} {w w' : World} {L : List Value} {T : TypeId} (h : BxAt w b L T) (ho : One k w w') (hk : b ≠ k) : BxAt w' b L T := (ho.block b hk).trans h
theorem Reads.kept {F : Nat → Prop} {b : Nat} {w w' : World} {v : Value} {d : Dat} (h : Reads F w v d) (hk : Kept b none w w') (hb : ¬ F b) : Reads F w' v d := h.keep hk.size (fun k hkl hF => hk.block k hkl (fun e => hb (e ▸ hF)) (by simp))
theorem Reads.one {F : Nat → Prop} {b : Nat} {w w' : World} {v : Value} {d : Dat} (h : Reads F w v d) (ho : One b w w') (hb : ¬ F b) : Reads F w' v d := h.keep (Nat.le_of_eq ho.size.symm) (fun k _ hF => ho.block k (fun e => hb (e ▸ hF)))
theorem OwnD.kept {T : TypeId} {sz B b : Nat} {F : Nat → Prop} {w w' : World} {v : Value} {es : List (List Dat)} (h : OwnD T sz B F w v es) (hk : Kept b none w w') (hF : ¬ F b) (hB : b < B) : OwnD T sz B F w' v es :=
  h.keep hk.size (fun k hkl hFk => hk.block k hkl (fun e => hF (e ▸ hFk)) (by simp)) (fun g hg => hk.block g (h.lt g hg).2 (by have := (h.lt g hg).1; omega) (by simp))
theorem OwnD.one {T : TypeId} {sz B b : Nat} {F : Nat → Prop} {w w' : World} {v : Value} {es : List (List Dat)} (h : OwnD T sz B F w v es) (ho : One b w w') (hF : ¬ F b) (hv : v.ownBlock ≠ some b) : OwnD T sz B F w' v es :=
  h.keep (Nat.le_of_eq ho.size.symm) (fun k _ hFk => ho.block k (fun e => hF (e ▸ hFk))) (fun g hg => ho.block g (fun e => hv (e ▸ hg)))
section
variable {o : Oper} {a : Act} {w : World} {K : Act → World → Prop} {Q : Exit → Act → World → Prop} {ops : Array Oper} {rest : List Oper}
theorem owp_store1 (T : TypeId) (p x : Operand) (ho : o.op = .store T p x) (b off : Nat) (hp : a.eval p = .pointer (some ⟨b, off, none⟩)) (u : Value) (hx : a.eval x = u) (hc : u.cells = #[u]) (h1 : u.oneCell' = true) (L : List Value) (TB : TypeId) (hL : w.heap[b]? = some (.cells L.toArray TB (0, 0))) (hn : off < L.length)
    (hi : (Try.prog.info? T).map (·.size) = some 1) (h : ∀ w', Hid (w'.heap[b]? = some (.cells (L.set off u).toArray TB (0, 0)) ∧ One b w w') → K (a.put o.dst undef) w') : o.wp Try.prog a w K Q := by
  have hcl : w.cell? ⟨b, off, none⟩ = some L[off] := cell_at hL off _ (List.getElem?_eq_getElem hn)
  have hf : w.frozen? ⟨b, off, none⟩ = false := free_at hL _
  have hb : (w.setCell ⟨b, off, none⟩ u).heap[b]? = some (.cells (L.set off u).toArray TB (0, 0)) := by have := blk_set hL off u; simpa using this
  refine owp_skip (w' := w.setCell ⟨b, off, none⟩ u) ?_ (h _ ⟨hb, one_cells b [u] off w⟩)
  have hr := run_store Try.prog w ⟨b, off, none⟩ u .plain h1
  rw [hcl] at hr
  simp only [hf] at hr
  cases hq : Try.prog.info? T with
  | none => simp [hq] at hi
  | some i =>
    have hs : i.size = 1 := by simp [hq] at hi; omega
    simp [execOp, ho, Instr.storeAt, Instr.sureAddr, hp, hx, storeVar, sizeOf, typeInfo, hq, hs, hc, storeCells, Addr.add, hr, Result.andThen]
theorem wl_store1 (hgd : o.guard = none) (T : TypeId) (p x : Operand) (ho : o.op = .store T p x) (b off : Nat) (hp : a.eval p = .pointer (some ⟨b, off, none⟩)) (u : Value) (hx : a.eval x = u) (hc : u.cells = #[u]) (h1 : u.oneCell' = true) (L : List Value) (TB : TypeId) (hL : w.heap[b]? = some (.cells L.toArray TB (0, 0))) (hn : off < L.length)
    (hi : (Try.prog.info? T).map (·.size) = some 1) (h : ∀ w', Hid (w'.heap[b]? = some (.cells (L.set off u).toArray TB (0, 0)) ∧ One b w w') → wpList Try.prog ops Q rest (a.put o.dst undef) w') : wpList Try.prog ops Q (o :: rest) a w :=
  wpList_plain hgd fun _ hK => owp_store1 T p x ho b off hp u hx hc h1 L TB hL hn hi (fun w' hw => hK _ _ (h w' hw))
/-- One more element behind one's own. -/
theorem owp_add_D (s x : Operand) (TS T : TypeId) (ho : o.op = .call { callee := .builtin .append, args := #[s, x], argTypes := #[TS, TS] }) (z : Value) (sz bytes : Nat) (hU : Try.prog.underlying TS = some (.slice T)) (hI : (Try.prog.info? T).map (fun i => (i.zero, i.size, i.bytes)) = some (some z, sz, bytes)) (hz : z.cells.size = sz) (hz0 : 0 < sz)
    (B : Nat) (F F' : Nat → Prop) (v : Value) (es : List (List Dat)) (hs : a.eval s = v) (hO : OwnD T sz B F w v es) (hB : B ≤ w.heap.size)
    (g : Nat) (hx : a.eval x = .slice (some ⟨g, 0, none⟩) 1 1) (e : List Dat) (news : List Value) (hnl : news.length = sz) (hel : e.length = sz) (hc : ∀ j u, news[j]? = some u → w.cell? ⟨g, j, none⟩ = some u)
    (hr : ∀ (q : Nat) (d : Dat), e[q]? = some d → ∃ u, news[q]? = some u ∧ Reads F' w u d) (h1 : ∀ u, u ∈ news → u.oneCell' = true) (hF : ∀ j, j < w.heap.size → F j → F' j) (hrow : ∀ j, v.ownBlock = some j → ¬ F' j) (hnew : ∀ j, F' j → j < w.heap.size) (hl : (es.length + 1) * bytes ≤ 140737488355328) (hl2 : es.length + 1 ≤ maxLen)
    (h : ∀ v' w', Hid (OwnD T sz B F' w' v' (es ++ [e]) ∧ w.grownBy w' v.ownBlock ∧ (v'.ownBlock = v.ownBlock ∨ v'.ownBlock = some w.heap.size)) → K (a.put o.dst v') w') : o.wp Try.prog a w K Q := by
  obtain ⟨i0, hi0, hz1, hz2, hz3⟩ := info_parts hI
  obtain ⟨cs, hown, _⟩ := hO.own
  obtain ⟨v', w', hrn, h2, h3, h4, h5⟩ := run_append_own_at (P := Try.prog) w B TS o.type T i0 z sz bytes hU hi0 hz1 hz2 hz3 hz hz0 v _ cs hown ⟨g, 0, none⟩ 1 1 news (by rw [hnl]; omega) (fun j u hj => by
    have h9 := hc j u hj
    by_cases h0 : j = 0
    · rw [h0] at h9 ⊢; simpa [Addr.add] using h9
    · simpa [Addr.add, h0] using h9) h1 hl2 hl hB
  have hkeep : ∀ {u : Value} {d : Dat}, Reads F' w u d → Reads F' w' u d := fun hu => hu.keep h3.size (fun j hj hFj => h3.block j hj (fun e => hrow j e.symm hFj))
  refine owp_value (v := v') (w' := w') ?_ (h v' w' ⟨?_, h3, h5⟩)
  · simp [execOp, ho, resolve, invoke, builtin, hs, hx, hrn, Result.andThen]
  · exact hO.grow (F' := F') (e := e) hown hel (fun q d hd => by
      obtain ⟨u, k1, k2⟩ := hr q d hd
      exact ⟨u, k1, hkeep k2⟩) h2 h3 hF (fun j hj hFj => by
      rcases h5 with e | e
      · exact hrow j (e ▸ hj) hFj
      · rw [e] at hj
        cases hj
        exact absurd (hnew _ hFj) (by omega))
theorem wl_add_D (hgd : o.guard = none) (s x : Operand) (TS T : TypeId) (ho : o.op = .call { callee := .builtin .append, args := #[s, x], argTypes := #[TS, TS] }) (z : Value) (sz bytes : Nat) (hU : Try.prog.underlying TS = some (.slice T)) (hI : (Try.prog.info? T).map (fun i => (i.zero, i.size, i.bytes)) = some (some z, sz, bytes)) (hz : z.cells.size = sz) (hz0 : 0 < sz)
    (B : Nat) (F F' : Nat → Prop) (v : Value) (es : List (List Dat)) (hs : a.eval s = v) (hO : OwnD T sz B F w v es) (hB : B ≤ w.heap.size)
    (g : Nat) (hx : a.eval x = .slice (some ⟨g, 0, none⟩) 1 1) (e : List Dat) (news : List Value) (hnl : news.length = sz) (hel : e.length = sz) (hc : ∀ j u, news[j]? = some u → w.cell? ⟨g, j, none⟩ = some u)
    (hr : ∀ (q : Nat) (d : Dat), e[q]? = some d → ∃ u, news[q]? = some u ∧ Reads F' w u d) (h1 : ∀ u, u ∈ news → u.oneCell' = true) (hF : ∀ j, j < w.heap.size → F j → F' j) (hrow : ∀ j, v.ownBlock = some j → ¬ F' j) (hnew : ∀ j, F' j → j < w.heap.size) (hl : (es.length + 1) * bytes ≤ 140737488355328) (hl2 : es.length + 1 ≤ maxLen)
    (h : ∀ v' w', Hid (OwnD T sz B F' w' v' (es ++ [e]) ∧ w.grownBy w' v.ownBlock ∧ (v'.ownBlock = v.ownBlock ∨ v'.ownBlock = some w.heap.size)) → wpList Try.prog ops Q rest (a.put o.dst v') w') : wpList Try.prog ops Q (o :: rest) a w :=
  wpList_plain hgd fun _ hK => owp_add_D s x TS T ho z sz bytes hU hI hz hz0 B F F' v es hs hO hB g hx e news hnl hel hc hr h1 hF hrow hnew hl hl2 (fun v' w' hw => hK _ _ (h v' w' hw))
end
/-- What a part leaves: an answer, or it gave up. -/
def Got {α : Type} (p : Ps α) (b : Nat) (s : ByteArray) (val : α → Value → World → World → Prop) (w : World) (e : Ending) (w' : World) : Prop :=
  Kept b none w w' ∧ ((∃ x s' v, p s = some (x, s') ∧ e = .returned v ∧ val x v w w' ∧ RdAt w' b s' false) ∨ (p s = none ∧ e = .panicked [{ v := .iface 56 (.agg #[]), recovered := false }]))
theorem pI_yes {s : ByteArray} {n : Nat} (h : rB s false n = false) : pI n s = some ((rN s false n : Int), rS s false n) := by
  rw [pI, pMap, pN, if_pos h]; rfl
theorem pI_no {s : ByteArray} {n : Nat} (h : rB s false n = true) : pI n s = none := by
  rw [pI, pMap, pN, if_neg (by rw [h]; decide)]; rfl
def vI (x : Int) (v : Value) (_ _ : World) : Prop := v = .int .i64 x
def vT (x : ByteArray) (v : Value) (_ _ : World) : Prop := v = .string x
theorem ipbyte_got (b : Nat) (s : ByteArray) (w : World) (h : RdAt w b s false) : Calls Try.prog 70 #[.agg #[.pointer (some ⟨b, 0, none⟩)]] w (Got (pI 1) b s vI w) := by
  cases hs : rB s false 1 with
  | false => exact (ipbyte_yes b s w h hs).mono fun e w' ⟨h1, h2, h3⟩ => ⟨h3, .inl ⟨_, _, _, pI_yes hs, h1, rfl, h2⟩⟩
  | true => exact (ipbyte_no b s w h hs).mono fun e w' ⟨h1, h3⟩ => ⟨h3, .inr ⟨pI_no hs, h1⟩⟩
theorem ipword_got (b : Nat) (s : ByteArray) (w : World) (h : RdAt w b s false) : Calls Try.prog 71 #[.agg #[.pointer (some ⟨b, 0, none⟩)]] w (Got (pI 2) b s vI w) := by
  cases hs : rB s false 2 with
  | false => exact (ipword_yes b s w h hs).mono fun e w' ⟨h1, h2, h3⟩ => ⟨h3, .inl ⟨_, _, _, pI_yes hs, h1, rfl, h2⟩⟩
  | true => exact (ipword_no b s w h hs).mono fun e w' ⟨h1, h3⟩ => ⟨h3, .inr ⟨pI_no hs, h1⟩⟩
theorem iptext_got (b : Nat) (s : ByteArray) (w : World) (h : RdAt w b s false) : Calls Try.prog 74 #[.agg #[.pointer (some ⟨b, 0, none⟩)]] w (Got pT b s vT w) := by
  cases hs : tB s false with
  | false => exact (iptext_yes b s w h hs).mono fun e w' ⟨h1, h2, h3⟩ => ⟨h3, .inl ⟨_, _, _, by rw [pT, if_pos hs], h1, rfl, h2⟩⟩
  | true => exact (iptext_no b s w h hs).mono fun e w' ⟨h1, h3⟩ => ⟨h3, .inr ⟨by rw [pT, if_neg (by rw [hs]; decide)], h1⟩⟩
theorem many_none {α : Type} {p : Ps α} {s : ByteArray} {k : Nat} (h : pMany p k s = none) : ∀ n, k ≤ n → pMany p n s = none
  | 0, hn => by rw [show k = 0 by omega] at h; exact h
  | n + 1, hn => by
    by_cases e : k = n + 1
    · rw [← e]; exact h
    · rw [pMany, many_none h n (by omega)]; rfl
theorem many_snoc {α : Type} {p : Ps α} {s s1 s2 : ByteArray} {k : Nat} {l : List α} {x : α} (h : pMany p k s = some (l, s1)) (hx : p s1 = some (x, s2)) : pMany p (k + 1) s = some (l ++ [x], s2) := by
  rw [pMany, h]
  show (p s1).map _ = _
  rw [hx]
  rfl
theorem many_fail {α : Type} {p : Ps α} {s s1 : ByteArray} {k : Nat} {l : List α} (h : pMany p k s = some (l, s1)) (hx : p s1 = none) : pMany p (k + 1) s = none := by
  rw [pMany, h]
  show (p s1).map _ = _
  rw [hx]
  rfl
theorem many_len {α : Type} {p : Ps α} {s : ByteArray} : ∀ {k : Nat} {l : List α} {s' : ByteArray}, pMany p k s = some (l, s') → l.length = k
  | 0, l, s', h => by cases h; rfl
  | k + 1, l, s', h => by
    rw [pMany] at h
    cases h1 : pMany p k s with
    | none => rw [h1] at h; cases h
    | some a =>
      rw [h1] at h
      simp only [Option.bind_some] at h
      cases h2 : p a.2 with
      | none => rw [h2] at h; cases h
      | some b =>
        rw [h2] at h
        simp only [Option.map_some, Option.some.injEq, Prod.mk.injEq] at h
        obtain ⟨rfl, rfl⟩ := h
        rw [List.length_append, many_len (l := a.1) (s' := a.2) h1]
        rfl
theorem list_of {α : Type} {p : Ps α} {s s1 : ByteArray} {n : Int} (h : pI 1 s = some (n, s1)) : ∃ k : Nat, n = (k : Int) ∧ k < 256 ∧ pList p s = pMany p k s1 := by
  unfold pI pMap at h
  cases hn : pN 1 s with
  | none => rw [hn] at h; cases h
  | some a =>
    rw [hn] at h
    simp only [Option.bind_some, Option.map_some, Option.some.injEq, Prod.mk.injEq] at h
    obtain ⟨rfl, rfl⟩ := h
    have := ((inv_N 1).back s a.1 a.2 hn).1
    exact ⟨a.1, rfl, by simpa using this, by rw [pList, hn]; rfl⟩
theorem list_no {α : Type} {p : Ps α} {s : ByteArray} (h : pI 1 s = none) : pList p s = none := by
  unfold pI pMap at h
  cases hn : pN 1 s with
  | none => rw [pList, hn]; rfl
  | some a => rw [hn] at h; cases h
end Go.Proofs.Ytfjcpghepkmbfaa

/- The program's parts of a message: signatures, numbers of members. -/
namespace Go.Proofs.Ytfjcpghepkmbfaa
open Go.RowKit

/-- A part under way: the reader at b, its own box, the block of its answer. -/
structure PrAt (b : Nat) (w0 w : World) (s : ByteArray) (Z : List Value) (TR : TypeId) : Prop where
  rd : RdAt w b s false
  kept : Kept b none w0 w
  box : BxAt w w0.heap.size [.pointer (some ⟨b, 0, none⟩)] 97
  res : BxAt w (w0.heap.size + 1) Z TR
  lt : b < w0.heap.size
theorem PrAt.call {b : Nat} {w0 w w' : World} {s s' : ByteArray} {Z : List Value} {TR : TypeId} (h : PrAt b w0 w s Z TR) (hk : Kept b none w w') (hr : RdAt w' b s' false) : PrAt b w0 w' s' Z TR :=
  ⟨hr, h.kept.trans hk (.inl rfl), h.box.kept hk (by have := h.lt; omega), h.res.kept hk (by have := h.lt; omega), h.lt⟩
theorem PrAt.ans {b : Nat} {w0 w w' : World} {s : ByteArray} {Z Z' : List Value} {TR : TypeId} (h : PrAt b w0 w s Z TR) (ho : One (w0.heap.size + 1) w w') (hz : w'.heap[w0.heap.size + 1]? = some (.cells Z'.toArray TR (0, 0))) : PrAt b w0 w' s Z' TR :=
  ⟨h.rd.one ho (by have := h.lt; omega), h.kept.one ho (by omega), h.box.one ho (by omega), hz, h.lt⟩
theorem PrAt.other {b k : Nat} {w0 w w' : World} {s : ByteArray} {Z : List Value} {TR : TypeId} (h : PrAt b w0 w s Z TR) (ho : One k w w') (hk : w0.heap.size + 1 < k) : PrAt b w0 w' s Z TR :=
  ⟨h.rd.one ho (by have := h.lt; omega), h.kept.one ho (by omega), h.box.one ho (by omega), h.res.one ho (by omega), h.lt⟩
theorem PrAt.under {b : Nat} {w0 w w' : World} {s : ByteArray} {Z : List Value} {TR : TypeId} (h : PrAt b w0 w s Z TR) (hb : Below w.heap.size w w') : PrAt b w0 w' s Z TR :=
  h.call ⟨hb.os, hb.tape, hb.output, hb.size, fun k hk _ _ => hb.block k hk⟩ ((hb.block b h.rd.lt).trans h.rd)
theorem pr_begin {b : Nat} {w : World} {s : ByteArray} (h : RdAt w b s false) (Z : List Value) (TR : TypeId) : PrAt b w ((w.alloc (.cells #[.pointer (some ⟨b, 0, none⟩)] 97)).alloc (.cells Z.toArray TR)) s Z TR := by
  have h1 : (w.alloc (.cells #[.pointer (some ⟨b, 0, none⟩)] 97)).heap.size = w.heap.size + 1 := by simp
  refine ⟨(h.alloc _).alloc _, ((Kept.refl b none w).alloc _).alloc _, ?_, ?_, h.lt⟩
  · exact (Below.heap_alloc _ _ _ (by rw [h1]; omega)).trans (heap_alloc_last w _)
  · have := heap_alloc_last (w.alloc (.cells #[.pointer (some ⟨b, 0, none⟩)] 97)) (.cells Z.toArray TR)
    rw [h1] at this
    exact this
/-- A part under way that answers no block of its own. -/
structure PlAt (b : Nat) (w0 w : World) (s : ByteArray) : Prop where
  rd : RdAt w b s false
  kept : Kept b none w0 w
  box : BxAt w w0.heap.size [.pointer (some ⟨b, 0, none⟩)] 97
  lt : b < w0.heap.size
theorem PlAt.call {b : Nat} {w0 w w' : World} {s s' : ByteArray} (h : PlAt b w0 w s) (hk : Kept b none w w') (hr : RdAt w' b s' false) : PlAt b w0 w' s' :=
  ⟨hr, h.kept.trans hk (.inl rfl), h.box.kept hk (by have := h.lt; omega), h.lt⟩
theorem PlAt.under {b : Nat} {w0 w w' : World} {s : ByteArray} (h : PlAt b w0 w s) (hb : Below w.heap.size w w') : PlAt b w0 w' s :=
  h.call ⟨hb.os, hb.tape, hb.output, hb.size, fun k hk _ _ => hb.block k hk⟩ ((hb.block b h.rd.lt).trans h.rd)
theorem pl_begin {b : Nat} {w : World} {s : ByteArray} (h : RdAt w b s false) : PlAt b w (w.alloc (.cells #[.pointer (some ⟨b, 0, none⟩)] 97)) s :=
  ⟨h.alloc _, (Kept.refl b none w).alloc _, heap_alloc_last w _, h.lt⟩
/-- A part whose list has grown by one element (behind a new block that held it). -/
theorem PlAt.grown {b : Nat} {w0 w w' : World} {s : ByteArray} {o : Obj} {r : Option Nat} (h : PlAt b w0 w s) (hg : (w.alloc o).grownBy w' r) (hr : ∀ g, r = some g → w0.heap.size < g) : PlAt b w0 w' s := by
  have hlt := h.rd.lt
  have hbx := lt_of_blk h.box
  have hb : ∀ k, k < w.heap.size → some k ≠ r → w'.heap[k]? = w.heap[k]? := fun k hk hn => (hg.block k (by simp; omega) hn).trans (Below.heap_alloc w o k hk)
  exact ⟨(hb b hlt (fun e => by have := hr b e.symm; have := h.lt; omega)).trans h.rd,
    ⟨hg.os.trans h.kept.os, hg.tape.trans h.kept.tape, hg.output.trans h.kept.output, Nat.le_trans h.kept.size (Nat.le_trans (by simp) hg.size), fun k hk h1 h2 => (hb k (Nat.lt_of_lt_of_le hk h.kept.size) (fun e => by have := hr k e.symm; omega)).trans (h.kept.block k hk h1 h2)⟩,
    (hb w0.heap.size hbx (fun e => by have := hr _ e.symm; omega)).trans h.box, h.lt⟩
def vSg (x : Sg) (v : Value) (_ _ : World) : Prop := v = .agg #[.int .i64 x.1, .string x.2]
set_option maxRecDepth 100000 in
set_option maxHeartbeats 1600000 in
theorem ipsig_got (b : Nat) (s : ByteArray) (w : World) (h : RdAt w b s false) : Calls Try.prog 92 #[.agg #[.pointer (some ⟨b, 0, none⟩)]] w (Got pSg b s vSg w) := by
  have H0 := hid (pr_begin h [.int .i64 0, .string ⟨#[]⟩] 48)
  have y0 := H0.out.box.cell 0 _ rfl
  clear h
  go_enter Try.func92, Try.ntmps92
  go_wp2_with fail
  refine (ipbyte_got b s _ H0.out.rd).mono ?_
  rintro e w1 ⟨hk, hor⟩
  rcases hor with ⟨x, s1, v1, hp, rfl, rfl, hr⟩ | ⟨hp, rfl⟩
  rotate_left
  · have HX := hid (And.intro hp hk)
    clear hp hk
    go_wp2
    exact ⟨rfl, H0.out.kept.trans HX.out.2 (.inl rfl), .inr ⟨by have ql := HX.out.1; simp [pSg, pSeq, ql], rfl⟩⟩
  have N1 := hid (H0.out.call hk hr)
  have HP1 := hid hp
  have HKc1 := hid hk
  clear hk hr hp y0
  have y0 := N1.out.box.cell 0 _ rfl
  go_wp2_with fail
  refine (iptext_got b s1 _ N1.out.rd).mono ?_
  rintro e w2 ⟨hk, hor⟩
  rcases hor with ⟨t, s2, v2, hp, rfl, rfl, hr⟩ | ⟨hp, rfl⟩
  rotate_left
  · have HX := hid (And.intro hp hk)
    clear hp hk
    go_wp2
    exact ⟨rfl, N1.out.kept.trans HX.out.2 (.inl rfl), .inr ⟨by have q0 := HP1.out; have ql := HX.out.1; simp [pSg, pSeq, q0, ql], rfl⟩⟩
  have N2 := hid (N1.out.call hk hr)
  have HP2 := hid hp
  have HKc2 := hid hk
  clear hk hr hp y0
  have y0 := N2.out.box.cell 0 _ rfl
  go_wp2_with (refine wl_store_blk rfl 48 _ _ rfl (w.heap.size + 1) 0 rfl #[.int .i64 x, .string t] rfl [.int .i64 0, .string ⟨#[]⟩] 48 N2.out.res (by simp) (by kernel_rfl) (by simp [Value.oneCell']) ?_; intro w3 Hz; have H4 : Hid (PrAt b w w3 s2 [.int .i64 x, .string t] 48) := hid (N2.out.ans Hz.out.2 Hz.out.1); clear Hz)
  have x0 := H4.out.res.cell 0 _ rfl
  have x1 := H4.out.res.cell 1 _ rfl
  refine bodyPost_ret (v := .agg #[.int .i64 x, .string t]) (by simp [results, Try.results92, go_sem, x0, x1]) rfl ?_
  exact ⟨H4.out.kept, .inl ⟨(x, t), s2, _, by have q0 := HP1.out; have q1 := HP2.out; simp [pSg, pSeq, q0, q1], rfl, rfl, H4.out.rd⟩⟩
/-- A list that was read lies in new memory. -/
def vL {α : Type} (d : List α → Dat) (x : List α) (v : Value) (w w' : World) : Prop := Reads (fun k => w.heap.size ≤ k) w' v (d x)
set_option maxRecDepth 100000 in
set_option maxHeartbeats 3200000 in
theorem ipmembers_got (b : Nat) (s : ByteArray) (w : World) (h : RdAt w b s false) : Calls Try.prog 75 #[.agg #[.pointer (some ⟨b, 0, none⟩)]] w (Got (pList (pI 1)) b s (vL dInts) w) := by
  have H0 := hid (pl_begin h)
  have y0 := H0.out.box.cell 0 _ rfl
  clear h
  go_enter Try.func75, Try.ntmps75
  go_wp2_with fail
  refine (ipbyte_got b s _ H0.out.rd).mono ?_
  rintro e w1 ⟨hk, hor⟩
  rcases hor with ⟨x, s1, v1, hp, rfl, rfl, hr⟩ | ⟨hp, rfl⟩
  rotate_left
  · have HX := hid (And.intro hp hk)
    clear hp hk
    go_wp2
    exact ⟨rfl, H0.out.kept.trans HX.out.2 (.inl rfl), .inr ⟨list_no HX.out.1, rfl⟩⟩
  obtain ⟨n, rfl, hn, hl⟩ := list_of (p := (pI 1)) hp
  have N1 := hid (H0.out.call hk hr)
  have HL := hid hl
  have hn1 : (n : Int) < 256 := by omega
  clear hk hr hp hl y0 hn
  go_wp2_with fail
  go_loopw [3, 6] (fun v i wr => ∃ (j : Nat) (l : List Int) (s2 : ByteArray) (vv : Value), j ≤ n ∧ i = .int .i64 (j : Int) ∧ vv = v ∧ pMany (pI 1) j s1 = some (l, s2) ∧ PlAt b w wr s2 ∧ OwnD 3 1 (w.heap.size + 1) (fun _ => False) wr vv (l.map (fun z : Int => [Dat.i z])))
    (fun _ i _ => ((n : Int) - intOf i).toNat)
  case atStart => exact ⟨0, [], s1, _, Nat.zero_le _, rfl, rfl, rfl, N1.out, OwnD.nil _ _ _ _ _⟩
  case round =>
    obtain ⟨j, l, s2, v, hj, rfl, rfl, hm, hpl, hO⟩ := hrel
    have HS := hid (And.intro hpl hO)
    have HM := hid hm
    clear hm hpl hO
    have hj0 : (0 : Int) ≤ (j : Int) := Int.natCast_nonneg _
    have y0 := HS.out.1.box.cell 0 _ rfl
    by_cases hjn : j = n
    · have hj1 : ¬ ((j : Int) < (n : Int)) := by omega
      have HE : Hid (j = n) := hid hjn
      clear hj hjn
      go_wp2
      go_ret
      refine ⟨HS.out.1.kept, .inl ⟨l, s2, _, ?_, rfl, ?_, HS.out.1.rd⟩⟩
      · rw [HL.out, ← HE.out]
        exact HM.out
      · exact (HS.out.2.reads).mono (fun k _ hk => by
          rcases hk with hk | hk
          · exact hk.elim
          · exact Nat.le_of_succ_le (HS.out.2.lt k hk).1)
    · have hj1 : (j : Int) < (n : Int) := by omega
      have HJ := hid (And.intro hj hjn)
      clear hj hjn
      go_wp2_with fail
      refine (ipbyte_got b s2 _ HS.out.1.rd).mono ?_
      rintro e w2 ⟨hk, hor⟩
      rcases hor with ⟨x, s3, v2, hp, rfl, rfl, hr⟩ | ⟨hp, rfl⟩
      rotate_left
      · have HX := hid (And.intro hp hk)
        clear hp hk
        go_wp2
        exact ⟨rfl, HS.out.1.kept.trans HX.out.2 (.inl rfl), .inr ⟨by rw [HL.out]; exact many_none (many_fail HM.out HX.out.1) n (by have := HJ.out; omega), rfl⟩⟩
      have M2 := hid (many_snoc HM.out hp)
      have hlen := many_len M2.out
      have S2 := hid (HS.out.1.call hk hr)
      have O2 := hid (HS.out.2.kept hk (fun hFb => hFb) (by have := HS.out.1.lt; omega))
      clear hk hr hp y0
      have hll : l.length + 1 ≤ 256 := by rw [List.length_append] at hlen; simp at hlen; omega
      go_wp2_with (first
        | (at_builtin; refine wl_add_D rfl _ _ 29 3 rfl (.int .i64 0) 1 8 Try.underlying29 (by kernel_rfl) rfl (by decide) (w.heap.size + 1) (fun _ => False) (fun _ => False) v (l.map (fun z : Int => [Dat.i z])) rfl (O2.out.under ((Below.refl w2.heap.size w2).alloc (Nat.le_refl _) _) (Nat.le_refl _)) (by have := lt_of_blk S2.out.box; simp; omega) w2.heap.size rfl ((fun z : Int => [Dat.i z]) x) [.int .i64 x] rfl rfl (fun j u hu => cell_at (heap_alloc_last w2 _) j u hu) (fun q dd hq => by match q, hq with | 0, hq => cases hq; exact ⟨_, rfl, .i _⟩ | q + 1, hq => cases hq) (by simp [Value.oneCell']) (fun _ _ h => h) O2.out.sep (fun _ h => h.elim) (by rw [List.length_map]; omega) (by rw [List.length_map]; unfold maxLen; omega) ?_; intro v' w' Hz; have H5 := hid Hz.out; clear Hz))
      go_roundw
      case rel => exact ⟨j + 1, l ++ [x], s3, _, by have := HJ.out; omega, by go_num, rfl, M2.out, S2.out.grown H5.out.2.1 (fun g hg => (O2.out.lt g hg).1), by rw [List.map_append]; exact H5.out.1⟩
      case measure => simp [intOf]; omega
set_option maxRecDepth 100000 in
set_option maxHeartbeats 3200000 in
theorem ipsigs_got (b : Nat) (s : ByteArray) (w : World) (h : RdAt w b s false) : Calls Try.prog 76 #[.agg #[.pointer (some ⟨b, 0, none⟩)]] w (Got (pList pSg) b s (vL dPairs) w) := by
  have H0 := hid (pl_begin h)
  have y0 := H0.out.box.cell 0 _ rfl
  clear h
  go_enter Try.func76, Try.ntmps76
  go_wp2_with fail
  refine (ipbyte_got b s _ H0.out.rd).mono ?_
  rintro e w1 ⟨hk, hor⟩
  rcases hor with ⟨x, s1, v1, hp, rfl, rfl, hr⟩ | ⟨hp, rfl⟩
  rotate_left
  · have HX := hid (And.intro hp hk)
    clear hp hk
    go_wp2
    exact ⟨rfl, H0.out.kept.trans HX.out.2 (.inl rfl), .inr ⟨list_no HX.out.1, rfl⟩⟩
  obtain ⟨n, rfl, hn, hl⟩ := list_of (p := pSg) hp
  have N1 := hid (H0.out.call hk hr)
  have HL := hid hl
  have hn1 : (n : Int) < 256 := by omega
  clear hk hr hp hl y0 hn
  go_wp2_with fail
  go_loopw [3, 6] (fun v i wr => ∃ (j : Nat) (l : List Sg) (s2 : ByteArray) (vv : Value), j ≤ n ∧ i = .int .i64 (j : Int) ∧ vv = v ∧ pMany pSg j s1 = some (l, s2) ∧ PlAt b w wr s2 ∧ OwnD 48 2 (w.heap.size + 1) (fun _ => False) wr vv (l.map (fun p : Sg => [Dat.i p.1, Dat.s p.2])))
    (fun _ i _ => ((n : Int) - intOf i).toNat)
  case atStart => exact ⟨0, [], s1, _, Nat.zero_le _, rfl, rfl, rfl, N1.out, OwnD.nil _ _ _ _ _⟩
  case round =>
    obtain ⟨j, l, s2, v, hj, rfl, rfl, hm, hpl, hO⟩ := hrel
    have HS := hid (And.intro hpl hO)
    have HM := hid hm
    clear hm hpl hO
    have hj0 : (0 : Int) ≤ (j : Int) := Int.natCast_nonneg _
    have y0 := HS.out.1.box.cell 0 _ rfl
    by_cases hjn : j = n
    · have hj1 : ¬ ((j : Int) < (n : Int)) := by omega
      have HE : Hid (j = n) := hid hjn
      clear hj hjn
      go_wp2
      go_ret
      refine ⟨HS.out.1.kept, .inl ⟨l, s2, _, ?_, rfl, ?_, HS.out.1.rd⟩⟩
      · rw [HL.out, ← HE.out]
        exact HM.out
      · exact (HS.out.2.reads).mono (fun k _ hk => by
          rcases hk with hk | hk
          · exact hk.elim
          · exact Nat.le_of_succ_le (HS.out.2.lt k hk).1)
    · have hj1 : (j : Int) < (n : Int) := by omega
      have HJ := hid (And.intro hj hjn)
      clear hj hjn
      go_wp2_with fail
      refine (ipsig_got b s2 _ HS.out.1.rd).mono ?_
      rintro e w2 ⟨hk, hor⟩
      rcases hor with ⟨x, s3, v2, hp, rfl, rfl, hr⟩ | ⟨hp, rfl⟩
      rotate_left
      · have HX := hid (And.intro hp hk)
        clear hp hk
        go_wp2
        exact ⟨rfl, HS.out.1.kept.trans HX.out.2 (.inl rfl), .inr ⟨by rw [HL.out]; exact many_none (many_fail HM.out HX.out.1) n (by have := HJ.out; omega), rfl⟩⟩
      have M2 := hid (many_snoc HM.out hp)
      have hlen := many_len M2.out
      have S2 := hid (HS.out.1.call hk hr)
      have O2 := hid (HS.out.2.kept hk (fun hFb => hFb) (by have := HS.out.1.lt; omega))
      clear hk hr hp y0
      have hll : l.length + 1 ≤ 256 := by rw [List.length_append] at hlen; simp at hlen; omega
      go_wp2_with (first
        | (at_builtin; refine wl_add_D rfl _ _ 30 48 rfl (.agg #[.int .i64 0, .string ⟨#[]⟩]) 2 24 Try.underlying30 (by kernel_rfl) rfl (by decide) (w.heap.size + 1) (fun _ => False) (fun _ => False) v (l.map (fun p : Sg => [Dat.i p.1, Dat.s p.2])) rfl (O2.out.under ((Below.refl w2.heap.size w2).alloc (Nat.le_refl _) _) (Nat.le_refl _)) (by have := lt_of_blk S2.out.box; simp; omega) w2.heap.size rfl ((fun p : Sg => [Dat.i p.1, Dat.s p.2]) x) [.int .i64 x.1, .string x.2] rfl rfl (fun j u hu => cell_at (heap_alloc_last w2 _) j u hu) (fun q dd hq => by match q, hq with | 0, hq => cases hq; exact ⟨_, rfl, .i _⟩ | 1, hq => cases hq; exact ⟨_, rfl, .s _⟩ | q + 2, hq => cases hq) (by simp [Value.oneCell']) (fun _ _ h => h) O2.out.sep (fun _ h => h.elim) (by rw [List.length_map]; omega) (by rw [List.length_map]; unfold maxLen; omega) ?_; intro v' w' Hz; have H5 := hid Hz.out; clear Hz))
      go_roundw
      case rel => exact ⟨j + 1, l ++ [x], s3, _, by have := HJ.out; omega, by go_num, rfl, M2.out, S2.out.grown H5.out.2.1 (fun g hg => (O2.out.lt g hg).1), by rw [List.map_append]; exact H5.out.1⟩
      case measure => simp [intOf]; omega
end Go.Proofs.Ytfjcpghepkmbfaa

/- The program's parts of a message: requests, results, configurations. -/
namespace Go.Proofs.Ytfjcpghepkmbfaa
open Go.RowKit

theorem pT_sz {s t s' : ByteArray} (h : pT s = some (t, s')) : t.size ≤ 65535 := (inv_T.back s t s' h).1
theorem map_of {α β : Type} {d : α → Option β} {p : Ps α} {s s' : ByteArray} {x : α} (h : p s = some (x, s')) : pMap d p s = (d x).map fun y => (y, s') := by rw [pMap, h]; rfl
theorem map_no {α β : Type} {d : α → Option β} {p : Ps α} {s : ByteArray} (h : p s = none) : pMap d p s = none := by rw [pMap, h]; rfl
def vRq (r : Rq) (v : Value) (_ _ : World) : Prop := v = .agg #[.int .i64 r.c, .int .i64 r.st, .int .i64 r.k, .string r.key, .float .f64 r.b, .int .i64 r.id]
def vRs (x : Int × Nat) (v : Value) (_ _ : World) : Prop := v = .agg #[.int .i64 x.1, .float .f64 x.2]
def vCf (x : Int × List Int) (v : Value) (w w' : World) : Prop := ∃ v2, v = .agg #[.int .i64 x.1, v2] ∧ Reads (fun k => w.heap.size ≤ k) w' v2 (dInts x.2)
set_option maxRecDepth 100000 in
set_option maxHeartbeats 3200000 in
theorem iprequest_got (b : Nat) (s : ByteArray) (w : World) (h : RdAt w b s false) : Calls Try.prog 72 #[.agg #[.pointer (some ⟨b, 0, none⟩)]] w (Got pRq b s vRq w) := by
  have H0 := hid (pr_begin h [.int .i64 0, .int .i64 0, .int .i64 0, .string ⟨#[]⟩, .float .f64 0, .int .i64 0] 26)
  have y0 := H0.out.box.cell 0 _ rfl
  clear h
  go_enter Try.func72, Try.ntmps72
  go_wp2_with fail
  refine (iptext_got b s _ H0.out.rd).mono ?_
  rintro e w1 ⟨hk, hor⟩
  rcases hor with ⟨t, s1, v1, hp, rfl, rfl, hr⟩ | ⟨hp, rfl⟩
  rotate_left
  · have HX := hid (And.intro hp hk)
    clear hp hk
    go_wp2
    exact ⟨rfl, H0.out.kept.trans HX.out.2 (.inl rfl), .inr ⟨map_no HX.out.1, rfl⟩⟩
  have N1 := hid (H0.out.call hk hr)
  have HP1 := hid hp
  have hsz := pT_sz hp
  clear hk hr hp y0
  go_wp2_with fail
  refine (dread_any t (by omega) _).mono ?_
  rintro e w2 ⟨rfl, hb⟩
  have N2 := hid (N1.out.under hb)
  clear hb hsz
  by_cases he : rdE t = 0
  · have hd : (rdE t == 0) = true := by rw [he]; rfl
    have HE := hid he
    clear he
    go_wp2_with (first
      | (have := N4; refine wl_store_blk rfl 26 _ _ rfl (w.heap.size + 1) 0 rfl #[.int .i64 (rdR t).c, .int .i64 (rdR t).st, .int .i64 (rdR t).k, .string (rdR t).key, .float .f64 (rdR t).b, .int .i64 (rdR t).id] rfl [.int .i64 0, .int .i64 0, .int .i64 0, .string ⟨#[]⟩, .float .f64 0, .int .i64 0] 26 N4.out.1.res (by simp) (by kernel_rfl) (by simp [Value.oneCell']) ?_; intro w5 Hz; have N5 : Hid (PrAt b w w5 s1 [.int .i64 (rdR t).c, .int .i64 (rdR t).st, .int .i64 (rdR t).k, .string (rdR t).key, .float .f64 (rdR t).b, .int .i64 (rdR t).id] 26 ∧ One (w.heap.size + 1) w3 w5) := hid ⟨N4.out.1.ans Hz.out.2 Hz.out.1, Hz.out.2⟩; clear Hz)
      | (refine wl_store_blk rfl 26 _ _ rfl w2.heap.size 0 rfl #[.int .i64 (rdR t).c, .int .i64 (rdR t).st, .int .i64 (rdR t).k, .string (rdR t).key, .float .f64 (rdR t).b, .int .i64 (rdR t).id] rfl [.int .i64 0, .int .i64 0, .int .i64 0, .string ⟨#[]⟩, .float .f64 0, .int .i64 0] 26 (heap_alloc_last w2 _) (by simp) (by kernel_rfl) (by simp [Value.oneCell']) ?_; intro w3 Hz; have N4 : Hid (PrAt b w w3 s1 [.int .i64 0, .int .i64 0, .int .i64 0, .string ⟨#[]⟩, .float .f64 0, .int .i64 0] 26 ∧ BxAt w3 w2.heap.size [.int .i64 (rdR t).c, .int .i64 (rdR t).st, .int .i64 (rdR t).k, .string (rdR t).key, .float .f64 (rdR t).b, .int .i64 (rdR t).id] 26 ∧ Below w2.heap.size w2 w3) := hid (by have hb := Hz.out.2.below ((Below.refl w2.heap.size w2).alloc (Nat.le_refl _) _) (Nat.le_refl _); exact ⟨N2.out.under hb, Hz.out.1, hb⟩); clear Hz; have c0 := N4.out.2.1.cell 0 _ rfl; have c1 := N4.out.2.1.cell 1 _ rfl; have c2 := N4.out.2.1.cell 2 _ rfl; have c3 := N4.out.2.1.cell 3 _ rfl; have c4 := N4.out.2.1.cell 4 _ rfl; have c5 := N4.out.2.1.cell 5 _ rfl)
      | (go_at_call 49; refine (ineed_yes _).mono ?_; rintro e wz ⟨rfl, hw⟩; replace hw := hw.symm; subst hw))
    have x0 := N5.out.1.res.cell 0 _ rfl; have x1 := N5.out.1.res.cell 1 _ rfl; have x2 := N5.out.1.res.cell 2 _ rfl; have x3 := N5.out.1.res.cell 3 _ rfl; have x4 := N5.out.1.res.cell 4 _ rfl; have x5 := N5.out.1.res.cell 5 _ rfl
    refine bodyPost_ret (v := .agg #[.int .i64 (rdR t).c, .int .i64 (rdR t).st, .int .i64 (rdR t).k, .string (rdR t).key, .float .f64 (rdR t).b, .int .i64 (rdR t).id]) (by simp [results, Try.results72, go_sem, x0, x1, x2, x3, x4, x5]) rfl ?_
    refine ⟨N5.out.1.kept, .inl ⟨rdR t, s1, _, ?_, rfl, rfl, N5.out.1.rd⟩⟩
    have := HP1.out
    rw [pRq, map_of this, if_pos HE.out]
    rfl
  · have hd : (rdE t == 0) = false := by rw [beq_eq_false_iff_ne]; exact he
    have HE := hid he
    clear he
    go_wp2_with (first
      | (refine wl_store_blk rfl 26 _ _ rfl w2.heap.size 0 rfl #[.int .i64 (rdR t).c, .int .i64 (rdR t).st, .int .i64 (rdR t).k, .string (rdR t).key, .float .f64 (rdR t).b, .int .i64 (rdR t).id] rfl [.int .i64 0, .int .i64 0, .int .i64 0, .string ⟨#[]⟩, .float .f64 0, .int .i64 0] 26 (heap_alloc_last w2 _) (by simp) (by kernel_rfl) (by simp [Value.oneCell']) ?_; intro w3 Hz; have N4 : Hid (PrAt b w w3 s1 [.int .i64 0, .int .i64 0, .int .i64 0, .string ⟨#[]⟩, .float .f64 0, .int .i64 0] 26 ∧ True) := hid (by have hb := Hz.out.2.below ((Below.refl w2.heap.size w2).alloc (Nat.le_refl _) _) (Nat.le_refl _); exact ⟨N2.out.under hb, trivial⟩); clear Hz)
      | (go_at_call 49; refine (ineed_no _).mono ?_; rintro e wz ⟨rfl, hw⟩; replace hw := hw.symm; subst hw))
    exact ⟨rfl, N4.out.1.kept, .inr ⟨by have := HP1.out; rw [pRq, map_of this, if_neg HE.out]; rfl, rfl⟩⟩
set_option maxRecDepth 100000 in
set_option maxHeartbeats 3200000 in
theorem ipresult_got (b : Nat) (s : ByteArray) (w : World) (h : RdAt w b s false) : Calls Try.prog 73 #[.agg #[.pointer (some ⟨b, 0, none⟩)]] w (Got pRs b s vRs w) := by
  have H0 := hid (pr_begin h [.int .i64 0, .float .f64 0] 28)
  have y0 := H0.out.box.cell 0 _ rfl
  clear h
  go_enter Try.func73, Try.ntmps73
  go_wp2_with fail
  refine (iptext_got b s _ H0.out.rd).mono ?_
  rintro e w1 ⟨hk, hor⟩
  rcases hor with ⟨t, s1, v1, hp, rfl, rfl, hr⟩ | ⟨hp, rfl⟩
  rotate_left
  · have HX := hid (And.intro hp hk)
    clear hp hk
    go_wp2
    exact ⟨rfl, H0.out.kept.trans HX.out.2 (.inl rfl), .inr ⟨map_no HX.out.1, rfl⟩⟩
  have N1 := hid (H0.out.call hk hr)
  have HP1 := hid hp
  have hsz := pT_sz hp
  clear hk hr hp y0
  go_wp2_with fail
  refine (dreadResult_any t _).mono ?_
  rintro e w2 ⟨rfl, hb⟩
  have N2 := hid (N1.out.under hb)
  clear hb hsz
  by_cases he : rsR t = 0
  · have hd : (rsR t == 0) = true := by rw [he]; rfl
    have HE := hid he
    clear he
    go_wp2_with (first
      | (have := N4; refine wl_store_blk rfl 28 _ _ rfl (w.heap.size + 1) 0 rfl #[.int .i64 (rsC t), .float .f64 (rsF t)] rfl [.int .i64 0, .float .f64 0] 28 N4.out.1.res (by simp) (by kernel_rfl) (by simp [Value.oneCell']) ?_; intro w5 Hz; have N5 : Hid (PrAt b w w5 s1 [.int .i64 (rsC t), .float .f64 (rsF t)] 28 ∧ One (w.heap.size + 1) w3 w5) := hid ⟨N4.out.1.ans Hz.out.2 Hz.out.1, Hz.out.2⟩; clear Hz)
      | (refine wl_store_blk rfl 28 _ _ rfl w2.heap.size 0 rfl #[.int .i64 (rsC t), .float .f64 (rsF t)] rfl [.int .i64 0, .float .f64 0] 28 (heap_alloc_last w2 _) (by simp) (by kernel_rfl) (by simp [Value.oneCell']) ?_; intro w3 Hz; have N4 : Hid (PrAt b w w3 s1 [.int .i64 0, .float .f64 0] 28 ∧ BxAt w3 w2.heap.size [.int .i64 (rsC t), .float .f64 (rsF t)] 28 ∧ Below w2.heap.size w2 w3) := hid (by have hb := Hz.out.2.below ((Below.refl w2.heap.size w2).alloc (Nat.le_refl _) _) (Nat.le_refl _); exact ⟨N2.out.under hb, Hz.out.1, hb⟩); clear Hz; have c0 := N4.out.2.1.cell 0 _ rfl; have c1 := N4.out.2.1.cell 1 _ rfl)
      | (go_at_call 49; refine (ineed_yes _).mono ?_; rintro e wz ⟨rfl, hw⟩; replace hw := hw.symm; subst hw))
    have x0 := N5.out.1.res.cell 0 _ rfl; have x1 := N5.out.1.res.cell 1 _ rfl
    refine bodyPost_ret (v := .agg #[.int .i64 (rsC t), .float .f64 (rsF t)]) (by simp [results, Try.results73, go_sem, x0, x1]) rfl ?_
    refine ⟨N5.out.1.kept, .inl ⟨(rsC t, rsF t), s1, _, ?_, rfl, rfl, N5.out.1.rd⟩⟩
    have := HP1.out
    rw [pRs, map_of this, if_pos HE.out]
    rfl
  · have hd : (rsR t == 0) = false := by rw [beq_eq_false_iff_ne]; exact he
    have HE := hid he
    clear he
    go_wp2_with (first
      | (refine wl_store_blk rfl 28 _ _ rfl w2.heap.size 0 rfl #[.int .i64 (rsC t), .float .f64 (rsF t)] rfl [.int .i64 0, .float .f64 0] 28 (heap_alloc_last w2 _) (by simp) (by kernel_rfl) (by simp [Value.oneCell']) ?_; intro w3 Hz; have N4 : Hid (PrAt b w w3 s1 [.int .i64 0, .float .f64 0] 28 ∧ True) := hid (by have hb := Hz.out.2.below ((Below.refl w2.heap.size w2).alloc (Nat.le_refl _) _) (Nat.le_refl _); exact ⟨N2.out.under hb, trivial⟩); clear Hz)
      | (go_at_call 49; refine (ineed_no _).mono ?_; rintro e wz ⟨rfl, hw⟩; replace hw := hw.symm; subst hw))
    exact ⟨rfl, N4.out.1.kept, .inr ⟨by have := HP1.out; rw [pRs, map_of this, if_neg HE.out]; rfl, rfl⟩⟩
set_option maxRecDepth 100000 in
set_option maxHeartbeats 3200000 in
theorem ipconf_got (b : Nat) (s : ByteArray) (w : World) (h : RdAt w b s false) : Calls Try.prog 94 #[.agg #[.pointer (some ⟨b, 0, none⟩)]] w (Got pCf b s vCf w) := by
  have H0 := hid (pr_begin h [.int .i64 0, .slice none 0 0] 61)
  have y0 := H0.out.box.cell 0 _ rfl
  clear h
  go_enter Try.func94, Try.ntmps94
  go_wp2_with fail
  refine (iptext_got b s _ H0.out.rd).mono ?_
  rintro e w1 ⟨hk, hor⟩
  rcases hor with ⟨t, s1, v1, hp, rfl, rfl, hr⟩ | ⟨hp, rfl⟩
  rotate_left
  · have HX := hid (And.intro hp hk)
    clear hp hk
    go_wp2
    exact ⟨rfl, H0.out.kept.trans HX.out.2 (.inl rfl), .inr ⟨map_no HX.out.1, rfl⟩⟩
  have N1 := hid (H0.out.call hk hr)
  have HP1 := hid hp
  have hsz := pT_sz hp
  clear hk hr hp y0
  go_wp2_with fail
  refine (cread_any t _).mono ?_
  rintro e w2 ⟨v2, rfl, hO⟩
  have hb : Below w1.heap.size w1 w2 := hO.bel
  obtain ⟨ad, cp, rfl, hI⟩ := own_ints hO.own
  have HO := hid (And.intro hO hI)
  have HZ : Hid (w.heap.size + 1 < w1.heap.size) := hid (lt_of_blk N1.out.res)
  clear hO hI
  have N2 := hid (N1.out.under hb)
  clear hb hsz
  by_cases he : readE t = 0
  · have hd : (readE t == 0) = true := by rw [he]; rfl
    have HE := hid he
    clear he
    go_wp2_with (first
      | (have := N4; refine wl_store_blk rfl 61 _ _ rfl (w.heap.size + 1) 0 rfl #[.int .i64 (readZ t), .slice ad (readM t).length cp] rfl [.int .i64 0, .slice none 0 0] 61 N4.out.1.res (by simp) (by kernel_rfl) (by simp [Value.oneCell']) ?_; intro w5 Hz; have N5 : Hid (PrAt b w w5 s1 [.int .i64 (readZ t), .slice ad (readM t).length cp] 61 ∧ One (w.heap.size + 1) w3 w5) := hid ⟨N4.out.1.ans Hz.out.2 Hz.out.1, Hz.out.2⟩; clear Hz)
      | (refine wl_store_blk rfl 61 _ _ rfl w2.heap.size 0 rfl #[.int .i64 (readZ t), .slice ad (readM t).length cp] rfl [.int .i64 0, .slice none 0 0] 61 (heap_alloc_last w2 _) (by simp) (by kernel_rfl) (by simp [Value.oneCell']) ?_; intro w3 Hz; have N4 : Hid (PrAt b w w3 s1 [.int .i64 0, .slice none 0 0] 61 ∧ BxAt w3 w2.heap.size [.int .i64 (readZ t), .slice ad (readM t).length cp] 61 ∧ Below w2.heap.size w2 w3) := hid (by have hb := Hz.out.2.below ((Below.refl w2.heap.size w2).alloc (Nat.le_refl _) _) (Nat.le_refl _); exact ⟨N2.out.under hb, Hz.out.1, hb⟩); clear Hz; have c0 := N4.out.2.1.cell 0 _ rfl; have c1 := N4.out.2.1.cell 1 _ rfl)
      | (go_at_call 49; refine (ineed_yes _).mono ?_; rintro e wz ⟨rfl, hw⟩; replace hw := hw.symm; subst hw))
    have x0 := N5.out.1.res.cell 0 _ rfl; have x1 := N5.out.1.res.cell 1 _ rfl
    refine bodyPost_ret (v := .agg #[.int .i64 (readZ t), .slice ad (readM t).length cp]) (by simp [results, Try.results94, go_sem, x0, x1]) rfl ?_
    refine ⟨N5.out.1.kept, .inl ⟨(readZ t, readM t), s1, _, ?_, rfl, ⟨_, rfl, ?_⟩, N5.out.1.rd⟩⟩
    · have := HP1.out
      rw [pCf, map_of this, if_pos HE.out]
      rfl
    · have hR : Reads (fun k => w1.heap.size ≤ k) w2 (.slice ad (readM t).length cp) (dInts (readM t)) := ints_reads HO.out.2 (fun x hx _ => by
        rcases HO.out.1.own.2 with ⟨hv, _⟩ | ⟨g, cap, cur, hv, hB, _⟩
        · rw [hx] at hv; cases hv
        · rw [hx] at hv; cases hv; exact hB)
      exact ((hR.under N4.out.2.2 (Nat.le_refl _)).one N5.out.2 (by have := HZ.out; omega)).mono (fun k _ hk => by have := HZ.out; omega)
  · have hd : (readE t == 0) = false := by rw [beq_eq_false_iff_ne]; exact he
    have HE := hid he
    clear he
    go_wp2_with (first
      | (refine wl_store_blk rfl 61 _ _ rfl w2.heap.size 0 rfl #[.int .i64 (readZ t), .slice ad (readM t).length cp] rfl [.int .i64 0, .slice none 0 0] 61 (heap_alloc_last w2 _) (by simp) (by kernel_rfl) (by simp [Value.oneCell']) ?_; intro w3 Hz; have N4 : Hid (PrAt b w w3 s1 [.int .i64 0, .slice none 0 0] 61 ∧ True) := hid (by have hb := Hz.out.2.below ((Below.refl w2.heap.size w2).alloc (Nat.le_refl _) _) (Nat.le_refl _); exact ⟨N2.out.under hb, trivial⟩); clear Hz)
      | (go_at_call 49; refine (ineed_no _).mono ?_; rintro e wz ⟨rfl, hw⟩; replace hw := hw.symm; subst hw))
    exact ⟨rfl, N4.out.1.kept, .inr ⟨by have := HP1.out; rw [pCf, map_of this, if_neg HE.out]; rfl, rfl⟩⟩
end Go.Proofs.Ytfjcpghepkmbfaa

/- The program's parts of a message: certificates. -/
namespace Go.Proofs.Ytfjcpghepkmbfaa
open Go.RowKit

def vCt (c : Ct) (v : Value) (w w' : World) : Prop := ∃ v8, v = .agg #[.int .i64 c.1, .int .i64 c.2.1, .int .i64 c.2.2.1.c, .int .i64 c.2.2.1.st, .int .i64 c.2.2.1.k, .string c.2.2.1.key, .float .f64 c.2.2.1.b, .int .i64 c.2.2.1.id, v8] ∧ Reads (fun k => w.heap.size ≤ k) w' v8 (dPairs c.2.2.2)
set_option maxRecDepth 100000 in
set_option maxHeartbeats 6400000 in
theorem ipcert_got (b : Nat) (s : ByteArray) (w : World) (h : RdAt w b s false) : Calls Try.prog 104 #[.agg #[.pointer (some ⟨b, 0, none⟩)]] w (Got pCt b s vCt w) := by
  have M0 := hid ((pr_begin h [.int .i64 0, .int .i64 0, .int .i64 0, .int .i64 0, .int .i64 0, .string ⟨#[]⟩, .float .f64 0, .int .i64 0, .slice none 0 0] 72).under ((Below.refl _ _).alloc (Nat.le_refl _) (.cells #[.int .i64 0, .int .i64 0, .int .i64 0, .int .i64 0, .int .i64 0, .string ⟨#[]⟩, .float .f64 0, .int .i64 0, .slice none 0 0] 72)))
  have D0 : Hid (BxAt (((w.alloc (.cells #[.pointer (some ⟨b, 0, none⟩)] 97)).alloc (.cells #[.int .i64 0, .int .i64 0, .int .i64 0, .int .i64 0, .int .i64 0, .string ⟨#[]⟩, .float .f64 0, .int .i64 0, .slice none 0 0] 72)).alloc (.cells #[.int .i64 0, .int .i64 0, .int .i64 0, .int .i64 0, .int .i64 0, .string ⟨#[]⟩, .float .f64 0, .int .i64 0, .slice none 0 0] 72)) (w.heap.size + 2) [.int .i64 0, .int .i64 0, .int .i64 0, .int .i64 0, .int .i64 0, .string ⟨#[]⟩, .float .f64 0, .int .i64 0, .slice none 0 0] 72) := hid (by
    have := heap_alloc_last ((w.alloc (.cells #[.pointer (some ⟨b, 0, none⟩)] 97)).alloc (.cells #[.int .i64 0, .int .i64 0, .int .i64 0, .int .i64 0, .int .i64 0, .string ⟨#[]⟩, .float .f64 0, .int .i64 0, .slice none 0 0] 72)) (.cells #[.int .i64 0, .int .i64 0, .int .i64 0, .int .i64 0, .int .i64 0, .string ⟨#[]⟩, .float .f64 0, .int .i64 0, .slice none 0 0] 72)
    rw [show ((w.alloc (.cells #[.pointer (some ⟨b, 0, none⟩)] 97)).alloc (.cells #[.int .i64 0, .int .i64 0, .int .i64 0, .int .i64 0, .int .i64 0, .string ⟨#[]⟩, .float .f64 0, .int .i64 0, .slice none 0 0] 72)).heap.size = w.heap.size + 2 by simp] at this
    exact this)
  have y0 := M0.out.box.cell 0 _ rfl
  have hlt := h.lt
  clear h
  go_enter Try.func104, Try.ntmps104
  try simp only [List.append]
  try go_wp2_with fail
  refine (ipbyte_got b s _ M0.out.rd).mono ?_
  rintro e w1 ⟨hk, hor⟩
  rcases hor with ⟨x, s1, v1, hp, rfl, rfl, hr⟩ | ⟨hp, rfl⟩
  rotate_left
  · have HX := hid (And.intro hp hk)
    clear hp hk
    go_wp2
    exact ⟨rfl, M0.out.kept.trans HX.out.2 (.inl rfl), .inr ⟨by have ql := HX.out.1; simp [pCt, pSeq, pSgs, ql], rfl⟩⟩
  have N1 := hid (M0.out.call hk hr)
  have C1 := hid (D0.out.kept hk (by omega))
  have HP1 := hid hp
  clear hk hr hp y0
  have y0 := N1.out.box.cell 0 _ rfl
  go_wp2_with (refine wl_store1 rfl 3 _ _ rfl (w.heap.size + 2) 0 rfl (.int .i64 x) rfl rfl rfl [.int .i64 0, .int .i64 0, .int .i64 0, .int .i64 0, .int .i64 0, .string ⟨#[]⟩, .float .f64 0, .int .i64 0, .slice none 0 0] 72 C1.out (by simp) (by kernel_rfl) ?_; intro u1 Hz; have M1 : Hid (PrAt b w u1 s1 [.int .i64 0, .int .i64 0, .int .i64 0, .int .i64 0, .int .i64 0, .string ⟨#[]⟩, .float .f64 0, .int .i64 0, .slice none 0 0] 72) := hid (N1.out.other Hz.out.2 (by omega)); have D1 : Hid (BxAt u1 (w.heap.size + 2) [.int .i64 x, .int .i64 0, .int .i64 0, .int .i64 0, .int .i64 0, .string ⟨#[]⟩, .float .f64 0, .int .i64 0, .slice none 0 0] 72) := hid Hz.out.1; clear Hz y0; have y0 := M1.out.box.cell 0 _ rfl)
  try go_wp2_with fail
  refine (ipword_got b s1 _ M1.out.rd).mono ?_
  rintro e w2 ⟨hk, hor⟩
  rcases hor with ⟨y, s2, v2, hp, rfl, rfl, hr⟩ | ⟨hp, rfl⟩
  rotate_left
  · have HX := hid (And.intro hp hk)
    clear hp hk
    go_wp2
    exact ⟨rfl, M1.out.kept.trans HX.out.2 (.inl rfl), .inr ⟨by have q0 := HP1.out; have ql := HX.out.1; simp [pCt, pSeq, pSgs, q0, ql], rfl⟩⟩
  have N2 := hid (M1.out.call hk hr)
  have C2 := hid (D1.out.kept hk (by omega))
  have HP2 := hid hp
  clear hk hr hp y0
  have y0 := N2.out.box.cell 0 _ rfl
  go_wp2_with (refine wl_store1 rfl 3 _ _ rfl (w.heap.size + 2) 1 rfl (.int .i64 y) rfl rfl rfl [.int .i64 x, .int .i64 0, .int .i64 0, .int .i64 0, .int .i64 0, .string ⟨#[]⟩, .float .f64 0, .int .i64 0, .slice none 0 0] 72 C2.out (by simp) (by kernel_rfl) ?_; intro u2 Hz; have M2 : Hid (PrAt b w u2 s2 [.int .i64 0, .int .i64 0, .int .i64 0, .int .i64 0, .int .i64 0, .string ⟨#[]⟩, .float .f64 0, .int .i64 0, .slice none 0 0] 72) := hid (N2.out.other Hz.out.2 (by omega)); have D2 : Hid (BxAt u2 (w.heap.size + 2) [.int .i64 x, .int .i64 y, .int .i64 0, .int .i64 0, .int .i64 0, .string ⟨#[]⟩, .float .f64 0, .int .i64 0, .slice none 0 0] 72) := hid Hz.out.1; clear Hz y0; have y0 := M2.out.box.cell 0 _ rfl)
  try go_wp2_with fail
  refine (iprequest_got b s2 _ M2.out.rd).mono ?_
  rintro e w3 ⟨hk, hor⟩
  rcases hor with ⟨r, s3, v3, hp, rfl, rfl, hr⟩ | ⟨hp, rfl⟩
  rotate_left
  · have HX := hid (And.intro hp hk)
    clear hp hk
    go_wp2
    exact ⟨rfl, M2.out.kept.trans HX.out.2 (.inl rfl), .inr ⟨by have q0 := HP1.out; have q1 := HP2.out; have ql := HX.out.1; simp [pCt, pSeq, pSgs, q0, q1, ql], rfl⟩⟩
  have N3 := hid (M2.out.call hk hr)
  have C3 := hid (D2.out.kept hk (by omega))
  have HP3 := hid hp
  clear hk hr hp y0
  have y0 := N3.out.box.cell 0 _ rfl
  go_wp2_with (refine wl_store_blk rfl 26 _ _ rfl (w.heap.size + 2) 2 rfl #[.int .i64 r.c, .int .i64 r.st, .int .i64 r.k, .string r.key, .float .f64 r.b, .int .i64 r.id] rfl [.int .i64 x, .int .i64 y, .int .i64 0, .int .i64 0, .int .i64 0, .string ⟨#[]⟩, .float .f64 0, .int .i64 0, .slice none 0 0] 72 C3.out (by simp) (by kernel_rfl) (by simp [Value.oneCell']) ?_; intro u3 Hz; have M3 : Hid (PrAt b w u3 s3 [.int .i64 0, .int .i64 0, .int .i64 0, .int .i64 0, .int .i64 0, .string ⟨#[]⟩, .float .f64 0, .int .i64 0, .slice none 0 0] 72) := hid (N3.out.other Hz.out.2 (by omega)); have D3 : Hid (BxAt u3 (w.heap.size + 2) [.int .i64 x, .int .i64 y, .int .i64 r.c, .int .i64 r.st, .int .i64 r.k, .string r.key, .float .f64 r.b, .int .i64 r.id, .slice none 0 0] 72) := hid Hz.out.1; clear Hz y0; have y0 := M3.out.box.cell 0 _ rfl)
  try go_wp2_with fail
  refine (ipsigs_got b s3 _ M3.out.rd).mono ?_
  rintro e w4 ⟨hk, hor⟩
  rcases hor with ⟨g, s4, v4, hp, rfl, hl4, hr⟩ | ⟨hp, rfl⟩
  rotate_left
  · have HX := hid (And.intro hp hk)
    clear hp hk
    go_wp2
    exact ⟨rfl, M3.out.kept.trans HX.out.2 (.inl rfl), .inr ⟨by have q0 := HP1.out; have q1 := HP2.out; have q2 := HP3.out; have ql := HX.out.1; simp [pCt, pSeq, pSgs, q0, q1, q2, ql], rfl⟩⟩
  obtain ⟨ad4, cp4, hv4⟩ := Reads.form hl4
  rw [List.length_map] at hv4
  subst hv4
  have RL4 : Hid (Reads (fun k => w.heap.size + 3 ≤ k) w4 _ (dPairs g)) := hid (hl4.mono (fun k _ hkk => by have := lt_of_blk D3.out; omega))
  clear hl4
  have N4 := hid (M3.out.call hk hr)
  have C4 := hid (D3.out.kept hk (by omega))
  have HP4 := hid hp
  clear hk hr hp y0
  have y0 := N4.out.box.cell 0 _ rfl
  go_wp2_with (first
    | (have := D4; refine wl_store_blk rfl 72 _ _ rfl (w.heap.size + 1) 0 rfl #[.int .i64 x, .int .i64 y, .int .i64 r.c, .int .i64 r.st, .int .i64 r.k, .string r.key, .float .f64 r.b, .int .i64 r.id, .slice ad4 g.length cp4] rfl [.int .i64 0, .int .i64 0, .int .i64 0, .int .i64 0, .int .i64 0, .string ⟨#[]⟩, .float .f64 0, .int .i64 0, .slice none 0 0] 72 M4.out.res (by simp) (by kernel_rfl) (by simp [Value.oneCell']) ?_; intro ue Hz; have ME : Hid (PrAt b w ue s4 [.int .i64 x, .int .i64 y, .int .i64 r.c, .int .i64 r.st, .int .i64 r.k, .string r.key, .float .f64 r.b, .int .i64 r.id, .slice ad4 g.length cp4] 72) := hid (M4.out.ans Hz.out.2 Hz.out.1); have RL4 := hid (RL4.out.one Hz.out.2 (by omega)); clear Hz)
    | (refine wl_store1 rfl 30 _ _ rfl (w.heap.size + 2) 8 rfl (.slice ad4 g.length cp4) rfl rfl rfl [.int .i64 x, .int .i64 y, .int .i64 r.c, .int .i64 r.st, .int .i64 r.k, .string r.key, .float .f64 r.b, .int .i64 r.id, .slice none 0 0] 72 C4.out (by simp) (by kernel_rfl) ?_; intro u4 Hz; have M4 : Hid (PrAt b w u4 s4 [.int .i64 0, .int .i64 0, .int .i64 0, .int .i64 0, .int .i64 0, .string ⟨#[]⟩, .float .f64 0, .int .i64 0, .slice none 0 0] 72) := hid (N4.out.other Hz.out.2 (by omega)); have D4 : Hid (BxAt u4 (w.heap.size + 2) [.int .i64 x, .int .i64 y, .int .i64 r.c, .int .i64 r.st, .int .i64 r.k, .string r.key, .float .f64 r.b, .int .i64 r.id, .slice ad4 g.length cp4] 72) := hid Hz.out.1; have RL4 := hid (RL4.out.one Hz.out.2 (by omega)); clear Hz y0; have y0 := M4.out.box.cell 0 _ rfl; have z0 := D4.out.cell 0 _ rfl; have z1 := D4.out.cell 1 _ rfl; have z2 := D4.out.cell 2 _ rfl; have z3 := D4.out.cell 3 _ rfl; have z4 := D4.out.cell 4 _ rfl; have z5 := D4.out.cell 5 _ rfl; have z6 := D4.out.cell 6 _ rfl; have z7 := D4.out.cell 7 _ rfl; have z8 := D4.out.cell 8 _ rfl))
  have x0 := ME.out.res.cell 0 _ rfl
  have x1 := ME.out.res.cell 1 _ rfl
  have x2 := ME.out.res.cell 2 _ rfl
  have x3 := ME.out.res.cell 3 _ rfl
  have x4 := ME.out.res.cell 4 _ rfl
  have x5 := ME.out.res.cell 5 _ rfl
  have x6 := ME.out.res.cell 6 _ rfl
  have x7 := ME.out.res.cell 7 _ rfl
  have x8 := ME.out.res.cell 8 _ rfl
  refine bodyPost_ret (v := .agg #[.int .i64 x, .int .i64 y, .int .i64 r.c, .int .i64 r.st, .int .i64 r.k, .string r.key, .float .f64 r.b, .int .i64 r.id, .slice ad4 g.length cp4]) (by simp [results, Try.results104, go_sem, x0, x1, x2, x3, x4, x5, x6, x7, x8]) rfl ?_
  exact ⟨ME.out.kept, .inl ⟨(x, y, r, g), s4, _, by have q0 := HP1.out; have q1 := HP2.out; have q2 := HP3.out; have q3 := HP4.out; simp [pCt, pSeq, pSgs, q0, q1, q2, q3], rfl, ⟨_, rfl, RL4.out.mono (fun k _ hk => by omega)⟩, ME.out.rd⟩⟩
end Go.Proofs.Ytfjcpghepkmbfaa

/- The program's parts of a message: changes. -/
namespace Go.Proofs.Ytfjcpghepkmbfaa
open Go.RowKit

theorem pr_grown {b : Nat} {w0 w w' : World} {s : ByteArray} {Z C : List Value} {TR TC : TypeId} {o : Obj} {r : Option Nat} (h : PrAt b w0 w s Z TR) (hC : BxAt w (w0.heap.size + 2) C TC) (hg : (w.alloc o).grownBy w' r) (hr : ∀ g, r = some g → w0.heap.size + 3 ≤ g) : PrAt b w0 w' s Z TR ∧ BxAt w' (w0.heap.size + 2) C TC := by
  have hlt := h.rd.lt
  have hb : ∀ k, k < w.heap.size → some k ≠ r → w'.heap[k]? = w.heap[k]? := fun k hk hn => (hg.block k (by simp; omega) hn).trans (Below.heap_alloc w o k hk)
  have hne : ∀ k, k < w0.heap.size + 3 → some k ≠ r := fun k hk e => by have := hr k e.symm; omega
  have hl := h.lt
  exact ⟨⟨(hb b hlt (hne b (by omega))).trans h.rd,
    ⟨hg.os.trans h.kept.os, hg.tape.trans h.kept.tape, hg.output.trans h.kept.output, Nat.le_trans h.kept.size (Nat.le_trans (by simp) hg.size), fun k hk h1 h2 => (hb k (Nat.lt_of_lt_of_le hk h.kept.size) (hne k (by omega))).trans (h.kept.block k hk h1 h2)⟩,
    (hb _ (lt_of_blk h.box) (hne _ (by omega))).trans h.box, (hb _ (lt_of_blk h.res) (hne _ (by omega))).trans h.res, h.lt⟩, (hb _ (lt_of_blk hC) (hne _ (by omega))).trans hC⟩
def vCg (c : Cg) (v : Value) (w w' : World) : Prop := ∃ v2, v = .agg #[.int .i64 c.1, .int .i64 c.2.1, v2, .int .i64 c.2.2.2.1, .string c.2.2.2.2] ∧ Reads (fun k => w.heap.size ≤ k) w' v2 (dCts c.2.2.1)
set_option maxRecDepth 100000 in
set_option maxHeartbeats 6400000 in
theorem ipchange_got (b : Nat) (s : ByteArray) (w : World) (h : RdAt w b s false) : Calls Try.prog 93 #[.agg #[.pointer (some ⟨b, 0, none⟩)]] w (Got pCg b s vCg w) := by
  have M0 := hid ((pr_begin h [.int .i64 0, .int .i64 0, .slice none 0 0, .int .i64 0, .string ⟨#[]⟩] 70).under ((Below.refl _ _).alloc (Nat.le_refl _) (.cells #[.int .i64 0, .int .i64 0, .slice none 0 0, .int .i64 0, .string ⟨#[]⟩] 70)))
  have D0 : Hid (BxAt (((w.alloc (.cells #[.pointer (some ⟨b, 0, none⟩)] 97)).alloc (.cells #[.int .i64 0, .int .i64 0, .slice none 0 0, .int .i64 0, .string ⟨#[]⟩] 70)).alloc (.cells #[.int .i64 0, .int .i64 0, .slice none 0 0, .int .i64 0, .string ⟨#[]⟩] 70)) (w.heap.size + 2) [.int .i64 0, .int .i64 0, .slice none 0 0, .int .i64 0, .string ⟨#[]⟩] 70) := hid (by
    have := heap_alloc_last ((w.alloc (.cells #[.pointer (some ⟨b, 0, none⟩)] 97)).alloc (.cells #[.int .i64 0, .int .i64 0, .slice none 0 0, .int .i64 0, .string ⟨#[]⟩] 70)) (.cells #[.int .i64 0, .int .i64 0, .slice none 0 0, .int .i64 0, .string ⟨#[]⟩] 70)
    rw [show ((w.alloc (.cells #[.pointer (some ⟨b, 0, none⟩)] 97)).alloc (.cells #[.int .i64 0, .int .i64 0, .slice none 0 0, .int .i64 0, .string ⟨#[]⟩] 70)).heap.size = w.heap.size + 2 by simp] at this
    exact this)
  have y0 := M0.out.box.cell 0 _ rfl
  have hlt := h.lt
  clear h
  go_enter Try.func93, Try.ntmps93
  try go_wp2_with fail
  refine (ipbyte_got b s _ M0.out.rd).mono ?_
  rintro e w1 ⟨hk, hor⟩
  rcases hor with ⟨x, s1, v1, hp, rfl, rfl, hr⟩ | ⟨hp, rfl⟩
  rotate_left
  · have HX := hid (And.intro hp hk)
    clear hp hk
    go_wp2
    exact ⟨rfl, M0.out.kept.trans HX.out.2 (.inl rfl), .inr ⟨by have ql := HX.out.1; simp [pCg, pSeq, ql], rfl⟩⟩
  have N1 := hid (M0.out.call hk hr)
  have C1 := hid (D0.out.kept hk (by omega))
  have HP1 := hid hp
  clear hk hr hp y0
  have y0 := N1.out.box.cell 0 _ rfl
  go_wp2_with (refine wl_store1 rfl 3 _ _ rfl (w.heap.size + 2) 0 rfl (.int .i64 x) rfl rfl rfl [.int .i64 0, .int .i64 0, .slice none 0 0, .int .i64 0, .string ⟨#[]⟩] 70 C1.out (by simp) (by kernel_rfl) ?_; intro u1 Hz; have M1 : Hid (PrAt b w u1 s1 [.int .i64 0, .int .i64 0, .slice none 0 0, .int .i64 0, .string ⟨#[]⟩] 70) := hid (N1.out.other Hz.out.2 (by omega)); have D1 : Hid (BxAt u1 (w.heap.size + 2) [.int .i64 x, .int .i64 0, .slice none 0 0, .int .i64 0, .string ⟨#[]⟩] 70) := hid Hz.out.1; clear Hz y0; have y0 := M1.out.box.cell 0 _ rfl)
  try go_wp2_with fail
  refine (ipbyte_got b s1 _ M1.out.rd).mono ?_
  rintro e w2 ⟨hk, hor⟩
  rcases hor with ⟨y, s2, v2, hp, rfl, rfl, hr⟩ | ⟨hp, rfl⟩
  rotate_left
  · have HX := hid (And.intro hp hk)
    clear hp hk
    go_wp2
    exact ⟨rfl, M1.out.kept.trans HX.out.2 (.inl rfl), .inr ⟨by have q0 := HP1.out; have ql := HX.out.1; simp [pCg, pSeq, q0, ql], rfl⟩⟩
  have N2 := hid (M1.out.call hk hr)
  have C2 := hid (D1.out.kept hk (by omega))
  have HP2 := hid hp
  clear hk hr hp y0
  have y0 := N2.out.box.cell 0 _ rfl
  go_wp2_with (refine wl_store1 rfl 3 _ _ rfl (w.heap.size + 2) 1 rfl (.int .i64 y) rfl rfl rfl [.int .i64 x, .int .i64 0, .slice none 0 0, .int .i64 0, .string ⟨#[]⟩] 70 C2.out (by simp) (by kernel_rfl) ?_; intro u2 Hz; have M2 : Hid (PrAt b w u2 s2 [.int .i64 0, .int .i64 0, .slice none 0 0, .int .i64 0, .string ⟨#[]⟩] 70) := hid (N2.out.other Hz.out.2 (by omega)); have D2 : Hid (BxAt u2 (w.heap.size + 2) [.int .i64 x, .int .i64 y, .slice none 0 0, .int .i64 0, .string ⟨#[]⟩] 70) := hid Hz.out.1; clear Hz y0; have y0 := M2.out.box.cell 0 _ rfl)
  try go_wp2_with fail
  refine (ipbyte_got b s2 _ M2.out.rd).mono ?_
  rintro e w3 ⟨hk, hor⟩
  rcases hor with ⟨z, s3, v3, hp, rfl, rfl, hr⟩ | ⟨hp, rfl⟩
  rotate_left
  · have HX := hid (And.intro hp hk)
    clear hp hk
    go_wp2
    exact ⟨rfl, M2.out.kept.trans HX.out.2 (.inl rfl), .inr ⟨by have q0 := HP1.out; have q1 := HP2.out; have ql := list_no (p := pCt) HX.out.1; simp [pCg, pSeq, q0, q1, ql], rfl⟩⟩
  obtain ⟨n, rfl, hn, hl⟩ := list_of (p := pCt) hp
  have N3 := hid (M2.out.call hk hr)
  have C3 := hid (D2.out.kept hk (by omega))
  have HLs := hid hl
  have hn1 : (n : Int) < 256 := by omega
  clear hk hr hp hl y0 hn
  go_wp2_with fail
  go_loopw [12] (fun i wr => ∃ (j : Nat) (l : List Ct) (s4 : ByteArray) (v : Value) (F : Nat → Prop), j ≤ n ∧ i = .int .i64 (j : Int) ∧ pMany pCt j s3 = some (l, s4) ∧ PrAt b w wr s4 [.int .i64 0, .int .i64 0, .slice none 0 0, .int .i64 0, .string ⟨#[]⟩] 70 ∧ BxAt wr (w.heap.size + 2) [.int .i64 x, .int .i64 y, v, .int .i64 0, .string ⟨#[]⟩] 70 ∧ OwnD 72 9 (w.heap.size + 3) F wr v (l.map dCt) ∧ ∀ k, F k → w.heap.size + 2 < k ∧ k < wr.heap.size)
    (fun i _ => ((n : Int) - intOf i).toNat)
  case atStart => exact ⟨0, [], s3, _, fun _ => False, Nat.zero_le _, rfl, rfl, N3.out, C3.out, OwnD.nil _ _ _ _ _, fun _ h => h.elim⟩
  case round =>
    obtain ⟨j, l, s4, v, F, hj, rfl, hm, hpr, hbx, hO, hF⟩ := hrel
    have HS := hid (And.intro hpr hbx)
    have HO := hid (And.intro hO hF)
    have HM := hid hm
    obtain ⟨ad, cp, hvf⟩ := hO.form
    rw [List.length_map] at hvf
    clear hm hpr hbx hO hF
    have hj0 : (0 : Int) ≤ (j : Int) := Int.natCast_nonneg _
    have y0 := HS.out.1.box.cell 0 _ rfl
    by_cases hjn : j = n
    · have hj1 : ¬ ((j : Int) < (n : Int)) := by omega
      have HE : Hid (j = n) := hid hjn
      have HLf : Hid (pList pCt s2 = some (l, s4)) := hid (by rw [HLs.out, ← hjn]; exact HM.out)
      subst hvf
      have RL : Hid (Reads (fun k => w.heap.size + 3 ≤ k) wr (.slice ad l.length cp) (dCts l)) := hid ((HO.out.1.reads).mono (fun k _ hk => by
        rcases hk with hk | hk
        · have := (HO.out.2 k hk).1; show w.heap.size + 3 ≤ k; omega
        · exact (HO.out.1.lt k hk).1))
      clear hj hjn HO
      try go_wp2_with fail
      refine (ipsig_got b s4 _ HS.out.1.rd).mono ?_
      rintro e w6 ⟨hk, hor⟩
      rcases hor with ⟨g, s6, v6, hp, rfl, rfl, hr⟩ | ⟨hp, rfl⟩
      rotate_left
      · have HX := hid (And.intro hp hk)
        clear hp hk
        go_wp2
        exact ⟨rfl, HS.out.1.kept.trans HX.out.2 (.inl rfl), .inr ⟨by have q0 := HP1.out; have q1 := HP2.out; have q2 := HLf.out; have ql := HX.out.1; simp [pCg, pSeq, q0, q1, q2, ql], rfl⟩⟩
      have N6 := hid (HS.out.1.call hk hr)
      have C6 := hid (HS.out.2.kept hk (by omega))
      have RL := hid (RL.out.kept hk (by omega))
      have HP6 := hid hp
      clear hk hr hp y0
      have y0 := N6.out.box.cell 0 _ rfl
      go_wp2_with (first
        | (have := D6; refine wl_store_blk rfl 70 _ _ rfl (w.heap.size + 1) 0 rfl #[.int .i64 x, .int .i64 y, .slice ad l.length cp, .int .i64 g.1, .string g.2] rfl [.int .i64 0, .int .i64 0, .slice none 0 0, .int .i64 0, .string ⟨#[]⟩] 70 M6.out.res (by simp) (by kernel_rfl) (by simp [Value.oneCell']) ?_; intro ue Hz; have ME : Hid (PrAt b w ue s6 [.int .i64 x, .int .i64 y, .slice ad l.length cp, .int .i64 g.1, .string g.2] 70) := hid (M6.out.ans Hz.out.2 Hz.out.1); have RL := hid (RL.out.one Hz.out.2 (by omega)); clear Hz)
        | (refine wl_store_blk rfl 48 _ _ rfl (w.heap.size + 2) 3 rfl #[.int .i64 g.1, .string g.2] rfl [.int .i64 x, .int .i64 y, .slice ad l.length cp, .int .i64 0, .string ⟨#[]⟩] 70 C6.out (by simp) (by kernel_rfl) (by simp [Value.oneCell']) ?_; intro u6 Hz; have M6 : Hid (PrAt b w u6 s6 [.int .i64 0, .int .i64 0, .slice none 0 0, .int .i64 0, .string ⟨#[]⟩] 70) := hid (N6.out.other Hz.out.2 (by omega)); have D6 : Hid (BxAt u6 (w.heap.size + 2) [.int .i64 x, .int .i64 y, .slice ad l.length cp, .int .i64 g.1, .string g.2] 70) := hid Hz.out.1; have RL := hid (RL.out.one Hz.out.2 (by omega)); clear Hz y0; have z0 := D6.out.cell 0 _ rfl; have z1 := D6.out.cell 1 _ rfl; have z2 := D6.out.cell 2 _ rfl; have z3 := D6.out.cell 3 _ rfl; have z4 := D6.out.cell 4 _ rfl))
      have x0 := ME.out.res.cell 0 _ rfl; have x1 := ME.out.res.cell 1 _ rfl; have x2 := ME.out.res.cell 2 _ rfl; have x3 := ME.out.res.cell 3 _ rfl; have x4 := ME.out.res.cell 4 _ rfl
      refine bodyPost_ret (v := .agg #[.int .i64 x, .int .i64 y, .slice ad l.length cp, .int .i64 g.1, .string g.2]) (by simp [results, Try.results93, go_sem, x0, x1, x2, x3, x4]) rfl ?_
      exact ⟨ME.out.kept, .inl ⟨(x, y, l, g), s6, _, by have q0 := HP1.out; have q1 := HP2.out; have q2 := HLf.out; have q3 := HP6.out; simp [pCg, pSeq, q0, q1, q2, q3], rfl, ⟨_, rfl, RL.out.mono (fun k _ hk => by show w.heap.size ≤ k; have : w.heap.size + 3 ≤ k := hk; omega)⟩, ME.out.rd⟩⟩
    · have hj1 : (j : Int) < (n : Int) := by omega
      have HJ := hid (And.intro hj hjn)
      have y2 := HS.out.2.cell 2 _ rfl
      clear hj hjn hvf
      go_wp2_with fail
      have HSd : Hid (wr.drew.cell? ⟨w.heap.size, 0, none⟩ = some (.pointer (some ⟨b, 0, none⟩)) ∧ wr.drew.cell? ⟨w.heap.size + 2, 2, none⟩ = some v) := hid ⟨y0, y2⟩
      clear y0 y2
      refine wp_region_G (S := fun ww => ww.cell? ⟨w.heap.size, 0, none⟩ = some (.pointer (some ⟨b, 0, none⟩)) ∧ ww.cell? ⟨w.heap.size + 2, 2, none⟩ = some v) (ex := [7]) (by kernel_rfl) ?_
      try (change wpAnyG _ _ _ _ _ _ _ _ _ (World.drew _))
      refine wpAnyG_take (i := 0) (v := ?v1) rfl (by kernel_rfl) (fun _ _ _ h => h) (Or.inl ⟨by rfl, ?hy1⟩) HSd.out ?rest1
      case hy1 => (intro ww _; go_simp; try with_reducible rfl)
      go_simp
      refine wpAnyG_take (i := 1) (v := ?v2) rfl (by kernel_rfl) (fun _ _ _ h => h) (Or.inl ⟨by rfl, ?hy2⟩) HSd.out ?rest2
      case hy2 => (intro ww hS; obtain ⟨k0, k2⟩ := hS; go_simp; try with_reducible rfl)
      go_simp
      refine wpAnyG_take (i := 2) (v := ?v3) rfl (by kernel_rfl) (fun _ _ _ h => h) (Or.inl ⟨by rfl, ?hy3⟩) HSd.out ?rest3
      case hy3 => (intro ww hS; obtain ⟨k0, k2⟩ := hS; go_simp; try with_reducible rfl)
      go_simp
      refine wpAnyG_all (rs := [3]) (by kernel_rfl) (by simp) ?_
      intro i hi
      obtain rfl := List.mem_singleton.1 hi
      clear hi
      refine wpOp_q rfl (by rfl) (fun K hK => ?_)
      go_simp
      refine (ipcert_got b s4 _ (HS.out.1.under (Below.refl _ _).drew).rd).mono ?_
      rintro e w5 ⟨hk, hor⟩
      rcases hor with ⟨c, s5, v5, hp, rfl, ⟨v8, rfl, hR8⟩, hr⟩ | ⟨hp, rfl⟩
      rotate_left
      · have HX := hid (And.intro hp hk)
        clear hp hk
        go_simp
        exact ⟨rfl, (HS.out.1.under (Below.refl _ _).drew).kept.trans HX.out.2 (.inl rfl), .inr ⟨by have q0 := HP1.out; have q1 := HP2.out; have ql : pList pCt s2 = none := (by rw [HLs.out]; exact many_none (many_fail HM.out HX.out.1) n (by have := HJ.out; omega)); simp [pCg, pSeq, q0, q1, ql], rfl⟩⟩
      have M5 := hid (many_snoc HM.out hp)
      have hlen := many_len M5.out
      have hll : l.length + 1 ≤ 256 := by rw [List.length_append] at hlen; simp at hlen; omega
      have S5 : Hid (PrAt b w w5 s5 [.int .i64 0, .int .i64 0, .slice none 0 0, .int .i64 0, .string ⟨#[]⟩] 70 ∧ BxAt w5 (w.heap.size + 2) [.int .i64 x, .int .i64 y, v, .int .i64 0, .string ⟨#[]⟩] 70) := hid ⟨(HS.out.1.under (Below.refl _ _).drew).call hk hr, BxAt.kept (w := wr.drew) HS.out.2 hk (by omega)⟩
      have O5 : Hid (OwnD 72 9 (w.heap.size + 3) F w5 v (l.map dCt)) := hid ((HO.out.1.under (Below.refl wr.heap.size wr).drew (Nat.le_refl _)).kept hk (fun hFb => by have := (HO.out.2 b hFb).1; omega) (by omega))
      have HR8 := hid hR8
      have HSz : Hid (wr.heap.size ≤ w5.heap.size ∧ w.heap.size + 2 < wr.heap.size) := hid ⟨hk.size, lt_of_blk HS.out.2⟩
      clear hk hr hp hR8 hlen
      obtain ⟨ad8, cp8, hv8⟩ := Reads.form HR8.out
      rw [List.length_map] at hv8
      subst hv8
      refine hK _ _ ⟨fun _ => ⟨S5.out.1.box.cell 0 _ rfl, S5.out.2.cell 2 _ rfl⟩, ?_⟩
      clear hK K
      go_simp
      refine wpAnyG_all (rs := [4]) (by kernel_rfl) (by simp) ?_
      intro i hi
      obtain rfl := List.mem_singleton.1 hi
      clear hi
      refine wpOp_q rfl (by rfl) (fun K hK => ?_)
      go_simp
      refine hK _ _ ⟨fun _ => ⟨(S5.out.1.under ((Below.refl w5.heap.size w5).alloc (Nat.le_refl _) _)).box.cell 0 _ rfl, (S5.out.2.keep ((Below.refl w5.heap.size w5).alloc (Nat.le_refl _) _)).cell 2 _ rfl⟩, ?_⟩
      clear hK K
      go_simp
      refine wpAnyG_all (rs := [5]) (by kernel_rfl) (by simp) ?_
      intro i hi
      obtain rfl := List.mem_singleton.1 hi
      clear hi
      refine wpOp_q rfl (by rfl) (fun K hK => ?_)
      refine owp_add_D _ _ 68 72 rfl (.agg #[.int .i64 0, .int .i64 0, .int .i64 0, .int .i64 0, .int .i64 0, .string ⟨#[]⟩, .float .f64 0, .int .i64 0, .slice none 0 0]) 9 96 Try.underlying68 (by kernel_rfl) rfl (by decide) (w.heap.size + 3) F (fun k => w.heap.size + 2 < k ∧ k < w5.heap.size ∧ v.ownBlock ≠ some k) v (l.map dCt) (by rfl) (O5.out.under ((Below.refl w5.heap.size w5).alloc (Nat.le_refl _) _) (Nat.le_refl _)) (by have := lt_of_blk S5.out.2; simp; omega) w5.heap.size (by rfl) (dCt c) [.int .i64 c.1, .int .i64 c.2.1, .int .i64 c.2.2.1.c, .int .i64 c.2.2.1.st, .int .i64 c.2.2.1.k, .string c.2.2.1.key, .float .f64 c.2.2.1.b, .int .i64 c.2.2.1.id, .slice ad8 c.2.2.2.length cp8] rfl rfl (fun j u hu => cell_at (heap_alloc_last w5 _) j u hu) (fun q dd hq => by
        match q, hq with
        | 0, hq => cases hq; exact ⟨_, rfl, .i _⟩
        | 1, hq => cases hq; exact ⟨_, rfl, .i _⟩
        | 2, hq => cases hq; exact ⟨_, rfl, .i _⟩
        | 3, hq => cases hq; exact ⟨_, rfl, .i _⟩
        | 4, hq => cases hq; exact ⟨_, rfl, .i _⟩
        | 5, hq => cases hq; exact ⟨_, rfl, .s _⟩
        | 6, hq => cases hq; exact ⟨_, rfl, .f _⟩
        | 7, hq => cases hq; exact ⟨_, rfl, .i _⟩
        | 8, hq =>
          cases hq
          exact ⟨_, rfl, (HR8.out.mono (fun k hk1 hk2 => ⟨by have := HSz.out; have : wr.heap.size ≤ k := hk2; omega, hk1, fun e => by have := (HO.out.1.lt k e).2; have : wr.heap.size ≤ k := hk2; omega⟩)).under ((Below.refl w5.heap.size w5).alloc (Nat.le_refl _) _) (Nat.le_refl _)⟩
        | q + 9, hq => cases hq) (by simp [Value.oneCell']) (fun k _ hk => ⟨(HO.out.2 k hk).1, by have := (HO.out.2 k hk).2; have := HSz.out; omega, fun e => O5.out.sep k e hk⟩) (fun k hk hF => hF.2.2 hk) (fun k hF => by have := hF.2.1; simp; omega) (by rw [List.length_map]; omega) (by rw [List.length_map]; unfold maxLen; omega) ?_
      intro v' w6 Hz
      have H6 := hid Hz.out
      have S6 : Hid (PrAt b w w6 s5 [.int .i64 0, .int .i64 0, .slice none 0 0, .int .i64 0, .string ⟨#[]⟩] 70 ∧ BxAt w6 (w.heap.size + 2) [.int .i64 x, .int .i64 y, v, .int .i64 0, .string ⟨#[]⟩] 70) := hid (pr_grown S5.out.1 S5.out.2 Hz.out.2.1 (fun g hg => (O5.out.lt g hg).1))
      clear Hz
      refine hK _ _ ⟨fun _ => ⟨S6.out.1.box.cell 0 _ rfl, S6.out.2.cell 2 _ rfl⟩, ?_⟩
      clear hK K
      go_simp
      refine wpAnyG_take (i := 6) (v := ?v4) rfl (by kernel_rfl) (fun _ _ _ h => h) (Or.inl ⟨by rfl, ?hy4⟩) ⟨S6.out.1.box.cell 0 _ rfl, S6.out.2.cell 2 _ rfl⟩ ?rest4
      case hy4 => (intro ww _; go_simp; try with_reducible rfl)
      go_simp
      refine wpAnyG_all (rs := [7]) (by kernel_rfl) (by simp) ?_
      intro i hi
      obtain rfl := List.mem_singleton.1 hi
      clear hi
      refine wpOp_q rfl (by rfl) (fun K hK => ?_)
      obtain ⟨ad6, cp6, hv6⟩ := H6.out.1.form
      subst hv6
      refine owp_store1 68 _ _ rfl (w.heap.size + 2) 2 (by rfl) _ (by rfl) rfl rfl [.int .i64 x, .int .i64 y, v, .int .i64 0, .string ⟨#[]⟩] 70 S6.out.2 (by simp) (by kernel_rfl) ?_
      intro w7 Hz
      have S7 : Hid (PrAt b w w7 s5 [.int .i64 0, .int .i64 0, .slice none 0 0, .int .i64 0, .string ⟨#[]⟩] 70 ∧ BxAt w7 (w.heap.size + 2) [.int .i64 x, .int .i64 y, (.slice ad6 (l.map dCt ++ [dCt c]).length cp6), .int .i64 0, .string ⟨#[]⟩] 70 ∧ One (w.heap.size + 2) w6 w7) := hid ⟨S6.out.1.other Hz.out.2 (by omega), Hz.out.1, Hz.out.2⟩
      clear Hz
      refine hK _ _ ⟨fun h => absurd (by simp) h, ?_⟩
      clear hK K
      go_simp
      refine wpAnyG_done (by kernel_rfl) ?_ _
      go_simp
      go_wp2
      go_roundw
      case rel =>
        refine ⟨j + 1, l ++ [c], s5, _, fun k => w.heap.size + 2 < k ∧ k < w5.heap.size ∧ v.ownBlock ≠ some k, by have := HJ.out; omega, by go_num, M5.out, S7.out.1, S7.out.2.1, ?_, fun k hk => ⟨hk.1, ?_⟩⟩
        · rw [List.map_append]
          exact H6.out.1.one S7.out.2.2 (fun hF => by have := hF.1; omega) (fun e => by have := (H6.out.1.lt _ e).1; omega)
        · have h1 := hk.2.1
          have h2 := H6.out.2.1.size
          have h3 := S7.out.2.2.size
          simp at h2
          omega
      case measure => simp [intOf]; omega
end Go.Proofs.Ytfjcpghepkmbfaa

/- The program's parts of a message: lists of changes and of links. -/
namespace Go.Proofs.Ytfjcpghepkmbfaa
open Go.RowKit

theorem ln_yes {s s1 s2 : ByteArray} {x : Int × List Int} {g : List Sg} (h1 : pCf s = some (x, s1)) (h2 : pList pSg s1 = some (g, s2)) : pLn s = some ((x, g), s2) := by
  show (pCf s).bind _ = _
  rw [h1]
  show (pList pSg s1).map _ = _
  rw [h2]
  rfl
theorem ln_no {s s1 : ByteArray} {x : Int × List Int} (h1 : pCf s = some (x, s1)) (h2 : pList pSg s1 = none) : pLn s = none := by
  show (pCf s).bind _ = _
  rw [h1]
  show (pList pSg s1).map _ = _
  rw [h2]
  rfl
set_option maxRecDepth 100000 in
set_option maxHeartbeats 6400000 in
theorem ipchanges_got (b : Nat) (s : ByteArray) (w : World) (h : RdAt w b s false) : Calls Try.prog 77 #[.agg #[.pointer (some ⟨b, 0, none⟩)]] w (Got (pList pCg) b s (vL dCgs) w) := by
  have H0 := hid (pl_begin h)
  have y0 := H0.out.box.cell 0 _ rfl
  have hlt := h.lt
  clear h
  go_enter Try.func77, Try.ntmps77
  go_wp2_with fail
  refine (ipbyte_got b s _ H0.out.rd).mono ?_
  rintro e w1 ⟨hk, hor⟩
  rcases hor with ⟨z, s1, v1, hp, rfl, rfl, hr⟩ | ⟨hp, rfl⟩
  rotate_left
  · have HX := hid (And.intro hp hk)
    clear hp hk
    go_wp2
    exact ⟨rfl, H0.out.kept.trans HX.out.2 (.inl rfl), .inr ⟨list_no HX.out.1, rfl⟩⟩
  obtain ⟨n, rfl, hn, hl⟩ := list_of (p := pCg) hp
  have N1 := hid (H0.out.call hk hr)
  have HL := hid hl
  have hn1 : (n : Int) < 256 := by omega
  clear hk hr hp hl y0 hn
  go_wp2_with fail
  go_loopw [3, 6] (fun v i wr => ∃ (j : Nat) (l : List Cg) (s2 : ByteArray) (vv : Value) (F : Nat → Prop), j ≤ n ∧ i = .int .i64 (j : Int) ∧ vv = v ∧ pMany pCg j s1 = some (l, s2) ∧ PlAt b w wr s2 ∧ OwnD 70 5 (w.heap.size + 1) F wr vv (l.map dCg) ∧ ∀ k, F k → w.heap.size < k ∧ k < wr.heap.size)
    (fun _ i _ => ((n : Int) - intOf i).toNat)
  case atStart => exact ⟨0, [], s1, _, fun _ => False, Nat.zero_le _, rfl, rfl, rfl, N1.out, OwnD.nil _ _ _ _ _, fun _ h => h.elim⟩
  case round =>
    obtain ⟨j, l, s2, v, F, hj, rfl, rfl, hm, hpl, hO, hF⟩ := hrel
    have HS := hid hpl
    have HO := hid (And.intro hO hF)
    have HM := hid hm
    clear hm hpl hO hF
    have hj0 : (0 : Int) ≤ (j : Int) := Int.natCast_nonneg _
    have y0 := HS.out.box.cell 0 _ rfl
    by_cases hjn : j = n
    · have hj1 : ¬ ((j : Int) < (n : Int)) := by omega
      have HE : Hid (j = n) := hid hjn
      clear hj hjn
      go_wp2
      go_ret
      refine ⟨HS.out.kept, .inl ⟨l, s2, _, ?_, rfl, ?_, HS.out.rd⟩⟩
      · rw [HL.out, ← HE.out]
        exact HM.out
      · exact (HO.out.1.reads).mono (fun k _ hk => by
          rcases hk with hk | hk
          · exact Nat.le_of_lt (HO.out.2 k hk).1
          · exact Nat.le_of_succ_le (HO.out.1.lt k hk).1)
    · have hj1 : (j : Int) < (n : Int) := by omega
      have HJ := hid (And.intro hj hjn)
      clear hj hjn
      go_wp2_with fail
      refine (ipchange_got b s2 _ HS.out.rd).mono ?_
      rintro e w2 ⟨hk, hor⟩
      rcases hor with ⟨x, s3, v2, hp, rfl, ⟨vc, rfl, hR⟩, hr⟩ | ⟨hp, rfl⟩
      rotate_left
      · have HX := hid (And.intro hp hk)
        clear hp hk
        go_wp2
        exact ⟨rfl, HS.out.kept.trans HX.out.2 (.inl rfl), .inr ⟨by rw [HL.out]; exact many_none (many_fail HM.out HX.out.1) n (by have := HJ.out; omega), rfl⟩⟩
      have M2 := hid (many_snoc HM.out hp)
      have hlen := many_len M2.out
      have S2 := hid (HS.out.call hk hr)
      have O2 := hid (HO.out.1.kept hk (fun hFb => by have := (HO.out.2 b hFb).1; omega) (by omega))
      have HSz : Hid (wr.heap.size ≤ w2.heap.size ∧ w.heap.size < wr.heap.size) := hid ⟨hk.size, lt_of_blk HS.out.box⟩
      obtain ⟨ad2, cp2, hv2⟩ := Reads.form hR
      rw [List.length_map] at hv2
      subst hv2
      have HR := hid hR
      clear hk hr hp y0 hR
      have hll : l.length + 1 ≤ 256 := by rw [List.length_append] at hlen; simp at hlen; omega
      clear hlen
      go_wp2_with (first
        | (at_builtin; refine wl_add_D rfl _ _ 31 70 rfl (.agg #[.int .i64 0, .int .i64 0, .slice none 0 0, .int .i64 0, .string ⟨#[]⟩]) 5 64 Try.underlying31 (by kernel_rfl) rfl (by decide) (w.heap.size + 1) F (fun k => w.heap.size < k ∧ k < w2.heap.size ∧ v.ownBlock ≠ some k) v (l.map dCg) rfl (O2.out.under ((Below.refl w2.heap.size w2).alloc (Nat.le_refl _) _) (Nat.le_refl _)) (by have := lt_of_blk S2.out.box; simp; omega) w2.heap.size rfl (dCg x) [.int .i64 x.1, .int .i64 x.2.1, .slice ad2 x.2.2.1.length cp2, .int .i64 x.2.2.2.1, .string x.2.2.2.2] rfl rfl (fun j u hu => cell_at (heap_alloc_last w2 _) j u hu) (fun q dd hq => by
            match q, hq with
            | 0, hq => cases hq; exact ⟨_, rfl, .i _⟩
            | 1, hq => cases hq; exact ⟨_, rfl, .i _⟩
            | 2, hq =>
              cases hq
              exact ⟨_, rfl, (HR.out.mono (fun k hk1 hk2 => ⟨by have := HSz.out; have : wr.heap.size ≤ k := hk2; omega, hk1, fun e => by have := (HO.out.1.lt k e).2; have : wr.heap.size ≤ k := hk2; omega⟩)).under ((Below.refl w2.heap.size w2).alloc (Nat.le_refl _) _) (Nat.le_refl _)⟩
            | 3, hq => cases hq; exact ⟨_, rfl, .i _⟩
            | 4, hq => cases hq; exact ⟨_, rfl, .s _⟩
            | q + 5, hq => cases hq) (by simp [Value.oneCell']) (fun k _ hk => ⟨(HO.out.2 k hk).1, by have := (HO.out.2 k hk).2; have := HSz.out; omega, fun e => O2.out.sep k e hk⟩) (fun k hk hF => hF.2.2 hk) (fun k hF => by have := hF.2.1; simp; omega) (by rw [List.length_map]; omega) (by rw [List.length_map]; unfold maxLen; omega) ?_; intro v' w' Hz; have H5 := hid Hz.out; clear Hz))
      go_roundw
      case rel =>
        refine ⟨j + 1, l ++ [x], s3, _, fun k => w.heap.size < k ∧ k < w2.heap.size ∧ v.ownBlock ≠ some k, by have := HJ.out; omega, by go_num, rfl, M2.out, S2.out.grown H5.out.2.1 (fun g hg => (O2.out.lt g hg).1), by rw [List.map_append]; exact H5.out.1, fun k hk => ⟨hk.1, ?_⟩⟩
        have h1 := hk.2.1
        have h2 := H5.out.2.1.size
        simp at h2
        omega
      case measure => simp [intOf]; omega
set_option maxRecDepth 100000 in
set_option maxHeartbeats 6400000 in
theorem iplinks_got (b : Nat) (s : ByteArray) (w : World) (h : RdAt w b s false) : Calls Try.prog 78 #[.agg #[.pointer (some ⟨b, 0, none⟩)]] w (Got (pList pLn) b s (vL dLns) w) := by
  have H0 := hid (pl_begin h)
  have y0 := H0.out.box.cell 0 _ rfl
  have hlt := h.lt
  clear h
  go_enter Try.func78, Try.ntmps78
  go_wp2_with fail
  refine (ipbyte_got b s _ H0.out.rd).mono ?_
  rintro e w1 ⟨hk, hor⟩
  rcases hor with ⟨z, s1, v1, hp, rfl, rfl, hr⟩ | ⟨hp, rfl⟩
  rotate_left
  · have HX := hid (And.intro hp hk)
    clear hp hk
    go_wp2
    exact ⟨rfl, H0.out.kept.trans HX.out.2 (.inl rfl), .inr ⟨list_no HX.out.1, rfl⟩⟩
  obtain ⟨n, rfl, hn, hl⟩ := list_of (p := pLn) hp
  have N1 := hid (H0.out.call hk hr)
  have HL := hid hl
  have hn1 : (n : Int) < 256 := by omega
  clear hk hr hp hl y0 hn
  go_wp2_with fail
  go_loopw [3, 7] (fun v i wr => ∃ (j : Nat) (l : List Ln) (s2 : ByteArray) (vv : Value) (F : Nat → Prop), j ≤ n ∧ i = .int .i64 (j : Int) ∧ vv = v ∧ pMany pLn j s1 = some (l, s2) ∧ PlAt b w wr s2 ∧ OwnD 63 3 (w.heap.size + 1) F wr vv (l.map dLn) ∧ ∀ k, F k → w.heap.size < k ∧ k < wr.heap.size)
    (fun _ i _ => ((n : Int) - intOf i).toNat)
  case atStart => exact ⟨0, [], s1, _, fun _ => False, Nat.zero_le _, rfl, rfl, rfl, N1.out, OwnD.nil _ _ _ _ _, fun _ h => h.elim⟩
  case round =>
    obtain ⟨j, l, s2, v, F, hj, rfl, rfl, hm, hpl, hO, hF⟩ := hrel
    have HS := hid hpl
    have HO := hid (And.intro hO hF)
    have HM := hid hm
    clear hm hpl hO hF
    have hj0 : (0 : Int) ≤ (j : Int) := Int.natCast_nonneg _
    have y0 := HS.out.box.cell 0 _ rfl
    by_cases hjn : j = n
    · have hj1 : ¬ ((j : Int) < (n : Int)) := by omega
      have HE : Hid (j = n) := hid hjn
      clear hj hjn
      go_wp2
      go_ret
      refine ⟨HS.out.kept, .inl ⟨l, s2, _, ?_, rfl, ?_, HS.out.rd⟩⟩
      · rw [HL.out, ← HE.out]
        exact HM.out
      · exact (HO.out.1.reads).mono (fun k _ hk => by
          rcases hk with hk | hk
          · exact Nat.le_of_lt (HO.out.2 k hk).1
          · exact Nat.le_of_succ_le (HO.out.1.lt k hk).1)
    · have hj1 : (j : Int) < (n : Int) := by omega
      have HJ := hid (And.intro hj hjn)
      clear hj hjn
      go_wp2_with fail
      refine (ipconf_got b s2 _ HS.out.rd).mono ?_
      rintro e w2 ⟨hk, hor⟩
      rcases hor with ⟨x, s3, v2, hp, rfl, ⟨vc, rfl, hR⟩, hr⟩ | ⟨hp, rfl⟩
      rotate_left
      · have HX := hid (And.intro hp hk)
        clear hp hk
        go_wp2
        exact ⟨rfl, HS.out.kept.trans HX.out.2 (.inl rfl), .inr ⟨by rw [HL.out]; exact many_none (many_fail HM.out (by have ql := HX.out.1; simp [pLn, pSeq, ql])) n (by have := HJ.out; omega), rfl⟩⟩
      have HP1 := hid hp
      have S2 := hid (HS.out.call hk hr)
      have O2 := hid (HO.out.1.kept hk (fun hFb => by have := (HO.out.2 b hFb).1; omega) (by omega))
      have HSz : Hid (wr.heap.size ≤ w2.heap.size ∧ w.heap.size < wr.heap.size) := hid ⟨hk.size, lt_of_blk HS.out.box⟩
      obtain ⟨ad2, cp2, hv2⟩ := Reads.form hR
      rw [List.length_map] at hv2
      subst hv2
      have HR := hid hR
      clear hk hr hp y0 hR
      go_wp2_with fail
      have HBc : Hid (Below w2.heap.size w2 (w2.alloc (.cells #[.int .i64 x.1, .slice ad2 x.2.length cp2] 61)).drew) := hid ((Below.refl w2.heap.size w2).alloc (Nat.le_refl _) _).drew
      have HCb : Hid (BxAt (w2.alloc (.cells #[.int .i64 x.1, .slice ad2 x.2.length cp2] 61)).drew w2.heap.size [.int .i64 x.1, .slice ad2 x.2.length cp2] 61) := hid (heap_alloc_last w2 _)
      have HSd : Hid ((w2.alloc (.cells #[.int .i64 x.1, .slice ad2 x.2.length cp2] 61)).drew.cell? ⟨w.heap.size, 0, none⟩ = some (.pointer (some ⟨b, 0, none⟩)) ∧ (w2.alloc (.cells #[.int .i64 x.1, .slice ad2 x.2.length cp2] 61)).drew.cell? ⟨w2.heap.size, 0, none⟩ = some (.int .i64 x.1) ∧ (w2.alloc (.cells #[.int .i64 x.1, .slice ad2 x.2.length cp2] 61)).drew.cell? ⟨w2.heap.size, 1, none⟩ = some (.slice ad2 x.2.length cp2)) := hid ⟨(S2.out.under HBc.out).box.cell 0 _ rfl, HCb.out.cell 0 _ rfl, HCb.out.cell 1 _ rfl⟩
      refine wp_region_G (S := fun ww => ww.cell? ⟨w.heap.size, 0, none⟩ = some (.pointer (some ⟨b, 0, none⟩)) ∧ ww.cell? ⟨w2.heap.size, 0, none⟩ = some (.int .i64 x.1) ∧ ww.cell? ⟨w2.heap.size, 1, none⟩ = some (.slice ad2 x.2.length cp2)) (ex := []) (by kernel_rfl) ?_
      try (change wpAnyG _ _ _ _ _ _ _ _ _ (World.drew _))
      refine wpAnyG_take (i := 0) (v := ?v1) rfl (by kernel_rfl) (fun _ _ _ h => h) (Or.inl ⟨by rfl, ?hy1⟩) HSd.out ?rest1
      case hy1 => (intro ww _; go_simp; try with_reducible rfl)
      go_simp
      refine wpAnyG_take (i := 1) (v := ?v2) rfl (by kernel_rfl) (fun _ _ _ h => h) (Or.inl ⟨by rfl, ?hy2⟩) HSd.out ?rest2
      case hy2 => (intro ww hS; obtain ⟨k0, k1, k2⟩ := hS; go_simp; try with_reducible rfl)
      go_simp
      refine wpAnyG_take (i := 2) (v := ?v3) rfl (by kernel_rfl) (fun _ _ _ h => h) (Or.inl ⟨by rfl, ?hy3⟩) HSd.out ?rest3
      case hy3 => (intro ww hS; obtain ⟨k0, k1, k2⟩ := hS; go_simp; try with_reducible rfl)
      go_simp
      refine wpAnyG_all (rs := [3]) (by kernel_rfl) (by simp) ?_
      intro i hi
      obtain rfl := List.mem_singleton.1 hi
      clear hi
      refine wpOp_q rfl (by rfl) (fun K hK => ?_)
      go_simp
      refine (ipsigs_got b s3 _ (S2.out.under HBc.out).rd).mono ?_
      rintro e w3 ⟨hk, hor⟩
      rcases hor with ⟨g, s4, v5, hp, rfl, hR3, hr⟩ | ⟨hp, rfl⟩
      rotate_left
      · have HX := hid (And.intro hp hk)
        clear hp hk
        go_simp
        exact ⟨rfl, (S2.out.under HBc.out).kept.trans HX.out.2 (.inl rfl), .inr ⟨by rw [HL.out]; exact many_none (many_fail HM.out (ln_no HP1.out HX.out.1)) n (by have := HJ.out; omega), rfl⟩⟩
      have M5 := hid (many_snoc (p := pLn) (x := (x, g)) HM.out (ln_yes HP1.out hp))
      have hlen := many_len M5.out
      have hll : l.length + 1 ≤ 256 := by rw [List.length_append] at hlen; simp at hlen; omega
      have S5 := hid ((S2.out.under HBc.out).call hk hr)
      have C5 := hid (HCb.out.kept hk (by have := HSz.out; omega))
      have O5 := hid ((O2.out.under HBc.out (Nat.le_refl _)).kept hk (fun hFb => by have := (HO.out.2 b hFb).1; omega) (by omega))
      have HR5 := hid ((HR.out.under HBc.out (Nat.le_refl _)).kept hk (by show ¬ wr.heap.size ≤ b; have := HSz.out; omega))
      have HS5 : Hid (w2.heap.size < w3.heap.size) := hid (lt_of_blk C5.out)
      obtain ⟨ad3, cp3, hv3⟩ := Reads.form hR3
      rw [List.length_map] at hv3
      subst hv3
      have HR3 : Hid (Reads (fun k => wr.heap.size ≤ k) w3 (.slice ad3 g.length cp3) (dPairs g)) := hid (hR3.mono (fun k _ hk2 => by have := HSz.out; have h9 : (w2.alloc (.cells #[.int .i64 x.1, .slice ad2 x.2.length cp2] 61)).drew.heap.size ≤ k := hk2; simp at h9; show wr.heap.size ≤ k; omega))
      clear hk hr hp hR3 hlen
      refine hK _ _ ⟨fun _ => ⟨S5.out.box.cell 0 _ rfl, C5.out.cell 0 _ rfl, C5.out.cell 1 _ rfl⟩, ?_⟩
      clear hK K
      go_simp
      refine wpAnyG_take (i := 4) (v := ?v4) rfl (by kernel_rfl) (fun _ _ _ h => h) (Or.inl ⟨by rfl, ?hy4⟩) ⟨S5.out.box.cell 0 _ rfl, C5.out.cell 0 _ rfl, C5.out.cell 1 _ rfl⟩ ?rest4
      case hy4 => (intro ww _; go_simp; try with_reducible rfl)
      go_simp
      refine wpAnyG_all (rs := [5]) (by kernel_rfl) (by simp) ?_
      intro i hi
      obtain rfl := List.mem_singleton.1 hi
      clear hi
      refine wpOp_q rfl (by rfl) (fun K hK => ?_)
      go_simp
      refine hK _ _ ⟨fun _ => ⟨(S5.out.under ((Below.refl w3.heap.size w3).alloc (Nat.le_refl _) _)).box.cell 0 _ rfl, (C5.out.keep ((Below.refl w3.heap.size w3).alloc (Nat.le_refl _) _)).cell 0 _ rfl, (C5.out.keep ((Below.refl w3.heap.size w3).alloc (Nat.le_refl _) _)).cell 1 _ rfl⟩, ?_⟩
      clear hK K
      go_simp
      refine wpAnyG_all (rs := [6]) (by kernel_rfl) (by simp) ?_
      intro i hi
      obtain rfl := List.mem_singleton.1 hi
      clear hi
      refine wpOp_q rfl (by rfl) (fun K hK => ?_)
      refine owp_add_D _ _ 32 63 rfl (.agg #[.int .i64 0, .slice none 0 0, .slice none 0 0]) 3 56 Try.underlying32 (by kernel_rfl) rfl (by decide) (w.heap.size + 1) F (fun k => w.heap.size < k ∧ k < w3.heap.size ∧ v.ownBlock ≠ some k) v (l.map dLn) (by rfl) (O5.out.under ((Below.refl w3.heap.size w3).alloc (Nat.le_refl _) _) (Nat.le_refl _)) (by have := lt_of_blk S5.out.box; simp; omega) w3.heap.size (by rfl) (dLn (x, g)) [.int .i64 x.1, .slice ad2 x.2.length cp2, .slice ad3 g.length cp3] rfl rfl (fun j u hu => cell_at (heap_alloc_last w3 _) j u hu) (fun q dd hq => by
        match q, hq with
        | 0, hq => cases hq; exact ⟨_, rfl, .i _⟩
        | 1, hq => cases hq; exact ⟨_, rfl, (HR5.out.mono (fun k hk1 hk2 => ⟨by have := HSz.out; have : wr.heap.size ≤ k := hk2; omega, hk1, fun e => by have := (HO.out.1.lt k e).2; have : wr.heap.size ≤ k := hk2; omega⟩)).under ((Below.refl w3.heap.size w3).alloc (Nat.le_refl _) _) (Nat.le_refl _)⟩
        | 2, hq => cases hq; exact ⟨_, rfl, (HR3.out.mono (fun k hk1 hk2 => ⟨by have := HSz.out; have : wr.heap.size ≤ k := hk2; omega, hk1, fun e => by have := (HO.out.1.lt k e).2; have : wr.heap.size ≤ k := hk2; omega⟩)).under ((Below.refl w3.heap.size w3).alloc (Nat.le_refl _) _) (Nat.le_refl _)⟩
        | q + 3, hq => cases hq) (by simp [Value.oneCell']) (fun k _ hk => ⟨(HO.out.2 k hk).1, by have := (HO.out.2 k hk).2; have := HSz.out; have := HS5.out; omega, fun e => O5.out.sep k e hk⟩) (fun k hk hF => hF.2.2 hk) (fun k hF => by have := hF.2.1; simp; omega) (by rw [List.length_map]; omega) (by rw [List.length_map]; unfold maxLen; omega) ?_
      intro v' w6 Hz
      have H6 := hid Hz.out
      have S6 := hid (S5.out.grown Hz.out.2.1 (fun g hg => (O5.out.lt g hg).1))
      have C6 : Hid (BxAt w6 w2.heap.size [.int .i64 x.1, .slice ad2 x.2.length cp2] 61) := hid ((Hz.out.2.1.block w2.heap.size (by have := HS5.out; simp; omega) (fun e => by have := (HO.out.1.lt _ e.symm).2; have := HSz.out; omega)).trans ((Below.heap_alloc w3 _ _ HS5.out).trans C5.out))
      clear Hz
      refine hK _ _ ⟨fun _ => ⟨S6.out.box.cell 0 _ rfl, C6.out.cell 0 _ rfl, C6.out.cell 1 _ rfl⟩, ?_⟩
      clear hK K
      go_simp
      refine wpAnyG_take (i := 7) (v := ?v5) rfl (by kernel_rfl) (fun _ _ _ h => h) (Or.inl ⟨by rfl, ?hy5⟩) ⟨S6.out.box.cell 0 _ rfl, C6.out.cell 0 _ rfl, C6.out.cell 1 _ rfl⟩ ?rest5
      case hy5 => (intro ww _; go_simp; try with_reducible rfl)
      go_simp
      refine wpAnyG_done (by kernel_rfl) ?_ _
      go_simp
      go_wp2
      go_roundw
      case rel =>
        refine ⟨j + 1, l ++ [(x, g)], s4, _, fun k => w.heap.size < k ∧ k < w3.heap.size ∧ v.ownBlock ≠ some k, by have := HJ.out; omega, by go_num, rfl, M5.out, S6.out, by rw [List.map_append]; exact H6.out.1, fun k hk => ⟨hk.1, ?_⟩⟩
        have h1 := hk.2.1
        have h2 := H6.out.2.1.size
        simp at h2
        omega
      case measure => simp [intOf]; omega
end Go.Proofs.Ytfjcpghepkmbfaa
