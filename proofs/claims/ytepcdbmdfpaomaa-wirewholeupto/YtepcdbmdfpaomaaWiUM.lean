/- Memory that a reader of messages makes: one cell put, one element put behind; what a part leaves. No walk here. -/
import Derived.Test.YtepcdbmdfpaomaaGa3
import Derived.Test.YtepcdbmdfpaomaaGa4
import Derived.Test.YtepcdbmdfpaomaaWiFM
import Derived.Maps.AppendAt
namespace Go.Proofs.Ytepcdbmdfpaomaa
open Go.RowKit

theorem BxAt.kept {w w' : World} {b k : Nat} {L : List Value} {T : TypeId} (h : BxAt w k L T) (hk : Kept b none w w') (hne : k ≠ b) : BxAt w' k L T := (hk.block k (lt_of_blk h) hne (by simp)).trans h
theorem Kept.one {b k : Nat} {w0 w w' : World} (h : Kept b none w0 w) (ho : One k w w') (hk : w0.heap.size ≤ k) : Kept b none w0 w' :=
  ⟨ho.os.trans h.os, ho.tape.trans h.tape, ho.output.trans h.output, by rw [ho.size]; exact h.size, fun i hi hb hr => (ho.block i (by omega)).trans (h.block i hi hb hr)⟩
theorem RdAt.one {b k : Nat} {w w' : World} {s : ByteArray} {sh : Bool} (h : RdAt w b s sh) (ho : One k w w') (hk : b ≠ k) : RdAt w' b s sh := (ho.block b hk).trans h
theorem BxAt.one {b k : Nat} {w w' : World} {L : List Value} {T : TypeId} (h : BxAt w b L T) (ho : One k w w') (hk : b ≠ k) : BxAt w' b L T := (ho.block b hk).trans h
theorem Reads.kept {F : Nat → Prop} {b : Nat} {w w' : World} {v : Value} {d : Dat} (h : Reads F w v d) (hk : Kept b none w w') (hb : ¬ F b) : Reads F w' v d := h.keep hk.size (fun k hkl hF => hk.block k hkl (fun e => hb (e ▸ hF)) (by simp))
theorem Reads.one {F : Nat → Prop} {b : Nat} {w w' : World} {v : Value} {d : Dat} (h : Reads F w v d) (ho : One b w w') (hb : ¬ F b) : Reads F w' v d := h.keep (Nat.le_of_eq ho.size.symm) (fun k _ hF => ho.block k (fun e => hb (e ▸ hF)))
theorem OwnD.kept {T : TypeId} {sz B b : Nat} {F : Nat → Prop} {w w' : World} {v : Value} {es : List (List Dat)} (h : OwnD T sz B F w v es) (hk : Kept b none w w') (hF : ¬ F b) (hB : b < B) : OwnD T sz B F w' v es :=
  h.keep hk.size (fun k hkl hFk => hk.block k hkl (fun e => hF (e ▸ hFk)) (by simp)) (fun g hg => hk.block g (h.lt g hg).2 (by have := (h.lt g hg).1; omega) (by simp))
theorem OwnD.one {T : TypeId} {sz B b : Nat} {F : Nat → Prop} {w w' : World} {v : Value} {es : List (List Dat)} (h : OwnD T sz B F w v es) (ho : One b w w') (hF : ¬ F b) (hv : v.ownBlock ≠ some b) : OwnD T sz B F w' v es :=
  h.keep (Nat.le_of_eq ho.size.symm) (fun k _ hFk => ho.block k (fun e => hF (e ▸ hFk))) (fun g hg => ho.block g (fun e => hv (e ▸ hg)))
section
variable {o : Oper} {a : Act} {w : World} {K : Act → World → Prop} {Q : Exit → Act → World → Prop} {ops : Array Oper} {rest : List Oper}
theorem owp_store1 (T : TypeId) (p x : Operand) (ho : o.op = .store T p x) (b off : Nat) (hp : a.eval p = .pointer (some ⟨b, off, none⟩)) (u : Value) (hx : a.eval x = u) (hc : u.cells = #[u]) (h1 : u.oneCell' = true) (L : List Value) (TB : TypeId) (hL : w.heap[b]? = some (.cells L.toArray TB (0, 0))) (hn : off < L.length)
    (hi : (Try.prog.info? T).map (·.size) = some 1) (h : ∀ w', Hid (w'.heap[b]? = some (.cells (L.set off u).toArray TB (0, 0)) ∧ One b w w') → K (a.put o.dst undef) w') : o.wp Try.prog a w K Q := by
  have hcl : w.cell? ⟨b, off, none⟩ = some L[off] := cell_at hL off _ (List.getElem?_eq_getElem hn)
  have hf : w.frozen? ⟨b, off, none⟩ = false := free_at hL _
  have hb : (w.setCell ⟨b, off, none⟩ u).heap[b]? = some (.cells (L.set off u).toArray TB (0, 0)) := by have := blk_set hL off u; simpa using this
  refine owp_skip (w' := w.setCell ⟨b, off, none⟩ u) ?_ (h _ ⟨hb, one_cells b [u] off w⟩)
  have hr := run_store Try.prog w ⟨b, off, none⟩ u .plain h1
  rw [hcl] at hr
  simp only [hf] at hr
  cases hq : Try.prog.info? T with
  | none => simp [hq] at hi
  | some i =>
    have hs : i.size = 1 := by simp [hq] at hi; omega
    simp [execOp, ho, Instr.storeAt, Instr.sureAddr, hp, hx, storeVar, sizeOf, typeInfo, hq, hs, hc, storeCells, Addr.add, hr, Result.andThen]
theorem wl_store1 (hgd : o.guard = none) (T : TypeId) (p x : Operand) (ho : o.op = .store T p x) (b off : Nat) (hp : a.eval p = .pointer (some ⟨b, off, none⟩)) (u : Value) (hx : a.eval x = u) (hc : u.cells = #[u]) (h1 : u.oneCell' = true) (L : List Value) (TB : TypeId) (hL : w.heap[b]? = some (.cells L.toArray TB (0, 0))) (hn : off < L.length)
    (hi : (Try.prog.info? T).map (·.size) = some 1) (h : ∀ w', Hid (w'.heap[b]? = some (.cells (L.set off u).toArray TB (0, 0)) ∧ One b w w') → wpList Try.prog ops Q rest (a.put o.dst undef) w') : wpList Try.prog ops Q (o :: rest) a w :=
  wpList_plain hgd fun _ hK => owp_store1 T p x ho b off hp u hx hc h1 L TB hL hn hi (fun w' hw => hK _ _ (h w' hw))
/-- One more element behind one's own. -/
theorem owp_add_D (s x : Operand) (TS T : TypeId) (ho : o.op = .call { callee := .builtin .append, args := #[s, x], argTypes := #[TS, TS] }) (z : Value) (sz bytes : Nat) (hU : Try.prog.underlying TS = some (.slice T)) (hI : (Try.prog.info? T).map (fun i => (i.zero, i.size, i.bytes)) = some (some z, sz, bytes)) (hz : z.cells.size = sz) (hz0 : 0 < sz)
    (B : Nat) (F F' : Nat → Prop) (v : Value) (es : List (List Dat)) (hs : a.eval s = v) (hO : OwnD T sz B F w v es) (hB : B ≤ w.heap.size)
    (g : Nat) (hx : a.eval x = .slice (some ⟨g, 0, none⟩) 1 1) (e : List Dat) (news : List Value) (hnl : news.length = sz) (hel : e.length = sz) (hc : ∀ j u, news[j]? = some u → w.cell? ⟨g, j, none⟩ = some u)
    (hr : ∀ (q : Nat) (d : Dat), e[q]? = some d → ∃ u, news[q]? = some u ∧ Reads F' w u d) (h1 : ∀ u, u ∈ news → u.oneCell' = true) (hF : ∀ j, j < w.heap.size → F j → F' j) (hrow : ∀ j, v.ownBlock = some j → ¬ F' j) (hnew : ∀ j, F' j → j < w.heap.size) (hl : (es.length + 1) * bytes ≤ 140737488355328) (hl2 : es.length + 1 ≤ maxLen)
    (h : ∀ v' w', Hid (OwnD T sz B F' w' v' (es ++ [e]) ∧ w.grownBy w' v.ownBlock ∧ (v'.ownBlock = v.ownBlock ∨ v'.ownBlock = some w.heap.size)) → K (a.put o.dst v') w') : o.wp Try.prog a w K Q := by
  obtain ⟨i0, hi0, hz1, hz2, hz3⟩ := info_parts hI
  obtain ⟨cs, hown, _⟩ := hO.own
  obtain ⟨v', w', hrn, h2, h3, h4, h5⟩ := run_append_own_at (P := Try.prog) w B TS o.type T i0 z sz bytes hU hi0 hz1 hz2 hz3 hz hz0 v _ cs hown ⟨g, 0, none⟩ 1 1 news (by rw [hnl]; omega) (fun j u hj => by
    have h9 := hc j u hj
    by_cases h0 : j = 0
    · rw [h0] at h9 ⊢; simpa [Addr.add] using h9
    · simpa [Addr.add, h0] using h9) h1 hl2 hl hB
  have hkeep : ∀ {u : Value} {d : Dat}, Reads F' w u d → Reads F' w' u d := fun hu => hu.keep h3.size (fun j hj hFj => h3.block j hj (fun e => hrow j e.symm hFj))
  refine owp_value (v := v') (w' := w') ?_ (h v' w' ⟨?_, h3, h5⟩)
  · simp [execOp, ho, resolve, invoke, builtin, hs, hx, hrn, Result.andThen]
  · exact hO.grow (F' := F') (e := e) hown hel (fun q d hd => by
      obtain ⟨u, k1, k2⟩ := hr q d hd
      exact ⟨u, k1, hkeep k2⟩) h2 h3 hF (fun j hj hFj => by
      rcases h5 with e | e
      · exact hrow j (e ▸ hj) hFj
      · rw [e] at hj
        cases hj
        exact absurd (hnew _ hFj) (by omega))
theorem wl_add_D (hgd : o.guard = none) (s x : Operand) (TS T : TypeId) (ho : o.op = .call { callee := .builtin .append, args := #[s, x], argTypes := #[TS, TS] }) (z : Value) (sz bytes : Nat) (hU : Try.prog.underlying TS = some (.slice T)) (hI : (Try.prog.info? T).map (fun i => (i.zero, i.size, i.bytes)) = some (some z, sz, bytes)) (hz : z.cells.size = sz) (hz0 : 0 < sz)
    (B : Nat) (F F' : Nat → Prop) (v : Value) (es : List (List Dat)) (hs : a.eval s = v) (hO : OwnD T sz B F w v es) (hB : B ≤ w.heap.size)
    (g : Nat) (hx : a.eval x = .slice (some ⟨g, 0, none⟩) 1 1) (e : List Dat) (news : List Value) (hnl : news.length = sz) (hel : e.length = sz) (hc : ∀ j u, news[j]? = some u → w.cell? ⟨g, j, none⟩ = some u)
    (hr : ∀ (q : Nat) (d : Dat), e[q]? = some d → ∃ u, news[q]? = some u ∧ Reads F' w u d) (h1 : ∀ u, u ∈ news → u.oneCell' = true) (hF : ∀ j, j < w.heap.size → F j → F' j) (hrow : ∀ j, v.ownBlock = some j → ¬ F' j) (hnew : ∀ j, F' j → j < w.heap.size) (hl : (es.length + 1) * bytes ≤ 140737488355328) (hl2 : es.length + 1 ≤ maxLen)
    (h : ∀ v' w', Hid (OwnD T sz B F' w' v' (es ++ [e]) ∧ w.grownBy w' v.ownBlock ∧ (v'.ownBlock = v.ownBlock ∨ v'.ownBlock = some w.heap.size)) → wpList Try.prog ops Q rest (a.put o.dst v') w') : wpList Try.prog ops Q (o :: rest) a w :=
  wpList_plain hgd fun _ hK => owp_add_D s x TS T ho z sz bytes hU hI hz hz0 B F F' v es hs hO hB g hx e news hnl hel hc hr h1 hF hrow hnew hl hl2 (fun v' w' hw => hK _ _ (h v' w' hw))
end
/-- What a part leaves: an answer, or it gave up. -/
def Got {α : Type} (p : Ps α) (b : Nat) (s : ByteArray) (val : α → Value → World → World → Prop) (w : World) (e : Ending) (w' : World) : Prop :=
  Kept b none w w' ∧ ((∃ x s' v, p s = some (x, s') ∧ e = .returned v ∧ val x v w w' ∧ RdAt w' b s' false) ∨ (p s = none ∧ e = .panicked [{ v := .iface 56 (.agg #[]), recovered := false }]))
theorem pI_yes {s : ByteArray} {n : Nat} (h : rB s false n = false) : pI n s = some ((rN s false n : Int), rS s false n) := by
  rw [pI, pMap, pN, if_pos h]; rfl
theorem pI_no {s : ByteArray} {n : Nat} (h : rB s false n = true) : pI n s = none := by
  rw [pI, pMap, pN, if_neg (by rw [h]; decide)]; rfl
def vI (x : Int) (v : Value) (_ _ : World) : Prop := v = .int .i64 x
def vT (x : ByteArray) (v : Value) (_ _ : World) : Prop := v = .string x
theorem ipbyte_got (b : Nat) (s : ByteArray) (w : World) (h : RdAt w b s false) : Calls Try.prog 70 #[.agg #[.pointer (some ⟨b, 0, none⟩)]] w (Got (pI 1) b s vI w) := by
  cases hs : rB s false 1 with
  | false => exact (ipbyte_yes b s w h hs).mono fun e w' ⟨h1, h2, h3⟩ => ⟨h3, .inl ⟨_, _, _, pI_yes hs, h1, rfl, h2⟩⟩
  | true => exact (ipbyte_no b s w h hs).mono fun e w' ⟨h1, h3⟩ => ⟨h3, .inr ⟨pI_no hs, h1⟩⟩
theorem ipword_got (b : Nat) (s : ByteArray) (w : World) (h : RdAt w b s false) : Calls Try.prog 71 #[.agg #[.pointer (some ⟨b, 0, none⟩)]] w (Got (pI 2) b s vI w) := by
  cases hs : rB s false 2 with
  | false => exact (ipword_yes b s w h hs).mono fun e w' ⟨h1, h2, h3⟩ => ⟨h3, .inl ⟨_, _, _, pI_yes hs, h1, rfl, h2⟩⟩
  | true => exact (ipword_no b s w h hs).mono fun e w' ⟨h1, h3⟩ => ⟨h3, .inr ⟨pI_no hs, h1⟩⟩
theorem iptext_got (b : Nat) (s : ByteArray) (w : World) (h : RdAt w b s false) : Calls Try.prog 74 #[.agg #[.pointer (some ⟨b, 0, none⟩)]] w (Got pT b s vT w) := by
  cases hs : tB s false with
  | false => exact (iptext_yes b s w h hs).mono fun e w' ⟨h1, h2, h3⟩ => ⟨h3, .inl ⟨_, _, _, by rw [pT, if_pos hs], h1, rfl, h2⟩⟩
  | true => exact (iptext_no b s w h hs).mono fun e w' ⟨h1, h3⟩ => ⟨h3, .inr ⟨by rw [pT, if_neg (by rw [hs]; decide)], h1⟩⟩
theorem many_none {α : Type} {p : Ps α} {s : ByteArray} {k : Nat} (h : pMany p k s = none) : ∀ n, k ≤ n → pMany p n s = none
  | 0, hn => by rw [show k = 0 by omega] at h; exact h
  | n + 1, hn => by
    by_cases e : k = n + 1
    · rw [← e]; exact h
    · rw [pMany, many_none h n (by omega)]; rfl
theorem many_snoc {α : Type} {p : Ps α} {s s1 s2 : ByteArray} {k : Nat} {l : List α} {x : α} (h : pMany p k s = some (l, s1)) (hx : p s1 = some (x, s2)) : pMany p (k + 1) s = some (l ++ [x], s2) := by
  rw [pMany, h]
  show (p s1).map _ = _
  rw [hx]
  rfl
theorem many_fail {α : Type} {p : Ps α} {s s1 : ByteArray} {k : Nat} {l : List α} (h : pMany p k s = some (l, s1)) (hx : p s1 = none) : pMany p (k + 1) s = none := by
  rw [pMany, h]
  show (p s1).map _ = _
  rw [hx]
  rfl
theorem many_len {α : Type} {p : Ps α} {s : ByteArray} : ∀ {k : Nat} {l : List α} {s' : ByteArray}, pMany p k s = some (l, s') → l.length = k
  | 0, l, s', h => by cases h; rfl
  | k + 1, l, s', h => by
    rw [pMany] at h
    cases h1 : pMany p k s with
    | none => rw [h1] at h; cases h
    | some a =>
      rw [h1] at h
      simp only [Option.bind_some] at h
      cases h2 : p a.2 with
      | none => rw [h2] at h; cases h
      | some b =>
        rw [h2] at h
        simp only [Option.map_some, Option.some.injEq, Prod.mk.injEq] at h
        obtain ⟨rfl, rfl⟩ := h
        rw [List.length_append, many_len (l := a.1) (s' := a.2) h1]
        rfl
theorem list_of {α : Type} {p : Ps α} {s s1 : ByteArray} {n : Int} (h : pI 1 s = some (n, s1)) : ∃ k : Nat, n = (k : Int) ∧ k < 256 ∧ pList p s = pMany p k s1 := by
  unfold pI pMap at h
  cases hn : pN 1 s with
  | none => rw [hn] at h; cases h
  | some a =>
    rw [hn] at h
    simp only [Option.bind_some, Option.map_some, Option.some.injEq, Prod.mk.injEq] at h
    obtain ⟨rfl, rfl⟩ := h
    have := ((inv_N 1).back s a.1 a.2 hn).1
    exact ⟨a.1, rfl, by simpa using this, by rw [pList, hn]; rfl⟩
theorem list_no {α : Type} {p : Ps α} {s : ByteArray} (h : pI 1 s = none) : pList p s = none := by
  unfold pI pMap at h
  cases hn : pN 1 s with
  | none => rw [pList, hn]; rfl
  | some a => rw [hn] at h; cases h
end Go.Proofs.Ytepcdbmdfpaomaa
