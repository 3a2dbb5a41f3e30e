/- The document's digest: what its steps need. -/
import Derived.Test.YtebhkifjommpjaaShN
import Derived.ArgAppend
import Derived.Laws.IdiomCopy
namespace Go.Proofs.Ytebhkifjommpjaa
open Go.RowKit

/-- The bytes l lie at the row's beginning; the row has cap cells, all free. -/
structure BytesAt (w : World) (g cap : Nat) (l : List UInt8) : Prop where
  lt : g < w.heap.size
  cell : ∀ j v, (bC l)[j]? = some v → w.cell? ⟨g, j, none⟩ = some v
  free : ∀ j, j < cap → (w.cell? ⟨g, j, none⟩).isSome = true ∧ w.frozen? ⟨g, j, none⟩ = false
theorem BytesAt.keep {w w' : World} {g cap : Nat} {l : List UInt8} (h : BytesAt w g cap l) (hb : Below w.heap.size w w') : BytesAt w' g cap l :=
  ⟨Nat.lt_of_lt_of_le h.lt hb.size, fun j v hv => (hb.cell (p := ⟨g, j, none⟩) h.lt).trans (h.cell j v hv), fun j hj => by
    rw [hb.cell (p := ⟨g, j, none⟩) h.lt, hb.frozen (p := ⟨g, j, none⟩) h.lt]
    exact h.free j hj⟩

section
variable {o : Oper} {a : Act} {w : World} {Q : Exit → Act → World → Prop} {ops : Array Oper} {rest : List Oper}
/-- A string turned into bytes. -/
theorem wl_bytes (hgd : o.guard = none) (x : Operand) (ho : o.op = .convert 9 55 x) (s : ByteArray) (hx : a.eval x = .string s) (hs : s.size ≤ maxLen)
    (h : ∀ cap w', s.size ≤ cap → Hid (BytesAt w' w.heap.size cap s.data.toList) → Hid (Below w.heap.size w w') → Hid (cap ≤ maxLen) → wpList Try.prog ops Q rest (a.put o.dst (.slice (some ⟨w.heap.size, 0, none⟩) s.size cap)) w') : wpList Try.prog ops Q (o :: rest) a w := by
  refine wpList_plain hgd fun K hK => ?_
  have hr := run_bytes_of_string (P := Try.prog) w 9 55 5 s Try.underlying9 Try.underlying55 Try.underlying5
  have hge := grownCap_ge w s.size 0 5
  have hle := grownCap_le_maxLen w s.size 0 5 hs
  generalize grownCap w s.size 0 5 = cap at hr hge hle
  have hsz : (bytesRow s cap).size = cap := by
    have : s.data.size = s.size := rfl
    simp [bytesRow]; omega
  rw [hsz] at hr
  refine owp_value (v := .slice (some ⟨w.heap.size, 0, none⟩) s.size cap) (w' := w.drew.alloc (.cells (bytesRow s cap) 5 (cap, cap + 1))) ?_ (hK _ _ (h cap _ hge ?_ ?_ hle))
  · simp [execOp, ho, hx, hr, Result.andThen]
  · have hb : (w.drew.alloc (.cells (bytesRow s cap) 5 (cap, cap + 1))).heap[w.heap.size]? = some (.cells (bytesRow s cap) 5 (cap, cap + 1)) := heap_alloc_last w.drew _
    refine (⟨lt_of_blk hb, fun j v hv => ?_, fun j hj => ⟨?_, ?_⟩⟩ : BytesAt _ _ _ _)
    · have hj : j < s.data.size := by have := (List.getElem?_eq_some_iff.1 hv).1; rw [bC_len] at this; exact this
      have e := bytesRow_at s cap j hj
      rw [bC_get _ _ (by exact hj)] at hv
      simp only [World.cell?, hb]
      refine e.trans ?_
      rw [← hv]
      simp [List.getD, Array.getElem?_eq_getElem hj]
    · simp only [World.cell?, hb]
      simp [hsz, hj]
    · simp only [World.frozen?, hb]
      simp
      omega
  · exact ((Below.refl _ _).drew.alloc (Nat.le_refl _) _ : Below w.heap.size w (w.drew.alloc _))
/-- All the bytes: where they lie, whichever way the append went. -/
structure AllAt (w : World) (Bs g cap : Nat) (l : List UInt8) : Prop where
  lt : g < w.heap.size
  ge : Bs ≤ g
  le : l.length ≤ cap
  cell : ∀ j v, (bC l)[j]? = some v → w.cell? ⟨g, j, none⟩ = some v
theorem wl_all (hgd : o.guard = none) (x y : Operand) (ho : o.op = .call { callee := .builtin .append, args := #[x, y], argTypes := #[55, 55] })
    (g n cap : Nat) (hx : a.eval x = .slice (some ⟨g, 0, none⟩) n cap) (A : List UInt8) (hA : A.length = n) (hB : BytesAt w g cap A) (Bs : Nat) (hg : Bs ≤ g)
    (B2 : Nat) (w1 : World) (v2 : Value) (C : List UInt8) (hy : a.eval y = v2) (hC : Owned B2 w1 w v2 C) (hC0 : 0 < C.length) (hsz : n + C.length ≤ 140737488355328)
    (h : ∀ g2 cap2 w', Hid (AllAt w' Bs g2 cap2 (A ++ C)) → Hid (Below Bs w w') → wpList Try.prog ops Q rest (a.put o.dst (.slice (some ⟨g2, 0, none⟩) (n + C.length) cap2)) w') : wpList Try.prog ops Q (o :: rest) a w := by
  obtain ⟨i0, hi0, hz0, hz1, hz2⟩ := info_parts Try.info5
  obtain ⟨gc, cc, rfl, hcell⟩ : ∃ gc cc, v2 = .slice (some ⟨gc, 0, none⟩) C.length cc ∧ ∀ j v, (bC C)[j]? = some v → w.cell? ((⟨gc, 0, none⟩ : Addr).add j) = some v := by
    rcases hC.own.2 with ⟨_, h0⟩ | ⟨gc, cc, cur, hv, _⟩
    · omega
    · exact ⟨gc, cc, hv, fun j v hv2 => by subst hv; exact hC.own.cells (g := gc) rfl j v hv2⟩
  refine wpList_append_arg w hgd x y 55 ho 5 i0 (.int .u8 0) 1 1 Try.underlying55 hi0 hz0 hz1 hz2 rfl (by decide) g 0 n cap (bC A) hx (by rw [bC_len, hA, Nat.mul_one]) (fun j v hv => by rw [Nat.zero_add]; exact hB.cell j v hv) ⟨gc, 0, none⟩ C.length cc (bC C) hy (by rw [bC_len, Nat.mul_one]) hcell (bC_one _)
    (fun hr j hj => by rw [Nat.mul_one, Nat.zero_add]; rw [bC_len] at hj; exact hB.free (n + j) (by omega)) (by unfold maxLen; omega) (by omega) (fun hr => ?_) (fun hr v' w' hown hgrow => ?_)
  · have hsome : ∀ j, j < (bC C).length → (w.cell? ⟨g, (0 + n * 1) + j, none⟩).isSome = true := fun j hj => by
      rw [bC_len] at hj
      rw [Nat.mul_one, Nat.zero_add]
      exact (hB.free (n + j) (by omega)).1
    have hbel : ∀ (vs : List Value) (q : Nat) (u : World), Below Bs w u → Below Bs w (u.setCells g q vs) := by
      intro vs
      induction vs with
      | nil => intro q u hu; exact hu
      | cons v r ih => intro q u hu; exact ih (q + 1) _ (hu.setCell (p := ⟨g, q, none⟩) hg v)
    have hb2 := hbel (bC C) (0 + n * 1) w (Below.refl _ _)
    refine h g cap _ (⟨Nat.lt_of_lt_of_le hB.lt hb2.size, hg, by rw [List.length_append, hA]; exact hr, fun j v hv => ?_⟩ : AllAt _ _ _ _ _) hb2
    rw [bC_app] at hv
    by_cases hj : j < n
    · rw [List.getElem?_append_left (by rw [bC_len, hA]; exact hj)] at hv
      rw [World.cell?_setCells_out g (bC C) _ w ⟨g, j, none⟩ (fun _ _ => .inl (by show j < 0 + n * 1; omega))]
      exact hB.cell j v hv
    · rw [List.getElem?_append_right (by rw [bC_len, hA]; omega), bC_len, hA] at hv
      have hj2 : j - n < (bC C).length := (List.getElem?_eq_some_iff.1 hv).1
      have e := World.cell?_setCells_in g (bC C) (0 + n * 1) w hsome (j - n) hj2
      rw [show 0 + n * 1 + (j - n) = j by omega] at e
      rw [e, ← hv, List.getElem?_eq_getElem hj2]
  · have hbw : Bs ≤ w.heap.size := Nat.le_trans hg (Nat.le_of_lt hB.lt)
    have hb2 : Below Bs w w' := (Below.refl Bs w).grown hgrow hbw (fun k hk => by cases hk)
    rcases hown.2 with ⟨_, h0⟩ | ⟨g2, cap2, cur, hv, hb, hh, hnc, hcp, hcs, htake⟩
    · omega
    · subst hv
      refine h g2 cap2 w' (⟨lt_of_blk hh, Nat.le_trans hbw hb, by rw [List.length_append, hA]; exact hnc, fun j v hv => ?_⟩ : AllAt _ _ _ _ _) hb2
      rw [bC_app] at hv
      have := hown.cells (g := g2) rfl j v hv
      rwa [Addr.add_lit, Nat.zero_add] at this
end

end Go.Proofs.Ytebhkifjommpjaa
