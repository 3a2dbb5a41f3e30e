/- Rows of one's own whose elements lead to data of any depth elsewhere. No walk here. -/
import Derived.Test.YtclfphffbfdimaaDeAM
namespace Go.Proofs.Ytclfphffbfdimaa
open Go.RowKit

/-- The slice v holds the elements es in a row of its own (from block B on); what they lead to is read through blocks of F, and the row is none of them. -/
structure OwnD (T : TypeId) (sz B : Nat) (F : Nat → Prop) (w : World) (v : Value) (es : List (List Dat)) : Prop where
  own : ∃ cs : List Value, w.ownsRow B T sz v es.length cs ∧ ∀ (j : Nat) (e : List Dat), es[j]? = some e → e.length = sz ∧ ∀ (q : Nat) (d : Dat), e[q]? = some d → ∃ u, cs[j * sz + q]? = some u ∧ Reads F w u d
  sep : ∀ g, v.ownBlock = some g → ¬ F g
theorem OwnD.nil (T : TypeId) (sz B : Nat) (F : Nat → Prop) (w : World) : OwnD T sz B F w (.slice none 0 0) [] :=
  ⟨⟨[], ⟨by simp, .inl ⟨rfl, rfl⟩⟩, fun j e h => by simp at h⟩, fun g h => by simp [Value.ownBlock] at h⟩
theorem OwnD.form {T : TypeId} {sz B : Nat} {F : Nat → Prop} {w : World} {v : Value} {es : List (List Dat)} (h : OwnD T sz B F w v es) : ∃ ad cap, v = .slice ad es.length cap := by
  obtain ⟨cs, ho, _⟩ := h.own
  rcases ho.2 with ⟨hv, h0⟩ | ⟨g, cap, cur, hv, _⟩
  · exact ⟨none, 0, by rw [hv, h0]⟩
  · exact ⟨_, cap, hv⟩
theorem OwnD.lt {T : TypeId} {sz B : Nat} {F : Nat → Prop} {w : World} {v : Value} {es : List (List Dat)} (h : OwnD T sz B F w v es) : ∀ g, v.ownBlock = some g → B ≤ g ∧ g < w.heap.size := fun g hg => by
  obtain ⟨cs, ho, _⟩ := h.own
  exact ho.lt g hg
/-- It stays while the row and what it leads to stay. -/
theorem OwnD.keep {T : TypeId} {sz B : Nat} {F : Nat → Prop} {w w' : World} {v : Value} {es : List (List Dat)} (h : OwnD T sz B F w v es) (hs : w.heap.size ≤ w'.heap.size) (hF : ∀ k, k < w.heap.size → F k → w'.heap[k]? = w.heap[k]?) (hr : ∀ g, v.ownBlock = some g → w'.heap[g]? = w.heap[g]?) : OwnD T sz B F w' v es := by
  obtain ⟨cs, ho, hc⟩ := h.own
  refine ⟨⟨cs, ⟨ho.1, ?_⟩, fun j e he => ⟨(hc j e he).1, fun q d hd => ?_⟩⟩, h.sep⟩
  · rcases ho.2 with hx | ⟨g, cap, cur, hv, hg, hh, hr2⟩
    · exact .inl hx
    · exact .inr ⟨g, cap, cur, hv, hg, (hr g (by rw [hv]; rfl)).trans hh, hr2⟩
  · obtain ⟨u, h1, h2⟩ := (hc j e he).2 q d hd
    exact ⟨u, h1, h2.keep hs hF⟩
theorem OwnD.under {T : TypeId} {sz B C : Nat} {F : Nat → Prop} {w w' : World} {v : Value} {es : List (List Dat)} (h : OwnD T sz B F w v es) (hb : Below C w w') (hC : w.heap.size ≤ C) : OwnD T sz B F w' v es :=
  h.keep hb.size (fun k hk _ => hb.block k (Nat.lt_of_lt_of_le hk hC)) (fun g hg => hb.block g (Nat.lt_of_lt_of_le (h.lt g hg).2 hC))
theorem ownsRow_one {w : World} {B sz n : Nat} {T : TypeId} {v : Value} {cs cs' : List Value} (h : w.ownsRow B T sz v n cs) (h' : w.ownsRow B T sz v n cs') : cs = cs' := by
  rcases h.2 with ⟨_, h0⟩ | ⟨g, cap, cur, hv, _, hh, _, _, _, ht⟩
  · have h1 := h.1
    have h2 := h'.1
    rw [h0, Nat.zero_mul] at h1 h2
    rw [List.eq_nil_of_length_eq_zero h1, List.eq_nil_of_length_eq_zero h2]
  · rcases h'.2 with ⟨hv', _⟩ | ⟨g', cap', cur', hv', _, hh', _, _, _, ht'⟩
    · rw [hv] at hv'; cases hv'
    · rw [hv] at hv'
      cases hv'
      rw [hh] at hh'
      cases hh'
      rw [← ht, ← ht']
/-- One more element behind the others. -/
theorem OwnD.grow {T : TypeId} {sz B : Nat} {F F' : Nat → Prop} {w w2 : World} {v v2 : Value} {es : List (List Dat)} {e : List Dat} {cs news : List Value} (h : OwnD T sz B F w v es) (ho : w.ownsRow B T sz v es.length cs)
    (he : e.length = sz) (hnew : ∀ (q : Nat) (d : Dat), e[q]? = some d → ∃ u, news[q]? = some u ∧ Reads F' w2 u d)
    (h2 : w2.ownsRow B T sz v2 (es.length + 1) (cs ++ news)) (hg : w.grownBy w2 v.ownBlock) (hF : ∀ k, k < w.heap.size → F k → F' k) (hsep : ∀ g, v2.ownBlock = some g → ¬ F' g) : OwnD T sz B F' w2 v2 (es ++ [e]) := by
  obtain ⟨cs', ho', hc⟩ := h.own
  obtain rfl := ownsRow_one ho ho'
  refine ⟨⟨cs ++ news, by rw [List.length_append]; exact h2, fun j x hx => ?_⟩, hsep⟩
  have hl : cs.length = es.length * sz := ho'.1
  by_cases hj : j < es.length
  · rw [List.getElem?_append_left hj] at hx
    obtain ⟨h1, h3⟩ := hc j x hx
    refine ⟨h1, fun q d hd => ?_⟩
    obtain ⟨u, h4, h5⟩ := h3 q d hd
    exact ⟨u, by rw [List.getElem?_append_left (List.getElem?_eq_some_iff.1 h4).1]; exact h4, h5.move hg.size (fun k hk hFk => ⟨hg.block k hk (fun e => h.sep k e.symm hFk), hF k hk hFk⟩)⟩
  · have hj2 : j = es.length := by
      have := (List.getElem?_eq_some_iff.1 hx).1
      simp at this
      omega
    subst hj2
    simp at hx
    subst hx
    refine ⟨he, fun q d hd => ?_⟩
    obtain ⟨u, h4, h5⟩ := hnew q d hd
    refine ⟨u, ?_, h5⟩
    rw [List.getElem?_append_right (by omega), hl, Nat.add_sub_cancel_left]
    exact h4
/-- What such a slice reads as. -/
theorem OwnD.reads {T : TypeId} {sz B : Nat} {F : Nat → Prop} {w : World} {v : Value} {es : List (List Dat)} (h : OwnD T sz B F w v es) : Reads (fun k => F k ∨ v.ownBlock = some k) w v (.l sz es) := by
  obtain ⟨cs, ho, hc⟩ := h.own
  cases es with
  | nil =>
    obtain ⟨ad, cap, hv⟩ := h.form
    rw [hv]
    exact .nil ad cap sz
  | cons e0 es =>
    rcases ho.2 with ⟨_, h0⟩ | ⟨g, cap, cur, hv, hB, hh, hnc, hcp, hcs, ht⟩
    · simp at h0
    · subst hv
      refine .l g 0 cap sz (e0 :: es) (fun j q => cs.getD (j * sz + q) undef) (.inr rfl) (lt_of_blk hh) (fun j e he => (hc j e he).1) (fun j e q d he hd => ?_) (fun j e q d he hd => ?_)
      · obtain ⟨u, h1, _⟩ := (hc j e he).2 q d hd
        have := ho.cells (g := g) rfl _ _ h1
        rw [Addr.add_lit] at this
        rw [List.getD_eq_getElem?_getD, h1, Nat.add_assoc]
        exact this
      · obtain ⟨u, h1, h2⟩ := (hc j e he).2 q d hd
        rw [List.getD_eq_getElem?_getD, h1]
        exact h2.mono (fun k _ hk => .inl hk)
end Go.Proofs.Ytclfphffbfdimaa
