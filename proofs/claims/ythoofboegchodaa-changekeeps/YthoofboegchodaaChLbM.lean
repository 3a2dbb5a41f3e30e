/- Rows of certificates and of changes, made by the laws: they read as such. No walk here. -/
import Derived.Test.YthoofboegchodaaChLaM
namespace Go.Proofs.Ythoofboegchodaa
open Go.RowKit

theorem reads_row {F : Nat → Prop} {w : World} {g cap sz : Nat} {T : TypeId} {es : List (List Dat)} {L : List Value} (hX : BxAt w g L T) (hF : F g) (hs : ∀ (j : Nat) (e : List Dat), es[j]? = some e → e.length = sz) (h : ∀ (j : Nat) (e : List Dat) (q : Nat) (d : Dat), es[j]? = some e → e[q]? = some d → ∃ u, L[j * sz + q]? = some u ∧ Reads F w u d) : Reads F w (.slice (some ⟨g, 0, none⟩) es.length cap) (.l sz es) := by
  refine Reads.l g 0 cap sz es (fun j q => L.getD (j * sz + q) undef) hF (lt_of_blk hX) hs (fun j e q d he hd => ?_) (fun j e q d he hd => ?_)
  · obtain ⟨u, hu, _⟩ := h j e q d he hd
    rw [Nat.zero_add, List.getD_eq_getElem?_getD, hu]
    exact hX.cell _ _ hu
  · obtain ⟨u, hu, hr⟩ := h j e q d he hd
    show Reads F w (L.getD (j * sz + q) undef) d
    rw [List.getD_eq_getElem?_getD, hu]
    exact hr
theorem rd_ct {F : Nat → Prop} {w : World} {y : Ct} {v : Value} (h : Reads F w v (dPairs y.2.2.2)) (q : Nat) (d : Dat) (hd : (dCt y)[q]? = some d) : q < 9 ∧ ∃ u, (ctC y v)[q]? = some u ∧ Reads F w u d := by
  match q, hd with
  | 0, hd => cases hd; exact ⟨by decide, _, rfl, .i _⟩
  | 1, hd => cases hd; exact ⟨by decide, _, rfl, .i _⟩
  | 2, hd => cases hd; exact ⟨by decide, _, rfl, .i _⟩
  | 3, hd => cases hd; exact ⟨by decide, _, rfl, .i _⟩
  | 4, hd => cases hd; exact ⟨by decide, _, rfl, .i _⟩
  | 5, hd => cases hd; exact ⟨by decide, _, rfl, .s _⟩
  | 6, hd => cases hd; exact ⟨by decide, _, rfl, .f _⟩
  | 7, hd => cases hd; exact ⟨by decide, _, rfl, .i _⟩
  | 8, hd => cases hd; exact ⟨by decide, _, rfl, h⟩
  | q + 9, hd => cases hd
theorem rd_cg {F : Nat → Prop} {w : World} {z : Cg} {v : Value} (h : Reads F w v (dCts z.2.2.1)) (q : Nat) (d : Dat) (hd : (dCg z)[q]? = some d) : q < 5 ∧ ∃ u, (cgC z v)[q]? = some u ∧ Reads F w u d := by
  match q, hd with
  | 0, hd => cases hd; exact ⟨by decide, _, rfl, .i _⟩
  | 1, hd => cases hd; exact ⟨by decide, _, rfl, .i _⟩
  | 2, hd => cases hd; exact ⟨by decide, _, rfl, h⟩
  | 3, hd => cases hd; exact ⟨by decide, _, rfl, .i _⟩
  | 4, hd => cases hd; exact ⟨by decide, _, rfl, .s _⟩
  | q + 5, hd => cases hd
def cgF (p : Cg × Value) : List Value := cgC p.1 p.2
theorem cgF_len (p : Cg × Value) : (cgF p).length = 5 := rfl
theorem reads_cts {F : Nat → Prop} {w : World} {g cap : Nat} {T : TypeId} (G : List (Ct × Value)) (hX : BxAt w g (gC G) T) (hF : F g) (h : ∀ p ∈ G, Reads F w p.2 (dPairs p.1.2.2.2)) : Reads F w (.slice (some ⟨g, 0, none⟩) G.length cap) (dCts (G.map (·.1))) := by
  have := reads_row (cap := cap) (sz := 9) (es := (G.map (·.1)).map dCt) hX hF (fun j e he => by
    rw [List.map_map, List.getElem?_map] at he
    cases hp : G[j]? with
    | none => rw [hp] at he; cases he
    | some p => rw [hp] at he; cases he; rfl) (fun j e q d he hd => by
    rw [List.map_map, List.getElem?_map] at he
    cases hp : G[j]? with
    | none => rw [hp] at he; cases he
    | some p =>
      rw [hp] at he
      cases he
      obtain ⟨hq, u, hu, hr⟩ := rd_ct (h p (List.mem_of_getElem? hp)) q d hd
      exact ⟨u, by rw [gC, row_at gcF_len hp q hq]; exact hu, hr⟩)
  rw [List.length_map, List.length_map] at this
  exact this
theorem reads_cgs {F : Nat → Prop} {w : World} {g cap : Nat} {T : TypeId} (G : List (Cg × Value)) (hX : BxAt w g (G.flatMap cgF) T) (hF : F g) (h : ∀ p ∈ G, Reads F w p.2 (dCts p.1.2.2.1)) : Reads F w (.slice (some ⟨g, 0, none⟩) G.length cap) (dCgs (G.map (·.1))) := by
  have := reads_row (cap := cap) (sz := 5) (es := (G.map (·.1)).map dCg) hX hF (fun j e he => by
    rw [List.map_map, List.getElem?_map] at he
    cases hp : G[j]? with
    | none => rw [hp] at he; cases he
    | some p => rw [hp] at he; cases he; rfl) (fun j e q d he hd => by
    rw [List.map_map, List.getElem?_map] at he
    cases hp : G[j]? with
    | none => rw [hp] at he; cases he
    | some p =>
      rw [hp] at he
      cases he
      obtain ⟨hq, u, hu, hr⟩ := rd_cg (h p (List.mem_of_getElem? hp)) q d hd
      exact ⟨u, by rw [row_at cgF_len hp q hq]; exact hu, hr⟩)
  rw [List.length_map, List.length_map] at this
  exact this
end Go.Proofs.Ythoofboegchodaa
