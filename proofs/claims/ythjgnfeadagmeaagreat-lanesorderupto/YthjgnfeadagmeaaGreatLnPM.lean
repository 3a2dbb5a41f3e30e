/- What the law of counts keeps. No walk here. -/
import Derived.Test.YthjgnfeadagmeaaGreatOpLM
namespace Go.Proofs.YthjgnfeadagmeaaGreat
open Go.RowKit

theorem msS.norm {m : Ms} (h : msS m) : msS (normM m) := by
  refine ⟨h.key, h.tx, h.nx, h.sg, ⟨by show (m.cg.map nCg).length * 64 ≤ _; rw [List.length_map]; exact h.cg.1, fun c hc => ?_⟩, h.ln⟩
  obtain ⟨d, hd, rfl⟩ := List.mem_map.1 hc
  obtain ⟨⟨h1, h2⟩, h3⟩ := h.cg.2 d hd
  refine ⟨⟨by show (d.2.2.1.map nCt).length * 96 ≤ _; rw [List.length_map]; exact h1, fun x hx => ?_⟩, h3⟩
  obtain ⟨y, hy, rfl⟩ := List.mem_map.1 hx
  exact h2 y hy
theorem addP_len {ps : List Pkt} {q : Pkt} (h : ps.length ≤ 4096) : (addP ps q).length = min (ps.length + 1) 4096 := by
  unfold addP
  split
  · rw [List.length_append, List.length_singleton]; omega
  · omega
def AllS (ps : List Pkt) : Prop := ∀ q, q ∈ ps → msS q.2.2
theorem AllS.one {ps : List Pkt} (h : AllS ps) {q : Pkt} (hq : msS q.2.2) : AllS (ps ++ [nrmP q]) := fun x hx => by
  rcases List.mem_append.1 hx with hx | hx
  · exact h x hx
  · rw [List.mem_singleton.1 hx]; exact hq.norm
theorem AllS.add {ps : List Pkt} (h : AllS ps) {q : Pkt} (hq : msS q.2.2) : AllS (addP ps (nrmP q)) := by
  unfold addP
  split
  · exact h.one hq
  · exact h
theorem AllS.send {qs : List Pkt} (hq : AllS qs) : ∀ ps : List Pkt, AllS ps → AllS (sendP ps qs) := by
  induction qs with
  | nil => intro ps h; exact h
  | cons q r ih => intro ps h; exact ih (fun x hx => hq x (List.mem_cons_of_mem _ hx)) (addP ps (nrmP q)) (h.add (hq q (List.mem_cons_self)))
theorem AllS.rmv {ps : List Pkt} (h : AllS ps) (p : Nat) : AllS (rmv ps p) := fun x hx => by
  rcases List.mem_append.1 hx with hx | hx
  · exact h x (List.mem_of_mem_take hx)
  · exact h x (List.mem_of_mem_drop hx)
theorem sendP_len (qs : List Pkt) : ∀ ps : List Pkt, ps.length ≤ 4096 → (sendP ps qs).length = min (ps.length + qs.length) 4096 := by
  induction qs with
  | nil => intro ps h; show ps.length = _; rw [List.length_nil]; omega
  | cons q r ih =>
    intro ps h
    show (sendP (addP ps (nrmP q)) r).length = _
    have h1 := addP_len (q := nrmP q) h
    rw [ih _ (by omega), h1, List.length_cons]
    omega
theorem noteP_len (L : List Sg) (qs : List Pkt) : (noteP L qs).length ≤ L.length + (qs.flatMap fun q => tmG q.2.2).length := by
  have := noteP_size L qs qs.length
  rwa [List.take_length] at this
theorem lsN_at {l : List Ls} {j : Nat} {s : Ls} (h : l[j]? = some s) : lsN (l.take (j + 1)) = lsN (l.take j) + (lsT s + s.ps.length + 1) := by
  unfold lsN
  rw [List.take_add_one, h, List.map_append, List.sum_append]
  simp
theorem lsN_le (l : List Ls) (j : Nat) : lsN (l.take j) ≤ lsN l := by
  have h : lsN l = lsN (l.take j) + lsN (l.drop j) := by
    unfold lsN
    rw [← List.sum_append, ← List.map_append, List.take_append_drop]
  omega
/-- A lane within a law. -/
structure CtSt (w0 w : World) (N : Nat) (v : Value) (bad : List Int) (T : Nat) (P : Nat → Prop) (ps : List Pkt) (L : List Sg) : Prop where
  at_ : LaneAt N P w v bad ps L
  low : w0.heap.size ≤ N
  bel : Below w0.heap.size w0 w
  all : AllS ps
  len : L.length ≤ T
section
variable {w0 w w' : World} {N : Nat} {v : Value} {bad : List Int} {T T' : Nat} {P : Nat → Prop} {ps ps' : List Pkt} {L L' : List Sg}
theorem CtSt.keep (h : CtSt w0 w N v bad T P ps L) (hb : Below w.heap.size w w') : CtSt w0 w' N v bad T P ps L := ⟨h.at_.keep hb, h.low, h.bel.trans (hb.mono h.bel.size), h.all, h.len⟩
theorem CtSt.wide (h : CtSt w0 w N v bad T P ps L) (hT : T ≤ T') : CtSt w0 w N v bad T' P ps L := ⟨h.at_, h.low, h.bel, h.all, Nat.le_trans h.len hT⟩
theorem CtSt.post (h : CtSt w0 w N v bad T P ps L) (hp : LanePost N P w w' v bad ps' L') (ha : AllS ps') (hl : L'.length ≤ T') : ∃ P', CtSt w0 w' N v bad T' P' ps' L' := by
  obtain ⟨P', k1, k2, _⟩ := hp
  exact ⟨P', k1, h.low, h.bel.trans (k2.below h.bel.size (fun k hk => Nat.le_trans h.low (h.at_.low k hk))), ha, hl⟩
theorem CtSt.sent (h : CtSt w0 w N v bad T P ps L) {qs : List Pkt} (hq : AllS qs) (hp : SdPost N P w w' v bad ps L qs) (hT : T + (qs.flatMap fun q => tmG q.2.2).length ≤ T') : ∃ P' ps' L', ps'.length = min (ps.length + qs.length) 4096 ∧ CtSt w0 w' N v bad T' P' ps' L' := by
  obtain ⟨P', h1⟩ := h.post (T' := T') hp (hq.send ps h.all) (by have := noteP_len L qs; have := h.len; omega)
  exact ⟨P', _, _, sendP_len qs ps h.at_.mx, h1⟩
theorem CtSt.took (h : CtSt w0 w N v bad T P ps L) {P' : Nat → Prop} {p : Nat} (hA : LaneAt N P' w' v bad (rmv ps p) L) (hO : Outs P w w') (hp : p < ps.length) : (rmv ps p).length = ps.length - 1 ∧ CtSt w0 w' N v bad T P' (rmv ps p) L :=
  ⟨rmv_len hp, hA, h.low, h.bel.trans (hO.below h.bel.size (fun k hk => Nat.le_trans h.low (h.at_.low k hk))), h.all.rmv p, h.len⟩
theorem CtSt.dropped (h : CtSt w0 w N v bad T P ps L) {p : Nat} (hA : LanePost N P w w' v bad (rmv ps p) L) (hp : p < ps.length) : ∃ P' ps' L', ps'.length = ps.length - 1 ∧ CtSt w0 w' N v bad T P' ps' L' := by
  obtain ⟨P', h1⟩ := h.post (T' := T) hA (h.all.rmv p) h.len
  exact ⟨P', _, _, rmv_len hp, h1⟩
theorem CtSt.copied (h : CtSt w0 w N v bad T P ps L) {q : Pkt} (hq : q ∈ ps) (hA : LanePost N P w w' v bad (addP ps (nrmP q)) L) : ∃ P' ps' L', ps'.length = min (ps.length + 1) 4096 ∧ CtSt w0 w' N v bad T P' ps' L' := by
  obtain ⟨P', h1⟩ := h.post (T' := T) hA (h.all.add (h.all q hq)) h.len
  exact ⟨P', _, _, addP_len h.at_.mx, h1⟩
end
end Go.Proofs.YthjgnfeadagmeaaGreat
