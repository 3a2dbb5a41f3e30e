/- Two tallies, who spoke first, and with which vote: what lies in memory. -/
import Derived.Test.YtkceihnjnjbceaaVGaM
import Derived.Test.YtkceihnjnjbceaaVSaM
import Derived.Test.YtkceihnjnjbceaaVEaM
namespace Go.Proofs.Ytkceihnjnjbceaa
open Go.RowKit

/-- A vote, and where its next members lie. -/
abbrev VtM := VtA × Option Addr × Nat
def vmC (x : VtM) : List Value := [.int .i64 x.1.1, .string x.1.2.1, .slice x.2.1 x.1.2.2.1.length x.2.2, .int .i64 x.1.2.2.2]
def fsC (fs : List VtM) : List Value := fs.flatMap vmC
theorem fsC_cons (x : VtM) (fs : List VtM) : fsC (x :: fs) = .int .i64 x.1.1 :: .string x.1.2.1 :: .slice x.2.1 x.1.2.2.1.length x.2.2 :: .int .i64 x.1.2.2.2 :: fsC fs := rfl
theorem fsC_app (a b : List VtM) : fsC (a ++ b) = fsC a ++ fsC b := by rw [fsC, List.flatMap_append]; rfl
theorem fsC_at : ∀ (fs : List VtM) (i : Nat) (x : VtM), fs[i]? = some x → (fsC fs)[i * 4]? = some (.int .i64 x.1.1) ∧ (fsC fs)[i * 4 + 1]? = some (.string x.1.2.1) ∧ (fsC fs)[i * 4 + 2]? = some (.slice x.2.1 x.1.2.2.1.length x.2.2) ∧ (fsC fs)[i * 4 + 3]? = some (.int .i64 x.1.2.2.2)
  | [], _, _, h => by simp at h
  | y :: fs, 0, x, h => by
    obtain rfl : y = x := by simpa using h
    exact ⟨rfl, rfl, rfl, rfl⟩
  | y :: fs, i + 1, x, h => by
    obtain ⟨h1, h2, h3, h4⟩ := fsC_at fs i x (by simpa using h)
    rw [fsC_cons, show (i + 1) * 4 = i * 4 + 1 + 1 + 1 + 1 by omega, show i * 4 + 1 + 1 + 1 + 1 + 1 = (i * 4 + 1) + 1 + 1 + 1 + 1 by omega, show i * 4 + 1 + 1 + 1 + 1 + 2 = (i * 4 + 2) + 1 + 1 + 1 + 1 by omega, show i * 4 + 1 + 1 + 1 + 1 + 3 = (i * 4 + 3) + 1 + 1 + 1 + 1 by omega]
    simp only [List.getElem?_cons_succ]
    exact ⟨h1, h2, h3, h4⟩
/-- The two tallies, the configuration, the scripts' box. -/
structure TwSt (w0 w : World) (F G : List Nat) (v u : Value) (s t : Ta) (ep : Int) (cv b1 b2 : Value) : Prop where
  tl : TlAt F w v s
  tu : TlAt G w u t
  cf : CvAt w w0.heap.size ep cv
  bx : w.heap[w0.heap.size + 1]? = some (.cells #[b1, b2] 62 (0, 0))
  bel : Below w0.heap.size w0 w
  fF : ∀ b, b ∈ F → w0.heap.size + 1 < b
  fG : ∀ b, b ∈ G → w0.heap.size + 1 < b
  dis : ∀ b, b ∈ F → b ∉ G
theorem TwSt.keep {w0 w w' : World} {F G : List Nat} {v u : Value} {s t : Ta} {ep : Int} {cv b1 b2 : Value} (h : TwSt w0 w F G v u s t ep cv b1 b2) (hb : Below w.heap.size w w') : TwSt w0 w' F G v u s t ep cv b1 b2 :=
  ⟨h.tl.keep hb, h.tu.keep hb, h.cf.keep hb, (hb.block _ (lt_of_blk h.bx)).trans h.bx, h.bel.trans (hb.mono h.bel.size), h.fF, h.fG, h.dis⟩
theorem TwSt.low {w0 w w' : World} {F G : List Nat} {v u : Value} {s t : Ta} {ep : Int} {cv b1 b2 : Value} (h : TwSt w0 w F G v u s t ep cv b1 b2) {B : Nat} (hb : Below B w w') (hF : ∀ b, b ∈ F → b < B) (hG : ∀ b, b ∈ G → b < B) (hB : w0.heap.size + 1 < B) : TwSt w0 w' F G v u s t ep cv b1 b2 :=
  ⟨h.tl.stay hb.size (fun b hbF => hb.block b (hF b hbF)), h.tu.stay hb.size (fun b hbG => hb.block b (hG b hbG)), (hb.block _ (by omega)).trans h.cf, (hb.block _ hB).trans h.bx, h.bel.trans (hb.mono (by omega)), h.fF, h.fG, h.dis⟩
theorem below_out {w0 w w' : World} {F : List Nat} (h : Below w0.heap.size w0 w) (ho : Out F w w') (hF : ∀ b, b ∈ F → w0.heap.size < b) : Below w0.heap.size w0 w' :=
  ⟨ho.os.trans h.os, ho.tape.trans h.tape, ho.output.trans h.output, Nat.le_trans h.size ho.size, fun k hk => (ho.block k (Nat.lt_of_lt_of_le hk h.size) (fun hm => by have := hF k hm; omega)).trans (h.block k hk)⟩
theorem TwSt.voteF {w0 w w' : World} {F G : List Nat} {v u : Value} {s t s2 : Ta} {ep : Int} {cv b1 b2 : Value} (h : TwSt w0 w F G v u s t ep cv b1 b2) (ho : Out F w w') (ht : TlAt F w' v s2) : TwSt w0 w' F G v u s2 t ep cv b1 b2 :=
  ⟨ht, h.tu.out ho (fun b hb hm => h.dis b hm hb), (ho.block _ (lt_of_blk h.cf) (fun hm => by have := h.fF _ hm; omega)).trans h.cf, (ho.block _ (lt_of_blk h.bx) (fun hm => by have := h.fF _ hm; omega)).trans h.bx, below_out h.bel ho (fun b hb => by have := h.fF b hb; omega), h.fF, h.fG, h.dis⟩
theorem TwSt.voteG {w0 w w' : World} {F G : List Nat} {v u : Value} {s t t2 : Ta} {ep : Int} {cv b1 b2 : Value} (h : TwSt w0 w F G v u s t ep cv b1 b2) (ho : Out G w w') (ht : TlAt G w' u t2) : TwSt w0 w' F G v u s t2 ep cv b1 b2 :=
  ⟨h.tl.out ho h.dis, ht, (ho.block _ (lt_of_blk h.cf) (fun hm => by have := h.fG _ hm; omega)).trans h.cf, (ho.block _ (lt_of_blk h.bx) (fun hm => by have := h.fG _ hm; omega)).trans h.bx, below_out h.bel ho (fun b hb => by have := h.fG b hb; omega), h.fF, h.fG, h.dis⟩
/-- The two lists of one's own beside. -/
structure AgSt (w0 w : World) (B : Nat) (F G : List Nat) (v u : Value) (s t : Ta) (ep : Int) (cv b1 b2 x : Value) (said : List Int) (y : Value) (fs : List VtM) : Prop where
  tw : TwSt w0 w F G v u s t ep cv b1 b2
  hF : ∀ b, b ∈ F → b < B
  hG : ∀ b, b ∈ G → b < B
  hB : w0.heap.size + 1 < B
  le : B ≤ w.heap.size
  r1 : w.ownsRow B 3 1 x said.length (iC said)
  r2 : w.ownsRow B 38 4 y fs.length (fsC fs)
  ne : ∀ k, x.ownBlock = some k → y.ownBlock ≠ some k
section
variable {w0 w w' : World} {B : Nat} {F G : List Nat} {v u : Value} {s t : Ta} {ep : Int} {cv b1 b2 x : Value} {said : List Int} {y : Value} {fs : List VtM}
theorem AgSt.keep (h : AgSt w0 w B F G v u s t ep cv b1 b2 x said y fs) (hb : Below w.heap.size w w') : AgSt w0 w' B F G v u s t ep cv b1 b2 x said y fs :=
  ⟨h.tw.keep hb, h.hF, h.hG, h.hB, Nat.le_trans h.le hb.size, ownsRow_keep h.r1 hb, ownsRow_keep h.r2 hb, h.ne⟩
theorem AgSt.voteF {s2 : Ta} (h : AgSt w0 w B F G v u s t ep cv b1 b2 x said y fs) (ho : Out F w w') (ht : TlAt F w' v s2) : AgSt w0 w' B F G v u s2 t ep cv b1 b2 x said y fs :=
  ⟨h.tw.voteF ho ht, h.hF, h.hG, h.hB, Nat.le_trans h.le ho.size, own_out h.r1 ho h.hF, own_out h.r2 ho h.hF, h.ne⟩
theorem AgSt.voteG {t2 : Ta} (h : AgSt w0 w B F G v u s t ep cv b1 b2 x said y fs) (ho : Out G w w') (ht : TlAt G w' u t2) : AgSt w0 w' B F G v u s t2 ep cv b1 b2 x said y fs :=
  ⟨h.tw.voteG ho ht, h.hF, h.hG, h.hB, Nat.le_trans h.le ho.size, own_out h.r1 ho h.hG, own_out h.r2 ho h.hG, h.ne⟩
theorem AgSt.more1 {x' : Value} {said' : List Int} (h : AgSt w0 w B F G v u s t ep cv b1 b2 x said y fs) (hg : w.grownBy w' x.ownBlock) (ho : w'.ownsRow B 3 1 x' said'.length (iC said')) (hx : x'.ownBlock = x.ownBlock ∨ x'.ownBlock = some w.heap.size) : AgSt w0 w' B F G v u s t ep cv b1 b2 x' said' y fs := by
  have hlow : Below B w w' := ⟨hg.os, hg.tape, hg.output, hg.size, fun k hk => hg.block k (Nat.lt_of_lt_of_le hk h.le) (fun e => by have := (h.r1.lt k e.symm).1; omega)⟩
  refine ⟨h.tw.low hlow h.hF h.hG h.hB, h.hF, h.hG, h.hB, Nat.le_trans h.le hg.size, ho, h.r2.kept hg ?_, fun k hk hy => ?_⟩
  · cases e : y.ownBlock with
    | none => exact .inl rfl
    | some k =>
      right
      intro e2
      exact h.ne k e2.symm e
  · rcases hx with e | e
    · exact h.ne k (e ▸ hk) hy
    · rw [e] at hk
      cases hk
      have := (h.r2.lt _ hy).2
      omega
theorem AgSt.more2 {y' : Value} {fs' : List VtM} (h : AgSt w0 w B F G v u s t ep cv b1 b2 x said y fs) (hg : w.grownBy w' y.ownBlock) (ho : w'.ownsRow B 38 4 y' fs'.length (fsC fs')) (hy : y'.ownBlock = y.ownBlock ∨ y'.ownBlock = some w.heap.size) : AgSt w0 w' B F G v u s t ep cv b1 b2 x said y' fs' := by
  have hlow : Below B w w' := ⟨hg.os, hg.tape, hg.output, hg.size, fun k hk => hg.block k (Nat.lt_of_lt_of_le hk h.le) (fun e => by have := (h.r2.lt k e.symm).1; omega)⟩
  refine ⟨h.tw.low hlow h.hF h.hG h.hB, h.hF, h.hG, h.hB, Nat.le_trans h.le hg.size, h.r1.kept hg ?_, ho, fun k hk e => ?_⟩
  · cases e : x.ownBlock with
    | none => exact .inl rfl
    | some k => exact .inr (fun e2 => h.ne k e e2.symm)
  · rcases hy with e3 | e3
    · exact h.ne k hk (e3 ▸ e)
    · rw [e3] at e
      cases e
      have := (h.r1.lt _ hk).2
      omega
/-- A block of one's own that is written: none of these. -/
theorem AgSt.setp (h : AgSt w0 w B F G v u s t ep cv b1 b2 x said y fs) (p o : Nat) (z : Value) (hp : B ≤ p) (h1 : ∀ k, x.ownBlock = some k → k < p) (h2 : ∀ k, y.ownBlock = some k → k < p) : AgSt w0 (w.setCell ⟨p, o, none⟩ z) B F G v u s t ep cv b1 b2 x said y fs := by
  have hoth : ∀ k, k ≠ p → (w.setCell ⟨p, o, none⟩ z).heap[k]? = w.heap[k]? := fun k hk => Below.heap_setCell _ _ _ _ hk
  have hlow : Below B w (w.setCell ⟨p, o, none⟩ z) := (Below.refl B w).setCell hp z
  refine ⟨h.tw.low hlow h.hF h.hG h.hB, h.hF, h.hG, h.hB, by simpa using h.le, ⟨h.r1.1, ?_⟩, ⟨h.r2.1, ?_⟩, h.ne⟩
  · rcases h.r1.2 with hn | ⟨g, cap, cur, hv, hB, hh, hr⟩
    · exact .inl hn
    · exact .inr ⟨g, cap, cur, hv, hB, (hoth g (by have := h1 g (by rw [hv]; rfl); omega)).trans hh, hr⟩
  · rcases h.r2.2 with hn | ⟨g, cap, cur, hv, hB, hh, hr⟩
    · exact .inl hn
    · exact .inr ⟨g, cap, cur, hv, hB, (hoth g (by have := h2 g (by rw [hv]; rfl); omega)).trans hh, hr⟩
end
/-- What is told of the two, as lists. -/
structure AgIn (w0 : World) (ep : Int) (l bad : List Int) (U : Nat) (s t : Ta) (said : List Int) (fs : List VtM) : Prop where
  s1 : s.ep = ep ∧ s.mem = l
  t1 : t.ep = ep ∧ t.mem = l
  fst : Fst said (fs.map (·.1))
  hs : Heard1 ep l bad said (fs.map (·.1)) s
  ht : Heard1 ep l bad said (fs.map (·.1)) t
  mem : ∀ x ∈ fs, IntsIn w0 x.2.1 x.1.2.2.1 ∧ x.1.2.1.size ≤ U ∧ x.1.2.2.1.length ≤ U
end Go.Proofs.Ytkceihnjnjbceaa
