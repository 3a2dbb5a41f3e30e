/- Arguments of the laws of the slots, opened: steps, scripts. No walk here. -/
import Derived.Test.YtohhlolmojeomaaOpEM
import Derived.Test.YtohhlolmojeomaaKl1
namespace Go.Proofs.Ytohhlolmojeomaa
open Go.ChangeShapes Go.WideShapes Go.ChangeAt Go.RowKit

/-- Scripts in memory. -/
def SpsIn (w : World) (ad : Option Addr) (os : List Sp) : Prop := os = [] ∨ ∃ g off, ad = some ⟨g, off, none⟩ ∧ g < w.heap.size ∧ ∀ (j : Nat) (o : Sp), os[j]? = some o → ∀ (q : Nat) (v : Value), (spC o)[q]? = some v → w.cell? ⟨g, off + j * 11 + q, none⟩ = some v
theorem SpsIn.keep {w w' : World} {ad : Option Addr} {os : List Sp} {B : Nat} (h : SpsIn w ad os) (hb : Below B w w') (hB : w.heap.size ≤ B) : SpsIn w' ad os := by
  rcases h with h | ⟨g, off, ha, hg, hc⟩
  · exact .inl h
  · exact .inr ⟨g, off, ha, Nat.lt_of_lt_of_le hg hb.size, fun j o ho q v hv => (World.cell?_of_block (a := ⟨g, off + j * 11 + q, none⟩) (hb.block g (by omega))).trans (hc j o ho q v hv)⟩
def spOk (o : Sp) : Prop := o.a.key.size ≤ maxLen ∧ o.a.b < 18446744073709551616
def shAskS : Sh := .st (.c .i (.c .i (.c .i (.c .s (.c .q (.c .i .u))))))
theorem of_askS : shAskS.Of Try.prog (.inl 34) := ⟨_, Try.underlying34, by kernel_rfl, ⟨_, _, rfl, rfl, by kernel_rfl, Try.underlying3, ⟨_, _, rfl, rfl, by kernel_rfl, Try.underlying3, ⟨_, _, rfl, rfl, by kernel_rfl, Try.underlying3, ⟨_, _, rfl, rfl, by kernel_rfl, Try.underlying9, ⟨_, _, rfl, rfl, by kernel_rfl, Try.underlying32, ⟨_, _, rfl, rfl, by kernel_rfl, Try.underlying3, rfl⟩⟩⟩⟩⟩⟩⟩
def shSp : Sh := .st (.c .i (.c .i (.c .i (.c .i (.c shAskS (.c .b .u))))))
def shSps : Sh := .l 96 11 shSp
theorem of_sp : shSp.Of Try.prog (.inl 36) := ⟨_, Try.underlying36, by kernel_rfl, ⟨_, _, rfl, rfl, by kernel_rfl, Try.underlying3, ⟨_, _, rfl, rfl, by kernel_rfl, Try.underlying3, ⟨_, _, rfl, rfl, by kernel_rfl, Try.underlying3, ⟨_, _, rfl, rfl, by kernel_rfl, Try.underlying3, ⟨_, _, rfl, rfl, by kernel_rfl, of_askS, ⟨_, _, rfl, rfl, by kernel_rfl, Try.underlying4, rfl⟩⟩⟩⟩⟩⟩⟩
theorem of_sps : shSps.Of Try.prog (.inl 25) := ⟨_, Try.underlying25, by kernel_rfl, by kernel_rfl, rfl, by decide, of_sp⟩
def dSp (o : Sp) : List Dat := [.i o.k, .i o.fr, .i o.sl, .i o.vw, .i o.a.c, .i o.a.st, .i o.a.k, .s o.a.key, .q o.a.b, .i o.a.id, .b o.wr]
section
variable {S : Prop} {U : Nat}
theorem fits_sp {ds : List Dat} (h : Fits S U shSp ds) : ∃ o : Sp, ds = dSp o ∧ spOk o := by
  obtain ⟨d1, g1, rfl, ⟨k, rfl, _⟩, d2, g2, rfl, ⟨fr, rfl, _⟩, d3, g3, rfl, ⟨sl, rfl, _⟩, d4, g4, rfl, ⟨vw, rfl, _⟩, d5, g5, rfl, h5, d6, g6, rfl, ⟨wr, rfl⟩, rfl⟩ := h
  obtain ⟨e1, f1, rfl, ⟨x1, rfl, _⟩, e2, f2, rfl, ⟨x2, rfl, _⟩, e3, f3, rfl, ⟨x3, rfl, _⟩, e4, f4, rfl, ⟨x4, rfl, h4, _⟩, e5, f5, rfl, ⟨x5, rfl, h6⟩, e6, f6, rfl, ⟨x6, rfl, _⟩, rfl⟩ := h5
  exact ⟨⟨k, fr, sl, vw, ⟨x1, x2, x3, x4, x5, x6⟩, wr⟩, rfl, h4, h6⟩
theorem fits_sps {ds : List Dat} (h : Fits S U shSps ds) : ∃ os : List Sp, ds = [.l 11 (os.map dSp)] ∧ os.length ≤ maxLen ∧ (S → os.length * 96 ≤ 140737488351232) ∧ ∀ o, o ∈ os → spOk o := by
  obtain ⟨es, rfl, h1, h2, _, h3⟩ := h
  obtain ⟨os, rfl, h4⟩ := fits_map (f := dSp) (Q := spOk) es (fun d hd => fits_sp (h3 d hd))
  rw [List.length_map] at h1 h2
  exact ⟨os, rfl, h1, h2, h4⟩
end
theorem reads_sp {G : Nat → Prop} {W : World} {o : Sp} {q : Nat} {v : Value} {u : Value} {d : Dat} (hv : (spC o)[q]? = some v) (hd : (dSp o)[q]? = some d) (h : Reads G W u d) : u = v := by
  match q, hv, hd with
  | 0, hv, hd => cases hv; cases hd; exact h.int
  | 1, hv, hd => cases hv; cases hd; exact h.int
  | 2, hv, hd => cases hv; cases hd; exact h.int
  | 3, hv, hd => cases hv; cases hd; exact h.int
  | 4, hv, hd => cases hv; cases hd; exact h.int
  | 5, hv, hd => cases hv; cases hd; exact h.int
  | 6, hv, hd => cases hv; cases hd; exact h.int
  | 7, hv, hd => cases hv; cases hd; exact h.str
  | 8, hv, hd => cases hv; cases hd; exact h.quad
  | 9, hv, hd => cases hv; cases hd; exact h.int
  | 10, hv, hd => cases hv; cases hd; exact h.bool
  | q + 11, hv, hd => cases hv
theorem reads_sps {G : Nat → Prop} {W : World} {v : Value} {os : List Sp} (h : Reads G W v (.l 11 (os.map dSp))) : ∃ ad cap, v = .slice ad os.length cap ∧ SpsIn W ad os := by
  generalize hd : Dat.l 11 (os.map dSp) = d at h
  cases h with
  | nil ad cap sz =>
    cases os with
    | nil => exact ⟨ad, cap, rfl, .inl rfl⟩
    | cons o os => cases hd
  | l g off cap sz es c hF hg hs hc hr =>
    cases hd
    refine ⟨_, cap, by rw [List.length_map], .inr ⟨g, off, rfl, hg, fun j o ho q u hu => ?_⟩⟩
    have hj : (os.map dSp)[j]? = some (dSp o) := by rw [List.getElem?_map, ho]; rfl
    have hq : q < (dSp o).length := by
      have := (List.getElem?_eq_some_iff.1 hu).1
      exact this
    have hq2 : (dSp o)[q]? = some ((dSp o)[q]'hq) := List.getElem?_eq_getElem hq
    rw [hc j _ q _ hj hq2, reads_sp hu hq2 (hr j _ q _ hj hq2)]
  | _ => cases hd
section
variable {H : Type} {enc : TypeId × Value → H} {W : World} {fuel : Nat} {x : DataW H × List MemPlace}
theorem open_sps {ad : Option Addr} {len cap : Nat} (h : DataW.trod enc Try.prog W 0 (fun _ => true) true fuel 25 [.slice ad len cap] = some x) :
    ∃ os : List Sp, os.length = len ∧ os.length ≤ maxLen ∧ SpsIn W ad os ∧ (∀ o, o ∈ os → spOk o) ∧ ((∀ m ∈ x.1.weights Try.prog 25, m ≤ reachBytes) → os.length * 96 ≤ 140737488351232) := by
  obtain ⟨ds, hf, hc⟩ := (opens_all Try.prog shSps).1 _ _ _ _ of_sps h
  obtain ⟨os, rfl, h1, h2, h3⟩ := fits_sps hf
  obtain ⟨u0, e0, r0, _⟩ := hc 0 _ rfl
  cases e0
  obtain ⟨ad', cap', hv, hi⟩ := reads_sps r0
  cases hv
  exact ⟨os, rfl, h1, hi, h3, h2⟩
theorem open_sp {c0 c1 c2 c3 c4 c5 c6 c7 c8 c9 c10 : Value} (h : DataW.trod enc Try.prog W 0 (fun _ => true) true fuel 36 [c0, c1, c2, c3, c4, c5, c6, c7, c8, c9, c10] = some x) :
    ∃ o : Sp, #[c0, c1, c2, c3, c4, c5, c6, c7, c8, c9, c10] = #[.int .i64 o.k, .int .i64 o.fr, .int .i64 o.sl, .int .i64 o.vw, .int .i64 o.a.c, .int .i64 o.a.st, .int .i64 o.a.k, .string o.a.key, .int .u64 (o.a.b : Int), .int .i64 o.a.id, .bool o.wr] ∧ spOk o := by
  obtain ⟨ds, hf, hc⟩ := (opens_all Try.prog shSp).1 _ _ _ _ of_sp h
  obtain ⟨o, rfl, h1⟩ := fits_sp hf
  obtain ⟨u0, p0, r0, _⟩ := hc 0 _ rfl
  obtain ⟨u1, p1, r1, _⟩ := hc 1 _ rfl
  obtain ⟨u2, p2, r2, _⟩ := hc 2 _ rfl
  obtain ⟨u3, p3, r3, _⟩ := hc 3 _ rfl
  obtain ⟨u4, p4, r4, _⟩ := hc 4 _ rfl
  obtain ⟨u5, p5, r5, _⟩ := hc 5 _ rfl
  obtain ⟨u6, p6, r6, _⟩ := hc 6 _ rfl
  obtain ⟨u7, p7, r7, _⟩ := hc 7 _ rfl
  obtain ⟨u8, p8, r8, _⟩ := hc 8 _ rfl
  obtain ⟨u9, p9, r9, _⟩ := hc 9 _ rfl
  obtain ⟨u10, p10, r10, _⟩ := hc 10 _ rfl
  cases p0
  cases p1
  cases p2
  cases p3
  cases p4
  cases p5
  cases p6
  cases p7
  cases p8
  cases p9
  cases p10
  exact ⟨o, by rw [r0.int, r1.int, r2.int, r3.int, r4.int, r5.int, r6.int, r7.str, r8.quad, r9.int, r10.bool], h1⟩
end
end Go.Proofs.Ytohhlolmojeomaa
