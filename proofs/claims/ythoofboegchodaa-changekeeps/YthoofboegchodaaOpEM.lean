/- Changes, configurations, pairs and tales as arguments. No walk here. -/
import Derived.Test.YthoofboegchodaaCgAM
import Derived.Test.YthoofboegchodaaKb1
namespace Go.Proofs.Ythoofboegchodaa
open Go.ChangeShapes Go.WideShapes Go.ChangeAt Go.RowKit

section
variable {S : Prop} {U : Nat}
theorem fit_conf {ds : List Dat} (h : Fits S U shConf ds) : ∃ (e : Int) (xs : List Int), ds = [.i e, dInts xs] ∧ iR e ∧ intsR xs := by
  obtain ⟨d1, d2, rfl, ⟨x, rfl, hx⟩, d3, d4, rfl, hi, rfl⟩ := h
  obtain ⟨xs, rfl, h4⟩ := fit_ints hi
  exact ⟨x, xs, rfl, hx, h4⟩
end
def shPair : Sh := .st (.c .i (.c .i (.c shChg (.c shChg .u))))
theorem of_pair : shPair.Of Try.prog (.inl 44) := ⟨_, Try.underlying44, by kernel_rfl, ⟨_, _, rfl, rfl, by kernel_rfl, Try.underlying3, ⟨_, _, rfl, rfl, by kernel_rfl, Try.underlying3, ⟨_, _, rfl, rfl, by kernel_rfl, of_chg, ⟨_, _, rfl, rfl, by kernel_rfl, of_chg, rfl⟩⟩⟩⟩⟩
section
variable {H : Type} {enc : TypeId × Value → H} {W : World} {fuel : Nat} {x : DataW H × List MemPlace}
theorem cg_cells {F : Nat → Prop} {w : World} {cs : List Value} {z : Cg} (hl : cs.length = 5) (h : CellsAre F w cs (dCg z)) : ∃ v, cs = cgC z v ∧ Reads F w v (dCts z.2.2.1) := by
  match cs, hl with
  | [c0, c1, c2, c3, c4], _ =>
    obtain ⟨_, e0, r0, _⟩ := h 0 _ rfl
    obtain ⟨_, e1, r1, _⟩ := h 1 _ rfl
    obtain ⟨_, e2, r2, _⟩ := h 2 _ rfl
    obtain ⟨_, e3, r3, _⟩ := h 3 _ rfl
    obtain ⟨_, e4, r4, _⟩ := h 4 _ rfl
    cases e0; cases e1; cases e2; cases e3; cases e4
    exact ⟨c2, by rw [r0.int, r1.int, r3.int, r4.str]; rfl, r2⟩
theorem open_chg {c0 c1 c2 c3 c4 : Value} (h : DataW.trod enc Try.prog W 0 (fun _ => true) true fuel 26 [c0, c1, c2, c3, c4] = some x) :
    ∃ (z : Cg) (a : Option Addr) (n k : Nat), c0 = .int .i64 z.1 ∧ c1 = .int .i64 z.2.1 ∧ c2 = .slice a n k ∧ c3 = .int .i64 z.2.2.2.1 ∧ c4 = .string z.2.2.2.2 ∧ cgR z ∧ Reads (fun k => k < W.heap.size) W (.slice a n k) (dCts z.2.2.1) := by
  obtain ⟨ds, hf, hc⟩ := (opens_all Try.prog shChg).1 _ _ _ _ of_chg h
  obtain ⟨z, rfl, hB⟩ := fit_chg hf
  obtain ⟨v, hcs, hL⟩ := cg_cells (z := z) rfl hc
  obtain ⟨a, k, e⟩ := Reads.form hL
  subst e
  simp only [cgC, List.cons.injEq, and_true] at hcs
  obtain ⟨h0, h1, h2, h3, h4⟩ := hcs
  exact ⟨z, a, _, k, h0, h1, h2, h3, h4, hB, hL.mono (fun k hk _ => hk)⟩
theorem open_conf {c0 c1 : Value} (h : DataW.trod enc Try.prog W 0 (fun _ => true) true fuel 34 [c0, c1] = some x) :
    ∃ (e : Int) (a : Option Addr) (k : Nat) (xs : List Int), c0 = .int .i64 e ∧ c1 = .slice a xs.length k ∧ xs.length ≤ maxLen ∧ IntsIn W a xs := by
  obtain ⟨ds, hf, hc⟩ := (opens_all Try.prog shConf).1 _ _ _ _ of_conf h
  obtain ⟨e, xs, rfl, _, h1⟩ := fit_conf hf
  obtain ⟨u0, e0, r0, _⟩ := hc 0 _ rfl
  obtain ⟨u1, e1, r1, _⟩ := hc 1 _ rfl
  cases e0
  cases e1
  obtain ⟨ad, cap, hv, hi, _⟩ := reads_ints r1
  exact ⟨e, ad, cap, xs, r0.int, hv, h1.1, hi⟩
theorem open_chgs {ad : Option Addr} {len cap : Nat} (h : DataW.trod enc Try.prog W 0 (fun _ => true) true fuel 37 [.slice ad len cap] = some x) :
    ∃ l : List Cg, l.length ≤ maxLen ∧ (∀ z, z ∈ l → cgR z) ∧ Reads (fun k => k < W.heap.size) W (.slice ad len cap) (dCgs l) := by
  obtain ⟨ds, hf, hc⟩ := (opens_all Try.prog shChgs).1 _ _ _ _ of_chgs h
  obtain ⟨l, rfl, h1, h2⟩ := fit_chgs hf
  obtain ⟨u0, e0, r0, _⟩ := hc 0 _ rfl
  cases e0
  exact ⟨l, h1, h2, r0.mono (fun k hk _ => hk)⟩
end
end Go.Proofs.Ythoofboegchodaa
