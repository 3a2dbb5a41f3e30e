/- Changes, configurations, pairs and tales as arguments. No walk here. -/
import Derived.Test.YtohhlolmojeomaaKh1
import Derived.Test.YtohhlolmojeomaaKb1
namespace Go.Proofs.Ytohhlolmojeomaa
open Go.ChangeShapes Go.WideShapes Go.ChangeAt Go.RowKit

section
variable {S : Prop} {U : Nat}
theorem fit_conf {ds : List Dat} (h : Fits S U shConf ds) : ∃ (e : Int) (xs : List Int), ds = [.i e, dInts xs] ∧ iR e ∧ intsR xs := by
  obtain ⟨d1, d2, rfl, ⟨x, rfl, hx⟩, d3, d4, rfl, hi, rfl⟩ := h
  obtain ⟨xs, rfl, h4⟩ := fit_ints hi
  exact ⟨x, xs, rfl, hx, h4⟩
end
def shPair : Sh := .st (.c .i (.c .i (.c shChg (.c shChg .u))))
section
variable {H : Type} {enc : TypeId × Value → H} {W : World} {fuel : Nat} {x : DataW H × List MemPlace}
theorem cg_cells {F : Nat → Prop} {w : World} {cs : List Value} {z : Cg} (hl : cs.length = 5) (h : CellsAre F w cs (dCg z)) : ∃ v, cs = cgC z v ∧ Reads F w v (dCts z.2.2.1) := by
  match cs, hl with
  | [c0, c1, c2, c3, c4], _ =>
    obtain ⟨_, e0, r0, _⟩ := h 0 _ rfl
    obtain ⟨_, e1, r1, _⟩ := h 1 _ rfl
    obtain ⟨_, e2, r2, _⟩ := h 2 _ rfl
    obtain ⟨_, e3, r3, _⟩ := h 3 _ rfl
    obtain ⟨_, e4, r4, _⟩ := h 4 _ rfl
    cases e0; cases e1; cases e2; cases e3; cases e4
    exact ⟨c2, by rw [r0.int, r1.int, r3.int, r4.str]; rfl, r2⟩
theorem open_conf {c0 c1 : Value} (h : DataW.trod enc Try.prog W 0 (fun _ => true) true fuel 24 [c0, c1] = some x) :
    ∃ (e : Int) (a : Option Addr) (k : Nat) (xs : List Int), c0 = .int .i64 e ∧ c1 = .slice a xs.length k ∧ xs.length ≤ maxLen ∧ IntsIn W a xs := by
  obtain ⟨ds, hf, hc⟩ := (opens_all Try.prog shConf).1 _ _ _ _ of_conf h
  obtain ⟨e, xs, rfl, _, h1⟩ := fit_conf hf
  obtain ⟨u0, e0, r0, _⟩ := hc 0 _ rfl
  obtain ⟨u1, e1, r1, _⟩ := hc 1 _ rfl
  cases e0
  cases e1
  obtain ⟨ad, cap, hv, hi, _⟩ := reads_ints r1
  exact ⟨e, ad, cap, xs, r0.int, hv, h1.1, hi⟩
end
end Go.Proofs.Ytohhlolmojeomaa
