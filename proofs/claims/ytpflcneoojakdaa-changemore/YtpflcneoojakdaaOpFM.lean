/- A list of changes as an argument that may be cut. No walk here. -/
import Derived.Test.YtpflcneoojakdaaOpEM
namespace Go.Proofs.Ytpflcneoojakdaa
open Go.ChangeShapes Go.WideShapes Go.ChangeAt Go.RowKit

section
variable {H : Type} {enc : TypeId × Value → H} {W : World} {fuel : Nat} {x : DataW H × List MemPlace}
theorem open_chgsC {ad : Option Addr} {len cap : Nat} (h : DataW.trod enc Try.prog W 0 (fun _ => true) true fuel 37 [.slice ad len cap] = some x) :
    ∃ l : List Cg, l.length ≤ maxLen ∧ (∀ z, z ∈ l → cgR z) ∧ len ≤ cap ∧ Reads (fun k => k < W.heap.size) W (.slice ad len cap) (dCgs l) := by
  obtain ⟨ds, hf, hc⟩ := (opens_all Try.prog shChgs).1 _ _ _ _ of_chgs h
  obtain ⟨l, rfl, h1, h2⟩ := fit_chgs hf
  obtain ⟨u0, e0, r0, c0⟩ := hc 0 _ rfl
  cases e0
  exact ⟨l, h1, h2, c0.room _ _ _ rfl, r0.mono (fun k hk _ => hk)⟩
end
end Go.Proofs.Ytpflcneoojakdaa
