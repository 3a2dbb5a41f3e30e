/- Scripts of votes, opened, with room for a copy of each list. No walk here. -/
import Derived.Test.YtclfphffbfdimaaOpVM
namespace Go.Proofs.Ytclfphffbfdimaa
open Go.ChangeShapes Go.WideShapes Go.ChangeAt Go.RowKit

def vtOw (o : VtA) : Prop := vtOk o ∧ o.2.2.1.length ≤ 17592186043904
section
variable {S : Prop} {U : Nat}
theorem fits_voteU {ds : List Dat} (h : Fits S U shVote ds) : ∃ o : VtA, ds = dVt o ∧ (S → vtOw o) := by
  obtain ⟨d1, d2, rfl, ⟨x, rfl, _⟩, d3, d4, rfl, ⟨y, rfl, _, hy2, _⟩, d5, d6, rfl, h5, d7, d8, rfl, ⟨z, rfl, _⟩, rfl⟩ := h
  obtain ⟨xs, rfl, h6, h7⟩ := fits_ints h5
  exact ⟨(x, y, xs, z), rfl, fun s => ⟨⟨hy2 s, h6⟩, by have := h7 s; show xs.length ≤ _; omega⟩⟩
theorem fits_votesU {ds : List Dat} (h : Fits S U shVotes ds) : ∃ os : List VtA, ds = [.l 4 (os.map dVt)] ∧ os.length ≤ maxLen ∧ (S → ∀ o, o ∈ os → vtOw o) := by
  obtain ⟨es, rfl, h1, h2, _, h3⟩ := h
  obtain ⟨os, rfl, h4⟩ := fits_map (f := dVt) (Q := fun o => S → vtOw o) es (fun d hd => fits_voteU (h3 d hd))
  rw [List.length_map] at h1
  exact ⟨os, rfl, h1, fun s o ho => h4 o ho s⟩
end
theorem open_votesU {H : Type} {enc : TypeId × Value → H} {W : World} {fuel : Nat} {x : DataW H × List MemPlace} {ad : Option Addr} {len cap : Nat} (h : DataW.trod enc Try.prog W 0 (fun _ => true) true fuel 30 [.slice ad len cap] = some x) :
    ∃ os : List VtA, os.length = len ∧ os.length ≤ maxLen ∧ VtsIn W ad os ∧ ((∀ m ∈ x.1.weights Try.prog 30, m ≤ reachBytes) → ∀ o, o ∈ os → vtOw o) := by
  obtain ⟨ds, hf, hc⟩ := (opens_all Try.prog shVotes).1 _ _ _ _ of_votes h
  obtain ⟨os, rfl, h1, h2⟩ := fits_votesU hf
  obtain ⟨u0, e0, r0, _⟩ := hc 0 _ rfl
  cases e0
  obtain ⟨ad', cap', hv, hi⟩ := reads_votes r0
  cases hv
  exact ⟨os, rfl, h1, hi, h2⟩
end Go.Proofs.Ytclfphffbfdimaa
