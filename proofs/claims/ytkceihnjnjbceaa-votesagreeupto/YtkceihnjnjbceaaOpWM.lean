/- Arguments of the law of two tallies, opened: a list of numbers, an array of two scripts, with the bulk. No walk here. -/
import Derived.Test.YtkceihnjnjbceaaOpVM
namespace Go.Proofs.Ytkceihnjnjbceaa
open Go.ChangeShapes Go.WideShapes Go.ChangeAt Go.RowKit

theorem okWide_arr {P : Program} {w : World} {r : Reach} {base : Nat} {t : TypeId} {v : Value} {n : Nat} {e : TypeId} (ht : P.underlying t = some (.array n e)) (h : Value.okWide P w r base t v) : ∃ cs, v = .agg cs ∧ cs.size = P.cellsOf t := by
  simp only [Value.okWide, ht] at h
  obtain ⟨cs, h1, h2, _⟩ := h
  exact ⟨cs, h1, h2⟩
section
variable {S : Prop} {U : Nat}
theorem fits_intsU {ds : List Dat} (h : Fits S U shInts ds) : ∃ xs : List Int, ds = [dInts xs] ∧ xs.length ≤ maxLen ∧ xs.length ≤ U := by
  obtain ⟨es, rfl, h1, _, h2, h3⟩ := h
  obtain ⟨xs, rfl, _⟩ := fits_map (f := fun x : Int => [Dat.i x]) (Q := fun _ => True) es (fun d hd => by obtain ⟨x, hx, _⟩ := h3 d hd; exact ⟨x, hx, trivial⟩)
  rw [List.length_map] at h1 h2
  exact ⟨xs, rfl, h1, h2⟩
theorem fits_voteU {ds : List Dat} (h : Fits S U shVote ds) : ∃ o : VtA, ds = dVt o ∧ (o.2.1.size ≤ U ∧ o.2.2.1.length ≤ U) := by
  obtain ⟨d1, d2, rfl, ⟨x, rfl, _⟩, d3, d4, rfl, ⟨y, rfl, _, _, hy⟩, d5, d6, rfl, h5, d7, d8, rfl, ⟨z, rfl, _⟩, rfl⟩ := h
  obtain ⟨xs, rfl, _, h6⟩ := fits_intsU h5
  exact ⟨(x, y, xs, z), rfl, hy, h6⟩
theorem fits_votesU {ds : List Dat} (h : Fits S U shVotes ds) : ∃ os : List VtA, ds = [.l 4 (os.map dVt)] ∧ os.length ≤ U ∧ ∀ o, o ∈ os → o.2.1.size ≤ U ∧ o.2.2.1.length ≤ U := by
  obtain ⟨es, rfl, _, _, h2, h3⟩ := h
  obtain ⟨os, rfl, h4⟩ := fits_map (f := dVt) (Q := fun o => o.2.1.size ≤ U ∧ o.2.2.1.length ≤ U) es (fun d hd => fits_voteU (h3 d hd))
  rw [List.length_map] at h2
  exact ⟨os, rfl, h2, h4⟩
end
section
variable {H : Type} {enc : TypeId × Value → H} {W : World} {fuel : Nat} {x : DataW H × List MemPlace}
theorem open_nums {ad : Option Addr} {len cap : Nat} (h : DataW.trod enc Try.prog W 0 (fun _ => true) true fuel 22 [.slice ad len cap] = some x) : ∃ xs : List Int, xs.length = len ∧ xs.length ≤ maxLen ∧ IntsIn W ad xs := by
  obtain ⟨ds, hf, hc⟩ := (opens_all Try.prog shInts).1 _ _ _ _ of_ints h
  obtain ⟨xs, rfl, h1, _⟩ := fits_ints hf
  obtain ⟨u0, e0, r0, _⟩ := hc 0 _ rfl
  cases e0
  obtain ⟨ad', cap', hv, hi, _⟩ := reads_ints r0
  cases hv
  exact ⟨xs, rfl, h1, hi⟩
theorem open_votesU {c : Value} (h : DataW.trod enc Try.prog W 0 (fun _ => true) true fuel 30 [c] = some x) :
    ∃ (ad : Option Addr) (cap : Nat) (os : List VtA), c = .slice ad os.length cap ∧ VtsIn W ad os ∧ os.length ≤ Rows.uptoBulk x.1 ∧ ∀ o, o ∈ os → o.2.1.size ≤ Rows.uptoBulk x.1 ∧ o.2.2.1.length ≤ Rows.uptoBulk x.1 := by
  obtain ⟨ds, hf, hc⟩ := (opens_all Try.prog shVotes).1 _ _ _ _ of_votes h
  obtain ⟨os, rfl, h1, h2⟩ := fits_votesU hf
  obtain ⟨u0, e0, r0, _⟩ := hc 0 _ rfl
  cases e0
  obtain ⟨ad', cap', hv, hi⟩ := reads_votes r0
  exact ⟨ad', cap', os, hv, hi, h1, h2⟩
theorem votes_cells : Try.prog.cellsOf 30 = 1 := by kernel_rfl
set_option maxRecDepth 100000 in
theorem open_two {c0 c1 : Value} (h : DataW.trod enc Try.prog W 0 (fun _ => true) true fuel 62 [c0, c1] = some x) :
    ∃ (o1 : Option Addr) (k1 : Nat) (os1 : List VtA) (o2 : Option Addr) (k2 : Nat) (os2 : List VtA), c0 = .slice o1 os1.length k1 ∧ c1 = .slice o2 os2.length k2 ∧ VtsIn W o1 os1 ∧ VtsIn W o2 os2 ∧ (Rows.uptoBulk x.1 ≤ 1048576 → (os1.length ≤ 1048576 ∧ os2.length ≤ 1048576) ∧ (∀ o, o ∈ os1 → o.2.1.size ≤ 1048576 ∧ o.2.2.1.length ≤ 1048576) ∧ ∀ o, o ∈ os2 → o.2.1.size ≤ 1048576 ∧ o.2.2.1.length ≤ 1048576) := by
  obtain ⟨xs, m, _, ex, _, hl, hel⟩ := DataW.trod_array Try.underlying62 h
  match xs, hl with
  | [y0, y1], _ =>
    have e0 := hel 0 (by omega)
    have e1 := hel 1 (by omega)
    rw [votes_cells] at e0 e1
    obtain ⟨o1, k1, os1, v1, i1, l1, b1⟩ := open_votesU (x := y0) (c := c0) (by simpa using e0)
    obtain ⟨o2, k2, os2, v2, i2, l2, b2⟩ := open_votesU (x := y1) (c := c1) (by simpa using e1)
    refine ⟨o1, k1, os1, o2, k2, os2, v1, v2, i1, i2, fun hb => ?_⟩
    rw [ex] at hb
    have h0 := bulkD_in ([y0, y1].map (·.1)) 0 y0.1 rfl
    have h1 := bulkD_in ([y0, y1].map (·.1)) 1 y1.1 rfl
    simp only [Rows.uptoBulk] at hb
    exact ⟨⟨by omega, by omega⟩, fun o ho => ⟨by have := (b1 o ho).1; omega, by have := (b1 o ho).2; omega⟩, fun o ho => ⟨by have := (b2 o ho).1; omega, by have := (b2 o ho).2; omega⟩⟩
end
end Go.Proofs.Ytkceihnjnjbceaa
