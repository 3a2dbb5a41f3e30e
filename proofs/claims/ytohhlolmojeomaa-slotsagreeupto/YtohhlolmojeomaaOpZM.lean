/- Arguments of the law of two logs, opened: a list of numbers, an array of two scripts, with the bulk. No walk here. -/
import Derived.Test.YtohhlolmojeomaaOpYM
namespace Go.Proofs.Ytohhlolmojeomaa
open Go.ChangeShapes Go.WideShapes Go.ChangeAt Go.RowKit

theorem okWide_arr {P : Program} {w : World} {r : Reach} {base : Nat} {t : TypeId} {v : Value} {n : Nat} {e : TypeId} (ht : P.underlying t = some (.array n e)) (h : Value.okWide P w r base t v) : ∃ cs, v = .agg cs ∧ cs.size = P.cellsOf t := by
  simp only [Value.okWide, ht] at h
  obtain ⟨cs, h1, h2, _⟩ := h
  exact ⟨cs, h1, h2⟩
section
variable {S : Prop} {U : Nat}
theorem fits_intsZ {ds : List Dat} (h : Fits S U shInts ds) : ∃ xs : List Int, ds = [dInts xs] ∧ xs.length ≤ maxLen := by
  obtain ⟨es, rfl, h1, _, _, h3⟩ := h
  obtain ⟨xs, rfl, _⟩ := fits_map (f := fun x : Int => [Dat.i x]) (Q := fun _ => True) es (fun d hd => by obtain ⟨x, hx, _⟩ := h3 d hd; exact ⟨x, hx, trivial⟩)
  rw [List.length_map] at h1
  exact ⟨xs, rfl, h1⟩
theorem fits_spsU {ds : List Dat} (h : Fits S U shSps ds) : ∃ os : List Sp, ds = [.l 11 (os.map dSp)] ∧ os.length ≤ U ∧ ∀ o, o ∈ os → spOk o := by
  obtain ⟨es, rfl, _, _, h2, h3⟩ := h
  obtain ⟨os, rfl, h4⟩ := fits_map (f := dSp) (Q := spOk) es (fun d hd => fits_sp (h3 d hd))
  rw [List.length_map] at h2
  exact ⟨os, rfl, h2, h4⟩
end
section
variable {H : Type} {enc : TypeId × Value → H} {W : World} {fuel : Nat} {x : DataW H × List MemPlace}
theorem open_nums {ad : Option Addr} {len cap : Nat} (h : DataW.trod enc Try.prog W 0 (fun _ => true) true fuel 22 [.slice ad len cap] = some x) : ∃ xs : List Int, xs.length = len ∧ xs.length ≤ maxLen ∧ IntsIn W ad xs := by
  obtain ⟨ds, hf, hc⟩ := (opens_all Try.prog shInts).1 _ _ _ _ of_ints h
  obtain ⟨xs, rfl, h1⟩ := fits_intsZ hf
  obtain ⟨u0, e0, r0, _⟩ := hc 0 _ rfl
  cases e0
  obtain ⟨ad', cap', hv, hi, _⟩ := reads_ints r0
  cases hv
  exact ⟨xs, rfl, h1, hi⟩
theorem open_spsU {c : Value} (h : DataW.trod enc Try.prog W 0 (fun _ => true) true fuel 25 [c] = some x) :
    ∃ (ad : Option Addr) (cap : Nat) (os : List Sp), c = .slice ad os.length cap ∧ SpsIn W ad os ∧ os.length ≤ Rows.uptoBulk x.1 ∧ ∀ o, o ∈ os → spOk o := by
  obtain ⟨ds, hf, hc⟩ := (opens_all Try.prog shSps).1 _ _ _ _ of_sps h
  obtain ⟨os, rfl, h1, h2⟩ := fits_spsU hf
  obtain ⟨u0, e0, r0, _⟩ := hc 0 _ rfl
  cases e0
  obtain ⟨ad', cap', hv, hi⟩ := reads_sps r0
  exact ⟨ad', cap', os, hv, hi, h1, h2⟩
theorem sps_cells : Try.prog.cellsOf 25 = 1 := by kernel_rfl
set_option maxRecDepth 100000 in
theorem open_two {c0 c1 : Value} (h : DataW.trod enc Try.prog W 0 (fun _ => true) true fuel 52 [c0, c1] = some x) :
    ∃ (o1 : Option Addr) (k1 : Nat) (os1 : List Sp) (o2 : Option Addr) (k2 : Nat) (os2 : List Sp), c0 = .slice o1 os1.length k1 ∧ c1 = .slice o2 os2.length k2 ∧ SpsIn W o1 os1 ∧ SpsIn W o2 os2 ∧ (∀ o, o ∈ os1 → spOk o) ∧ (∀ o, o ∈ os2 → spOk o) ∧ (Rows.uptoBulk x.1 ≤ 1048576 → (os1.length ≤ 1048576 ∧ os2.length ≤ 1048576)) := by
  obtain ⟨xs, m, _, ex, _, hl, hel⟩ := DataW.trod_array Try.underlying52 h
  match xs, hl with
  | [y0, y1], _ =>
    have e0 := hel 0 (by omega)
    have e1 := hel 1 (by omega)
    rw [sps_cells] at e0 e1
    obtain ⟨o1, k1, os1, v1, i1, l1, b1⟩ := open_spsU (x := y0) (c := c0) (by simpa using e0)
    obtain ⟨o2, k2, os2, v2, i2, l2, b2⟩ := open_spsU (x := y1) (c := c1) (by simpa using e1)
    refine ⟨o1, k1, os1, o2, k2, os2, v1, v2, i1, i2, b1, b2, fun hb => ?_⟩
    rw [ex] at hb
    have h0 := bulkD_in ([y0, y1].map (·.1)) 0 y0.1 rfl
    have h1 := bulkD_in ([y0, y1].map (·.1)) 1 y1.1 rfl
    simp only [Rows.uptoBulk] at hb
    exact ⟨by omega, by omega⟩
end
end Go.Proofs.Ytohhlolmojeomaa
