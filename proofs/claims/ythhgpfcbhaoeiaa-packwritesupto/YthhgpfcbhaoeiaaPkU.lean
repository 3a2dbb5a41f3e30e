/- The statements' argument of items, opened: what the walks are told of it. -/
import Derived.Test.YthhgpfcbhaoeiaaRows
import Derived.Test.YthhgpfcbhaoeiaaPkO
import Derived.ProofKit
import Derived.OpenShut
import Derived.ShutString
import Derived.ChangeOld
import Derived.Deep.Slices
import Derived.Lib.SmallJoins
namespace Go.Proofs.Ythhgpfcbhaoeiaa
open Go.ChangeShapes Go.WideShapes Go.ChangeAt Go.RowKit

theorem Try.cells31 : Try.prog.cellsOf 31 = 4 := by kernel_rfl
theorem Try.cells3 : Try.prog.cellsOf 3 = 1 := by kernel_rfl
theorem Try.cells29 : Try.prog.cellsOf 29 = 1 := by kernel_rfl
theorem Try.cells9 : Try.prog.cellsOf 9 = 1 := by kernel_rfl

/-- An item as data. -/
def It.d {H : Type} (i : It) : DataW H := .agg [.lit (.int .i64 i.k), .lit (.int .i64 i.n), .lit (.int .u64 (i.q : Int)), .lit (.string i.s.data.toList)]

theorem open_item {H : Type} {enc : TypeId × Value → H} {W : World} {fuel : Nat} {cs : List Value} {x : DataW H × List MemPlace}
    (h : DataW.trod enc Try.prog W 0 (fun _ => true) true fuel 31 cs = some x) :
    ∃ i : It, cs = [.int .i64 i.k, .int .i64 i.n, .int .u64 (i.q : Int), .string i.s] ∧ x = (i.d, []) ∧ i.fits := by
  obtain ⟨xs, n, _, hx, hl, hxl, hf⟩ := DataW.trod_struct Try.underlying31 h
  rw [Try.cells31] at hl
  match xs, hxl, cs, hl with
  | [y0, y1, y2, y3], _, [v0, v1, v2, v3], _ =>
    have g0 := hf 0 _ rfl
    have g1 := hf 1 _ rfl
    have g2 := hf 2 _ rfl
    have g3 := hf 3 _ rfl
    simp [Try.cells3, Try.cells29, Try.cells9] at g0 g1 g2 g3
    obtain ⟨k, e0, rfl, w0⟩ := DataW.trod_int Try.underlying3 g0
    obtain ⟨m, e1, rfl, w1⟩ := DataW.trod_int Try.underlying3 g1
    obtain ⟨q, e2, rfl, w2⟩ := DataW.trod_int Try.underlying29 g2
    obtain ⟨s, e3, rfl, hs⟩ := DataW.trod_string Try.underlying9 g3
    simp at e0 e1 e2 e3
    subst e0 e1 e2 e3
    have b1 := bounds_i64 w1
    have b2 := bounds_u64 w2
    refine ⟨⟨k, m, q.toNat, s⟩, ?_, ?_, ?_⟩
    · have : ((q.toNat : Nat) : Int) = q := by omega
      simp [this]
    · have : ((q.toNat : Nat) : Int) = q := by omega
      rw [hx]
      simp [It.d, this]
    · exact ⟨b1.1, b1.2, by show q.toNat < 18446744073709551616; omega, hs⟩

theorem bulk_its {H : Type} (its : List It) : Rows.uptoBulkAll (its.map (It.d (H := H))) = (its.map fun i => i.s.size + 5).sum := by
  induction its with
  | nil => simp [Rows.uptoBulkAll]
  | cons i r ih =>
    have e : i.s.data.toList.length = i.s.size := by rw [Array.length_toList]; rfl
    simp only [List.map_cons, Rows.uptoBulkAll, List.sum_cons, ih, It.d, Rows.uptoBulk, e]
    omega
theorem items_bulk {H : Type} {d0 d1 : DataW H} {its : List It} {spare : List (DataW H)} (hd : d1 = .slice (its.map It.d) spare) (hk : Rows.uptoSmall H ([d0, d1] ++ []) = true) : (its.map fun i => i.s.size + 5).sum ≤ 1048576 := by
  have h : Rows.uptoBulkAll ([d0, d1] ++ []) ≤ 1048576 := of_decide_eq_true hk
  rw [List.append_nil, hd] at h
  simp only [Rows.uptoBulkAll, Rows.uptoBulk, bulk_its] at h
  omega

theorem list_of {α : Type} {p : Nat → α → Prop} : ∀ n, (∀ i, i < n → ∃ x, p i x) → ∃ l : List α, l.length = n ∧ ∀ i x, l[i]? = some x → p i x
  | 0, _ => ⟨[], rfl, fun i x h => by simp at h⟩
  | n + 1, h => by
    obtain ⟨l, hl, hp⟩ := list_of n (fun i hi => h i (Nat.lt_succ_of_lt hi))
    obtain ⟨x, hx⟩ := h n (Nat.lt_succ_self n)
    refine ⟨l ++ [x], by simp [hl], fun i y hy => ?_⟩
    by_cases hi : i < l.length
    · rw [List.getElem?_append_left hi] at hy
      exact hp i y hy
    · rw [List.getElem?_append_right (by omega)] at hy
      have h0 : i - l.length = 0 := by
        have := (List.getElem?_eq_some_iff.1 hy).1
        simp at this
        omega
      rw [h0] at hy
      simp at hy
      subst hy
      have : i = n := by omega
      rw [this]
      exact hx

theorem open_items {H : Type} {enc : TypeId × Value → H} {W : World} {fuel : Nat} {a : Option Addr} {len cap : Nat} {x : DataW H × List MemPlace}
    (h : DataW.trod enc Try.prog W 0 (fun _ => true) true fuel 22 [.slice a len cap] = some x) :
    (len = 0) ∨ ∃ b off its spare, a = some ⟨b, off, none⟩ ∧ len ≤ maxLen ∧ ItemsIn W b off len its ∧ x.1 = .slice (its.map It.d) spare := by
  rcases Go.Deep.open_slice Try.underlying22 h with ⟨hcs, _⟩ | ⟨ad, len', cap', m, n, D, Pl, hcs, _, hl, hm, hmm, hx, hel⟩
  · simp at hcs
    exact .inl hcs.2.1
  · simp at hcs
    obtain ⟨rfl, rfl, rfl⟩ := hcs
    by_cases h0 : len = 0
    · exact .inl h0
    · right
      simp at hmm
      subst hmm
      rw [Try.cells31] at hel
      have each : ∀ i, i < len → ∃ it : It, (∀ j u, [Value.int .i64 it.k, .int .i64 it.n, .int .u64 (it.q : Int), .string it.s][j]? = some u → W.cell? (ad.add (i * 4 + j)) = some u) ∧ D i = it.d ∧ it.fits := by
        intro i hi
        obtain ⟨cs', h1, h2⟩ := hel i (by omega)
        obtain ⟨it, rfl, hy, hfit⟩ := open_item h2
        obtain ⟨_, hlen, hcell⟩ := World.cells?_some h1
        refine ⟨it, fun j u hj => ?_, by simpa using congrArg Prod.fst hy, hfit⟩
        have hj4 : j < 4 := by
          have := (List.getElem?_eq_some_iff.1 hj).1
          simpa using this
        have e := hcell j (by simpa using hj4)
        rw [Go.Deep.add_add] at e
        rw [e]
        simpa [List.getD] using hj
      obtain ⟨its, hil, hip⟩ := list_of len each
      obtain ⟨b, off, spot⟩ := ad
      have hspot : spot = none := by
        obtain ⟨it, hit⟩ : ∃ it, its[0]? = some it := ⟨its[0]'(by omega), List.getElem?_eq_getElem _⟩
        have hc := (hip 0 it hit).1 0 _ rfl
        simpa [Addr.add] using World.cell?_spot hc
      subst hspot
      have hcell : ∀ i it, its[i]? = some it → ItemAt W b (off + i * 4) it := by
        intro i it hit
        have hc := (hip i it hit).1
        have c0 := hc 0 _ rfl
        have c1 := hc 1 _ rfl
        have c2 := hc 2 _ rfl
        have c3 := hc 3 _ rfl
        simp only [Addr.add_lit] at c0 c1 c2 c3
        exact ⟨c0, by rw [← c1, Nat.add_assoc], by rw [← c2, Nat.add_assoc], by rw [← c3, Nat.add_assoc]⟩
      refine ⟨b, off, its, (List.range (m - len)).map fun j => D (len + j), rfl, by omega, ⟨hil, ?_, hcell, ?_⟩, ?_⟩
      · obtain ⟨it, hit⟩ : ∃ it, its[0]? = some it := ⟨its[0]'(by omega), List.getElem?_eq_getElem _⟩
        exact World.block_lt_of_cell? W _ (hcell 0 it hit).1
      · intro it hit
        obtain ⟨i, hi⟩ := List.getElem?_of_mem hit
        exact (hip i it hi).2.2
      · rw [hx]
        show DataW.slice _ _ = _
        congr 1
        apply List.ext_getElem?
        intro i
        by_cases hi : i < len
        · obtain ⟨it, hit⟩ : ∃ it, its[i]? = some it := ⟨its[i]'(by omega), List.getElem?_eq_getElem _⟩
          rw [List.getElem?_map, List.getElem?_map, hit, List.getElem?_range hi]
          simp [(hip i it hit).2.1]
        · rw [List.getElem?_eq_none (by simp; omega), List.getElem?_eq_none (by simp; omega)]

end Go.Proofs.Ythhgpfcbhaoeiaa
