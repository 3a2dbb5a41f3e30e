/- slices.Clone of numbers: new memory. -/
import Derived.Test.YtecidbdbdnnglaaGreatBaC
import Derived.Lib.SliceRun
namespace Go.Proofs.YtecidbdbdnnglaaGreat
open Go.RowKit

def Free (w : World) (k : Nat) : Prop := ∃ (cs : Array Value) (T : TypeId), w.heap[k]? = some (.cells cs T (0, 0))
theorem Free.lt {w : World} {k : Nat} (h : Free w k) : k < w.heap.size := by obtain ⟨_, _, h⟩ := h; exact lt_of_blk h
theorem Free.keep {w w' : World} {k : Nat} (h : Free w k) (hb : w'.heap[k]? = w.heap[k]?) : Free w' k := by obtain ⟨c, T, h⟩ := h; exact ⟨c, T, hb.trans h⟩
/-- A list of numbers in memory of its own, at block B or later, that may be written. -/
structure NewI (B : Nat) (w : World) (ad : Option Addr) (l : List Int) : Prop where
  ints : IntsIn w ad l
  far : ∀ x, ad = some x → B ≤ x.block ∧ Free w x.block
theorem NewI.keep {B : Nat} {w w' : World} {ad : Option Addr} {l : List Int} (h : NewI B w ad l) (hb : Below w.heap.size w w') : NewI B w' ad l :=
  ⟨h.ints.keep hb (Nat.le_refl _), fun x hx => ⟨(h.far x hx).1, (h.far x hx).2.keep (hb.block _ (h.far x hx).2.lt)⟩⟩
theorem OwnedI.slice {B : Nat} {w0 w : World} {v : Value} {zs : List Int} (h : OwnedI B w0 w v zs) : ∃ ad cap, v = .slice ad zs.length cap ∧ IntsIn w ad zs ∧ ∀ x, ad = some x → B ≤ x.block ∧ x.block < w.heap.size := by
  rcases h.own.2 with ⟨hv, h0⟩ | ⟨g, cap, cur, hv, hb, hh, hr⟩
  · exact ⟨none, 0, by rw [hv, h0], .inl (List.eq_nil_of_length_eq_zero h0), fun x hx => by cases hx⟩
  · refine ⟨_, cap, hv, .inr ⟨g, 0, rfl, lt_of_blk hh, fun j s hj => ?_⟩, fun x hx => by cases hx; exact ⟨hb, lt_of_blk hh⟩⟩
    subst hv
    have := h.own.cells (g := g) rfl j _ (iC_get zs j s hj)
    rwa [Addr.add_lit] at this
theorem OwnedI.new {B : Nat} {w0 w : World} {v : Value} {zs : List Int} (h : OwnedI B w0 w v zs) : ∃ ad cap, v = .slice ad zs.length cap ∧ NewI B w ad zs := by
  obtain ⟨ad, cap, hv, hi, _⟩ := h.slice
  refine ⟨ad, cap, hv, hi, fun x hx => ?_⟩
  rcases h.own.2 with ⟨hv2, h0⟩ | ⟨g, cap, cur, hv2, hb, hh, hr⟩
  · rw [hv, hx] at hv2; cases hv2
  · rw [hv, hx] at hv2; cases hv2; exact ⟨hb, _, _, hh⟩
set_option maxRecDepth 100000 in
set_option maxHeartbeats 2000000 in
theorem cloneInts_any (a : Option Addr) (n cap : Nat) (l : List Int) (hn : l.length = n) (hm : n * 8 ≤ 140737488355328) (w : World) (hI : IntsIn w a l) :
    Calls Tryz.prog 22 #[.slice a n cap] w fun e w' => ∃ a1 c1, e = .returned (.slice a1 n c1) ∧ NewI w.heap.size w' a1 l ∧ Below w.heap.size w w' := by
  have q22 : ∀ (w : World) (a : Option Addr) (n c n' c' : Nat), (binOp .eql 22 (.slice a n c) (.slice none n' c')).run Tryz.prog w = .ok (.bool a.isNone) w := fun w a n c n' c' => Lib.run_eql_slice_nil w _ _ a n c n' c' Tryz.underlying22
  cases a with
  | none =>
    obtain rfl : l = [] := by rcases hI with h | ⟨g, off, ha, _⟩; exact h; cases ha
    obtain rfl : 0 = n := hn
    clear hI hm
    go_enter Tryz.func22, Tryz.ntmps22
    go_wp2
    go_ret
    first | exact ⟨none, 0, rfl, ⟨.inl rfl, fun x hx => by cases hx⟩, Below.refl _ _⟩ | exact ⟨none, ⟨0, rfl⟩, ⟨.inl rfl, fun x hx => by cases hx⟩, Below.refl _ _⟩
  | some ad =>
    obtain ⟨i0, hi0, hz0, hz1, hz2⟩ := info_parts Tryz.info3
    have HP := hid hI
    have HN := hid (And.intro hn hm)
    clear hI hn hm
    go_enter Tryz.func22, Tryz.ntmps22
    go_wp2_with (at_builtin; refine wpList_append_own _ rfl _ _ 22 rfl w.heap.size 3 i0 (.int .i64 0) 1 8 Tryz.underlying22 hi0 hz0 hz1 hz2 rfl (by decide) _ _ _ rfl (World.ownsRow_made w #[] 0 (Nat.le_refl _) (Nat.zero_le _) rfl) ad n cap (iC l) rfl ?qc1 ?qc2 ?qc3 ?qc4 ?qc5 ?qc6 ?_)
    case qc1 => rw [iC_len, HN.out.1, Nat.mul_one]
    case qc2 =>
      intro j u hj
      obtain ⟨s, hs, rfl⟩ := iC_back l j u hj
      obtain ⟨g', off', eg, _, h1⟩ := HP.out.at j s hs
      cases eg
      rw [Addr.add_lit]
      exact Lib.cell?_alloc_some _ h1
    case qc3 => exact iC_one l
    case qc4 => have := HN.out.2; unfold maxLen; omega
    case qc5 => have := HN.out.2; omega
    case qc6 => simp
    intro v' w1 hown hgrow hnil
    have HO : Hid (OwnedI w.heap.size w w1 v' l) := hid ⟨by rw [HN.out.1]; simpa using hown, ((Below.refl _ w).alloc (Nat.le_refl _) _).grown hgrow (by simp) (by intro k hk; simp [Value.ownBlock] at hk; omega), by have := hgrow.size; simp at this; omega⟩
    clear hown hgrow hnil
    obtain ⟨a1, c1, hv, hN⟩ := HO.out.new
    rw [HN.out.1] at hv
    subst hv
    have HNw := hid hN
    clear hN
    go_wp2
    go_ret
    first | exact ⟨a1, c1, rfl, HNw.out, HO.out.bel⟩ | exact ⟨a1, ⟨c1, rfl⟩, HNw.out, HO.out.bel⟩

end Go.Proofs.YtecidbdbdnnglaaGreat
