/- What serves in every later layer: texts out of rows, sums of two parts, regions that draw walked once in a class of worlds, two rows of one's own. -/
import Derived.Test.YtcofadhflbiahabShQ
import Derived.BigQuiet
namespace Go.Proofs.Ytcofadhflbiahab
open Go.RowKit

theorem row_text (w : World) (g cap : Nat) (l : List UInt8) (hc : ∀ j v, (bC l)[j]? = some v → w.cell? ⟨g, j, none⟩ = some v) (n : Nat) (hn : l.length = n) :
    (convert 33 9 (.slice (some ⟨g, 0, none⟩) n cap)).run Try.prog w = .ok (.string ⟨l.toArray⟩) w := by
  subst hn
  exact run_convert_bytes_back (P := Try.prog) w 33 9 5 ⟨g, 0, none⟩ cap l Try.underlying33 Try.underlying5 Try.underlying9 (fun j hj => by
    rw [Addr.add_lit, Nat.zero_add]
    exact hc j _ (by simp [bC, hj]))
theorem joinB_two (s t : ByteArray) : joinB [s, t] = s.data.toList ++ t.data.toList := by simp [joinB]
theorem mk_data (l : List UInt8) : (⟨l.toArray⟩ : ByteArray).data.toList = l := rfl
theorem sum_two (s t : ByteArray) (hs : s.size ≤ 2000000) (ht : t.size ≤ 2000000) (u : World) (g : Nat) (hg : g = u.heap.size) :
    Calls Try.prog 10 #[.slice (some ⟨g, 0, none⟩) 2 2] (u.alloc (.cells #[.string s, .string t] 9)) fun e w' => e = .returned (.string ⟨(shaB (s.data.toList ++ t.data.toList)).toArray⟩) ∧ Below u.heap.size u w' := by
  subst hg
  have := ssum_new [s, t] #[.string s, .string t] 2 2 u rfl rfl (by rw [joinB_two, List.length_append, data_len, data_len]; omega) (by decide)
  rwa [joinB_two] at this
/-- The worlds that are as W was in all that W has. -/
def Cls (W : World) : Type := { u : World // Below W.heap.size W u }
theorem Cls.ne (W : World) : Nonempty (Cls W) := ⟨⟨W, Below.refl _ _⟩⟩
theorem Cls.of {W : World} {f : FuncId} {args : Array Value} {v : Value} (x : Cls W)
    (h : ∀ u : World, Below W.heap.size W u → Calls Try.prog f args u fun e w' => e = .returned v ∧ Below u.heap.size u w') :
    Calls Try.prog f args x.1 fun e w'' => e = .returned v ∧ ∃ y : Cls W, w'' = y.1 :=
  (h x.1 x.2).mono fun _ w' ⟨he, hb⟩ => ⟨he, ⟨w', x.2.trans (hb.mono x.2.size)⟩, rfl⟩
theorem wp_region_cls {id : Nat} {Q : Exit → Act → World → Prop} {a : Act} (W : World) {l : List Oper} (hm : Try.prog.follows .mixedOrders = true) (hB : Region.lexB .any l.toArray = true)
    (h : wpQuiet Try.prog l.toArray (fun w' => ∃ x : Cls W, w' = x.1) (fun a' => ∀ w', (∃ x : Cls W, w' = x.1) → Q .normal a' w') l a) : (Code.region id l.toArray true).wp Try.prog Q a W :=
  wp_region_quiet (C := fun w' => ∃ x : Cls W, w' = x.1) hm hB ⟨⟨{ W with drawn := W.drawn + 1 }, ⟨rfl, rfl, rfl, Nat.le_refl _, fun _ _ => rfl⟩⟩, rfl⟩ (by simpa using h)
/-- Two rows of one's own, apart. -/
structure Own2 (B : Nat) (w0 w : World) (v1 v2 : Value) (l1 l2 : List UInt8) : Prop where
  one : Owned B w0 w v1 l1
  two : Owned B w0 w v2 l2
  ne : v1.ownBlock = none ∨ v1.ownBlock ≠ v2.ownBlock
theorem Own2.symm {B : Nat} {w0 w : World} {v1 v2 : Value} {l1 l2 : List UInt8} (h : Own2 B w0 w v1 v2 l1 l2) : Own2 B w0 w v2 v1 l2 l1 :=
  ⟨h.two, h.one, by
    cases h2 : v2.ownBlock with
    | none => exact .inl rfl
    | some k =>
      right
      intro e
      rcases h.ne with h1 | h1
      · rw [h1] at e; cases e
      · exact h1 (by rw [← e, h2])⟩
theorem Own2.grow {B : Nat} {w0 w w3 : World} {v1 v2 v3 : Value} {l1 l2 xs : List UInt8} {m : Nat} (o : Obj) (h : Own2 B w0 w v1 v2 l1 l2) (hm : xs.length = m)
    (hown : w3.ownsRow B 5 1 v3 (l1.length + m) (bC l1 ++ bC xs)) (hg : (w.alloc o).grownBy w3 v1.ownBlock) (hb : v3.ownBlock = v1.ownBlock ∨ v3.ownBlock = some (w.alloc o).heap.size) : Own2 B w0 w3 v3 v2 (l1 ++ xs) l2 := by
  have g1 := (h.one.alloc o).grow hm hown hg
  refine ⟨g1, ⟨(h.two.alloc o).own.kept hg ?_, g1.bel, g1.le⟩, ?_⟩
  · cases h2 : v2.ownBlock with
    | none => exact .inl rfl
    | some k =>
      right
      intro e
      rcases h.ne with h1 | h1
      · rw [h1] at e; cases e
      · exact h1 (by rw [← e, h2])
  · rcases hb with hb | hb
    · rw [hb]
      exact h.ne
    · right
      rw [hb]
      intro e
      have := ((h.two.alloc o).own.lt _ e.symm).2
      omega
theorem Owned.keep {B : Nat} {w0 w w' : World} {v : Value} {l : List UInt8} (h : Owned B w0 w v l) (hb : Below w.heap.size w w') : Owned B w0 w' v l := by
  refine ⟨⟨h.own.1, ?_⟩, h.bel.trans (hb.mono h.le), Nat.le_trans h.le hb.size⟩
  rcases h.own.2 with hn | ⟨g, cap, cur, hv, hB, hh, hr⟩
  · exact .inl hn
  · exact .inr ⟨g, cap, cur, hv, hB, (hb.block g (lt_of_blk hh)).trans hh, hr⟩
theorem of_same {P : Program} {f : FuncId} {args : Array Value} {v : Value} (h : ∀ w : World, Calls P f args w fun e w' => e = .returned v ∧ w' = w) (u : World) :
    Calls P f args u fun e w' => e = .returned v ∧ Below u.heap.size u w' :=
  (h u).mono fun _ _ ⟨he, hw⟩ => ⟨he, hw ▸ Below.refl _ _⟩
theorem snd_alloc (w : World) (A B : Obj) : ((w.alloc A).alloc B).heap[w.heap.size + 1]? = some B := by
  have := heap_alloc_last (w.alloc A) B
  simpa using this
theorem setRow_heap_ne (w : World) (g k : Nat) (c : Array Value) (h : k ≠ g) : (w.setRow g c).heap[k]? = w.heap[k]? := by
  simp [World.setRow, Array.getElem?_modify, Ne.symm h]
end Go.Proofs.Ytcofadhflbiahab
