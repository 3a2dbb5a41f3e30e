/- What is settled, held against the document's. -/
import Derived.Test.YtclfphffbfdimaaKf1
import Derived.Test.YtclfphffbfdimaaWsDM
import Derived.Deep.DeepMust
namespace Go.Proofs.Ytclfphffbfdimaa
open Go.RowKit

/-- Two boxes of five cells, one behind the other. -/
structure TwB (w0 w : World) (A C : List Value) : Prop where
  a : w.heap[w0.heap.size]? = some (.cells A.toArray 51 (0, 0))
  c : w.heap[w0.heap.size + 1]? = some (.cells C.toArray 54 (0, 0))
  bel : Below w0.heap.size w0 w
theorem TwB.keep {w0 w w' : World} {A C : List Value} (h : TwB w0 w A C) (hb : Below w.heap.size w w') : TwB w0 w' A C := ⟨(hb.block _ (lt_of_blk h.a)).trans h.a, (hb.block _ (lt_of_blk h.c)).trans h.c, h.bel.trans (hb.mono h.bel.size)⟩
set_option maxRecDepth 100000 in
set_option maxHeartbeats 3200000 in
theorem usame_true (t : ByteArray) (e : Int) (p1 p3 : List (Int × ByteArray)) (nx : List Int) (a1 a2 a3 b1 b2 b3 : Option Addr) (c1 c2 c3 d1 d2 d3 : Nat) (h1 : p1.length ≤ maxLen) (h2 : nx.length ≤ maxLen) (h3 : p3.length ≤ maxLen) (w : World) (i1 : PairsIn w a1 p1 ∧ PairsIn w b1 p1) (i2 : IntsIn w a2 nx ∧ IntsIn w b2 nx) (i3 : PairsIn w a3 p3 ∧ PairsIn w b3 p3) :
    Calls Try.prog 20 #[.agg #[.string t, .slice a1 p1.length c1, .int .i64 e, .slice a2 nx.length c2, .slice a3 p3.length c3], .agg #[.string t, .slice b1 p1.length d1, .int .i64 e, .slice b2 nx.length d2, .slice b3 p3.length d3]] w fun x w' => x = .returned (.bool true) ∧ Below w.heap.size w w' := by
  have HS1 : Hid (∀ u : World, Below w.heap.size w u → Calls Try.prog 40 #[.slice a1 p1.length c1, .slice b1 p1.length d1] u fun x w' => x = .returned (.bool true) ∧ Below u.heap.size u w') := hid (fun u hu => by have := wsame_dec a1 b1 _ _ c1 d1 p1 p1 rfl rfl h1 h1 u (i1.1.keep hu (Nat.le_refl _)) (i1.2.keep hu (Nat.le_refl _)); rw [decide_eq_true rfl] at this; exact this)
  have HS3 : Hid (∀ u : World, Below w.heap.size w u → Calls Try.prog 40 #[.slice a3 p3.length c3, .slice b3 p3.length d3] u fun x w' => x = .returned (.bool true) ∧ Below u.heap.size u w') := hid (fun u hu => by have := wsame_dec a3 b3 _ _ c3 d3 p3 p3 rfl rfl h3 h3 u (i3.1.keep hu (Nat.le_refl _)) (i3.2.keep hu (Nat.le_refl _)); rw [decide_eq_true rfl] at this; exact this)
  have HS2 : Hid (∀ u : World, Below w.heap.size w u → Calls Try.prog 21 #[.agg #[.int .i64 e, .slice a2 nx.length c2], .agg #[.int .i64 e, .slice b2 nx.length d2]] u fun x w' => x = .returned (.bool true) ∧ Below u.heap.size u w') := hid (fun u hu => by have := vsame_dec e e a2 b2 _ _ c2 d2 nx nx rfl rfl h2 h2 u (i2.1.keep hu (Nat.le_refl _)) (i2.2.keep hu (Nat.le_refl _)); rw [decide_eq_true rfl, decide_eq_true rfl] at this; exact this)
  clear i1 i2 i3 h1 h2 h3
  generalize p1.length = n1 at HS1 ⊢
  generalize nx.length = n2 at HS2 ⊢
  generalize p3.length = n3 at HS3 ⊢
  have H0 : Hid (TwB w ((w.alloc (.cells #[.string t, .slice a1 n1 c1, .int .i64 e, .slice a2 n2 c2, .slice a3 n3 c3] 51)).alloc (.cells #[.string t, .slice b1 n1 d1, .int .i64 e, .slice b2 n2 d2, .slice b3 n3 d3] 54)) [.string t, .slice a1 n1 c1, .int .i64 e, .slice a2 n2 c2, .slice a3 n3 c3] [.string t, .slice b1 n1 d1, .int .i64 e, .slice b2 n2 d2, .slice b3 n3 d3]) := hid ⟨(Below.heap_alloc _ _ _ (by simp)).trans (heap_alloc_last w _), snd_alloc _ _ _, ((Below.refl _ _).alloc (Nat.le_refl _) _).alloc (by simp) _⟩
  have ht : (t.toList == t.toList) = true := by simp
  go_enter Try.func20, Try.ntmps20
  go_wp2_with (first
    | (have := H2; go_at_call 40; go_must (refine (HS3.out _ H2.out.bel).mono ?_); rintro x w3 ⟨rfl, hb3⟩; have H3 := hid (H2.out.keep hb3); clear hb3)
    | (go_at_call 40; go_must (refine (HS1.out _ H0.out.bel).mono ?_); rintro x w1 ⟨rfl, hb1⟩; have H1 := hid (H0.out.keep hb1); clear hb1; have x2 := cell_at (L := [_, _, _, _, _]) H1.out.a 2 _ rfl; have x3 := cell_at (L := [_, _, _, _, _]) H1.out.a 3 _ rfl; have y2 := cell_at (L := [_, _, _, _, _]) H1.out.c 2 _ rfl; have y3 := cell_at (L := [_, _, _, _, _]) H1.out.c 3 _ rfl)
    | (go_at_call 21; go_must (refine (HS2.out _ H1.out.bel).mono ?_); rintro x w2 ⟨rfl, hb2⟩; have H2 := hid (H1.out.keep hb2); clear hb2 x2 x3 y2 y3; have x4 := cell_at (L := [_, _, _, _, _]) H2.out.a 4 _ rfl; have y4 := cell_at (L := [_, _, _, _, _]) H2.out.c 4 _ rfl))
  go_ret
  exact ⟨rfl, H3.out.bel⟩
end Go.Proofs.Ytclfphffbfdimaa
