/- The document's: are two requests one, are their texts the same; results' texts; what is prepared, states. -/
import Derived.Test.YtoepppkadpjonaaGreatNb6
import Derived.Test.YtoepppkadpjonaaGreatNb4
import Derived.Deep.QuietTactic
namespace Go.Proofs.YtoepppkadpjonaaGreat
open Go.RowKit
theorem text_eq (x y : ByteArray) : (x.toList == y.toList) = decide (x = y) := by
 rw [ByteArray.toList_eq, ByteArray.toList_eq, Bool.eq_iff_iff]
 simp only [beq_iff_eq, decide_eq_true_eq]
 exact ⟨fun h => ByteArray.ext (Array.ext' h), fun h => by rw [h]⟩
structure TwQ (w0 w : World) (x y : Rq) : Prop where
 one : RqAt w w0.heap.size x
 two : RqAt w (w0.heap.size + 1) y
 bel : Below w0.heap.size w0 w
theorem TwQ.keep {w0 w w' : World} {x y : Rq} (h : TwQ w0 w x y) (hb : Below w.heap.size w w') : TwQ w0 w' x y := ⟨h.one.keep hb, h.two.keep hb, h.bel.trans (hb.mono h.bel.size)⟩
theorem twq_new (w : World) (x y : Rq) : TwQ w ((w.alloc (.cells #[.int .i64 x.c, .int .i64 x.st, .int .i64 x.k, .string x.key, .float .f64 x.b, .int .i64 x.id] 41)).alloc (.cells #[.int .i64 y.c, .int .i64 y.st, .int .i64 y.k, .string y.key, .float .f64 y.b, .int .i64 y.id] 41)) x y :=
 ⟨(Below.heap_alloc _ _ _ (by simp)).trans (heap_alloc_last w _), snd_alloc w _ _, ((Below.refl _ _).alloc (Nat.le_refl _) _).alloc (by simp) _⟩
def sameB (x y : Rq) : Bool := (decide (rqE x = 0) && decide (rqE y = 0)) && decide (rqT x = rqT y)
end Go.Proofs.YtoepppkadpjonaaGreat
