/- Two asks in variables, the requests made of them beside. -/
import Derived.Test.YtpgfdnmlkaoigaaDsJ
namespace Go.Proofs.Ytpgfdnmlkaoigaa
open Go.RowKit

/-- Two asks, one behind the other. -/
structure Tw (w0 w : World) (a b : Rq) : Prop where
  ak : AkAt w w0.heap.size a
  bk : AkAt w (w0.heap.size + 1) b
  bel : Below w0.heap.size w0 w
theorem Tw.keep {w0 w w' : World} {a b : Rq} (h : Tw w0 w a b) (hb : Below w.heap.size w w') : Tw w0 w' a b := ⟨h.ak.keep hb, h.bk.keep hb, h.bel.trans (hb.mono h.bel.size)⟩
theorem Tw.one {w0 w w' : World} {a b : Rq} (h : Tw w0 w a b) {x : Nat} (hx : w0.heap.size + 1 < x) (ho : One x w w') : Tw w0 w' a b :=
  ⟨(ho.block _ (by omega)).trans h.ak, (ho.block _ (by omega)).trans h.bk, ho.below h.bel (by omega)⟩
theorem Tw.ge {w0 w : World} {a b : Rq} (h : Tw w0 w a b) : w0.heap.size + 1 < w.heap.size := lt_of_blk h.bk
/-- And a request in a variable of its own. -/
structure Tv (w0 w : World) (a b : Rq) (x : Nat) (p : Rq) : Prop where
  tw : Tw w0 w a b
  rx : RqAt w x p
  hx : w0.heap.size + 1 < x
theorem Tv.keep {w0 w w' : World} {a b : Rq} {x : Nat} {p : Rq} (h : Tv w0 w a b x p) (hb : Below w.heap.size w w') : Tv w0 w' a b x p := ⟨h.tw.keep hb, h.rx.keep hb, h.hx⟩
/-- And two. -/
structure Tz (w0 w : World) (a b : Rq) (x : Nat) (p : Rq) (y : Nat) (q : Rq) : Prop where
  tw : Tw w0 w a b
  rx : RqAt w x p
  hx : w0.heap.size + 1 < x
  ry : RqAt w y q
  hy : w0.heap.size + 1 < y
  ne : x ≠ y
theorem Tz.keep {w0 w w' : World} {a b : Rq} {x : Nat} {p : Rq} {y : Nat} {q : Rq} (h : Tz w0 w a b x p y q) (hb : Below w.heap.size w w') : Tz w0 w' a b x p y q := ⟨h.tw.keep hb, h.rx.keep hb, h.hx, h.ry.keep hb, h.hy, h.ne⟩
theorem Tz.swap {w0 w : World} {a b : Rq} {x : Nat} {p : Rq} {y : Nat} {q : Rq} (h : Tz w0 w a b x p y q) : Tz w0 w a b y q x p := ⟨h.tw, h.ry, h.hy, h.rx, h.hx, h.ne.symm⟩
theorem Tw.al {w0 w : World} {a b : Rq} (h : Tw w0 w a b) : Tv w0 (w.alloc (.cells #[.int .i64 0, .int .i64 0, .int .i64 0, .string ⟨#[]⟩, .float .f64 0, .int .i64 0] 30)) a b w.heap.size zeroQ :=
  ⟨h.keep ((Below.refl _ _).alloc (Nat.le_refl _) _), heap_alloc_last w _, h.ge⟩
theorem Tv.al {w0 w : World} {a b : Rq} {x : Nat} {p : Rq} (h : Tv w0 w a b x p) : Tz w0 (w.alloc (.cells #[.int .i64 0, .int .i64 0, .int .i64 0, .string ⟨#[]⟩, .float .f64 0, .int .i64 0] 30)) a b x p w.heap.size zeroQ :=
  ⟨h.tw.keep ((Below.refl _ _).alloc (Nat.le_refl _) _), h.rx.keep ((Below.refl _ _).alloc (Nat.le_refl _) _), h.hx, heap_alloc_last w _, h.tw.ge, Nat.ne_of_lt (lt_of_blk h.rx)⟩
theorem Tz.put {w0 w w' : World} {a b : Rq} {x : Nat} {p : Rq} {y : Nat} {q r : Rq} (h : Tz w0 w a b x p y q) (hq : RqAt w' x r ∧ One x w w') : Tz w0 w' a b x r y q :=
  ⟨h.tw.one h.hx hq.2, hq.1, h.hx, (hq.2.block _ h.ne.symm).trans h.ry, h.hy, h.ne⟩
theorem tw_new (w : World) (a b : Rq) : Tw w ((w.alloc (.cells #[.int .i64 a.c, .int .i64 a.st, .int .i64 a.k, .string a.key, .int .u64 (a.b : Int), .int .i64 a.id] 24)).alloc (.cells #[.int .i64 b.c, .int .i64 b.st, .int .i64 b.k, .string b.key, .int .u64 (b.b : Int), .int .i64 b.id] 24)) a b :=
  ⟨(Below.heap_alloc _ _ _ (by simp)).trans (heap_alloc_last w _), snd_alloc w _ _, ((Below.refl _ _).alloc (Nat.le_refl _) _).alloc (by simp) _⟩
end Go.Proofs.Ytpgfdnmlkaoigaa
