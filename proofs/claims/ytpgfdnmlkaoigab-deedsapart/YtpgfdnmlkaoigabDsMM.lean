/- Two cases and a configuration in variables, the requests made of them beside. -/
import Derived.Test.YtpgfdnmlkaoigabDsJ
import Derived.Test.YtpgfdnmlkaoigabCoQM
namespace Go.Proofs.Ytpgfdnmlkaoigab
open Go.RowKit

theorem trd_alloc (w : World) (A B C : Obj) : (((w.alloc A).alloc B).alloc C).heap[w.heap.size + 2]? = some C := by
  have h := snd_alloc (w.alloc A) B C
  rwa [show (w.alloc A).heap.size + 1 = w.heap.size + 2 by simp] at h
def CaAt (w : World) (k : Nat) (e v s : Int) (a : Rq) : Prop := w.heap[k]? = some (.cells #[.int .i64 e, .int .i64 v, .int .i64 s, .int .i64 a.c, .int .i64 a.st, .int .i64 a.k, .string a.key, .int .u64 (a.b : Int), .int .i64 a.id] 28 (0, 0))
theorem CaAt.cells {w : World} {k : Nat} {e v s : Int} {a : Rq} (h : CaAt w k e v s a) : w.cell? ⟨k, 0, none⟩ = some (.int .i64 e) ∧ w.cell? ⟨k, 1, none⟩ = some (.int .i64 v) ∧ w.cell? ⟨k, 2, none⟩ = some (.int .i64 s) ∧ w.cell? ⟨k, 3, none⟩ = some (.int .i64 a.c) ∧ w.cell? ⟨k, 4, none⟩ = some (.int .i64 a.st) ∧ w.cell? ⟨k, 5, none⟩ = some (.int .i64 a.k) ∧ w.cell? ⟨k, 6, none⟩ = some (.string a.key) ∧ w.cell? ⟨k, 7, none⟩ = some (.int .u64 (a.b : Int)) ∧ w.cell? ⟨k, 8, none⟩ = some (.int .i64 a.id) :=
  ⟨cell_at h 0 _ rfl, cell_at h 1 _ rfl, cell_at h 2 _ rfl, cell_at h 3 _ rfl, cell_at h 4 _ rfl, cell_at h 5 _ rfl, cell_at h 6 _ rfl, cell_at h 7 _ rfl, cell_at h 8 _ rfl⟩
theorem CaAt.keep {w w' : World} {k : Nat} {e v s : Int} {a : Rq} (h : CaAt w k e v s a) (hb : Below w.heap.size w w') : CaAt w' k e v s a := (hb.block k (lt_of_blk h)).trans h
def CgAt (w : World) (k : Nat) (ep : Int) (vm : Value) : Prop := w.heap[k]? = some (.cells #[.int .i64 ep, vm] 31 (0, 0))
theorem CgAt.cells {w : World} {k : Nat} {ep : Int} {vm : Value} (h : CgAt w k ep vm) : w.cell? ⟨k, 0, none⟩ = some (.int .i64 ep) ∧ w.cell? ⟨k, 1, none⟩ = some vm := ⟨cell_at h 0 _ rfl, cell_at h 1 _ rfl⟩
theorem CgAt.keep {w w' : World} {k : Nat} {ep : Int} {vm : Value} (h : CgAt w k ep vm) (hb : Below w.heap.size w w') : CgAt w' k ep vm := (hb.block k (lt_of_blk h)).trans h
/-- Two cases and a configuration, one behind the other. -/
structure Uw (w0 w : World) (e v s : Int) (a : Rq) (e' v' s' : Int) (b : Rq) (ep : Int) (vm : Value) : Prop where
  ak : CaAt w w0.heap.size e v s a
  bk : CaAt w (w0.heap.size + 1) e' v' s' b
  cf : CgAt w (w0.heap.size + 2) ep vm
  bel : Below w0.heap.size w0 w
theorem Uw.keep {w0 w : World} {e v s : Int} {a : Rq} {e' v' s' : Int} {b : Rq} {ep : Int} {vm : Value} {u : World} (h : Uw w0 w e v s a e' v' s' b ep vm) (hb : Below w.heap.size w u) : Uw w0 u e v s a e' v' s' b ep vm := ⟨h.ak.keep hb, h.bk.keep hb, h.cf.keep hb, h.bel.trans (hb.mono h.bel.size)⟩
theorem Uw.one {w0 w : World} {e v s : Int} {a : Rq} {e' v' s' : Int} {b : Rq} {ep : Int} {vm : Value} {u : World} (h : Uw w0 w e v s a e' v' s' b ep vm) {x : Nat} (hx : w0.heap.size + 2 < x) (ho : One x w u) : Uw w0 u e v s a e' v' s' b ep vm :=
  ⟨(ho.block _ (by omega)).trans h.ak, (ho.block _ (by omega)).trans h.bk, (ho.block _ (by omega)).trans h.cf, ho.below h.bel (by omega)⟩
theorem Uw.ge {w0 w : World} {e v s : Int} {a : Rq} {e' v' s' : Int} {b : Rq} {ep : Int} {vm : Value} (h : Uw w0 w e v s a e' v' s' b ep vm) : w0.heap.size + 2 < w.heap.size := lt_of_blk h.cf
structure Uv (w0 w : World) (e v s : Int) (a : Rq) (e' v' s' : Int) (b : Rq) (ep : Int) (vm : Value) (x : Nat) (p : Rq) : Prop where
  tw : Uw w0 w e v s a e' v' s' b ep vm
  rx : RqAt w x p
  hx : w0.heap.size + 2 < x
theorem Uv.keep {w0 w : World} {e v s : Int} {a : Rq} {e' v' s' : Int} {b : Rq} {ep : Int} {vm : Value} {x : Nat} {p : Rq} {u : World} (h : Uv w0 w e v s a e' v' s' b ep vm x p) (hb : Below w.heap.size w u) : Uv w0 u e v s a e' v' s' b ep vm x p := ⟨h.tw.keep hb, h.rx.keep hb, h.hx⟩
structure Uz (w0 w : World) (e v s : Int) (a : Rq) (e' v' s' : Int) (b : Rq) (ep : Int) (vm : Value) (x : Nat) (p : Rq) (y : Nat) (q : Rq) : Prop where
  tw : Uw w0 w e v s a e' v' s' b ep vm
  rx : RqAt w x p
  hx : w0.heap.size + 2 < x
  ry : RqAt w y q
  hy : w0.heap.size + 2 < y
  ne : x ≠ y
theorem Uz.keep {w0 w : World} {e v s : Int} {a : Rq} {e' v' s' : Int} {b : Rq} {ep : Int} {vm : Value} {x : Nat} {p : Rq} {y : Nat} {q : Rq} {u : World} (h : Uz w0 w e v s a e' v' s' b ep vm x p y q) (hb : Below w.heap.size w u) : Uz w0 u e v s a e' v' s' b ep vm x p y q := ⟨h.tw.keep hb, h.rx.keep hb, h.hx, h.ry.keep hb, h.hy, h.ne⟩
theorem Uz.swap {w0 w : World} {e v s : Int} {a : Rq} {e' v' s' : Int} {b : Rq} {ep : Int} {vm : Value} {x : Nat} {p : Rq} {y : Nat} {q : Rq} (h : Uz w0 w e v s a e' v' s' b ep vm x p y q) : Uz w0 w e v s a e' v' s' b ep vm y q x p := ⟨h.tw, h.ry, h.hy, h.rx, h.hx, h.ne.symm⟩
theorem Uw.al {w0 w : World} {e v s : Int} {a : Rq} {e' v' s' : Int} {b : Rq} {ep : Int} {vm : Value} (h : Uw w0 w e v s a e' v' s' b ep vm) : Uv w0 (w.alloc (.cells #[.int .i64 0, .int .i64 0, .int .i64 0, .string ⟨#[]⟩, .float .f64 0, .int .i64 0] 37)) e v s a e' v' s' b ep vm w.heap.size zeroQ :=
  ⟨h.keep ((Below.refl _ _).alloc (Nat.le_refl _) _), heap_alloc_last w _, h.ge⟩
theorem Uv.al {w0 w : World} {e v s : Int} {a : Rq} {e' v' s' : Int} {b : Rq} {ep : Int} {vm : Value} {x : Nat} {p : Rq} (h : Uv w0 w e v s a e' v' s' b ep vm x p) : Uz w0 (w.alloc (.cells #[.int .i64 0, .int .i64 0, .int .i64 0, .string ⟨#[]⟩, .float .f64 0, .int .i64 0] 37)) e v s a e' v' s' b ep vm x p w.heap.size zeroQ :=
  ⟨h.tw.keep ((Below.refl _ _).alloc (Nat.le_refl _) _), h.rx.keep ((Below.refl _ _).alloc (Nat.le_refl _) _), h.hx, heap_alloc_last w _, h.tw.ge, Nat.ne_of_lt (lt_of_blk h.rx)⟩
theorem Uz.put {w0 w : World} {e v s : Int} {a : Rq} {e' v' s' : Int} {b : Rq} {ep : Int} {vm : Value} {x : Nat} {p : Rq} {y : Nat} {q r : Rq} {u : World} (h : Uz w0 w e v s a e' v' s' b ep vm x p y q) (hq : RqAt u x r ∧ One x w u) : Uz w0 u e v s a e' v' s' b ep vm x r y q :=
  ⟨h.tw.one h.hx hq.2, hq.1, h.hx, (hq.2.block _ h.ne.symm).trans h.ry, h.hy, h.ne⟩
/-- Texts whose first bytes are unlike. -/
theorem first_ne {x y : ByteArray} {p q : UInt8} (hx : x.data.toList.head? = some p) (hy : y.data.toList.head? = some q) (h : p ≠ q) : (x.toList == y.toList) = false := by
  rw [text_eq]
  exact decide_eq_false (fun e => h (by rw [e, hy] at hx; exact (Option.some.inj hx).symm))
theorem conf_first {ep : Int} {l : List Int} (h : textE ep l = 0) : (textC ep l).data.toList.head? = some 67 := by
  unfold textE at h
  split at h
  · next hr =>
    rw [textC, if_pos hr]
    rfl
  · cases h
theorem codes01 (e v s : Int) (r : Rq) : prE e v s r = 0 ∨ prE e v s r = 1 := by
  unfold prE
  split
  · split
    · exact Or.inl rfl
    · exact Or.inr rfl
  · exact Or.inr rfl
theorem codes02 (s : Int) : stE s = 0 ∨ stE s = 1 := by
  unfold stE
  split
  · exact Or.inl rfl
  · exact Or.inr rfl
theorem codes03 (ep : Int) (l : List Int) : textE ep l = 0 ∨ textE ep l = 1 := by
  unfold textE
  split
  · exact Or.inl rfl
  · exact Or.inr rfl
theorem same_text {a b : Rq} (h : sameB a b = true) : rqT a = rqT b := by
  unfold sameB at h
  simp at h
  exact h.2
end Go.Proofs.Ytpgfdnmlkaoigab
