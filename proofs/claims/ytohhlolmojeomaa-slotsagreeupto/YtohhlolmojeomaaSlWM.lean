/- What is committed stays; a refused step changes nothing; never more than the bound. -/
import Derived.Test.YtohhlolmojeomaaSlVM
import Derived.Test.YtohhlolmojeomaaOpYM
import Derived.Test.YtohhlolmojeomaaWsBM
import Derived.Deep.DeepCutAuto
namespace Go.Proofs.Ytohhlolmojeomaa
open Go.RowKit

theorem toSt {w : World} {N g : Nat} {ep : Int} {am : Option Addr} {cm : Nat} {l : List Int} {v : Int} {ps : List Pl} {m : Nat} (h : LgM w N g ep am cm l v ps) (hq : QOk ep l v (ps.map Pl.pp)) (hm : m < 4) :
    Calls Try.prog 20 #[.pointer (some ⟨g, 0, none⟩), .int .i64 (4 * ep + 1 + (m : Int))] w fun e w' => e = .returned (.tuple #[.agg #[.int .i64 (rdR ((ps.map Pl.pp).getD m q0P).don).c, .int .i64 (rdR ((ps.map Pl.pp).getD m q0P).don).st, .int .i64 (rdR ((ps.map Pl.pp).getD m q0P).don).k, .string (rdR ((ps.map Pl.pp).getD m q0P).don).key, .float .f64 (rdR ((ps.map Pl.pp).getD m q0P).don).b, .int .i64 (rdR ((ps.map Pl.pp).getD m q0P).don).id], .bool (rdE ((ps.map Pl.pp).getD m q0P).don == 0)]) ∧ Below w.heap.size w w' := by
  obtain ⟨he, hl, hlm⟩ := hq.len
  obtain ⟨p, hp, hg⟩ := map_get (ps := ps) (i := m) (by rw [h.at_.four]; exact hm)
  rw [hg]
  exact scommitted_yes g ep am cm l v ps m p w h.at_ hl he hp (map_ok hq hp).don
theorem tsize {w : World} {N g : Nat} {ep : Int} {am : Option Addr} {cm : Nat} {l : List Int} {v : Int} {ps : List Pl} (h : LgM w N g ep am cm l v ps) (hq : QOk ep l v (ps.map Pl.pp)) :
    Calls Try.prog 19 #[.pointer (some ⟨g, 0, none⟩)] w fun e w' => e = .returned (.int .i64 (sizeQ (ps.map Pl.pp))) ∧ Below w.heap.size w w' := by
  have := sSize_any N g ep am cm l v ps w h hq.len.2.1
  rw [sumTo_all h.at_.four] at this
  exact this
theorem tcerts {w : World} {N g : Nat} {ep : Int} {am : Option Addr} {cm : Nat} {l : List Int} {v : Int} {ps : List Pl} (h : LgM w N g ep am cm l v ps) (hq : QOk ep l v (ps.map Pl.pp)) :
    Calls Try.prog 10 #[.pointer (some ⟨g, 0, none⟩)] w fun e w' => ∃ a k, e = .returned (.slice a (crtQ (ps.map Pl.pp)).length k) ∧ Reads (fun b => w.heap.size ≤ b) w' (.slice a (crtQ (ps.map Pl.pp)).length k) (dCts (crtQ (ps.map Pl.pp))) ∧ Below w.heap.size w w' := by
  refine (scerts_any N g ep am cm l v ps (fun p hp => hq.sg p.pp (List.mem_map_of_mem hp)) w h hq.len.2.1).mono ?_
  rintro e w' ⟨vl, he, hr, hb⟩
  rw [crtTo_all h.at_.four] at hr
  obtain ⟨a, k, hv⟩ := hr.form
  rw [List.length_map] at hv
  exact ⟨a, k, by rw [he, hv], by rw [← hv]; exact hr, hb⟩
theorem crt_few {qs : List Pp} {ep : Int} {l : List Int} {v : Int} (hq : QOk ep l v qs) : (crtQ qs).length ≤ 4 ∧ ∀ x, x ∈ crtQ qs → x.2.2.2.length ≤ 16 := by
  refine ⟨?_, fun x hx => ?_⟩
  · rw [crtQ, List.length_map, ← hq.four]; exact List.length_filter_le _ _
  · obtain ⟨q, hq2, rfl⟩ := List.mem_map.1 hx
    exact hq.sg q (List.mem_filter.1 hq2).1
theorem rdE_empty {b : ByteArray} (h : b.size = 0) : rdE b = 5 := by
  have : b = ⟨#[]⟩ := bytes_eq (by have := List.eq_nil_of_length_eq_zero (l := b.data.toList) (by simpa using h); rw [this])
  rw [this]; decide +kernel
theorem all_self (f : Nat → Bool) (h : ∀ i, f i = true) : ∀ n, allTo f n = true
  | 0 => rfl
  | n + 1 => by show (allTo f n && f n) = true; rw [all_self f h n, h n]; rfl
theorem ctSame_self (x : Ct) : ctSame x x = true := by simp [ctSame, wholeB_self]
theorem ctsSame_self (xs : List Ct) : ctsSame xs xs = true := by
  rw [ctsSame, decide_eq_true rfl, Bool.true_and]
  exact all_self (fun i => ctSame (xs.getD i ct0) (xs.getD i ct0)) (fun i => ctSame_self _) _
theorem crt_at {ep : Int} {l : List Int} {v : Int} {qs : List Pp} (h : SInv ep l v qs) {m : Nat} (hm : m < 4) (hd : rdE (qs.getD m q0P).don = 0) : ∃ kk, kk < (crtQ qs).length ∧ ((crtQ qs).getD kk ct0).2.1 = 4 * ep + 1 + (m : Int) := by
  have hq := getD_of (l := qs) (i := m) (d := q0P) (by rw [h.1.four]; exact hm)
  have hp := h.2 m _ hq
  have hz : (qs.getD m q0P).don.size ≠ 0 := fun e => by rw [rdE_empty e] at hd; cases hd
  have hc := hp.don hz
  have hmem : (qs.getD m q0P).ct ∈ crtQ qs := List.mem_map_of_mem (List.mem_filter.2 ⟨List.mem_of_getElem? hq, by simpa using hc⟩)
  obtain ⟨kk, hk⟩ := List.getElem?_of_mem hmem
  obtain ⟨hl, he⟩ := List.getElem?_eq_some_iff.1 hk
  exact ⟨kk, hl, by rw [List.getD_eq_getElem?_getD, hk]; exact (hp.ct hc).1⟩
/-- What is done stays, as it was. -/
theorem don_stays {ep : Int} {l : List Int} {v : Int} {qs : List Pp} (h : SInv ep l v qs) (o : Sp) (hb : o.a.b < 18446744073709551616) {m : Nat} (hm : m < 4) (hd : rdE (qs.getD m q0P).don = 0) : ((stp ep l v qs o).2.2.getD m q0P).don = (qs.getD m q0P).don := by
  have hq := getD_of (l := qs) (i := m) (d := q0P) (by rw [h.1.four]; exact hm)
  have hz : (qs.getD m q0P).don.size ≠ 0 := fun e => by rw [rdE_empty e] at hd; cases hd
  obtain ⟨q', h1, h2⟩ := (stp_inv h o hb).2.2.2 m _ hq
  rw [List.getD_eq_getElem?_getD, h1]
  exact h2.don hz
def spAt (w : World) (gs b : Nat) (o : Sp) : Prop := w.rangeAt gs b (spC o)
/-- What lies there while a step is held against what was. -/
structure MdS (w0 w : World) (g : Nat) (ep : Int) (a : Option Addr) (n cap : Nat) (am : Option Addr) (cm : Nat) (l : List Int) (v : Int) (ps : List Pl) (b1 b2 : Nat) (r1 r2 : Rq) (b3 : Nat) (a6 : Option Addr) (k6 : Nat) (C : List Ct) : Prop where
  cf : BxAt w w0.heap.size [.int .i64 ep, .slice a n cap] 24
  bel : Below w0.heap.size w0 w
  lg : LgM w (g + 1) g ep am cm l v ps
  x1 : BxAt w b1 [.int .i64 r1.c, .int .i64 r1.st, .int .i64 r1.k, .string r1.key, .float .f64 r1.b, .int .i64 r1.id] 43
  x2 : BxAt w b2 [.int .i64 r2.c, .int .i64 r2.st, .int .i64 r2.k, .string r2.key, .float .f64 r2.b, .int .i64 r2.id] 43
  rd : Reads (fun b => b3 ≤ b) w (.slice a6 C.length k6) (dCts C)
theorem MdS.keep {w0 w w' : World} {g : Nat} {ep : Int} {a : Option Addr} {n cap : Nat} {am : Option Addr} {cm : Nat} {l : List Int} {v : Int} {ps : List Pl} {b1 b2 : Nat} {r1 r2 : Rq} {b3 : Nat} {a6 : Option Addr} {k6 : Nat} {C : List Ct} (h : MdS w0 w g ep a n cap am cm l v ps b1 b2 r1 r2 b3 a6 k6 C) (hb : Below w.heap.size w w') : MdS w0 w' g ep a n cap am cm l v ps b1 b2 r1 r2 b3 a6 k6 C :=
  ⟨h.cf.keep hb, h.bel.trans (hb.mono h.bel.size), h.lg.keep hb, h.x1.keep hb, h.x2.keep hb, h.rd.under hb (Nat.le_refl _)⟩
theorem wrap_l {x : Int} (h0 : 0 ≤ x) (h1 : x ≤ 9223372036854775807) : IntKind.i64.wrap x = x := by
  simp [IntKind.wrap, IntKind.bits, IntKind.signed]
  omega
theorem rem_four (j : Nat) : ((j : Int)).tmod 4 = ((j % 4 : Nat) : Int) := by
  rw [Int.tmod_eq_emod_of_nonneg (Int.natCast_nonneg _)]; omega
end Go.Proofs.Ytohhlolmojeomaa
