/- What is committed stays; a refused step changes nothing; never more than the bound. -/
import Derived.Test.YtohhlolmojeomaaSlVM
import Derived.Test.YtohhlolmojeomaaOpYM
import Derived.Test.YtohhlolmojeomaaWsBM
import Derived.Deep.DeepCutAuto
namespace Go.Proofs.Ytohhlolmojeomaa
open Go.RowKit

theorem toSt {w : World} {N g : Nat} {ep : Int} {am : Option Addr} {cm : Nat} {l : List Int} {v : Int} {ps : List Pl} {m : Nat} (h : LgM w N g ep am cm l v ps) (hq : QOk ep l v (ps.map Pl.pp)) (hm : m < 4) :
    Calls Try.prog 20 #[.pointer (some ⟨g, 0, none⟩), .int .i64 (4 * ep + 1 + (m : Int))] w fun e w' => e = .returned (.tuple #[.agg #[.int .i64 (rdR ((ps.map Pl.pp).getD m q0P).don).c, .int .i64 (rdR ((ps.map Pl.pp).getD m q0P).don).st, .int .i64 (rdR ((ps.map Pl.pp).getD m q0P).don).k, .string (rdR ((ps.map Pl.pp).getD m q0P).don).key, .float .f64 (rdR ((ps.map Pl.pp).getD m q0P).don).b, .int .i64 (rdR ((ps.map Pl.pp).getD m q0P).don).id], .bool (rdE ((ps.map Pl.pp).getD m q0P).don == 0)]) ∧ Below w.heap.size w w' := by
  obtain ⟨he, hl, hlm⟩ := hq.len
  obtain ⟨p, hp, hg⟩ := map_get (ps := ps) (i := m) (by rw [h.at_.four]; exact hm)
  rw [hg]
  exact scommitted_yes g ep am cm l v ps m p w h.at_ hl he hp (map_ok hq hp).don
theorem tsize {w : World} {N g : Nat} {ep : Int} {am : Option Addr} {cm : Nat} {l : List Int} {v : Int} {ps : List Pl} (h : LgM w N g ep am cm l v ps) (hq : QOk ep l v (ps.map Pl.pp)) :
    Calls Try.prog 19 #[.pointer (some ⟨g, 0, none⟩)] w fun e w' => e = .returned (.int .i64 (sizeQ (ps.map Pl.pp))) ∧ Below w.heap.size w w' := by
  have := sSize_any N g ep am cm l v ps w h hq.len.2.1
  rw [sumTo_all h.at_.four] at this
  exact this
theorem tcerts {w : World} {N g : Nat} {ep : Int} {am : Option Addr} {cm : Nat} {l : List Int} {v : Int} {ps : List Pl} (h : LgM w N g ep am cm l v ps) (hq : QOk ep l v (ps.map Pl.pp)) :
    Calls Try.prog 10 #[.pointer (some ⟨g, 0, none⟩)] w fun e w' => ∃ a k, e = .returned (.slice a (crtQ (ps.map Pl.pp)).length k) ∧ Reads (fun b => w.heap.size ≤ b) w' (.slice a (crtQ (ps.map Pl.pp)).length k) (dCts (crtQ (ps.map Pl.pp))) ∧ Below w.heap.size w w' := by
  refine (scerts_any N g ep am cm l v ps (fun p hp => hq.sg p.pp (List.mem_map_of_mem hp)) w h hq.len.2.1).mono ?_
  rintro e w' ⟨vl, he, hr, hb⟩
  rw [crtTo_all h.at_.four] at hr
  obtain ⟨a, k, hv⟩ := hr.form
  rw [List.length_map] at hv
  exact ⟨a, k, by rw [he, hv], by rw [← hv]; exact hr, hb⟩
theorem crt_few {qs : List Pp} {ep : Int} {l : List Int} {v : Int} (hq : QOk ep l v qs) : (crtQ qs).length ≤ 4 ∧ ∀ x, x ∈ crtQ qs → x.2.2.2.length ≤ 16 := by
  refine ⟨?_, fun x hx => ?_⟩
  · rw [crtQ, List.length_map, ← hq.four]; exact List.length_filter_le _ _
  · obtain ⟨q, hq2, rfl⟩ := List.mem_map.1 hx
    exact hq.sg q (List.mem_filter.1 hq2).1
theorem rdE_empty {b : ByteArray} (h : b.size = 0) : rdE b = 5 := by
  have : b = ⟨#[]⟩ := bytes_eq (by have := List.eq_nil_of_length_eq_zero (l := b.data.toList) (by simpa using h); rw [this])
  rw [this]; decide +kernel
theorem all_self (f : Nat → Bool) (h : ∀ i, f i = true) : ∀ n, allTo f n = true
  | 0 => rfl
  | n + 1 => by show (allTo f n && f n) = true; rw [all_self f h n, h n]; rfl
theorem ctSame_self (x : Ct) : ctSame x x = true := by simp [ctSame, wholeB_self]
theorem ctsSame_self (xs : List Ct) : ctsSame xs xs = true := by
  rw [ctsSame, decide_eq_true rfl, Bool.true_and]
  exact all_self (fun i => ctSame (xs.getD i ct0) (xs.getD i ct0)) (fun i => ctSame_self _) _
theorem crt_at {ep : Int} {l : List Int} {v : Int} {qs : List Pp} (h : SInv ep l v qs) {m : Nat} (hm : m < 4) (hd : rdE (qs.getD m q0P).don = 0) : ∃ kk, kk < (crtQ qs).length ∧ ((crtQ qs).getD kk ct0).2.1 = 4 * ep + 1 + (m : Int) := by
  have hq := getD_of (l := qs) (i := m) (d := q0P) (by rw [h.1.four]; exact hm)
  have hp := h.2 m _ hq
  have hz : (qs.getD m q0P).don.size ≠ 0 := fun e => by rw [rdE_empty e] at hd; cases hd
  have hc := hp.don hz
  have hmem : (qs.getD m q0P).ct ∈ crtQ qs := List.mem_map_of_mem (List.mem_filter.2 ⟨List.mem_of_getElem? hq, by simpa using hc⟩)
  obtain ⟨kk, hk⟩ := List.getElem?_of_mem hmem
  obtain ⟨hl, he⟩ := List.getElem?_eq_some_iff.1 hk
  exact ⟨kk, hl, by rw [List.getD_eq_getElem?_getD, hk]; exact (hp.ct hc).1⟩
/-- What is done stays, as it was. -/
theorem don_stays {ep : Int} {l : List Int} {v : Int} {qs : List Pp} (h : SInv ep l v qs) (o : Sp) (hb : o.a.b < 18446744073709551616) {m : Nat} (hm : m < 4) (hd : rdE (qs.getD m q0P).don = 0) : ((stp ep l v qs o).2.2.getD m q0P).don = (qs.getD m q0P).don := by
  have hq := getD_of (l := qs) (i := m) (d := q0P) (by rw [h.1.four]; exact hm)
  have hz : (qs.getD m q0P).don.size ≠ 0 := fun e => by rw [rdE_empty e] at hd; cases hd
  obtain ⟨q', h1, h2⟩ := (stp_inv h o hb).2.2.2 m _ hq
  rw [List.getD_eq_getElem?_getD, h1]
  exact h2.don hz
def spAt (w : World) (gs b : Nat) (o : Sp) : Prop := w.rangeAt gs b (spC o)
/-- What lies there while a step is held against what was. -/
structure MdS (w0 w : World) (g : Nat) (ep : Int) (a : Option Addr) (n cap : Nat) (am : Option Addr) (cm : Nat) (l : List Int) (v : Int) (ps : List Pl) (b1 b2 : Nat) (r1 r2 : Rq) (b3 : Nat) (a6 : Option Addr) (k6 : Nat) (C : List Ct) : Prop where
  cf : BxAt w w0.heap.size [.int .i64 ep, .slice a n cap] 24
  bel : Below w0.heap.size w0 w
  lg : LgM w (g + 1) g ep am cm l v ps
  x1 : BxAt w b1 [.int .i64 r1.c, .int .i64 r1.st, .int .i64 r1.k, .string r1.key, .float .f64 r1.b, .int .i64 r1.id] 43
  x2 : BxAt w b2 [.int .i64 r2.c, .int .i64 r2.st, .int .i64 r2.k, .string r2.key, .float .f64 r2.b, .int .i64 r2.id] 43
  rd : Reads (fun b => b3 ≤ b) w (.slice a6 C.length k6) (dCts C)
theorem MdS.keep {w0 w w' : World} {g : Nat} {ep : Int} {a : Option Addr} {n cap : Nat} {am : Option Addr} {cm : Nat} {l : List Int} {v : Int} {ps : List Pl} {b1 b2 : Nat} {r1 r2 : Rq} {b3 : Nat} {a6 : Option Addr} {k6 : Nat} {C : List Ct} (h : MdS w0 w g ep a n cap am cm l v ps b1 b2 r1 r2 b3 a6 k6 C) (hb : Below w.heap.size w w') : MdS w0 w' g ep a n cap am cm l v ps b1 b2 r1 r2 b3 a6 k6 C :=
  ⟨h.cf.keep hb, h.bel.trans (hb.mono h.bel.size), h.lg.keep hb, h.x1.keep hb, h.x2.keep hb, h.rd.under hb (Nat.le_refl _)⟩
theorem wrap_l {x : Int} (h0 : 0 ≤ x) (h1 : x ≤ 9223372036854775807) : IntKind.i64.wrap x = x := by
  simp [IntKind.wrap, IntKind.bits, IntKind.signed]
  omega
theorem rem_four (j : Nat) : ((j : Int)).tmod 4 = ((j % 4 : Nat) : Int) := by
  rw [Int.tmod_eq_emod_of_nonneg (Int.natCast_nonneg _)]; omega
set_option maxRecDepth 100000 in
set_option maxHeartbeats 12800000 in
theorem slotsStays_walk (ep : Int) (a : Option Addr) (n cap : Nat) (l : List Int) (hn : l.length = n) (hm : n ≤ maxLen) (ad : Option Addr) (len : Nat) (kc : Nat) (os : List Sp) (hlen : os.length = len) (hmax : len ≤ maxLen) (hos : ∀ o, o ∈ os → spOk o) (w : World) (hI : IntsIn w a l) (hS : SpsIn w ad os) :
    Calls Try.prog 5 #[.agg #[.int .i64 ep, .slice a n cap], .slice ad len kc] w fun e w' => e = .returned (.bool true) ∧ Below w.heap.size w w' := by
  have hbA : Below w.heap.size w (w.alloc (.cells #[.int .i64 ep, .slice a n cap] 24)) := (Below.refl _ _).alloc (Nat.le_refl _) _
  have H0 : Hid (BxAt (w.alloc (.cells #[.int .i64 ep, .slice a n cap] 24)) w.heap.size [.int .i64 ep, .slice a n cap] 24 ∧ Below w.heap.size w (w.alloc (.cells #[.int .i64 ep, .slice a n cap] 24))) := hid ⟨heap_alloc_last w _, hbA⟩
  have y0 := H0.out.1.cell 0 _ rfl
  have y1 := H0.out.1.cell 1 _ rfl
  have HI := hid (And.intro hI hS)
  have HN := hid (And.intro hn (And.intro hm (And.intro hlen (And.intro hmax hos))))
  have hlenI : (len : Int) ≤ 9223372036854775807 := by unfold maxLen at hmax; omega
  cases hr : rightC ep l with
  | false =>
    have HW : Hid (∀ u : World, Below w.heap.size w u → Calls Try.prog 8 #[.agg #[.int .i64 ep, .slice a n cap]] u fun e w' => e = .returned (.tuple #[.pointer none, .int .i64 1]) ∧ Below u.heap.size u w') := hid (fun u hu => snew_no ep a n cap l hn hm u (hI.keep hu (Nat.le_refl _)) hr)
    clear hn hm hI hS hlen hmax hos hr hbA
    go_enter Try.func5, Try.ntmps5
    go_wp2_with (first
      | (go_at_call 7; go_must (refine (ulives14 _).mono ?_); rintro e w1 ⟨rfl, hb1⟩; have H1 : Hid (BxAt w1 w.heap.size [.int .i64 ep, .slice a n cap] 24 ∧ Below w.heap.size w w1) := hid ⟨H0.out.1.keep hb1, H0.out.2.trans (hb1.mono H0.out.2.size)⟩; clear hb1 y0 y1; have y0 := H1.out.1.cell 0 _ rfl; have y1 := H1.out.1.cell 1 _ rfl)
      | (go_at_call 8; go_must (refine (HW.out _ H1.out.2).mono ?_); rintro e w2 ⟨rfl, hb2⟩; have H2 := hid (H1.out.2.trans (hb2.mono H1.out.2.size)); clear hb2 y0 y1))
    go_ret
    exact ⟨rfl, H2.out⟩
  | true =>
    have HW : Hid (∀ u : World, Below w.heap.size w u → Calls Try.prog 8 #[.agg #[.int .i64 ep, .slice a n cap]] u fun e w' => NewPost u w' e ep l) := hid (fun u hu => snew_yes ep a n cap l hn u (hI.keep hu (Nat.le_refl _)) hr)
    have HZ := hid (z_inv hr)
    have hepr := (rightC_ep hr).1
    have hln := mem_len (rightC_ep hr).2
    have hnI : (n : Int) ≤ 10 := by omega
    have hw1 : IntKind.i64.wrap (4 * ep) = 4 * ep := wrap_s (by omega) (by omega)
    have hw2 : IntKind.i64.wrap (4 * ep + 1) = 4 * ep + 1 := wrap_s (by omega) (by omega)
    have hx1 : IntKind.i64.wrap (2 * (n : Int)) = 2 * (n : Int) := wrap_s (by omega) (by omega)
    have hx2 : IntKind.i64.wrap (1 + 2 * (n : Int)) = 1 + 2 * (n : Int) := wrap_s (by omega) (by omega)
    have hx3 : IntKind.i64.wrap (4 * (1 + 2 * (n : Int))) = 4 * (1 + 2 * (n : Int)) := wrap_s (by omega) (by omega)
    have HEp := hid (And.intro hepr hln)
    clear hn hm hI hS hlen hmax hos hr hbA hln hnI
    go_enter Try.func5, Try.ntmps5
    go_wp2_with (first
      | (go_at_call 7; go_must (refine (ulives14 _).mono ?_); rintro e w1 ⟨rfl, hb1⟩; have H1 : Hid (BxAt w1 w.heap.size [.int .i64 ep, .slice a n cap] 24 ∧ Below w.heap.size w w1) := hid ⟨H0.out.1.keep hb1, H0.out.2.trans (hb1.mono H0.out.2.size)⟩; clear hb1 y0 y1; have y0 := H1.out.1.cell 0 _ rfl; have y1 := H1.out.1.cell 1 _ rfl)
      | (go_at_call 8; go_must (refine (HW.out _ H1.out.2).mono ?_); rintro e w2 ⟨g, am, cm, rfl, hn1, hn2, hn3, hn4, hn5⟩; have H2 : Hid ((BxAt w2 w.heap.size [.int .i64 ep, .slice a n cap] 24 ∧ Below w.heap.size w w2) ∧ LgM w2 (g + 1) g ep am cm l 0 z4P ∧ w.heap.size < g) := hid ⟨⟨H1.out.1.keep hn5, H1.out.2.trans (hn5.mono H1.out.2.size)⟩, LgM.zero hn1 (by omega) (by omega) (fun x hx => (hn4 x hx).2), by have := lt_of_blk H1.out.1; omega⟩; clear hn1 hn2 hn3 hn4 hn5 y0 y1))
    go_loopw [7] (fun i wr => ∃ (j : Nat) (v : Int) (ps : List Pl), j ≤ len ∧ i = .int .i64 (j : Int) ∧ (BxAt wr w.heap.size [.int .i64 ep, .slice a n cap] 24 ∧ Below w.heap.size w wr) ∧ LgM wr (g + 1) g ep am cm l v ps ∧ SInv ep l v (ps.map Pl.pp)) (fun i _ => ((len : Int) - intOf i).toNat)
    case atStart => exact ⟨0, 0, z4P, Nat.zero_le _, rfl, H2.out.1, H2.out.2.1, HZ.out⟩
    case round =>
      obtain ⟨j, v, ps, hj, rfl, hE, hL, hI⟩ := hrel
      have HX : Hid ((BxAt wr w.heap.size [.int .i64 ep, .slice a n cap] 24 ∧ Below w.heap.size w wr) ∧ LgM wr (g + 1) g ep am cm l v ps ∧ SInv ep l v (ps.map Pl.pp)) := hid ⟨hE, hL, hI⟩
      clear hE hL hI
      have hj0 : (0 : Int) ≤ (j : Int) := Int.natCast_nonneg _
      by_cases hjn : j = len
      · have hj1 : ¬ (j : Int) < (len : Int) := by omega
        clear hj hjn
        go_wp2
        go_ret
        exact ⟨rfl, HX.out.1.2⟩
      · have hj1 : (j : Int) < (len : Int) := by omega
        obtain ⟨o, ho⟩ : ∃ o, os[j]? = some o := ⟨_, List.getElem?_eq_getElem (by have := HN.out.2.2.1; omega)⟩
        have hob := (HN.out.2.2.2.2 o (List.mem_of_getElem? ho)).2
        obtain ⟨gs, off, rfl, hgs, hcell⟩ : ∃ gs off, ad = some ⟨gs, off, none⟩ ∧ gs < w.heap.size ∧ w.rangeAt gs (off + j * 11) (spC o) := by
          rcases HI.out.2 with h0 | ⟨gs, off, h1, h2, h3⟩
          · rw [h0] at ho; simp at ho
          · exact ⟨gs, off, h1, h2, fun q u hq => h3 j o ho q u hq⟩
        have HSc : Hid (∀ u : World, Below w.heap.size w u → u.rangeAt gs (off + j * 11) (spC o)) := hid (fun u hu q x hq => (hu.cell (p := ⟨gs, off + j * 11 + q, none⟩) hgs).trans (hcell q x hq))
        obtain ⟨m, em⟩ : ∃ m, m = j % 4 := ⟨_, rfl⟩
        have hm4 : m < 4 := by omega
        have hrem : ((j : Int)).tmod 4 = (m : Int) := by rw [em]; exact rem_four j
        have hmI0 : (0 : Int) ≤ (m : Int) := Int.natCast_nonneg _
        have hw3 : IntKind.i64.wrap (m : Int) = (m : Int) := wrap_s (by omega) (by omega)
        have hw4 : IntKind.i64.wrap (4 * ep + 1 + (m : Int)) = 4 * ep + 1 + (m : Int) := wrap_s (by have := HEp.out.1; omega) (by have := HEp.out.1; omega)
        have hw5 : IntKind.i64.wrap ((j : Int) + 1) = (j : Int) + 1 := wrap_l (by omega) (by omega)
        have hst := stp_inv HX.out.2.2 o hob
        have hdn := fun hd => don_stays HX.out.2.2 o hob (m := m) hm4 hd
        have hca := fun hd => crt_at hst.1 (m := m) hm4 hd
        have hsb := size_bound hst.1
        have HFew := hid (And.intro (crt_few HX.out.2.2.1) (crt_few hst.1.1))
        have HCall : Hid (∀ u : World, LgM u (g + 1) g ep am cm l v ps → Calls Try.prog 9 #[.pointer (some ⟨g, 0, none⟩), .int .i64 ep, .agg (spC o).toArray] u fun e w' => StPost u w' (g + 1) g ep am cm l (stp ep l v (ps.map Pl.pp) o).2.1 e (stp ep l v (ps.map Pl.pp) o).1 (stp ep l v (ps.map Pl.pp) o).2.2) := hid (fun u hu => ucall_any o hob u hu HX.out.2.2.1)
        have HCm : Hid (∀ (u : World) (x : Int) (rs : List Pl), LgM u (g + 1) g ep am cm l x rs → QOk ep l x (rs.map Pl.pp) → Calls Try.prog 20 #[.pointer (some ⟨g, 0, none⟩), .int .i64 (4 * ep + 1 + (m : Int))] u fun e w' => e = .returned (.tuple #[.agg #[.int .i64 (rdR ((rs.map Pl.pp).getD m q0P).don).c, .int .i64 (rdR ((rs.map Pl.pp).getD m q0P).don).st, .int .i64 (rdR ((rs.map Pl.pp).getD m q0P).don).k, .string (rdR ((rs.map Pl.pp).getD m q0P).don).key, .float .f64 (rdR ((rs.map Pl.pp).getD m q0P).don).b, .int .i64 (rdR ((rs.map Pl.pp).getD m q0P).don).id], .bool (rdE ((rs.map Pl.pp).getD m q0P).don == 0)]) ∧ Below u.heap.size u w') := hid (fun u x rs hu hq => toSt hu hq hm4)
        have HSz : Hid (∀ (u : World) (x : Int) (rs : List Pl), LgM u (g + 1) g ep am cm l x rs → QOk ep l x (rs.map Pl.pp) → Calls Try.prog 19 #[.pointer (some ⟨g, 0, none⟩)] u fun e w' => e = .returned (.int .i64 (sizeQ (rs.map Pl.pp))) ∧ Below u.heap.size u w') := hid (fun u x rs hu hq => tsize hu hq)
        have HVw : Hid (∀ (u : World) (x : Int) (rs : List Pl), LgM u (g + 1) g ep am cm l x rs → QOk ep l x (rs.map Pl.pp) → Calls Try.prog 12 #[.pointer (some ⟨g, 0, none⟩)] u fun e w' => e = .returned (.int .i64 x) ∧ w' = u) := hid (fun u x rs hu hq => sview_any g ep am cm l x rs u hu.at_ hq.len.2.1)
        have HCe : Hid (∀ (u : World) (x : Int) (rs : List Pl), LgM u (g + 1) g ep am cm l x rs → QOk ep l x (rs.map Pl.pp) → Calls Try.prog 10 #[.pointer (some ⟨g, 0, none⟩)] u fun e w' => ∃ a k, e = .returned (.slice a (crtQ (rs.map Pl.pp)).length k) ∧ Reads (fun b => u.heap.size ≤ b) w' (.slice a (crtQ (rs.map Pl.pp)).length k) (dCts (crtQ (rs.map Pl.pp))) ∧ Below u.heap.size u w') := hid (fun u x rs hu hq => tcerts hu hq)
        have HQ0 : Hid (QOk ep l v (ps.map Pl.pp)) := hid HX.out.2.2.1
        have HQ1 : Hid (QOk ep l (stp ep l v (ps.map Pl.pp) o).2.1 (stp ep l v (ps.map Pl.pp) o).2.2) := hid hst.1.1
        have HI1 : Hid (SInv ep l (stp ep l v (ps.map Pl.pp) o).2.1 (stp ep l v (ps.map Pl.pp) o).2.2) := hid hst.1
        have HRef := hid hst.2.2.1
        obtain ⟨rr, err⟩ : ∃ rr, rr = rdR ((ps.map Pl.pp).getD m q0P).don := ⟨_, rfl⟩
        obtain ⟨dd, edd⟩ : ∃ dd, dd = (rdE ((ps.map Pl.pp).getD m q0P).don == 0) := ⟨_, rfl⟩
        obtain ⟨C0, eC0⟩ : ∃ C0, C0 = crtQ (ps.map Pl.pp) := ⟨_, rfl⟩
        obtain ⟨S0, eS0⟩ : ∃ S0, S0 = sizeQ (ps.map Pl.pp) := ⟨_, rfl⟩
        have HCm0 := hid (HCm.out · v ps · HQ0.out)
        rw [← err, ← edd] at HCm0
        have HSz0 := hid (HSz.out · v ps · HQ0.out)
        rw [← eS0] at HSz0
        have HVw0 := hid (HVw.out · v ps · HQ0.out)
        have HCe0 := hid (HCe.out · v ps · HQ0.out)
        rw [← eC0] at HCe0
        generalize hR : stp ep l v (ps.map Pl.pp) o = R at HCall HQ1 HI1 HRef hdn hca hsb HFew
        obtain ⟨Er, v', qs'⟩ := R
        have HEq := hid (And.intro err (And.intro edd (And.intro eC0 eS0)))
        have HJ := hid (And.intro hj hjn)
        have HPu := hid (And.intro hdn (And.intro hca hsb))
        have HM4 := hid hm4
        have y0 := HX.out.1.1.cell 0 _ rfl
        clear hj hjn ho hob hcell em hm4 hdn hca hsb hst err edd eC0 eS0 hR hgs
        go_upto_region 15 with (first
          | (go_at_call 19; go_must (refine (HSz0.out _ HX.out.2.1).mono ?_); rintro e w3 ⟨rfl, hb3⟩; have H3 : Hid ((BxAt w3 w.heap.size [.int .i64 ep, .slice a n cap] 24 ∧ Below w.heap.size w w3) ∧ LgM w3 (g + 1) g ep am cm l v ps ∧ Below wr.heap.size wr w3) := hid ⟨⟨HX.out.1.1.keep hb3, HX.out.1.2.trans (hb3.mono HX.out.1.2.size)⟩, HX.out.2.1.keep hb3, hb3⟩; clear hb3)
          | (have := H3; go_at_call 12; go_must (refine (HVw0.out _ H3.out.2.1).mono ?_); rintro e wq ⟨rfl, hwq⟩; replace hwq := hwq.symm; subst hwq)
          | (have := H3; go_at_call 20; go_must (refine (HCm0.out _ H3.out.2.1).mono ?_); rintro e w4 ⟨rfl, hb4⟩; have H4 : Hid ((BxAt w4 w.heap.size [.int .i64 ep, .slice a n cap] 24 ∧ Below w.heap.size w w4) ∧ LgM w4 (g + 1) g ep am cm l v ps) := hid ⟨⟨H3.out.1.1.keep hb4, H3.out.1.2.trans (hb4.mono H3.out.1.2.size)⟩, H3.out.2.1.keep hb4⟩; clear hb4)
          | (have := H4; refine wl_store_blk rfl 43 _ _ rfl w4.heap.size 0 rfl #[.int .i64 rr.c, .int .i64 rr.st, .int .i64 rr.k, .string rr.key, .float .f64 rr.b, .int .i64 rr.id] rfl [.int .i64 0, .int .i64 0, .int .i64 0, .string ⟨#[]⟩, .float .f64 0, .int .i64 0] 43 (heap_alloc_last w4 _) (by simp) (by kernel_rfl) (by simp [Value.oneCell']) ?_; intro w5 Hz; have H5 : Hid ((BxAt w5 w.heap.size [.int .i64 ep, .slice a n cap] 24 ∧ Below w.heap.size w w5) ∧ LgM w5 (g + 1) g ep am cm l v ps ∧ BxAt w5 w4.heap.size [.int .i64 rr.c, .int .i64 rr.st, .int .i64 rr.k, .string rr.key, .float .f64 rr.b, .int .i64 rr.id] 43) := hid (by have hb := Hz.out.2.below ((Below.refl w4.heap.size w4).alloc (Nat.le_refl _) _) (Nat.le_refl _); exact ⟨⟨H4.out.1.1.keep hb, H4.out.1.2.trans (hb.mono H4.out.1.2.size)⟩, H4.out.2.keep hb, Hz.out.1⟩); clear Hz)
          | (have := H5; go_at_call 10; go_must (refine (HCe0.out _ H5.out.2.1).mono ?_); rintro e w6 ⟨a6, k6, rfl, hr6, hb6⟩; have H6 : Hid ((BxAt w6 w.heap.size [.int .i64 ep, .slice a n cap] 24 ∧ Below w.heap.size w w6) ∧ LgM w6 (g + 1) g ep am cm l v ps ∧ BxAt w6 w4.heap.size [.int .i64 rr.c, .int .i64 rr.st, .int .i64 rr.k, .string rr.key, .float .f64 rr.b, .int .i64 rr.id] 43 ∧ Reads (fun b => w5.heap.size ≤ b) w6 (.slice a6 C0.length k6) (dCts C0)) := hid ⟨⟨H5.out.1.1.keep hb6, H5.out.1.2.trans (hb6.mono H5.out.1.2.size)⟩, H5.out.2.1.keep hb6, H5.out.2.2.keep hb6, hr6⟩; clear hr6 hb6 y0))
        obtain ⟨wd, ed⟩ : ∃ u, u = w6.drew := ⟨_, rfl⟩
        have HD : Hid ((BxAt wd w.heap.size [.int .i64 ep, .slice a n cap] 24 ∧ Below w.heap.size w wd) ∧ LgM wd (g + 1) g ep am cm l v ps ∧ BxAt wd w4.heap.size [.int .i64 rr.c, .int .i64 rr.st, .int .i64 rr.k, .string rr.key, .float .f64 rr.b, .int .i64 rr.id] 43 ∧ Reads (fun b => w5.heap.size ≤ b) wd (.slice a6 C0.length k6) (dCts C0) ∧ g < w4.heap.size ∧ w4.heap.size < w5.heap.size) := hid (by rw [ed]; have hb := (Below.refl w6.heap.size w6).drew; exact ⟨⟨H6.out.1.1, H6.out.1.2.drew⟩, H6.out.2.1.keep hb, H6.out.2.2.1.keep hb, H6.out.2.2.2.under hb (Nat.le_refl _), Nat.lt_of_lt_of_le H4.out.2.lt H4.out.2.sz, lt_of_blk H5.out.2.2⟩)
        have HS : Hid (BxAt wd w.heap.size [.int .i64 ep, .slice a n cap] 24 ∧ wd.rangeAt gs (off + j * 11) (spC o)) := hid ⟨HD.out.1.1, HSc.out _ HD.out.1.2⟩
        refine wp_region_G (S := fun ww => BxAt ww w.heap.size [.int .i64 ep, .slice a n cap] 24 ∧ ww.rangeAt gs (off + j * 11) (spC o)) (ex := [7, 8]) (by kernel_rfl) ?_
        try (change wpAnyG _ _ _ _ _ _ _ _ _ (World.drew _))
        try rw [← ed]
        clear ed
        refine wpAnyG_take (i := 0) (v := ?v1) rfl (by kernel_rfl) (fun _ _ _ h => h) (Or.inl ⟨by rfl, ?hy1⟩) HS.out ?rest1
        case hy1 => (intro ww _; go_simp; try with_reducible rfl)
        go_simp
        refine wpAnyG_take (i := 1) (v := ?v2) rfl (by kernel_rfl) (fun _ _ _ h => h) (Or.inl ⟨by rfl, ?hy2⟩) HS.out ?rest2
        case hy2 => (intro ww _; go_simp; try with_reducible rfl)
        go_simp
        refine wpAnyG_take (i := 2) (v := ?v3) rfl (by kernel_rfl) (fun _ _ _ h => h) (Or.inl ⟨by rfl, ?hy3⟩) HS.out ?rest3
        case hy3 => (intro ww hS; have y0 := hS.1.cell 0 _ rfl; go_simp; try with_reducible rfl)
        go_simp
        refine wpAnyG_take (i := 3) (v := ?v4) rfl (by kernel_rfl) (fun _ _ _ h => h) (Or.inl ⟨by rfl, ?hy4⟩) HS.out ?rest4
        case hy4 => (intro ww _; go_simp; try with_reducible rfl)
        go_simp
        refine wpAnyG_take (i := 4) (v := ?v5) rfl (by kernel_rfl) (fun _ _ _ h => h) (Or.inl ⟨by rfl, ?hy5⟩) HS.out ?rest5
        case hy5 => (intro ww _; go_simp; try with_reducible rfl)
        go_simp
        refine wpAnyG_take (i := 5) (v := ?v6) rfl (by kernel_rfl) (fun _ _ _ h => h) (Or.inl ⟨by rfl, ?hy6⟩) HS.out ?rest6
        case hy6 => (intro ww _; go_simp; try with_reducible rfl)
        go_simp
        refine wpAnyG_take (i := 6) (v := .agg (spC o).toArray) rfl (by kernel_rfl) (fun _ _ _ h => h) (yieldsIf_load_mid (by rfl) 36 _ rfl gs (off + j * 11) (by first | rfl | (simp [Act.eval]; done)) (spC o) _ (fun _ hS => hS.2) Try.underlying36 rfl (by kernel_rfl)) HS.out ?rest99
        go_simp
        refine wpAnyG_all (rs := [7]) (by kernel_rfl) (by simp) ?_
        intro i hi
        obtain rfl := List.mem_singleton.1 hi
        clear hi
        refine wpOp_s rfl (by rfl) (fun K hK => ?_)
        go_simp
        refine (HCall.out _ HD.out.2.1).mono ?_
        rintro e w9 hp9
        obtain ⟨ps9, rfl, hq1, hq2, hq3⟩ := hp9
        have H9 : Hid ((BxAt w9 w.heap.size [.int .i64 ep, .slice a n cap] 24 ∧ Below w.heap.size w w9) ∧ LgM w9 (g + 1) g ep am cm l v' ps9 ∧ ps9.map Pl.pp = qs' ∧ BxAt w9 w4.heap.size [.int .i64 rr.c, .int .i64 rr.st, .int .i64 rr.k, .string rr.key, .float .f64 rr.b, .int .i64 rr.id] 43 ∧ Reads (fun b => w5.heap.size ≤ b) w9 (.slice a6 C0.length k6) (dCts C0)) := hid (by
          have hg := H2.out.2.2
          obtain ⟨h1, h2, h3, h4, h5, h6⟩ := HD.out
          refine ⟨⟨(hq3.block _ (lt_of_blk h1.1) (by omega)).trans h1.1, h1.2.trans (hq3.below h1.2.size (by omega))⟩, hq1, hq2, (hq3.block _ (lt_of_blk h3) (by omega)).trans h3, h4.move hq3.size (fun k hk hF => ⟨hq3.block k hk (by have : w5.heap.size ≤ k := hF; omega), hF⟩)⟩)
        clear hq1 hq2 hq3
        refine hK _ _ ⟨fun h => absurd (by simp) h, ?_⟩
        clear hK K
        go_simp
        refine wpAnyG_all (rs := [8]) (by kernel_rfl) (by simp) ?_
        intro i hi
        obtain rfl := List.mem_singleton.1 hi
        clear hi
        refine wpOp_s rfl (by rfl) (fun K hK => ?_)
        refine hK _ _ ⟨fun h => absurd (by simp) h, ?_⟩
        clear hK K
        go_simp
        refine wpAnyG_done (by kernel_rfl) ?_ _
        go_simp

        obtain ⟨rs, ers⟩ : ∃ rs, rs = rdR ((ps9.map Pl.pp).getD m q0P).don := ⟨_, rfl⟩
        obtain ⟨d2, ed2⟩ : ∃ d2, d2 = (rdE ((ps9.map Pl.pp).getD m q0P).don == 0) := ⟨_, rfl⟩
        have HCm1 := hid (HCm.out · v' ps9 · (by rw [H9.out.2.2.1]; exact HQ1.out))
        rw [← ers, ← ed2] at HCm1
        have HE2 := hid (And.intro ers ed2)
        clear ers ed2
        go_upto_region 15 with (first
          | (go_at_call 20; go_must (refine (HCm1.out _ H9.out.2.1).mono ?_); rintro e w10 ⟨rfl, hb10⟩; have H10 : Hid ((BxAt w10 w.heap.size [.int .i64 ep, .slice a n cap] 24 ∧ Below w.heap.size w w10) ∧ LgM w10 (g + 1) g ep am cm l v' ps9 ∧ BxAt w10 w4.heap.size [.int .i64 rr.c, .int .i64 rr.st, .int .i64 rr.k, .string rr.key, .float .f64 rr.b, .int .i64 rr.id] 43 ∧ Reads (fun b => w5.heap.size ≤ b) w10 (.slice a6 C0.length k6) (dCts C0)) := hid ⟨⟨H9.out.1.1.keep hb10, H9.out.1.2.trans (hb10.mono H9.out.1.2.size)⟩, H9.out.2.1.keep hb10, H9.out.2.2.2.1.keep hb10, H9.out.2.2.2.2.under hb10 (Nat.le_refl _)⟩; clear hb10)
          | (have := H10; refine wl_store_blk rfl 43 _ _ rfl w10.heap.size 0 rfl #[.int .i64 rs.c, .int .i64 rs.st, .int .i64 rs.k, .string rs.key, .float .f64 rs.b, .int .i64 rs.id] rfl [.int .i64 0, .int .i64 0, .int .i64 0, .string ⟨#[]⟩, .float .f64 0, .int .i64 0] 43 (heap_alloc_last w10 _) (by simp) (by kernel_rfl) (by simp [Value.oneCell']) ?_; intro w11 Hz; have H11 : Hid (MdS w w11 g ep a n cap am cm l v' ps9 w4.heap.size w10.heap.size rr rs w5.heap.size a6 k6 C0) := hid (by have hb := Hz.out.2.below ((Below.refl w10.heap.size w10).alloc (Nat.le_refl _) _) (Nat.le_refl _); exact ⟨H10.out.1.1.keep hb, H10.out.1.2.trans (hb.mono H10.out.1.2.size), H10.out.2.1.keep hb, H10.out.2.2.1.keep hb, Hz.out.1, H10.out.2.2.2.under hb (Nat.le_refl _)⟩); clear Hz))
        go_cut [118] (fun v118 wx => v118 = .bool false ∧ (BxAt wx w.heap.size [.int .i64 ep, .slice a n cap] 24 ∧ Below w.heap.size w wx) ∧ LgM wx (g + 1) g ep am cm l v' ps9)
        case first =>
          obtain ⟨hdn, hca, hsb⟩ := HPu.out
          have hgt : ¬ (sizeQ (ps9.map Pl.pp) > 4 * (1 + 2 * (n : Int))) := by rw [H9.out.2.2.1, ← HN.out.1]; first | omega | (simp only at hsb; omega)
          have HSz1 := hid (HSz.out · v' ps9 · (by rw [H9.out.2.2.1]; exact HQ1.out))
          have HVw1 := hid (HVw.out · v' ps9 · (by rw [H9.out.2.2.1]; exact HQ1.out))
          have HCe1 := hid (HCe.out · v' ps9 · (by rw [H9.out.2.2.1]; exact HQ1.out))
          have HDD : Hid (dd = true → d2 = true ∧ rs = rr) := hid (fun hd => by
            have h0 : rdE ((ps.map Pl.pp).getD m q0P).don = 0 := by rw [HEq.out.2.1] at hd; simpa using hd
            have h1 := hdn h0
            try simp only at h1
            rw [← H9.out.2.2.1] at h1
            exact ⟨by rw [HE2.out.2, h1, h0]; rfl, by rw [HE2.out.1, HEq.out.1, h1]⟩)
          obtain ⟨wd2, ed2⟩ : ∃ u, u = w11.drew := ⟨_, rfl⟩
          have HM := hid (H11.out.keep (Below.refl _ _).drew)
          rw [← ed2] at HM
          have HSame := hid (ctsSame_self C0)
          by_cases hEr : Er = 0
          · subst hEr
            generalize sizeQ (ps9.map Pl.pp) = SZ at HSz1 hgt
            clear hdn hca hsb
            cases hdd : dd with
            | true =>
              obtain ⟨e1, e2⟩ := HDD.out hdd
              subst e1 e2 hdd
              have HWh : Hid (∀ u : World, Calls Try.prog 21 #[.agg #[.int .i64 rs.c, .int .i64 rs.st, .int .i64 rs.k, .string rs.key, .float .f64 rs.b, .int .i64 rs.id], .agg #[.int .i64 rs.c, .int .i64 rs.st, .int .i64 rs.k, .string rs.key, .float .f64 rs.b, .int .i64 rs.id]] u fun e w' => e = .returned (.bool true) ∧ Below u.heap.size u w') := hid (fun u => by have := qwhole_any rs rs u; rw [wholeB_self] at this; exact this)
              have HS : Hid (BxAt wd2 w.heap.size [.int .i64 ep, .slice a n cap] 24 ∧ BxAt wd2 w4.heap.size [.int .i64 rs.c, .int .i64 rs.st, .int .i64 rs.k, .string rs.key, .float .f64 rs.b, .int .i64 rs.id] 43 ∧ BxAt wd2 w10.heap.size [.int .i64 rs.c, .int .i64 rs.st, .int .i64 rs.k, .string rs.key, .float .f64 rs.b, .int .i64 rs.id] 43) := hid ⟨HM.out.cf, HM.out.x1, HM.out.x2⟩
              refine wp_region_G (S := fun ww => BxAt ww w.heap.size [.int .i64 ep, .slice a n cap] 24 ∧ BxAt ww w4.heap.size [.int .i64 rs.c, .int .i64 rs.st, .int .i64 rs.k, .string rs.key, .float .f64 rs.b, .int .i64 rs.id] 43 ∧ BxAt ww w10.heap.size [.int .i64 rs.c, .int .i64 rs.st, .int .i64 rs.k, .string rs.key, .float .f64 rs.b, .int .i64 rs.id] 43) (ex := []) (by kernel_rfl) ?_
              try (change wpAnyG _ _ _ _ _ _ _ _ _ (World.drew _))
              try rw [← ed2]
              clear ed2
              refine wpAnyG_take (i := 0) (v := ?v1001) rfl (by kernel_rfl) (fun _ _ _ h => h) (Or.inl ⟨by rfl, ?hy1001⟩) HS.out ?rest1001
              case hy1001 => (intro ww _; go_simp; try with_reducible rfl)
              go_simp
              refine wpAnyG_take (i := 1) (v := ?v1002) rfl (by kernel_rfl) (fun _ _ _ h => h) (Or.inl ⟨by rfl, ?hy1002⟩) HS.out ?rest1002
              case hy1002 => (intro ww _; go_simp; try with_reducible rfl)
              go_simp
              refine wpAnyG_take (i := 2) (v := ?v1003) rfl (by kernel_rfl) (fun _ _ _ h => h) (Or.inl ⟨by rfl, ?hy1003⟩) HS.out ?rest1003
              case hy1003 => (intro ww _; go_simp; try with_reducible rfl)
              go_simp
              refine wpAnyG_take (i := 3) (v := ?v1004) rfl (by kernel_rfl) (fun _ _ _ h => h) (Or.inl ⟨by rfl, ?hy1004⟩) HS.out ?rest1004
              case hy1004 => (intro ww _; go_simp; try with_reducible rfl)
              go_simp
              refine wpAnyG_take (i := 4) (v := ?v1005) rfl (by kernel_rfl) (fun _ _ _ h => h) (Or.inl ⟨by rfl, ?hy1005⟩) HS.out ?rest1005
              case hy1005 => (intro ww _; go_simp; try with_reducible rfl)
              go_simp
              refine wpAnyG_take (i := 5) (v := ?v1006) rfl (by kernel_rfl) (fun _ _ _ h => h) (Or.inl ⟨by rfl, ?hy1006⟩) HS.out ?rest1006
              case hy1006 => (intro ww hS; have q0 := hS.2.1.cell 0 _ rfl; have q1 := hS.2.1.cell 1 _ rfl; have q2 := hS.2.1.cell 2 _ rfl; have q3 := hS.2.1.cell 3 _ rfl; have q4 := hS.2.1.cell 4 _ rfl; have q5 := hS.2.1.cell 5 _ rfl; go_simp; try with_reducible rfl)
              go_simp
              refine wpAnyG_take (i := 6) (v := ?v1007) rfl (by kernel_rfl) (fun _ _ _ h => h) (Or.inl ⟨by rfl, ?hy1007⟩) HS.out ?rest1007
              case hy1007 => (intro ww hS; have q0 := hS.2.2.cell 0 _ rfl; have q1 := hS.2.2.cell 1 _ rfl; have q2 := hS.2.2.cell 2 _ rfl; have q3 := hS.2.2.cell 3 _ rfl; have q4 := hS.2.2.cell 4 _ rfl; have q5 := hS.2.2.cell 5 _ rfl; go_simp; try with_reducible rfl)
              go_simp
              refine wpAnyG_all (rs := [7]) (by kernel_rfl) (by simp) ?_
              intro i hi
              obtain rfl := List.mem_singleton.1 hi
              clear hi
              refine wpOp_s rfl (by rfl) (fun K hK => ?_)
              go_simp
              refine (HWh.out _).mono ?_
              rintro e u1x ⟨rfl, hb⟩
              have HM1x := hid (HM.out.keep hb)
              have HS1x : Hid (BxAt u1x w.heap.size [.int .i64 ep, .slice a n cap] 24 ∧ BxAt u1x w4.heap.size [.int .i64 rs.c, .int .i64 rs.st, .int .i64 rs.k, .string rs.key, .float .f64 rs.b, .int .i64 rs.id] 43 ∧ BxAt u1x w10.heap.size [.int .i64 rs.c, .int .i64 rs.st, .int .i64 rs.k, .string rs.key, .float .f64 rs.b, .int .i64 rs.id] 43) := hid ⟨HM1x.out.cf, HM1x.out.x1, HM1x.out.x2⟩
              clear hb
              refine hK _ _ ⟨fun _ => HS1x.out, ?_⟩
              clear hK K
              go_simp
              refine wpAnyG_take (i := 8) (v := ?v1008) rfl (by kernel_rfl) (fun _ _ _ h => h) (Or.inl ⟨by rfl, ?hy1008⟩) HS1x.out ?rest1008
              case hy1008 => (intro ww _; go_simp; try with_reducible rfl)
              go_simp
              refine wpAnyG_take (i := 9) (v := ?v1009) rfl (by kernel_rfl) (fun _ _ _ h => h) (Or.inl ⟨by rfl, ?hy1009⟩) HS1x.out ?rest1009
              case hy1009 => (intro ww _; go_simp; try with_reducible rfl)
              go_simp
              refine wpAnyG_take (i := 10) (v := ?v1010) rfl (by kernel_rfl) (fun _ _ _ h => h) (Or.inl ⟨by rfl, ?hy1010⟩) HS1x.out ?rest1010
              case hy1010 => (intro ww _; go_simp; try with_reducible rfl)
              go_simp
              refine wpAnyG_take (i := 11) (v := ?v1011) rfl (by kernel_rfl) (fun _ _ _ h => h) (Or.inl ⟨by rfl, ?hy1011⟩) HS1x.out ?rest1011
              case hy1011 => (intro ww _; go_simp; try with_reducible rfl)
              go_simp
              refine wpAnyG_take (i := 12) (v := ?v1012) rfl (by kernel_rfl) (fun _ _ _ h => h) (Or.inl ⟨by rfl, ?hy1012⟩) HS1x.out ?rest1012
              case hy1012 => (intro ww _; go_simp; try with_reducible rfl)
              go_simp
              refine wpAnyG_take (i := 14) (v := ?v1013) rfl (by kernel_rfl) (fun _ _ _ h => h) (Or.inl ⟨by rfl, ?hy1013⟩) HS1x.out ?rest1013
              case hy1013 => (intro ww _; go_simp; try with_reducible rfl)
              go_simp
              refine wpAnyG_take (i := 15) (v := ?v1014) rfl (by kernel_rfl) (fun _ _ _ h => h) (Or.inl ⟨by rfl, ?hy1014⟩) HS1x.out ?rest1014
              case hy1014 => (intro ww hS; have y1 := hS.1.cell 1 _ rfl; go_simp; try with_reducible rfl)
              go_simp
              refine wpAnyG_take (i := 16) (v := ?v1015) rfl (by kernel_rfl) (fun _ _ _ h => h) (Or.inl ⟨by rfl, ?hy1015⟩) HS1x.out ?rest1015
              case hy1015 => (intro ww _; go_simp; try with_reducible rfl)
              go_simp
              refine wpAnyG_take (i := 17) (v := ?v1016) rfl (by kernel_rfl) (fun _ _ _ h => h) (Or.inl ⟨by rfl, ?hy1016⟩) HS1x.out ?rest1016
              case hy1016 => (intro ww _; go_simp; try with_reducible rfl)
              go_simp
              refine wpAnyG_take (i := 18) (v := ?v1017) rfl (by kernel_rfl) (fun _ _ _ h => h) (Or.inl ⟨by rfl, ?hy1017⟩) HS1x.out ?rest1017
              case hy1017 => (intro ww _; go_simp; try with_reducible rfl)
              go_simp
              refine wpAnyG_take (i := 19) (v := ?v1018) rfl (by kernel_rfl) (fun _ _ _ h => h) (Or.inl ⟨by rfl, ?hy1018⟩) HS1x.out ?rest1018
              case hy1018 => (intro ww _; go_simp; try with_reducible rfl)
              go_simp
              refine wpAnyG_all (rs := [13]) (by kernel_rfl) (by simp) ?_
              intro i hi
              obtain rfl := List.mem_singleton.1 hi
              clear hi
              refine wpOp_s rfl (by rfl) (fun K hK => ?_)
              go_simp
              refine (HSz1.out _ HM1x.out.lg).mono ?_
              rintro e u2x ⟨rfl, hb⟩
              have HM2x := hid (HM1x.out.keep hb)
              have HS2x : Hid (BxAt u2x w.heap.size [.int .i64 ep, .slice a n cap] 24 ∧ BxAt u2x w4.heap.size [.int .i64 rs.c, .int .i64 rs.st, .int .i64 rs.k, .string rs.key, .float .f64 rs.b, .int .i64 rs.id] 43 ∧ BxAt u2x w10.heap.size [.int .i64 rs.c, .int .i64 rs.st, .int .i64 rs.k, .string rs.key, .float .f64 rs.b, .int .i64 rs.id] 43) := hid ⟨HM2x.out.cf, HM2x.out.x1, HM2x.out.x2⟩
              clear hb
              refine hK _ _ ⟨fun _ => HS2x.out, ?_⟩
              clear hK K
              go_simp
              refine wpAnyG_take (i := 20) (v := ?v1019) rfl (by kernel_rfl) (fun _ _ _ h => h) (Or.inl ⟨by rfl, ?hy1019⟩) HS2x.out ?rest1019
              case hy1019 => (intro ww _; go_simp; try with_reducible rfl)
              go_simp
              refine wpAnyG_take (i := 21) (v := ?v1020) rfl (by kernel_rfl) (fun _ _ _ h => h) (Or.inl ⟨by rfl, ?hy1020⟩) HS2x.out ?rest1020
              case hy1020 => (intro ww _; go_simp; try with_reducible rfl)
              go_simp
              refine wpAnyG_take (i := 22) (v := ?v1021) rfl (by kernel_rfl) (fun _ _ _ h => h) (Or.inl ⟨by rfl, ?hy1021⟩) HS2x.out ?rest1021
              case hy1021 => (intro ww _; go_simp; try with_reducible rfl)
              go_simp
              refine wpAnyG_take (i := 23) (v := ?v1022) rfl (by kernel_rfl) (fun _ _ _ h => h) (Or.inl ⟨by rfl, ?hy1022⟩) HS2x.out ?rest1022
              case hy1022 => (intro ww _; go_simp; try with_reducible rfl)
              go_simp
              refine wpAnyG_take (i := 24) (v := ?v1023) rfl (by kernel_rfl) (fun _ _ _ h => h) (Or.inl ⟨by rfl, ?hy1023⟩) HS2x.out ?rest1023
              case hy1023 => (intro ww _; go_simp; try with_reducible rfl)
              go_simp
              refine wpAnyG_take (i := 25) (v := ?v1024) rfl (by kernel_rfl) (fun _ _ _ h => h) (Or.inl ⟨by rfl, ?hy1024⟩) HS2x.out ?rest1024
              case hy1024 => (intro ww _; go_simp; try with_reducible rfl)
              go_simp
              refine wpAnyG_take (i := 26) (v := undef) rfl (by kernel_rfl) (fun _ _ _ h => h) (Or.inr ⟨by rfl, rfl⟩) HS2x.out ?rest1025
              go_simp
              refine wpAnyG_take (i := 27) (v := undef) rfl (by kernel_rfl) (fun _ _ _ h => h) (Or.inr ⟨by rfl, rfl⟩) HS2x.out ?rest1026
              go_simp
              refine wpAnyG_take (i := 28) (v := undef) rfl (by kernel_rfl) (fun _ _ _ h => h) (Or.inr ⟨by rfl, rfl⟩) HS2x.out ?rest1027
              go_simp
              refine wpAnyG_take (i := 29) (v := undef) rfl (by kernel_rfl) (fun _ _ _ h => h) (Or.inr ⟨by rfl, rfl⟩) HS2x.out ?rest1028
              go_simp
              refine wpAnyG_take (i := 30) (v := undef) rfl (by kernel_rfl) (fun _ _ _ h => h) (Or.inr ⟨by rfl, rfl⟩) HS2x.out ?rest1029
              go_simp
              refine wpAnyG_take (i := 31) (v := undef) rfl (by kernel_rfl) (fun _ _ _ h => h) (Or.inr ⟨by rfl, rfl⟩) HS2x.out ?rest1030
              go_simp
              refine wpAnyG_take (i := 32) (v := undef) rfl (by kernel_rfl) (fun _ _ _ h => h) (Or.inr ⟨by rfl, rfl⟩) HS2x.out ?rest1031
              go_simp
              refine wpAnyG_take (i := 33) (v := undef) rfl (by kernel_rfl) (fun _ _ _ h => h) (Or.inr ⟨by rfl, rfl⟩) HS2x.out ?rest1032
              go_simp
              refine wpAnyG_take (i := 34) (v := undef) rfl (by kernel_rfl) (fun _ _ _ h => h) (Or.inr ⟨by rfl, rfl⟩) HS2x.out ?rest1033
              go_simp
              refine wpAnyG_take (i := 35) (v := undef) rfl (by kernel_rfl) (fun _ _ _ h => h) (Or.inr ⟨by rfl, rfl⟩) HS2x.out ?rest1034
              go_simp
              refine wpAnyG_take (i := 36) (v := undef) rfl (by kernel_rfl) (fun _ _ _ h => h) (Or.inr ⟨by rfl, rfl⟩) HS2x.out ?rest1035
              go_simp
              refine wpAnyG_take (i := 37) (v := undef) rfl (by kernel_rfl) (fun _ _ _ h => h) (Or.inr ⟨by rfl, rfl⟩) HS2x.out ?rest1036
              go_simp
              refine wpAnyG_take (i := 38) (v := undef) rfl (by kernel_rfl) (fun _ _ _ h => h) (Or.inr ⟨by rfl, rfl⟩) HS2x.out ?rest1037
              go_simp
              refine wpAnyG_take (i := 39) (v := undef) rfl (by kernel_rfl) (fun _ _ _ h => h) (Or.inr ⟨by rfl, rfl⟩) HS2x.out ?rest1038
              go_simp
              refine wpAnyG_take (i := 40) (v := undef) rfl (by kernel_rfl) (fun _ _ _ h => h) (Or.inr ⟨by rfl, rfl⟩) HS2x.out ?rest1039
              go_simp
              refine wpAnyG_take (i := 41) (v := undef) rfl (by kernel_rfl) (fun _ _ _ h => h) (Or.inr ⟨by rfl, rfl⟩) HS2x.out ?rest1040
              go_simp
              refine wpAnyG_take (i := 42) (v := undef) rfl (by kernel_rfl) (fun _ _ _ h => h) (Or.inr ⟨by rfl, rfl⟩) HS2x.out ?rest1041
              go_simp
              refine wpAnyG_take (i := 43) (v := undef) rfl (by kernel_rfl) (fun _ _ _ h => h) (Or.inr ⟨by rfl, rfl⟩) HS2x.out ?rest1042
              go_simp
              refine wpAnyG_take (i := 44) (v := undef) rfl (by kernel_rfl) (fun _ _ _ h => h) (Or.inr ⟨by rfl, rfl⟩) HS2x.out ?rest1043
              go_simp
              refine wpAnyG_take (i := 45) (v := undef) rfl (by kernel_rfl) (fun _ _ _ h => h) (Or.inr ⟨by rfl, rfl⟩) HS2x.out ?rest1044
              go_simp
              refine wpAnyG_take (i := 46) (v := undef) rfl (by kernel_rfl) (fun _ _ _ h => h) (Or.inr ⟨by rfl, rfl⟩) HS2x.out ?rest1045
              go_simp
              refine wpAnyG_take (i := 47) (v := undef) rfl (by kernel_rfl) (fun _ _ _ h => h) (Or.inr ⟨by rfl, rfl⟩) HS2x.out ?rest1046
              go_simp
              refine wpAnyG_take (i := 48) (v := ?v1047) rfl (by kernel_rfl) (fun _ _ _ h => h) (Or.inl ⟨by rfl, ?hy1047⟩) HS2x.out ?rest1047
              case hy1047 => (intro ww _; go_simp; try with_reducible rfl)
              go_simp
              refine wpAnyG_take (i := 49) (v := ?v1048) rfl (by kernel_rfl) (fun _ _ _ h => h) (Or.inl ⟨by rfl, ?hy1048⟩) HS2x.out ?rest1048
              case hy1048 => (intro ww _; go_simp; try with_reducible rfl)
              go_simp
              refine wpAnyG_done (by kernel_rfl) ?_ _
              go_simp
              go_wp2
              go_meet
              exact ⟨rfl, ⟨HM2x.out.cf, HM2x.out.bel⟩, HM2x.out.lg⟩
            | false =>
              subst hdd
              have HS : Hid (BxAt wd2 w.heap.size [.int .i64 ep, .slice a n cap] 24 ∧ BxAt wd2 w4.heap.size [.int .i64 rr.c, .int .i64 rr.st, .int .i64 rr.k, .string rr.key, .float .f64 rr.b, .int .i64 rr.id] 43 ∧ BxAt wd2 w10.heap.size [.int .i64 rs.c, .int .i64 rs.st, .int .i64 rs.k, .string rs.key, .float .f64 rs.b, .int .i64 rs.id] 43) := hid ⟨HM.out.cf, HM.out.x1, HM.out.x2⟩
              refine wp_region_G (S := fun ww => BxAt ww w.heap.size [.int .i64 ep, .slice a n cap] 24 ∧ BxAt ww w4.heap.size [.int .i64 rr.c, .int .i64 rr.st, .int .i64 rr.k, .string rr.key, .float .f64 rr.b, .int .i64 rr.id] 43 ∧ BxAt ww w10.heap.size [.int .i64 rs.c, .int .i64 rs.st, .int .i64 rs.k, .string rs.key, .float .f64 rs.b, .int .i64 rs.id] 43) (ex := []) (by kernel_rfl) ?_
              try (change wpAnyG _ _ _ _ _ _ _ _ _ (World.drew _))
              try rw [← ed2]
              clear ed2
              refine wpAnyG_take (i := 0) (v := ?v2001) rfl (by kernel_rfl) (fun _ _ _ h => h) (Or.inl ⟨by rfl, ?hy2001⟩) HS.out ?rest2001
              case hy2001 => (intro ww _; go_simp; try with_reducible rfl)
              go_simp
              refine wpAnyG_take (i := 1) (v := ?v2002) rfl (by kernel_rfl) (fun _ _ _ h => h) (Or.inl ⟨by rfl, ?hy2002⟩) HS.out ?rest2002
              case hy2002 => (intro ww _; go_simp; try with_reducible rfl)
              go_simp
              refine wpAnyG_take (i := 2) (v := undef) rfl (by kernel_rfl) (fun _ _ _ h => h) (Or.inr ⟨by rfl, rfl⟩) HS.out ?rest2003
              go_simp
              refine wpAnyG_take (i := 3) (v := undef) rfl (by kernel_rfl) (fun _ _ _ h => h) (Or.inr ⟨by rfl, rfl⟩) HS.out ?rest2004
              go_simp
              refine wpAnyG_take (i := 4) (v := undef) rfl (by kernel_rfl) (fun _ _ _ h => h) (Or.inr ⟨by rfl, rfl⟩) HS.out ?rest2005
              go_simp
              refine wpAnyG_take (i := 5) (v := undef) rfl (by kernel_rfl) (fun _ _ _ h => h) (Or.inr ⟨by rfl, rfl⟩) HS.out ?rest2006
              go_simp
              refine wpAnyG_take (i := 6) (v := undef) rfl (by kernel_rfl) (fun _ _ _ h => h) (Or.inr ⟨by rfl, rfl⟩) HS.out ?rest2007
              go_simp
              refine wpAnyG_take (i := 7) (v := undef) rfl (by kernel_rfl) (fun _ _ _ h => h) (Or.inr ⟨by rfl, rfl⟩) HS.out ?rest2008
              go_simp
              refine wpAnyG_take (i := 8) (v := undef) rfl (by kernel_rfl) (fun _ _ _ h => h) (Or.inr ⟨by rfl, rfl⟩) HS.out ?rest2009
              go_simp
              refine wpAnyG_take (i := 9) (v := undef) rfl (by kernel_rfl) (fun _ _ _ h => h) (Or.inr ⟨by rfl, rfl⟩) HS.out ?rest2010
              go_simp
              refine wpAnyG_take (i := 10) (v := ?v2011) rfl (by kernel_rfl) (fun _ _ _ h => h) (Or.inl ⟨by rfl, ?hy2011⟩) HS.out ?rest2011
              case hy2011 => (intro ww _; go_simp; try with_reducible rfl)
              go_simp
              refine wpAnyG_take (i := 11) (v := ?v2012) rfl (by kernel_rfl) (fun _ _ _ h => h) (Or.inl ⟨by rfl, ?hy2012⟩) HS.out ?rest2012
              case hy2012 => (intro ww _; go_simp; try with_reducible rfl)
              go_simp
              refine wpAnyG_take (i := 12) (v := ?v2013) rfl (by kernel_rfl) (fun _ _ _ h => h) (Or.inl ⟨by rfl, ?hy2013⟩) HS.out ?rest2013
              case hy2013 => (intro ww _; go_simp; try with_reducible rfl)
              go_simp
              refine wpAnyG_take (i := 14) (v := ?v2014) rfl (by kernel_rfl) (fun _ _ _ h => h) (Or.inl ⟨by rfl, ?hy2014⟩) HS.out ?rest2014
              case hy2014 => (intro ww _; go_simp; try with_reducible rfl)
              go_simp
              refine wpAnyG_take (i := 15) (v := ?v2015) rfl (by kernel_rfl) (fun _ _ _ h => h) (Or.inl ⟨by rfl, ?hy2015⟩) HS.out ?rest2015
              case hy2015 => (intro ww hS; have y1 := hS.1.cell 1 _ rfl; go_simp; try with_reducible rfl)
              go_simp
              refine wpAnyG_take (i := 16) (v := ?v2016) rfl (by kernel_rfl) (fun _ _ _ h => h) (Or.inl ⟨by rfl, ?hy2016⟩) HS.out ?rest2016
              case hy2016 => (intro ww _; go_simp; try with_reducible rfl)
              go_simp
              refine wpAnyG_take (i := 17) (v := ?v2017) rfl (by kernel_rfl) (fun _ _ _ h => h) (Or.inl ⟨by rfl, ?hy2017⟩) HS.out ?rest2017
              case hy2017 => (intro ww _; go_simp; try with_reducible rfl)
              go_simp
              refine wpAnyG_take (i := 18) (v := ?v2018) rfl (by kernel_rfl) (fun _ _ _ h => h) (Or.inl ⟨by rfl, ?hy2018⟩) HS.out ?rest2018
              case hy2018 => (intro ww _; go_simp; try with_reducible rfl)
              go_simp
              refine wpAnyG_take (i := 19) (v := ?v2019) rfl (by kernel_rfl) (fun _ _ _ h => h) (Or.inl ⟨by rfl, ?hy2019⟩) HS.out ?rest2019
              case hy2019 => (intro ww _; go_simp; try with_reducible rfl)
              go_simp
              refine wpAnyG_all (rs := [13]) (by kernel_rfl) (by simp) ?_
              intro i hi
              obtain rfl := List.mem_singleton.1 hi
              clear hi
              refine wpOp_s rfl (by rfl) (fun K hK => ?_)
              go_simp
              refine (HSz1.out _ HM.out.lg).mono ?_
              rintro e u1x ⟨rfl, hb⟩
              have HM1x := hid (HM.out.keep hb)
              have HS1x : Hid (BxAt u1x w.heap.size [.int .i64 ep, .slice a n cap] 24 ∧ BxAt u1x w4.heap.size [.int .i64 rr.c, .int .i64 rr.st, .int .i64 rr.k, .string rr.key, .float .f64 rr.b, .int .i64 rr.id] 43 ∧ BxAt u1x w10.heap.size [.int .i64 rs.c, .int .i64 rs.st, .int .i64 rs.k, .string rs.key, .float .f64 rs.b, .int .i64 rs.id] 43) := hid ⟨HM1x.out.cf, HM1x.out.x1, HM1x.out.x2⟩
              clear hb
              refine hK _ _ ⟨fun _ => HS1x.out, ?_⟩
              clear hK K
              go_simp
              refine wpAnyG_take (i := 20) (v := ?v2020) rfl (by kernel_rfl) (fun _ _ _ h => h) (Or.inl ⟨by rfl, ?hy2020⟩) HS1x.out ?rest2020
              case hy2020 => (intro ww _; go_simp; try with_reducible rfl)
              go_simp
              refine wpAnyG_take (i := 21) (v := ?v2021) rfl (by kernel_rfl) (fun _ _ _ h => h) (Or.inl ⟨by rfl, ?hy2021⟩) HS1x.out ?rest2021
              case hy2021 => (intro ww _; go_simp; try with_reducible rfl)
              go_simp
              refine wpAnyG_take (i := 22) (v := ?v2022) rfl (by kernel_rfl) (fun _ _ _ h => h) (Or.inl ⟨by rfl, ?hy2022⟩) HS1x.out ?rest2022
              case hy2022 => (intro ww _; go_simp; try with_reducible rfl)
              go_simp
              refine wpAnyG_take (i := 23) (v := ?v2023) rfl (by kernel_rfl) (fun _ _ _ h => h) (Or.inl ⟨by rfl, ?hy2023⟩) HS1x.out ?rest2023
              case hy2023 => (intro ww _; go_simp; try with_reducible rfl)
              go_simp
              refine wpAnyG_take (i := 24) (v := ?v2024) rfl (by kernel_rfl) (fun _ _ _ h => h) (Or.inl ⟨by rfl, ?hy2024⟩) HS1x.out ?rest2024
              case hy2024 => (intro ww _; go_simp; try with_reducible rfl)
              go_simp
              refine wpAnyG_take (i := 25) (v := ?v2025) rfl (by kernel_rfl) (fun _ _ _ h => h) (Or.inl ⟨by rfl, ?hy2025⟩) HS1x.out ?rest2025
              case hy2025 => (intro ww _; go_simp; try with_reducible rfl)
              go_simp
              refine wpAnyG_take (i := 26) (v := undef) rfl (by kernel_rfl) (fun _ _ _ h => h) (Or.inr ⟨by rfl, rfl⟩) HS1x.out ?rest2026
              go_simp
              refine wpAnyG_take (i := 27) (v := undef) rfl (by kernel_rfl) (fun _ _ _ h => h) (Or.inr ⟨by rfl, rfl⟩) HS1x.out ?rest2027
              go_simp
              refine wpAnyG_take (i := 28) (v := undef) rfl (by kernel_rfl) (fun _ _ _ h => h) (Or.inr ⟨by rfl, rfl⟩) HS1x.out ?rest2028
              go_simp
              refine wpAnyG_take (i := 29) (v := undef) rfl (by kernel_rfl) (fun _ _ _ h => h) (Or.inr ⟨by rfl, rfl⟩) HS1x.out ?rest2029
              go_simp
              refine wpAnyG_take (i := 30) (v := undef) rfl (by kernel_rfl) (fun _ _ _ h => h) (Or.inr ⟨by rfl, rfl⟩) HS1x.out ?rest2030
              go_simp
              refine wpAnyG_take (i := 31) (v := undef) rfl (by kernel_rfl) (fun _ _ _ h => h) (Or.inr ⟨by rfl, rfl⟩) HS1x.out ?rest2031
              go_simp
              refine wpAnyG_take (i := 32) (v := undef) rfl (by kernel_rfl) (fun _ _ _ h => h) (Or.inr ⟨by rfl, rfl⟩) HS1x.out ?rest2032
              go_simp
              refine wpAnyG_take (i := 33) (v := undef) rfl (by kernel_rfl) (fun _ _ _ h => h) (Or.inr ⟨by rfl, rfl⟩) HS1x.out ?rest2033
              go_simp
              refine wpAnyG_take (i := 34) (v := undef) rfl (by kernel_rfl) (fun _ _ _ h => h) (Or.inr ⟨by rfl, rfl⟩) HS1x.out ?rest2034
              go_simp
              refine wpAnyG_take (i := 35) (v := undef) rfl (by kernel_rfl) (fun _ _ _ h => h) (Or.inr ⟨by rfl, rfl⟩) HS1x.out ?rest2035
              go_simp
              refine wpAnyG_take (i := 36) (v := undef) rfl (by kernel_rfl) (fun _ _ _ h => h) (Or.inr ⟨by rfl, rfl⟩) HS1x.out ?rest2036
              go_simp
              refine wpAnyG_take (i := 37) (v := undef) rfl (by kernel_rfl) (fun _ _ _ h => h) (Or.inr ⟨by rfl, rfl⟩) HS1x.out ?rest2037
              go_simp
              refine wpAnyG_take (i := 38) (v := undef) rfl (by kernel_rfl) (fun _ _ _ h => h) (Or.inr ⟨by rfl, rfl⟩) HS1x.out ?rest2038
              go_simp
              refine wpAnyG_take (i := 39) (v := undef) rfl (by kernel_rfl) (fun _ _ _ h => h) (Or.inr ⟨by rfl, rfl⟩) HS1x.out ?rest2039
              go_simp
              refine wpAnyG_take (i := 40) (v := undef) rfl (by kernel_rfl) (fun _ _ _ h => h) (Or.inr ⟨by rfl, rfl⟩) HS1x.out ?rest2040
              go_simp
              refine wpAnyG_take (i := 41) (v := undef) rfl (by kernel_rfl) (fun _ _ _ h => h) (Or.inr ⟨by rfl, rfl⟩) HS1x.out ?rest2041
              go_simp
              refine wpAnyG_take (i := 42) (v := undef) rfl (by kernel_rfl) (fun _ _ _ h => h) (Or.inr ⟨by rfl, rfl⟩) HS1x.out ?rest2042
              go_simp
              refine wpAnyG_take (i := 43) (v := undef) rfl (by kernel_rfl) (fun _ _ _ h => h) (Or.inr ⟨by rfl, rfl⟩) HS1x.out ?rest2043
              go_simp
              refine wpAnyG_take (i := 44) (v := undef) rfl (by kernel_rfl) (fun _ _ _ h => h) (Or.inr ⟨by rfl, rfl⟩) HS1x.out ?rest2044
              go_simp
              refine wpAnyG_take (i := 45) (v := undef) rfl (by kernel_rfl) (fun _ _ _ h => h) (Or.inr ⟨by rfl, rfl⟩) HS1x.out ?rest2045
              go_simp
              refine wpAnyG_take (i := 46) (v := undef) rfl (by kernel_rfl) (fun _ _ _ h => h) (Or.inr ⟨by rfl, rfl⟩) HS1x.out ?rest2046
              go_simp
              refine wpAnyG_take (i := 47) (v := undef) rfl (by kernel_rfl) (fun _ _ _ h => h) (Or.inr ⟨by rfl, rfl⟩) HS1x.out ?rest2047
              go_simp
              refine wpAnyG_take (i := 48) (v := ?v2048) rfl (by kernel_rfl) (fun _ _ _ h => h) (Or.inl ⟨by rfl, ?hy2048⟩) HS1x.out ?rest2048
              case hy2048 => (intro ww _; go_simp; try with_reducible rfl)
              go_simp
              refine wpAnyG_take (i := 49) (v := ?v2049) rfl (by kernel_rfl) (fun _ _ _ h => h) (Or.inl ⟨by rfl, ?hy2049⟩) HS1x.out ?rest2049
              case hy2049 => (intro ww _; go_simp; try with_reducible rfl)
              go_simp
              refine wpAnyG_done (by kernel_rfl) ?_ _
              go_simp
              go_wp2
              go_meet
              exact ⟨rfl, ⟨HM1x.out.cf, HM1x.out.bel⟩, HM1x.out.lg⟩
          · have hE1 : (Er != 0) = true := bne_iff_ne.2 hEr
            have hE2 : (Er == 0) = false := beq_eq_false_iff_ne.2 hEr
            obtain ⟨e3, e4⟩ := Prod.mk.inj (HRef.out hEr)
            have HSeq : Hid (sizeQ (ps9.map Pl.pp) = S0 ∧ crtQ (ps9.map Pl.pp) = C0) := hid (by rw [H9.out.2.2.1, HEq.out.2.2.1, HEq.out.2.2.2]; rw [e4]; exact ⟨rfl, rfl⟩)
            have HD2 : Hid (d2 = dd) := hid (by rw [HE2.out.2, HEq.out.2.1, H9.out.2.2.1]; rw [e4])
            try simp only at e3
            subst e3
            rw [HSeq.out.2] at HCe1
            rw [HSeq.out.1] at hgt HSz1
            have hd2 := HD2.out
            clear hdn hca hsb e4 hEr
            cases hdd : dd with
            | true =>
              obtain ⟨_, e2⟩ := HDD.out hdd
              subst e2
              rw [hdd] at hd2
              subst hd2 hdd
              have HWh : Hid (∀ u : World, Calls Try.prog 21 #[.agg #[.int .i64 rs.c, .int .i64 rs.st, .int .i64 rs.k, .string rs.key, .float .f64 rs.b, .int .i64 rs.id], .agg #[.int .i64 rs.c, .int .i64 rs.st, .int .i64 rs.k, .string rs.key, .float .f64 rs.b, .int .i64 rs.id]] u fun e w' => e = .returned (.bool true) ∧ Below u.heap.size u w') := hid (fun u => by have := qwhole_any rs rs u; rw [wholeB_self] at this; exact this)
              have HSC : Hid (∀ (u : World) (a8 : Option Addr) (k8 : Nat) (F : Nat → Prop), Reads F u (.slice a8 C0.length k8) (dCts C0) → Reads (fun b => w5.heap.size ≤ b) u (.slice a6 C0.length k6) (dCts C0) → Calls Try.prog 22 #[.slice a8 C0.length k8, .slice a6 C0.length k6] u fun e w' => e = .returned (.bool true) ∧ Below u.heap.size u w') := hid (fun u a8 k8 F h1 h2 => by have hc := HFew.out.1; rw [← HEq.out.2.2.1] at hc; have := wsameCerts_any a8 a6 _ _ k8 k6 C0 C0 rfl rfl (by have := hc.1; unfold maxLen; omega) (fun x hx => by have := hc.2 x hx; unfold maxLen; omega) (fun x hx => by have := hc.2 x hx; unfold maxLen; omega) u h1 h2; rw [HSame.out] at this; exact this)
              have HS : Hid (BxAt wd2 w.heap.size [.int .i64 ep, .slice a n cap] 24 ∧ BxAt wd2 w4.heap.size [.int .i64 rs.c, .int .i64 rs.st, .int .i64 rs.k, .string rs.key, .float .f64 rs.b, .int .i64 rs.id] 43 ∧ BxAt wd2 w10.heap.size [.int .i64 rs.c, .int .i64 rs.st, .int .i64 rs.k, .string rs.key, .float .f64 rs.b, .int .i64 rs.id] 43) := hid ⟨HM.out.cf, HM.out.x1, HM.out.x2⟩
              refine wp_region_G (S := fun ww => BxAt ww w.heap.size [.int .i64 ep, .slice a n cap] 24 ∧ BxAt ww w4.heap.size [.int .i64 rs.c, .int .i64 rs.st, .int .i64 rs.k, .string rs.key, .float .f64 rs.b, .int .i64 rs.id] 43 ∧ BxAt ww w10.heap.size [.int .i64 rs.c, .int .i64 rs.st, .int .i64 rs.k, .string rs.key, .float .f64 rs.b, .int .i64 rs.id] 43) (ex := []) (by kernel_rfl) ?_
              try (change wpAnyG _ _ _ _ _ _ _ _ _ (World.drew _))
              try rw [← ed2]
              clear ed2
              refine wpAnyG_take (i := 0) (v := ?v3001) rfl (by kernel_rfl) (fun _ _ _ h => h) (Or.inl ⟨by rfl, ?hy3001⟩) HS.out ?rest3001
              case hy3001 => (intro ww _; go_simp; try with_reducible rfl)
              go_simp
              refine wpAnyG_take (i := 1) (v := ?v3002) rfl (by kernel_rfl) (fun _ _ _ h => h) (Or.inl ⟨by rfl, ?hy3002⟩) HS.out ?rest3002
              case hy3002 => (intro ww _; go_simp; try with_reducible rfl)
              go_simp
              refine wpAnyG_take (i := 2) (v := ?v3003) rfl (by kernel_rfl) (fun _ _ _ h => h) (Or.inl ⟨by rfl, ?hy3003⟩) HS.out ?rest3003
              case hy3003 => (intro ww _; go_simp; try with_reducible rfl)
              go_simp
              refine wpAnyG_take (i := 3) (v := ?v3004) rfl (by kernel_rfl) (fun _ _ _ h => h) (Or.inl ⟨by rfl, ?hy3004⟩) HS.out ?rest3004
              case hy3004 => (intro ww _; go_simp; try with_reducible rfl)
              go_simp
              refine wpAnyG_take (i := 4) (v := ?v3005) rfl (by kernel_rfl) (fun _ _ _ h => h) (Or.inl ⟨by rfl, ?hy3005⟩) HS.out ?rest3005
              case hy3005 => (intro ww _; go_simp; try with_reducible rfl)
              go_simp
              refine wpAnyG_take (i := 5) (v := ?v3006) rfl (by kernel_rfl) (fun _ _ _ h => h) (Or.inl ⟨by rfl, ?hy3006⟩) HS.out ?rest3006
              case hy3006 => (intro ww hS; have q0 := hS.2.1.cell 0 _ rfl; have q1 := hS.2.1.cell 1 _ rfl; have q2 := hS.2.1.cell 2 _ rfl; have q3 := hS.2.1.cell 3 _ rfl; have q4 := hS.2.1.cell 4 _ rfl; have q5 := hS.2.1.cell 5 _ rfl; go_simp; try with_reducible rfl)
              go_simp
              refine wpAnyG_take (i := 6) (v := ?v3007) rfl (by kernel_rfl) (fun _ _ _ h => h) (Or.inl ⟨by rfl, ?hy3007⟩) HS.out ?rest3007
              case hy3007 => (intro ww hS; have q0 := hS.2.2.cell 0 _ rfl; have q1 := hS.2.2.cell 1 _ rfl; have q2 := hS.2.2.cell 2 _ rfl; have q3 := hS.2.2.cell 3 _ rfl; have q4 := hS.2.2.cell 4 _ rfl; have q5 := hS.2.2.cell 5 _ rfl; go_simp; try with_reducible rfl)
              go_simp
              refine wpAnyG_all (rs := [7]) (by kernel_rfl) (by simp) ?_
              intro i hi
              obtain rfl := List.mem_singleton.1 hi
              clear hi
              refine wpOp_s rfl (by rfl) (fun K hK => ?_)
              go_simp
              refine (HWh.out _).mono ?_
              rintro e u1x ⟨rfl, hb⟩
              have HM1x := hid (HM.out.keep hb)
              have HS1x : Hid (BxAt u1x w.heap.size [.int .i64 ep, .slice a n cap] 24 ∧ BxAt u1x w4.heap.size [.int .i64 rs.c, .int .i64 rs.st, .int .i64 rs.k, .string rs.key, .float .f64 rs.b, .int .i64 rs.id] 43 ∧ BxAt u1x w10.heap.size [.int .i64 rs.c, .int .i64 rs.st, .int .i64 rs.k, .string rs.key, .float .f64 rs.b, .int .i64 rs.id] 43) := hid ⟨HM1x.out.cf, HM1x.out.x1, HM1x.out.x2⟩
              clear hb
              refine hK _ _ ⟨fun _ => HS1x.out, ?_⟩
              clear hK K
              go_simp
              refine wpAnyG_take (i := 8) (v := ?v3008) rfl (by kernel_rfl) (fun _ _ _ h => h) (Or.inl ⟨by rfl, ?hy3008⟩) HS1x.out ?rest3008
              case hy3008 => (intro ww _; go_simp; try with_reducible rfl)
              go_simp
              refine wpAnyG_take (i := 9) (v := ?v3009) rfl (by kernel_rfl) (fun _ _ _ h => h) (Or.inl ⟨by rfl, ?hy3009⟩) HS1x.out ?rest3009
              case hy3009 => (intro ww _; go_simp; try with_reducible rfl)
              go_simp
              refine wpAnyG_take (i := 10) (v := ?v3010) rfl (by kernel_rfl) (fun _ _ _ h => h) (Or.inl ⟨by rfl, ?hy3010⟩) HS1x.out ?rest3010
              case hy3010 => (intro ww _; go_simp; try with_reducible rfl)
              go_simp
              refine wpAnyG_take (i := 11) (v := ?v3011) rfl (by kernel_rfl) (fun _ _ _ h => h) (Or.inl ⟨by rfl, ?hy3011⟩) HS1x.out ?rest3011
              case hy3011 => (intro ww _; go_simp; try with_reducible rfl)
              go_simp
              refine wpAnyG_take (i := 12) (v := ?v3012) rfl (by kernel_rfl) (fun _ _ _ h => h) (Or.inl ⟨by rfl, ?hy3012⟩) HS1x.out ?rest3012
              case hy3012 => (intro ww _; go_simp; try with_reducible rfl)
              go_simp
              refine wpAnyG_take (i := 14) (v := ?v3013) rfl (by kernel_rfl) (fun _ _ _ h => h) (Or.inl ⟨by rfl, ?hy3013⟩) HS1x.out ?rest3013
              case hy3013 => (intro ww _; go_simp; try with_reducible rfl)
              go_simp
              refine wpAnyG_take (i := 15) (v := ?v3014) rfl (by kernel_rfl) (fun _ _ _ h => h) (Or.inl ⟨by rfl, ?hy3014⟩) HS1x.out ?rest3014
              case hy3014 => (intro ww hS; have y1 := hS.1.cell 1 _ rfl; go_simp; try with_reducible rfl)
              go_simp
              refine wpAnyG_take (i := 16) (v := ?v3015) rfl (by kernel_rfl) (fun _ _ _ h => h) (Or.inl ⟨by rfl, ?hy3015⟩) HS1x.out ?rest3015
              case hy3015 => (intro ww _; go_simp; try with_reducible rfl)
              go_simp
              refine wpAnyG_take (i := 17) (v := ?v3016) rfl (by kernel_rfl) (fun _ _ _ h => h) (Or.inl ⟨by rfl, ?hy3016⟩) HS1x.out ?rest3016
              case hy3016 => (intro ww _; go_simp; try with_reducible rfl)
              go_simp
              refine wpAnyG_take (i := 18) (v := ?v3017) rfl (by kernel_rfl) (fun _ _ _ h => h) (Or.inl ⟨by rfl, ?hy3017⟩) HS1x.out ?rest3017
              case hy3017 => (intro ww _; go_simp; try with_reducible rfl)
              go_simp
              refine wpAnyG_take (i := 19) (v := ?v3018) rfl (by kernel_rfl) (fun _ _ _ h => h) (Or.inl ⟨by rfl, ?hy3018⟩) HS1x.out ?rest3018
              case hy3018 => (intro ww _; go_simp; try with_reducible rfl)
              go_simp
              refine wpAnyG_all (rs := [13]) (by kernel_rfl) (by simp) ?_
              intro i hi
              obtain rfl := List.mem_singleton.1 hi
              clear hi
              refine wpOp_s rfl (by rfl) (fun K hK => ?_)
              go_simp
              refine (HSz1.out _ HM1x.out.lg).mono ?_
              rintro e u2x ⟨rfl, hb⟩
              have HM2x := hid (HM1x.out.keep hb)
              have HS2x : Hid (BxAt u2x w.heap.size [.int .i64 ep, .slice a n cap] 24 ∧ BxAt u2x w4.heap.size [.int .i64 rs.c, .int .i64 rs.st, .int .i64 rs.k, .string rs.key, .float .f64 rs.b, .int .i64 rs.id] 43 ∧ BxAt u2x w10.heap.size [.int .i64 rs.c, .int .i64 rs.st, .int .i64 rs.k, .string rs.key, .float .f64 rs.b, .int .i64 rs.id] 43) := hid ⟨HM2x.out.cf, HM2x.out.x1, HM2x.out.x2⟩
              clear hb
              refine hK _ _ ⟨fun _ => HS2x.out, ?_⟩
              clear hK K
              go_simp
              refine wpAnyG_take (i := 20) (v := ?v3019) rfl (by kernel_rfl) (fun _ _ _ h => h) (Or.inl ⟨by rfl, ?hy3019⟩) HS2x.out ?rest3019
              case hy3019 => (intro ww _; go_simp; try with_reducible rfl)
              go_simp
              refine wpAnyG_take (i := 21) (v := ?v3020) rfl (by kernel_rfl) (fun _ _ _ h => h) (Or.inl ⟨by rfl, ?hy3020⟩) HS2x.out ?rest3020
              case hy3020 => (intro ww _; go_simp; try with_reducible rfl)
              go_simp
              refine wpAnyG_take (i := 22) (v := ?v3021) rfl (by kernel_rfl) (fun _ _ _ h => h) (Or.inl ⟨by rfl, ?hy3021⟩) HS2x.out ?rest3021
              case hy3021 => (intro ww _; go_simp; try with_reducible rfl)
              go_simp
              refine wpAnyG_take (i := 23) (v := ?v3022) rfl (by kernel_rfl) (fun _ _ _ h => h) (Or.inl ⟨by rfl, ?hy3022⟩) HS2x.out ?rest3022
              case hy3022 => (intro ww _; go_simp; try with_reducible rfl)
              go_simp
              refine wpAnyG_take (i := 24) (v := ?v3023) rfl (by kernel_rfl) (fun _ _ _ h => h) (Or.inl ⟨by rfl, ?hy3023⟩) HS2x.out ?rest3023
              case hy3023 => (intro ww _; go_simp; try with_reducible rfl)
              go_simp
              refine wpAnyG_take (i := 25) (v := ?v3024) rfl (by kernel_rfl) (fun _ _ _ h => h) (Or.inl ⟨by rfl, ?hy3024⟩) HS2x.out ?rest3024
              case hy3024 => (intro ww _; go_simp; try with_reducible rfl)
              go_simp
              refine wpAnyG_take (i := 26) (v := ?v3025) rfl (by kernel_rfl) (fun _ _ _ h => h) (Or.inl ⟨by rfl, ?hy3025⟩) HS2x.out ?rest3025
              case hy3025 => (intro ww _; go_simp; try with_reducible rfl)
              go_simp
              refine wpAnyG_take (i := 28) (v := ?v3026) rfl (by kernel_rfl) (fun _ _ _ h => h) (Or.inl ⟨by rfl, ?hy3026⟩) HS2x.out ?rest3026
              case hy3026 => (intro ww _; go_simp; try with_reducible rfl)
              go_simp
              refine wpAnyG_all (rs := [27]) (by kernel_rfl) (by simp) ?_
              intro i hi
              obtain rfl := List.mem_singleton.1 hi
              clear hi
              refine wpOp_s rfl (by rfl) (fun K hK => ?_)
              go_simp
              refine (HSz1.out _ HM2x.out.lg).mono ?_
              rintro e u3x ⟨rfl, hb⟩
              have HM3x := hid (HM2x.out.keep hb)
              have HS3x : Hid (BxAt u3x w.heap.size [.int .i64 ep, .slice a n cap] 24 ∧ BxAt u3x w4.heap.size [.int .i64 rs.c, .int .i64 rs.st, .int .i64 rs.k, .string rs.key, .float .f64 rs.b, .int .i64 rs.id] 43 ∧ BxAt u3x w10.heap.size [.int .i64 rs.c, .int .i64 rs.st, .int .i64 rs.k, .string rs.key, .float .f64 rs.b, .int .i64 rs.id] 43) := hid ⟨HM3x.out.cf, HM3x.out.x1, HM3x.out.x2⟩
              clear hb
              refine hK _ _ ⟨fun _ => HS3x.out, ?_⟩
              clear hK K
              go_simp
              refine wpAnyG_take (i := 29) (v := ?v3027) rfl (by kernel_rfl) (fun _ _ _ h => h) (Or.inl ⟨by rfl, ?hy3027⟩) HS3x.out ?rest3027
              case hy3027 => (intro ww _; go_simp; try with_reducible rfl)
              go_simp
              refine wpAnyG_take (i := 30) (v := ?v3028) rfl (by kernel_rfl) (fun _ _ _ h => h) (Or.inl ⟨by rfl, ?hy3028⟩) HS3x.out ?rest3028
              case hy3028 => (intro ww _; go_simp; try with_reducible rfl)
              go_simp
              refine wpAnyG_take (i := 31) (v := ?v3029) rfl (by kernel_rfl) (fun _ _ _ h => h) (Or.inl ⟨by rfl, ?hy3029⟩) HS3x.out ?rest3029
              case hy3029 => (intro ww _; go_simp; try with_reducible rfl)
              go_simp
              refine wpAnyG_take (i := 33) (v := ?v3030) rfl (by kernel_rfl) (fun _ _ _ h => h) (Or.inl ⟨by rfl, ?hy3030⟩) HS3x.out ?rest3030
              case hy3030 => (intro ww _; go_simp; try with_reducible rfl)
              go_simp
              refine wpAnyG_all (rs := [32]) (by kernel_rfl) (by simp) ?_
              intro i hi
              obtain rfl := List.mem_singleton.1 hi
              clear hi
              refine wpOp_s rfl (by rfl) (fun K hK => ?_)
              go_simp
              refine (HVw1.out _ HM3x.out.lg).mono ?_
              rintro e uq ⟨rfl, hwq⟩
              replace hwq := hwq.symm
              subst hwq
              refine hK _ _ ⟨fun _ => HS3x.out, ?_⟩
              clear hK K
              go_simp
              refine wpAnyG_take (i := 34) (v := ?v3031) rfl (by kernel_rfl) (fun _ _ _ h => h) (Or.inl ⟨by rfl, ?hy3031⟩) HS3x.out ?rest3031
              case hy3031 => (intro ww _; go_simp; try with_reducible rfl)
              go_simp
              refine wpAnyG_take (i := 35) (v := ?v3032) rfl (by kernel_rfl) (fun _ _ _ h => h) (Or.inl ⟨by rfl, ?hy3032⟩) HS3x.out ?rest3032
              case hy3032 => (intro ww _; go_simp; try with_reducible rfl)
              go_simp
              refine wpAnyG_take (i := 36) (v := ?v3033) rfl (by kernel_rfl) (fun _ _ _ h => h) (Or.inl ⟨by rfl, ?hy3033⟩) HS3x.out ?rest3033
              case hy3033 => (intro ww _; go_simp; try with_reducible rfl)
              go_simp
              refine wpAnyG_take (i := 37) (v := ?v3034) rfl (by kernel_rfl) (fun _ _ _ h => h) (Or.inl ⟨by rfl, ?hy3034⟩) HS3x.out ?rest3034
              case hy3034 => (intro ww _; go_simp; try with_reducible rfl)
              go_simp
              refine wpAnyG_take (i := 38) (v := ?v3035) rfl (by kernel_rfl) (fun _ _ _ h => h) (Or.inl ⟨by rfl, ?hy3035⟩) HS3x.out ?rest3035
              case hy3035 => (intro ww _; go_simp; try with_reducible rfl)
              go_simp
              refine wpAnyG_take (i := 39) (v := ?v3036) rfl (by kernel_rfl) (fun _ _ _ h => h) (Or.inl ⟨by rfl, ?hy3036⟩) HS3x.out ?rest3036
              case hy3036 => (intro ww _; go_simp; try with_reducible rfl)
              go_simp
              refine wpAnyG_take (i := 40) (v := ?v3037) rfl (by kernel_rfl) (fun _ _ _ h => h) (Or.inl ⟨by rfl, ?hy3037⟩) HS3x.out ?rest3037
              case hy3037 => (intro ww _; go_simp; try with_reducible rfl)
              go_simp
              refine wpAnyG_take (i := 41) (v := ?v3038) rfl (by kernel_rfl) (fun _ _ _ h => h) (Or.inl ⟨by rfl, ?hy3038⟩) HS3x.out ?rest3038
              case hy3038 => (intro ww _; go_simp; try with_reducible rfl)
              go_simp
              refine wpAnyG_take (i := 42) (v := ?v3039) rfl (by kernel_rfl) (fun _ _ _ h => h) (Or.inl ⟨by rfl, ?hy3039⟩) HS3x.out ?rest3039
              case hy3039 => (intro ww _; go_simp; try with_reducible rfl)
              go_simp
              refine wpAnyG_take (i := 44) (v := ?v3040) rfl (by kernel_rfl) (fun _ _ _ h => h) (Or.inl ⟨by rfl, ?hy3040⟩) HS3x.out ?rest3040
              case hy3040 => (intro ww _; go_simp; try with_reducible rfl)
              go_simp
              refine wpAnyG_all (rs := [43]) (by kernel_rfl) (by simp) ?_
              intro i hi
              obtain rfl := List.mem_singleton.1 hi
              clear hi
              refine wpOp_s rfl (by rfl) (fun K hK => ?_)
              go_simp
              refine (HCe1.out _ HM3x.out.lg).mono ?_
              rintro e u4x ⟨a8, k8, rfl, hr8, hb⟩
              have HM4x := hid (HM3x.out.keep hb)
              have HS4x : Hid (BxAt u4x w.heap.size [.int .i64 ep, .slice a n cap] 24 ∧ BxAt u4x w4.heap.size [.int .i64 rs.c, .int .i64 rs.st, .int .i64 rs.k, .string rs.key, .float .f64 rs.b, .int .i64 rs.id] 43 ∧ BxAt u4x w10.heap.size [.int .i64 rs.c, .int .i64 rs.st, .int .i64 rs.k, .string rs.key, .float .f64 rs.b, .int .i64 rs.id] 43) := hid ⟨HM4x.out.cf, HM4x.out.x1, HM4x.out.x2⟩
              have HR8 := hid hr8
              clear hr8
              clear hb
              refine hK _ _ ⟨fun _ => HS4x.out, ?_⟩
              clear hK K
              go_simp
              refine wpAnyG_all (rs := [45]) (by kernel_rfl) (by simp) ?_
              intro i hi
              obtain rfl := List.mem_singleton.1 hi
              clear hi
              refine wpOp_s rfl (by rfl) (fun K hK => ?_)
              go_simp
              refine (HSC.out _ a8 k8 _ HR8.out HM4x.out.rd).mono ?_
              rintro e u5x ⟨rfl, hb⟩
              have HM5x := hid (HM4x.out.keep hb)
              have HS5x : Hid (BxAt u5x w.heap.size [.int .i64 ep, .slice a n cap] 24 ∧ BxAt u5x w4.heap.size [.int .i64 rs.c, .int .i64 rs.st, .int .i64 rs.k, .string rs.key, .float .f64 rs.b, .int .i64 rs.id] 43 ∧ BxAt u5x w10.heap.size [.int .i64 rs.c, .int .i64 rs.st, .int .i64 rs.k, .string rs.key, .float .f64 rs.b, .int .i64 rs.id] 43) := hid ⟨HM5x.out.cf, HM5x.out.x1, HM5x.out.x2⟩
              clear hb
              refine hK _ _ ⟨fun _ => HS5x.out, ?_⟩
              clear hK K
              go_simp
              refine wpAnyG_take (i := 46) (v := ?v3041) rfl (by kernel_rfl) (fun _ _ _ h => h) (Or.inl ⟨by rfl, ?hy3041⟩) HS5x.out ?rest3041
              case hy3041 => (intro ww _; go_simp; try with_reducible rfl)
              go_simp
              refine wpAnyG_take (i := 47) (v := ?v3042) rfl (by kernel_rfl) (fun _ _ _ h => h) (Or.inl ⟨by rfl, ?hy3042⟩) HS5x.out ?rest3042
              case hy3042 => (intro ww _; go_simp; try with_reducible rfl)
              go_simp
              refine wpAnyG_take (i := 48) (v := ?v3043) rfl (by kernel_rfl) (fun _ _ _ h => h) (Or.inl ⟨by rfl, ?hy3043⟩) HS5x.out ?rest3043
              case hy3043 => (intro ww _; go_simp; try with_reducible rfl)
              go_simp
              refine wpAnyG_take (i := 49) (v := ?v3044) rfl (by kernel_rfl) (fun _ _ _ h => h) (Or.inl ⟨by rfl, ?hy3044⟩) HS5x.out ?rest3044
              case hy3044 => (intro ww _; go_simp; try with_reducible rfl)
              go_simp
              refine wpAnyG_done (by kernel_rfl) ?_ _
              go_simp
              go_wp2
              go_meet
              exact ⟨rfl, ⟨HM5x.out.cf, HM5x.out.bel⟩, HM5x.out.lg⟩
            | false =>
              rw [hdd] at hd2
              subst hd2 hdd
              have HSC : Hid (∀ (u : World) (a8 : Option Addr) (k8 : Nat) (F : Nat → Prop), Reads F u (.slice a8 C0.length k8) (dCts C0) → Reads (fun b => w5.heap.size ≤ b) u (.slice a6 C0.length k6) (dCts C0) → Calls Try.prog 22 #[.slice a8 C0.length k8, .slice a6 C0.length k6] u fun e w' => e = .returned (.bool true) ∧ Below u.heap.size u w') := hid (fun u a8 k8 F h1 h2 => by have hc := HFew.out.1; rw [← HEq.out.2.2.1] at hc; have := wsameCerts_any a8 a6 _ _ k8 k6 C0 C0 rfl rfl (by have := hc.1; unfold maxLen; omega) (fun x hx => by have := hc.2 x hx; unfold maxLen; omega) (fun x hx => by have := hc.2 x hx; unfold maxLen; omega) u h1 h2; rw [HSame.out] at this; exact this)
              have HS : Hid (BxAt wd2 w.heap.size [.int .i64 ep, .slice a n cap] 24 ∧ BxAt wd2 w4.heap.size [.int .i64 rr.c, .int .i64 rr.st, .int .i64 rr.k, .string rr.key, .float .f64 rr.b, .int .i64 rr.id] 43 ∧ BxAt wd2 w10.heap.size [.int .i64 rs.c, .int .i64 rs.st, .int .i64 rs.k, .string rs.key, .float .f64 rs.b, .int .i64 rs.id] 43) := hid ⟨HM.out.cf, HM.out.x1, HM.out.x2⟩
              refine wp_region_G (S := fun ww => BxAt ww w.heap.size [.int .i64 ep, .slice a n cap] 24 ∧ BxAt ww w4.heap.size [.int .i64 rr.c, .int .i64 rr.st, .int .i64 rr.k, .string rr.key, .float .f64 rr.b, .int .i64 rr.id] 43 ∧ BxAt ww w10.heap.size [.int .i64 rs.c, .int .i64 rs.st, .int .i64 rs.k, .string rs.key, .float .f64 rs.b, .int .i64 rs.id] 43) (ex := []) (by kernel_rfl) ?_
              try (change wpAnyG _ _ _ _ _ _ _ _ _ (World.drew _))
              try rw [← ed2]
              clear ed2
              refine wpAnyG_take (i := 0) (v := ?v4001) rfl (by kernel_rfl) (fun _ _ _ h => h) (Or.inl ⟨by rfl, ?hy4001⟩) HS.out ?rest4001
              case hy4001 => (intro ww _; go_simp; try with_reducible rfl)
              go_simp
              refine wpAnyG_take (i := 1) (v := ?v4002) rfl (by kernel_rfl) (fun _ _ _ h => h) (Or.inl ⟨by rfl, ?hy4002⟩) HS.out ?rest4002
              case hy4002 => (intro ww _; go_simp; try with_reducible rfl)
              go_simp
              refine wpAnyG_take (i := 2) (v := undef) rfl (by kernel_rfl) (fun _ _ _ h => h) (Or.inr ⟨by rfl, rfl⟩) HS.out ?rest4003
              go_simp
              refine wpAnyG_take (i := 3) (v := undef) rfl (by kernel_rfl) (fun _ _ _ h => h) (Or.inr ⟨by rfl, rfl⟩) HS.out ?rest4004
              go_simp
              refine wpAnyG_take (i := 4) (v := undef) rfl (by kernel_rfl) (fun _ _ _ h => h) (Or.inr ⟨by rfl, rfl⟩) HS.out ?rest4005
              go_simp
              refine wpAnyG_take (i := 5) (v := undef) rfl (by kernel_rfl) (fun _ _ _ h => h) (Or.inr ⟨by rfl, rfl⟩) HS.out ?rest4006
              go_simp
              refine wpAnyG_take (i := 6) (v := undef) rfl (by kernel_rfl) (fun _ _ _ h => h) (Or.inr ⟨by rfl, rfl⟩) HS.out ?rest4007
              go_simp
              refine wpAnyG_take (i := 7) (v := undef) rfl (by kernel_rfl) (fun _ _ _ h => h) (Or.inr ⟨by rfl, rfl⟩) HS.out ?rest4008
              go_simp
              refine wpAnyG_take (i := 8) (v := undef) rfl (by kernel_rfl) (fun _ _ _ h => h) (Or.inr ⟨by rfl, rfl⟩) HS.out ?rest4009
              go_simp
              refine wpAnyG_take (i := 9) (v := undef) rfl (by kernel_rfl) (fun _ _ _ h => h) (Or.inr ⟨by rfl, rfl⟩) HS.out ?rest4010
              go_simp
              refine wpAnyG_take (i := 10) (v := ?v4011) rfl (by kernel_rfl) (fun _ _ _ h => h) (Or.inl ⟨by rfl, ?hy4011⟩) HS.out ?rest4011
              case hy4011 => (intro ww _; go_simp; try with_reducible rfl)
              go_simp
              refine wpAnyG_take (i := 11) (v := ?v4012) rfl (by kernel_rfl) (fun _ _ _ h => h) (Or.inl ⟨by rfl, ?hy4012⟩) HS.out ?rest4012
              case hy4012 => (intro ww _; go_simp; try with_reducible rfl)
              go_simp
              refine wpAnyG_take (i := 12) (v := ?v4013) rfl (by kernel_rfl) (fun _ _ _ h => h) (Or.inl ⟨by rfl, ?hy4013⟩) HS.out ?rest4013
              case hy4013 => (intro ww _; go_simp; try with_reducible rfl)
              go_simp
              refine wpAnyG_take (i := 14) (v := ?v4014) rfl (by kernel_rfl) (fun _ _ _ h => h) (Or.inl ⟨by rfl, ?hy4014⟩) HS.out ?rest4014
              case hy4014 => (intro ww _; go_simp; try with_reducible rfl)
              go_simp
              refine wpAnyG_take (i := 15) (v := ?v4015) rfl (by kernel_rfl) (fun _ _ _ h => h) (Or.inl ⟨by rfl, ?hy4015⟩) HS.out ?rest4015
              case hy4015 => (intro ww hS; have y1 := hS.1.cell 1 _ rfl; go_simp; try with_reducible rfl)
              go_simp
              refine wpAnyG_take (i := 16) (v := ?v4016) rfl (by kernel_rfl) (fun _ _ _ h => h) (Or.inl ⟨by rfl, ?hy4016⟩) HS.out ?rest4016
              case hy4016 => (intro ww _; go_simp; try with_reducible rfl)
              go_simp
              refine wpAnyG_take (i := 17) (v := ?v4017) rfl (by kernel_rfl) (fun _ _ _ h => h) (Or.inl ⟨by rfl, ?hy4017⟩) HS.out ?rest4017
              case hy4017 => (intro ww _; go_simp; try with_reducible rfl)
              go_simp
              refine wpAnyG_take (i := 18) (v := ?v4018) rfl (by kernel_rfl) (fun _ _ _ h => h) (Or.inl ⟨by rfl, ?hy4018⟩) HS.out ?rest4018
              case hy4018 => (intro ww _; go_simp; try with_reducible rfl)
              go_simp
              refine wpAnyG_take (i := 19) (v := ?v4019) rfl (by kernel_rfl) (fun _ _ _ h => h) (Or.inl ⟨by rfl, ?hy4019⟩) HS.out ?rest4019
              case hy4019 => (intro ww _; go_simp; try with_reducible rfl)
              go_simp
              refine wpAnyG_all (rs := [13]) (by kernel_rfl) (by simp) ?_
              intro i hi
              obtain rfl := List.mem_singleton.1 hi
              clear hi
              refine wpOp_s rfl (by rfl) (fun K hK => ?_)
              go_simp
              refine (HSz1.out _ HM.out.lg).mono ?_
              rintro e u1x ⟨rfl, hb⟩
              have HM1x := hid (HM.out.keep hb)
              have HS1x : Hid (BxAt u1x w.heap.size [.int .i64 ep, .slice a n cap] 24 ∧ BxAt u1x w4.heap.size [.int .i64 rr.c, .int .i64 rr.st, .int .i64 rr.k, .string rr.key, .float .f64 rr.b, .int .i64 rr.id] 43 ∧ BxAt u1x w10.heap.size [.int .i64 rs.c, .int .i64 rs.st, .int .i64 rs.k, .string rs.key, .float .f64 rs.b, .int .i64 rs.id] 43) := hid ⟨HM1x.out.cf, HM1x.out.x1, HM1x.out.x2⟩
              clear hb
              refine hK _ _ ⟨fun _ => HS1x.out, ?_⟩
              clear hK K
              go_simp
              refine wpAnyG_take (i := 20) (v := ?v4020) rfl (by kernel_rfl) (fun _ _ _ h => h) (Or.inl ⟨by rfl, ?hy4020⟩) HS1x.out ?rest4020
              case hy4020 => (intro ww _; go_simp; try with_reducible rfl)
              go_simp
              refine wpAnyG_take (i := 21) (v := ?v4021) rfl (by kernel_rfl) (fun _ _ _ h => h) (Or.inl ⟨by rfl, ?hy4021⟩) HS1x.out ?rest4021
              case hy4021 => (intro ww _; go_simp; try with_reducible rfl)
              go_simp
              refine wpAnyG_take (i := 22) (v := ?v4022) rfl (by kernel_rfl) (fun _ _ _ h => h) (Or.inl ⟨by rfl, ?hy4022⟩) HS1x.out ?rest4022
              case hy4022 => (intro ww _; go_simp; try with_reducible rfl)
              go_simp
              refine wpAnyG_take (i := 23) (v := ?v4023) rfl (by kernel_rfl) (fun _ _ _ h => h) (Or.inl ⟨by rfl, ?hy4023⟩) HS1x.out ?rest4023
              case hy4023 => (intro ww _; go_simp; try with_reducible rfl)
              go_simp
              refine wpAnyG_take (i := 24) (v := ?v4024) rfl (by kernel_rfl) (fun _ _ _ h => h) (Or.inl ⟨by rfl, ?hy4024⟩) HS1x.out ?rest4024
              case hy4024 => (intro ww _; go_simp; try with_reducible rfl)
              go_simp
              refine wpAnyG_take (i := 25) (v := ?v4025) rfl (by kernel_rfl) (fun _ _ _ h => h) (Or.inl ⟨by rfl, ?hy4025⟩) HS1x.out ?rest4025
              case hy4025 => (intro ww _; go_simp; try with_reducible rfl)
              go_simp
              refine wpAnyG_take (i := 26) (v := ?v4026) rfl (by kernel_rfl) (fun _ _ _ h => h) (Or.inl ⟨by rfl, ?hy4026⟩) HS1x.out ?rest4026
              case hy4026 => (intro ww _; go_simp; try with_reducible rfl)
              go_simp
              refine wpAnyG_take (i := 28) (v := ?v4027) rfl (by kernel_rfl) (fun _ _ _ h => h) (Or.inl ⟨by rfl, ?hy4027⟩) HS1x.out ?rest4027
              case hy4027 => (intro ww _; go_simp; try with_reducible rfl)
              go_simp
              refine wpAnyG_all (rs := [27]) (by kernel_rfl) (by simp) ?_
              intro i hi
              obtain rfl := List.mem_singleton.1 hi
              clear hi
              refine wpOp_s rfl (by rfl) (fun K hK => ?_)
              go_simp
              refine (HSz1.out _ HM1x.out.lg).mono ?_
              rintro e u2x ⟨rfl, hb⟩
              have HM2x := hid (HM1x.out.keep hb)
              have HS2x : Hid (BxAt u2x w.heap.size [.int .i64 ep, .slice a n cap] 24 ∧ BxAt u2x w4.heap.size [.int .i64 rr.c, .int .i64 rr.st, .int .i64 rr.k, .string rr.key, .float .f64 rr.b, .int .i64 rr.id] 43 ∧ BxAt u2x w10.heap.size [.int .i64 rs.c, .int .i64 rs.st, .int .i64 rs.k, .string rs.key, .float .f64 rs.b, .int .i64 rs.id] 43) := hid ⟨HM2x.out.cf, HM2x.out.x1, HM2x.out.x2⟩
              clear hb
              refine hK _ _ ⟨fun _ => HS2x.out, ?_⟩
              clear hK K
              go_simp
              refine wpAnyG_take (i := 29) (v := ?v4028) rfl (by kernel_rfl) (fun _ _ _ h => h) (Or.inl ⟨by rfl, ?hy4028⟩) HS2x.out ?rest4028
              case hy4028 => (intro ww _; go_simp; try with_reducible rfl)
              go_simp
              refine wpAnyG_take (i := 30) (v := ?v4029) rfl (by kernel_rfl) (fun _ _ _ h => h) (Or.inl ⟨by rfl, ?hy4029⟩) HS2x.out ?rest4029
              case hy4029 => (intro ww _; go_simp; try with_reducible rfl)
              go_simp
              refine wpAnyG_take (i := 31) (v := ?v4030) rfl (by kernel_rfl) (fun _ _ _ h => h) (Or.inl ⟨by rfl, ?hy4030⟩) HS2x.out ?rest4030
              case hy4030 => (intro ww _; go_simp; try with_reducible rfl)
              go_simp
              refine wpAnyG_take (i := 33) (v := ?v4031) rfl (by kernel_rfl) (fun _ _ _ h => h) (Or.inl ⟨by rfl, ?hy4031⟩) HS2x.out ?rest4031
              case hy4031 => (intro ww _; go_simp; try with_reducible rfl)
              go_simp
              refine wpAnyG_all (rs := [32]) (by kernel_rfl) (by simp) ?_
              intro i hi
              obtain rfl := List.mem_singleton.1 hi
              clear hi
              refine wpOp_s rfl (by rfl) (fun K hK => ?_)
              go_simp
              refine (HVw1.out _ HM2x.out.lg).mono ?_
              rintro e uq ⟨rfl, hwq⟩
              replace hwq := hwq.symm
              subst hwq
              refine hK _ _ ⟨fun _ => HS2x.out, ?_⟩
              clear hK K
              go_simp
              refine wpAnyG_take (i := 34) (v := ?v4032) rfl (by kernel_rfl) (fun _ _ _ h => h) (Or.inl ⟨by rfl, ?hy4032⟩) HS2x.out ?rest4032
              case hy4032 => (intro ww _; go_simp; try with_reducible rfl)
              go_simp
              refine wpAnyG_take (i := 35) (v := ?v4033) rfl (by kernel_rfl) (fun _ _ _ h => h) (Or.inl ⟨by rfl, ?hy4033⟩) HS2x.out ?rest4033
              case hy4033 => (intro ww _; go_simp; try with_reducible rfl)
              go_simp
              refine wpAnyG_take (i := 36) (v := ?v4034) rfl (by kernel_rfl) (fun _ _ _ h => h) (Or.inl ⟨by rfl, ?hy4034⟩) HS2x.out ?rest4034
              case hy4034 => (intro ww _; go_simp; try with_reducible rfl)
              go_simp
              refine wpAnyG_take (i := 37) (v := ?v4035) rfl (by kernel_rfl) (fun _ _ _ h => h) (Or.inl ⟨by rfl, ?hy4035⟩) HS2x.out ?rest4035
              case hy4035 => (intro ww _; go_simp; try with_reducible rfl)
              go_simp
              refine wpAnyG_take (i := 38) (v := ?v4036) rfl (by kernel_rfl) (fun _ _ _ h => h) (Or.inl ⟨by rfl, ?hy4036⟩) HS2x.out ?rest4036
              case hy4036 => (intro ww _; go_simp; try with_reducible rfl)
              go_simp
              refine wpAnyG_take (i := 39) (v := ?v4037) rfl (by kernel_rfl) (fun _ _ _ h => h) (Or.inl ⟨by rfl, ?hy4037⟩) HS2x.out ?rest4037
              case hy4037 => (intro ww _; go_simp; try with_reducible rfl)
              go_simp
              refine wpAnyG_take (i := 40) (v := ?v4038) rfl (by kernel_rfl) (fun _ _ _ h => h) (Or.inl ⟨by rfl, ?hy4038⟩) HS2x.out ?rest4038
              case hy4038 => (intro ww _; go_simp; try with_reducible rfl)
              go_simp
              refine wpAnyG_take (i := 41) (v := ?v4039) rfl (by kernel_rfl) (fun _ _ _ h => h) (Or.inl ⟨by rfl, ?hy4039⟩) HS2x.out ?rest4039
              case hy4039 => (intro ww _; go_simp; try with_reducible rfl)
              go_simp
              refine wpAnyG_take (i := 42) (v := ?v4040) rfl (by kernel_rfl) (fun _ _ _ h => h) (Or.inl ⟨by rfl, ?hy4040⟩) HS2x.out ?rest4040
              case hy4040 => (intro ww _; go_simp; try with_reducible rfl)
              go_simp
              refine wpAnyG_take (i := 44) (v := ?v4041) rfl (by kernel_rfl) (fun _ _ _ h => h) (Or.inl ⟨by rfl, ?hy4041⟩) HS2x.out ?rest4041
              case hy4041 => (intro ww _; go_simp; try with_reducible rfl)
              go_simp
              refine wpAnyG_all (rs := [43]) (by kernel_rfl) (by simp) ?_
              intro i hi
              obtain rfl := List.mem_singleton.1 hi
              clear hi
              refine wpOp_s rfl (by rfl) (fun K hK => ?_)
              go_simp
              refine (HCe1.out _ HM2x.out.lg).mono ?_
              rintro e u3x ⟨a8, k8, rfl, hr8, hb⟩
              have HM3x := hid (HM2x.out.keep hb)
              have HS3x : Hid (BxAt u3x w.heap.size [.int .i64 ep, .slice a n cap] 24 ∧ BxAt u3x w4.heap.size [.int .i64 rr.c, .int .i64 rr.st, .int .i64 rr.k, .string rr.key, .float .f64 rr.b, .int .i64 rr.id] 43 ∧ BxAt u3x w10.heap.size [.int .i64 rs.c, .int .i64 rs.st, .int .i64 rs.k, .string rs.key, .float .f64 rs.b, .int .i64 rs.id] 43) := hid ⟨HM3x.out.cf, HM3x.out.x1, HM3x.out.x2⟩
              have HR8 := hid hr8
              clear hr8
              clear hb
              refine hK _ _ ⟨fun _ => HS3x.out, ?_⟩
              clear hK K
              go_simp
              refine wpAnyG_all (rs := [45]) (by kernel_rfl) (by simp) ?_
              intro i hi
              obtain rfl := List.mem_singleton.1 hi
              clear hi
              refine wpOp_s rfl (by rfl) (fun K hK => ?_)
              go_simp
              refine (HSC.out _ a8 k8 _ HR8.out HM3x.out.rd).mono ?_
              rintro e u4x ⟨rfl, hb⟩
              have HM4x := hid (HM3x.out.keep hb)
              have HS4x : Hid (BxAt u4x w.heap.size [.int .i64 ep, .slice a n cap] 24 ∧ BxAt u4x w4.heap.size [.int .i64 rr.c, .int .i64 rr.st, .int .i64 rr.k, .string rr.key, .float .f64 rr.b, .int .i64 rr.id] 43 ∧ BxAt u4x w10.heap.size [.int .i64 rs.c, .int .i64 rs.st, .int .i64 rs.k, .string rs.key, .float .f64 rs.b, .int .i64 rs.id] 43) := hid ⟨HM4x.out.cf, HM4x.out.x1, HM4x.out.x2⟩
              clear hb
              refine hK _ _ ⟨fun _ => HS4x.out, ?_⟩
              clear hK K
              go_simp
              refine wpAnyG_take (i := 46) (v := ?v4042) rfl (by kernel_rfl) (fun _ _ _ h => h) (Or.inl ⟨by rfl, ?hy4042⟩) HS4x.out ?rest4042
              case hy4042 => (intro ww _; go_simp; try with_reducible rfl)
              go_simp
              refine wpAnyG_take (i := 47) (v := ?v4043) rfl (by kernel_rfl) (fun _ _ _ h => h) (Or.inl ⟨by rfl, ?hy4043⟩) HS4x.out ?rest4043
              case hy4043 => (intro ww _; go_simp; try with_reducible rfl)
              go_simp
              refine wpAnyG_take (i := 48) (v := ?v4044) rfl (by kernel_rfl) (fun _ _ _ h => h) (Or.inl ⟨by rfl, ?hy4044⟩) HS4x.out ?rest4044
              case hy4044 => (intro ww _; go_simp; try with_reducible rfl)
              go_simp
              refine wpAnyG_take (i := 49) (v := ?v4045) rfl (by kernel_rfl) (fun _ _ _ h => h) (Or.inl ⟨by rfl, ?hy4045⟩) HS4x.out ?rest4045
              case hy4045 => (intro ww _; go_simp; try with_reducible rfl)
              go_simp
              refine wpAnyG_done (by kernel_rfl) ?_ _
              go_simp
              go_wp2
              go_meet
              exact ⟨rfl, ⟨HM4x.out.cf, HM4x.out.bel⟩, HM4x.out.lg⟩
        case rest =>
          obtain ⟨rfl, hE, hL⟩ := hcut
          obtain ⟨wB, rfl⟩ : ∃ x : World, x = wc := ⟨_, rfl⟩
          have HB : Hid ((BxAt wB w.heap.size [.int .i64 ep, .slice a n cap] 24 ∧ Below w.heap.size w wB) ∧ LgM wB (g + 1) g ep am cm l v' ps9) := hid ⟨hE, hL⟩
          obtain ⟨hdn, hca, hsb⟩ := HPu.out
          have HCe1 := hid (HCe.out · v' ps9 · (by rw [H9.out.2.2.1]; exact HQ1.out))
          have HI9 : Hid (SInv ep l v' (ps9.map Pl.pp)) := hid (by rw [H9.out.2.2.1]; exact HI1.out)
          have HKk : Hid (d2 = true → ∃ kk, kk < (crtQ (ps9.map Pl.pp)).length ∧ ((crtQ (ps9.map Pl.pp)).getD kk ct0).2.1 = 4 * ep + 1 + (m : Int)) := hid (fun hd => by rw [H9.out.2.2.1]; exact hca (by rw [HE2.out.2, H9.out.2.2.1] at hd; simpa using hd))
          have hfew : (crtQ (ps9.map Pl.pp)).length ≤ 4 := by rw [H9.out.2.2.1]; exact HFew.out.2.1
          clear hdn hca hsb hE hL
          cases hd2 : d2 with
          | false =>
            subst hd2
            go_wp2
            go_roundw
            case rel => exact ⟨j + 1, v', ps9, by have := HJ.out; omega, by go_num, HB.out.1, HB.out.2, HI9.out⟩
            case measure => simp [intOf]; omega
          | true =>
            obtain ⟨kk, hk1, hk2⟩ := HKk.out hd2
            subst hd2
            obtain ⟨LN, eLN⟩ : ∃ LN, LN = (crtQ (ps9.map Pl.pp)).length := ⟨_, rfl⟩
            have HLn : Hid (LN = (crtQ (ps9.map Pl.pp)).length) := hid eLN
            rw [← eLN] at hk1 hfew
            have HKK := hid (And.intro hk1 (And.intro hk2 hfew))
            rw [← eLN] at HCe1
            clear hk1 hk2 eLN
            go_wp2_with fail
            go_loopw [17, 18] (fun b i wr2 => ∃ (k : Nat) (bb : Bool), k ≤ LN ∧ i = .int .i64 (k : Int) ∧ b = .bool bb ∧ (bb = false → k ≤ kk) ∧ (BxAt wr2 w.heap.size [.int .i64 ep, .slice a n cap] 24 ∧ Below w.heap.size w wr2) ∧ LgM wr2 (g + 1) g ep am cm l v' ps9) (fun _ i _ => ((LN : Int) - intOf i).toNat)
            case atStart => exact ⟨0, false, Nat.zero_le _, rfl, rfl, fun _ => Nat.zero_le _, HB.out.1, HB.out.2⟩
            case round =>
              obtain ⟨k, bb, hk, rfl, rfl, hbk, hE2, hL2⟩ := hrel
              rename World => wS
              have HY : Hid ((BxAt wS w.heap.size [.int .i64 ep, .slice a n cap] 24 ∧ Below w.heap.size w wS) ∧ LgM wS (g + 1) g ep am cm l v' ps9) := hid ⟨hE2, hL2⟩
              have hk0 : (0 : Int) ≤ (k : Int) := Int.natCast_nonneg _
              have hwk : IntKind.i64.wrap ((k : Int) + 1) = (k : Int) + 1 := wrap_l (by omega) (by have := HKK.out.2.2; omega)
              have hLn : (LN : Int) ≤ 4 := by have := HKK.out.2.2; omega
              clear hE2 hL2
              by_cases hkn : k = LN
              · have hk1 : ¬ (k : Int) < (LN : Int) := by omega
                have hbt : bb = true := by
                  cases bb with
                  | true => rfl
                  | false => have := hbk rfl; have := HKK.out.1; omega
                subst hbt
                clear hk hkn hbk
                go_wp2_with (first
                  | (go_at_call 10; go_must (refine (HCe1.out _ HY.out.2).mono ?_); rintro e u20 ⟨a20, k20, rfl, hr20, hb20⟩; have H20 : Hid ((BxAt u20 w.heap.size [.int .i64 ep, .slice a n cap] 24 ∧ Below w.heap.size w u20) ∧ LgM u20 (g + 1) g ep am cm l v' ps9) := hid ⟨⟨HY.out.1.1.keep hb20, HY.out.1.2.trans (hb20.mono HY.out.1.2.size)⟩, HY.out.2.keep hb20⟩; clear hr20 hb20))
                go_roundw
                case rel => exact ⟨j + 1, v', ps9, by have := HJ.out; omega, by go_num, H20.out.1, H20.out.2, HI9.out⟩
                case measure => simp [intOf]; omega
              · have hk1 : (k : Int) < (LN : Int) := by omega
                have HK : Hid (k < LN ∧ (bb = false → k ≤ kk)) := hid ⟨by omega, hbk⟩
                clear hk hkn hbk
                cases hbb : bb with
                | true =>
                  subst hbb
                  go_wp2_with (first
                    | (go_at_call 10; go_must (refine (HCe1.out _ HY.out.2).mono ?_); rintro e u20 ⟨a20, k20, rfl, hr20, hb20⟩; have H20 : Hid ((BxAt u20 w.heap.size [.int .i64 ep, .slice a n cap] 24 ∧ Below w.heap.size w u20) ∧ LgM u20 (g + 1) g ep am cm l v' ps9) := hid ⟨⟨HY.out.1.1.keep hb20, HY.out.1.2.trans (hb20.mono HY.out.1.2.size)⟩, HY.out.2.keep hb20⟩; clear hr20 hb20))
                  go_roundw
                  case rel => exact ⟨k + 1, true, by have := HK.out; omega, by go_num, rfl, fun h => (by cases h), H20.out.1, H20.out.2⟩
                  case measure => simp [intOf]; omega
                | false =>
                  subst hbb
                  obtain ⟨SL, eSL⟩ : ∃ SL, SL = ((crtQ (ps9.map Pl.pp)).getD k ct0).2.1 := ⟨_, rfl⟩
                  have HSL := hid eSL
                  clear eSL
                  by_cases hsl : SL = 4 * ep + 1 + (m : Int)
                  · have hbe : (SL == 4 * ep + 1 + (m : Int)) = true := by simpa using hsl
                    clear hsl
                    go_wp2_with (first
                      | (have := H20; go_at_call 10; go_must (refine (HCe1.out _ H20.out.2).mono ?_); rintro e u21 ⟨a21, k21, rfl, hr21, hb21⟩; have H21 : Hid ((BxAt u21 w.heap.size [.int .i64 ep, .slice a n cap] 24 ∧ Below w.heap.size w u21) ∧ LgM u21 (g + 1) g ep am cm l v' ps9) := hid ⟨⟨H20.out.1.1.keep hb21, H20.out.1.2.trans (hb21.mono H20.out.1.2.size)⟩, H20.out.2.keep hb21⟩; obtain ⟨gc, oc, cc, _, _, hv21, _, _, hc21⟩ := ct_at hr21 k (by rw [← HLn.out]; exact HK.out.1); cases hv21; have z21 : u21.cell? ⟨gc, oc + k * 9 + 1, none⟩ = some (.int .i64 SL) := (by rw [HSL.out]; exact hc21 1 _ rfl); clear hr21 hb21 hc21)
                      | (go_at_call 10; go_must (refine (HCe1.out _ HY.out.2).mono ?_); rintro e u20 ⟨a20, k20, rfl, hr20, hb20⟩; have H20 : Hid ((BxAt u20 w.heap.size [.int .i64 ep, .slice a n cap] 24 ∧ Below w.heap.size w u20) ∧ LgM u20 (g + 1) g ep am cm l v' ps9) := hid ⟨⟨HY.out.1.1.keep hb20, HY.out.1.2.trans (hb20.mono HY.out.1.2.size)⟩, HY.out.2.keep hb20⟩; clear hr20 hb20))
                    go_roundw
                    case rel => exact ⟨k + 1, true, by have := HK.out; omega, by go_num, rfl, fun h => (by cases h), H21.out.1, H21.out.2⟩
                    case measure => simp [intOf]; omega
                  · have hbe : (SL == 4 * ep + 1 + (m : Int)) = false := by simpa using hsl
                    have HNe : Hid (k ≠ kk) := hid (fun e => hsl (by rw [HSL.out, e]; exact HKK.out.2.1))
                    clear hsl
                    go_wp2_with (first
                      | (have := H20; go_at_call 10; go_must (refine (HCe1.out _ H20.out.2).mono ?_); rintro e u21 ⟨a21, k21, rfl, hr21, hb21⟩; have H21 : Hid ((BxAt u21 w.heap.size [.int .i64 ep, .slice a n cap] 24 ∧ Below w.heap.size w u21) ∧ LgM u21 (g + 1) g ep am cm l v' ps9) := hid ⟨⟨H20.out.1.1.keep hb21, H20.out.1.2.trans (hb21.mono H20.out.1.2.size)⟩, H20.out.2.keep hb21⟩; obtain ⟨gc, oc, cc, _, _, hv21, _, _, hc21⟩ := ct_at hr21 k (by rw [← HLn.out]; exact HK.out.1); cases hv21; have z21 : u21.cell? ⟨gc, oc + k * 9 + 1, none⟩ = some (.int .i64 SL) := (by rw [HSL.out]; exact hc21 1 _ rfl); clear hr21 hb21 hc21)
                      | (go_at_call 10; go_must (refine (HCe1.out _ HY.out.2).mono ?_); rintro e u20 ⟨a20, k20, rfl, hr20, hb20⟩; have H20 : Hid ((BxAt u20 w.heap.size [.int .i64 ep, .slice a n cap] 24 ∧ Below w.heap.size w u20) ∧ LgM u20 (g + 1) g ep am cm l v' ps9) := hid ⟨⟨HY.out.1.1.keep hb20, HY.out.1.2.trans (hb20.mono HY.out.1.2.size)⟩, HY.out.2.keep hb20⟩; clear hr20 hb20))
                    go_roundw
                    case rel => exact ⟨k + 1, false, by have := HK.out; omega, by go_num, rfl, fun _ => (by have := HK.out.2 (by simp); have := HNe.out; omega), H21.out.1, H21.out.2⟩
                    case measure => simp [intOf]; omega
end Go.Proofs.Ytohhlolmojeomaa
