/- Two logs of one view prepare nothing unlike. -/
import Derived.Test.YtohhlolmojeomaaSlYM
namespace Go.Proofs.Ytohhlolmojeomaa
open Go.RowKit

/-- What lies there while two logs hear their scripts. -/
structure AgS (w0 w : World) (ep : Int) (a : Option Addr) (n cap : Nat) (o1 : Option Addr) (n1 k1 : Nat) (o2 : Option Addr) (n2 k2 : Nat) (N ga gb : Nat) (ama : Option Addr) (cma : Nat) (amb : Option Addr) (cmb : Nat) (l : List Int) (pa pb : List Pl) (vl : Value) (said : List Sp) : Prop where
  cf : BxAt w w0.heap.size [.int .i64 ep, .slice a n cap] 24
  sc : BxAt w (w0.heap.size + 1) [.slice o1 n1 k1, .slice o2 n2 k2] 52
  bel : Below w0.heap.size w0 w
  la : LgM w N ga ep ama cma l 0 pa
  lb : LgM w N gb ep amb cmb l 0 pb
  own : w.ownsRow N 36 11 vl said.length (said.flatMap spC)
  sep : ∀ p, p ∈ pa ∨ p ∈ pb → ∀ x k n, p.ct.2 = .slice (some x) (n + 1) k → vl.ownBlock ≠ some x.block
  mlt : (∀ x, ama = some x → x.block < N) ∧ ∀ x, amb = some x → x.block < N
  far : w0.heap.size + 1 < ga ∧ ga ≠ gb ∧ w0.heap.size + 1 < gb ∧ (∀ x, ama = some x → x.block ≠ gb) ∧ (∀ x, amb = some x → x.block ≠ ga)
theorem sep_new {w : World} {N z : Nat} {e : TypeId} {vl : Value} {n : Nat} {xs : List Value} {pa p2 : List Pl} (ho : w.ownsRow N e z vl n xs) (hs : ∀ p, p ∈ pa → ∀ x k n, p.ct.2 = .slice (some x) (n + 1) k → vl.ownBlock ≠ some x.block) (hf : ∀ p', p' ∈ p2 → (∃ p, p ∈ pa ∧ p'.ct.2 = p.ct.2) ∨ Fresh w.heap.size p'.ct.2) : ∀ p, p ∈ p2 → ∀ x k n, p.ct.2 = .slice (some x) (n + 1) k → vl.ownBlock ≠ some x.block := fun p hp x k m e => by
  rcases hf p hp with ⟨q, hq, e2⟩ | h
  · exact hs q hq x k m (by rw [← e2]; exact e)
  · intro e3
    have h1 := h x (m + 1) k e
    have h2 := (ho.lt x.block e3).2
    omega
theorem AgS.keep {w0 w w2 : World} {ep : Int} {a : Option Addr} {n cap : Nat} {o1 : Option Addr} {n1 k1 : Nat} {o2 : Option Addr} {n2 k2 : Nat} {N ga gb : Nat} {ama : Option Addr} {cma : Nat} {amb : Option Addr} {cmb : Nat} {l : List Int} {pa pb : List Pl} {vl : Value} {said : List Sp} (h : AgS w0 w ep a n cap o1 n1 k1 o2 n2 k2 N ga gb ama cma amb cmb l pa pb vl said) (hb : Below w.heap.size w w2) : AgS w0 w2 ep a n cap o1 n1 k1 o2 n2 k2 N ga gb ama cma amb cmb l pa pb vl said :=
  ⟨h.cf.keep hb, h.sc.keep hb, h.bel.trans (hb.mono h.bel.size), h.la.keep hb, h.lb.keep hb, ownsRow_keep h.own hb, h.sep, h.mlt, h.far⟩
theorem own_but {w w2 : World} {N g z : Nat} {e : TypeId} {v : Value} {n : Nat} {xs : List Value} (h : w.ownsRow N e z v n xs) (hb : But g w w2) (hg : g < N) : w2.ownsRow N e z v n xs := by
  refine ⟨h.1, ?_⟩
  rcases h.2 with e | ⟨k, cap, cur, hv, hB2, hh, hr⟩
  · exact .inl e
  · exact .inr ⟨k, cap, cur, hv, hB2, (hb.block k (lt_of_blk hh) (by omega)).trans hh, hr⟩
theorem AgS.hearA {w0 w w2 : World} {ep : Int} {a : Option Addr} {n cap : Nat} {o1 : Option Addr} {n1 k1 : Nat} {o2 : Option Addr} {n2 k2 : Nat} {N ga gb : Nat} {ama : Option Addr} {cma : Nat} {amb : Option Addr} {cmb : Nat} {l : List Int} {pa pb p2 : List Pl} {vl : Value} {said : List Sp} (h : AgS w0 w ep a n cap o1 n1 k1 o2 n2 k2 N ga gb ama cma amb cmb l pa pb vl said) (hl : LgM w2 N ga ep ama cma l 0 p2) (hb : But ga w w2) (hf : ∀ p', p' ∈ p2 → (∃ p, p ∈ pa ∧ p'.ct.2 = p.ct.2) ∨ Fresh w.heap.size p'.ct.2) : AgS w0 w2 ep a n cap o1 n1 k1 o2 n2 k2 N ga gb ama cma amb cmb l p2 pb vl said :=
  ⟨(hb.block _ (lt_of_blk h.cf) (by have := h.far; omega)).trans h.cf, (hb.block _ (lt_of_blk h.sc) (by have := h.far; omega)).trans h.sc, h.bel.trans (hb.below h.bel.size (by have := h.far; omega)), hl, h.lb.but hb h.far.2.1 h.la.lt h.far.2.2.2.2, own_but h.own hb h.la.lt, fun p hp x k n e => (hp.elim (fun hp => sep_new h.own (fun q hq => h.sep q (.inl hq)) hf p hp x k n e) (fun hp => h.sep p (.inr hp) x k n e)), h.mlt, h.far⟩
theorem AgS.hearB {w0 w w2 : World} {ep : Int} {a : Option Addr} {n cap : Nat} {o1 : Option Addr} {n1 k1 : Nat} {o2 : Option Addr} {n2 k2 : Nat} {N ga gb : Nat} {ama : Option Addr} {cma : Nat} {amb : Option Addr} {cmb : Nat} {l : List Int} {pa pb p2 : List Pl} {vl : Value} {said : List Sp} (h : AgS w0 w ep a n cap o1 n1 k1 o2 n2 k2 N ga gb ama cma amb cmb l pa pb vl said) (hl : LgM w2 N gb ep amb cmb l 0 p2) (hb : But gb w w2) (hf : ∀ p', p' ∈ p2 → (∃ p, p ∈ pb ∧ p'.ct.2 = p.ct.2) ∨ Fresh w.heap.size p'.ct.2) : AgS w0 w2 ep a n cap o1 n1 k1 o2 n2 k2 N ga gb ama cma amb cmb l pa p2 vl said :=
  ⟨(hb.block _ (lt_of_blk h.cf) (by have := h.far; omega)).trans h.cf, (hb.block _ (lt_of_blk h.sc) (by have := h.far; omega)).trans h.sc, h.bel.trans (hb.below h.bel.size (by have := h.far; omega)), h.la.but hb h.far.2.1.symm h.lb.lt h.far.2.2.2.1, hl, own_but h.own hb h.lb.lt, fun p hp x k n e => (hp.elim (fun hp => h.sep p (.inl hp) x k n e) (fun hp => sep_new h.own (fun q hq => h.sep q (.inr hq)) hf p hp x k n e)), h.mlt, h.far⟩
theorem AgS.sps {w0 w : World} {ep : Int} {a : Option Addr} {n cap : Nat} {o1 : Option Addr} {n1 k1 : Nat} {o2 : Option Addr} {n2 k2 : Nat} {N ga gb : Nat} {ama : Option Addr} {cma : Nat} {amb : Option Addr} {cmb : Nat} {l : List Int} {pa pb : List Pl} {vl : Value} {said : List Sp} (h : AgS w0 w ep a n cap o1 n1 k1 o2 n2 k2 N ga gb ama cma amb cmb l pa pb vl said) : ∃ ad c, vl = .slice ad said.length c ∧ SpsIn w ad said := by
  rcases h.own.2 with ⟨hv, h0⟩ | ⟨g, cap, cur, hv, hB, hh, hr⟩
  · exact ⟨none, 0, by rw [hv, h0], .inl (List.eq_nil_of_length_eq_zero h0)⟩
  · subst hv
    refine ⟨_, cap, rfl, .inr ⟨g, 0, rfl, lt_of_blk hh, fun j o ho q u hu => ?_⟩⟩
    have hq : q < 11 := (List.getElem?_eq_some_iff.1 hu).1
    have := h.own.cells (g := g) rfl (j * 11 + q) u (by rw [row_at (f := spC) (k := 11) (fun _ => rfl) ho q hq]; exact hu)
    rw [Addr.add_lit] at this
    simpa [Nat.add_assoc] using this
theorem lg_grow {w w2 : World} {N g : Nat} {ep : Int} {am : Option Addr} {cm : Nat} {l : List Int} {ps : List Pl} {vl : Value} (hL : LgM w N g ep am cm l 0 ps) (hg : w.grownBy w2 vl.ownBlock) (hb : Below N w w2) (ham : ∀ x, am = some x → x.block < N) (hsep : ∀ p, p ∈ ps → ∀ x k n, p.ct.2 = .slice (some x) (n + 1) k → vl.ownBlock ≠ some x.block) : LgM w2 N g ep am cm l 0 ps := by
  refine ⟨⟨(hb.block g hL.lt).trans hL.at_.blk, ?_, hL.at_.four, hL.at_.ok⟩, hL.lt, Nat.le_trans hL.sz hg.size, hL.mem, fun p hp => ?_⟩
  · rcases hL.at_.mem with e | ⟨gg, off, ha, hgg, hc⟩
    · exact .inl e
    · exact .inr ⟨gg, off, ha, Nat.lt_of_lt_of_le hgg hg.size, fun j z hz => (hb.cell (p := ⟨gg, off + j, none⟩) (show gg < N from ham ⟨gg, off, none⟩ ha)).trans (hc j z hz)⟩
  · obtain ⟨ad, k, e1, hp2, hN3⟩ := hL.rd p hp
    refine ⟨ad, k, e1, ?_, hN3⟩
    rcases hp2 with e | ⟨gg, off, ha, hgg, hc⟩
    · exact .inl e
    · cases hs : p.ct.1.2.2.2 with
      | nil => exact .inl rfl
      | cons z zs =>
      rw [← hs]
      have hne := hsep p hp ⟨gg, off, none⟩ k zs.length (by rw [← ha, e1, hs]; rfl)
      exact .inr ⟨gg, off, ha, Nat.lt_of_lt_of_le hgg hg.size, fun j z hz => by
        have h2 := hg.block gg hgg (fun e => hne e.symm)
        have := hc j z hz
        simp only [World.cell?, h2] at this ⊢
        exact this⟩
theorem sig_lt {w : World} {N g : Nat} {ep : Int} {am : Option Addr} {cm : Nat} {l : List Int} {ps : List Pl} (hL : LgM w N g ep am cm l 0 ps) (p : Pl) (hp : p ∈ ps) (x : Addr) (k n : Nat) (e : p.ct.2 = .slice (some x) (n + 1) k) : x.block < w.heap.size := by
  obtain ⟨ad, k2, e1, hp2, _⟩ := hL.rd p hp
  rw [e1] at e
  obtain ⟨h1, h2, _⟩ : ad = some x ∧ p.ct.1.2.2.2.length = n + 1 ∧ k2 = k := by simpa using e
  rcases hp2 with e2 | ⟨gg, off, ha, hgg, _⟩
  · rw [e2] at h2; cases h2
  · rw [ha] at h1
    cases h1
    exact hgg
theorem AgS.grow {w0 w w2 : World} {ep : Int} {a : Option Addr} {n cap : Nat} {o1 : Option Addr} {n1 k1 : Nat} {o2 : Option Addr} {n2 k2 : Nat} {N ga gb : Nat} {ama : Option Addr} {cma : Nat} {amb : Option Addr} {cmb : Nat} {l : List Int} {pa pb : List Pl} {vl v2 : Value} {said : List Sp} {o : Sp} (h : AgS w0 w ep a n cap o1 n1 k1 o2 n2 k2 N ga gb ama cma amb cmb l pa pb vl said) (h2 : w2.ownsRow N 36 11 v2 (said.length + 1) (said.flatMap spC ++ spC o)) (hg : w.grownBy w2 vl.ownBlock) (ho : v2.ownBlock = vl.ownBlock ∨ v2.ownBlock = some w.heap.size) : AgS w0 w2 ep a n cap o1 n1 k1 o2 n2 k2 N ga gb ama cma amb cmb l pa pb v2 (said ++ [o]) := by
  have hb : Below N w w2 := ⟨hg.os, hg.tape, hg.output, hg.size, fun k hk => hg.block k (by have := h.la.sz; omega) (fun e => by have := (h.own.lt k e.symm).1; omega)⟩
  have hN := h.la.lt
  have hfar := h.far
  refine ⟨(hb.block _ (by omega)).trans h.cf, (hb.block _ (by omega)).trans h.sc, h.bel.trans (hb.mono (by omega)), lg_grow h.la hg hb h.mlt.1 (fun p hp => h.sep p (.inl hp)), lg_grow h.lb hg hb h.mlt.2 (fun p hp => h.sep p (.inr hp)), ?_, fun p hp x k m e => ?_, h.mlt, h.far⟩
  · rw [List.length_append, List.flatMap_append]
    simpa using h2
  · rcases ho with e2 | e2
    · rw [e2]; exact h.sep p hp x k m e
    · rw [e2]
      intro e3
      have e4 := Option.some.inj e3
      have : x.block < w.heap.size := hp.elim (fun hp => sig_lt h.la p hp x k m e) (fun hp => sig_lt h.lb p hp x k m e)
      omega
theorem lg_poke {w w2 wB : World} {N g : Nat} {ep : Int} {am : Option Addr} {cm : Nat} {l : List Int} {ps : List Pl} (h : LgM w N g ep am cm l 0 ps) (hB : LgM wB N g ep am cm l 0 ps) (ham : ∀ x, am = some x → x.block < N) (ho : One wB.heap.size w w2) : LgM w2 N g ep am cm l 0 ps := by
  have hlt := hB.lt
  have hsz := hB.sz
  refine ⟨⟨(ho.block g (by omega)).trans h.at_.blk, ho.but.ints h.at_.mem (fun x hx => by have := ham x hx; omega), h.at_.four, h.at_.ok⟩, h.lt, Nat.le_trans h.sz ho.but.size, h.mem, fun p hp => ?_⟩
  obtain ⟨ad, k, e1, hp2, hN3⟩ := h.rd p hp
  refine ⟨ad, k, e1, ?_, hN3⟩
  rcases hp2 with e | ⟨gg, off, ha, hgg, hc⟩
  · exact .inl e
  · cases hs : p.ct.1.2.2.2 with
    | nil => exact .inl rfl
    | cons z zs =>
    rw [← hs]
    have hlt2 := sig_lt hB p hp ⟨gg, off, none⟩ k zs.length (by rw [← ha, e1, hs]; rfl)
    exact .inr ⟨gg, off, ha, Nat.lt_of_lt_of_le hgg ho.but.size, fun j z hz => by
      have h2 := ho.block gg (show gg ≠ wB.heap.size from Nat.ne_of_lt hlt2)
      have := hc j z hz
      simp only [World.cell?, h2] at this ⊢
      exact this⟩
theorem AgS.poke {w0 w w2 wB : World} {ep : Int} {a : Option Addr} {n cap : Nat} {o1 : Option Addr} {n1 k1 : Nat} {o2 : Option Addr} {n2 k2 : Nat} {N ga gb : Nat} {ama : Option Addr} {cma : Nat} {amb : Option Addr} {cmb : Nat} {l : List Int} {pa pb : List Pl} {vl : Value} {said : List Sp} (h : AgS w0 w ep a n cap o1 n1 k1 o2 n2 k2 N ga gb ama cma amb cmb l pa pb vl said) (hB : AgS w0 wB ep a n cap o1 n1 k1 o2 n2 k2 N ga gb ama cma amb cmb l pa pb vl said) (ho : One wB.heap.size w w2) : AgS w0 w2 ep a n cap o1 n1 k1 o2 n2 k2 N ga gb ama cma amb cmb l pa pb vl said := by
  have hf := h.far
  have hl := hB.la.lt
  have hz := hB.la.sz
  have hz0 := hB.bel.size
  have hsc := lt_of_blk hB.sc
  refine ⟨(ho.block _ (by omega)).trans h.cf, (ho.block _ (by omega)).trans h.sc, h.bel.trans (ho.below (Below.refl _ _) (by omega)), lg_poke h.la hB.la h.mlt.1 ho, lg_poke h.lb hB.lb h.mlt.2 ho, ?_, h.sep, h.mlt, h.far⟩
  refine ⟨h.own.1, ?_⟩
  rcases h.own.2 with e | ⟨k, cap, cur, hv, hB2, hh, hr⟩
  · exact .inl e
  · have := (hB.own.lt k (by rw [hv]; rfl)).2
    exact .inr ⟨k, cap, cur, hv, hB2, (ho.block k (by omega)).trans hh, hr⟩
theorem AgS.spsAt {w0 w : World} {ep : Int} {a : Option Addr} {n cap : Nat} {o1 : Option Addr} {n1 k1 : Nat} {o2 : Option Addr} {n2 k2 : Nat} {N ga gb : Nat} {ama : Option Addr} {cma : Nat} {amb : Option Addr} {cmb : Nat} {l : List Int} {pa pb : List Pl} {sd : Option Addr} {sc : Nat} {said : List Sp} (h : AgS w0 w ep a n cap o1 n1 k1 o2 n2 k2 N ga gb ama cma amb cmb l pa pb (.slice sd said.length sc) said) : SpsIn w sd said := by
  obtain ⟨ad, c, e, hs⟩ := h.sps
  cases e
  exact hs
/-- A certificate's slot and request lie there. -/
structure AgR (w : World) (g off : Nat) (c : Ct) : Prop where
  sl : w.cell? ⟨g, off + 1, none⟩ = some (.int .i64 c.2.1)
  rq : w.rangeAt g (off + 2) [.int .i64 c.2.2.1.c, .int .i64 c.2.2.1.st, .int .i64 c.2.2.1.k, .string c.2.2.1.key, .float .f64 c.2.2.1.b, .int .i64 c.2.2.1.id]
theorem agr_of {w : World} {g off : Nat} {c : Ct} {v : Value} (h : ∀ (q : Nat) (u : Value), (ctC c v)[q]? = some u → w.cell? ⟨g, off + q, none⟩ = some u) : AgR w g off c := ⟨h 1 _ rfl, fun q u hq => by
  match q, hq with
  | 0, hq => exact h 2 u hq
  | 1, hq => exact h 3 u hq
  | 2, hq => exact h 4 u hq
  | 3, hq => exact h 5 u hq
  | 4, hq => exact h 6 u hq
  | 5, hq => exact h 7 u hq
  | q + 6, hq => cases hq⟩
/-- All reals have 64 bits. -/
def SpB (said : List Sp) : Prop := ∀ p, p ∈ said → p.a.b < 18446744073709551616
def CtBa (qs : List Pp) : Prop := ∀ q, q ∈ qs → q.ct.2.2.1.b < 18446744073709551616
theorem told1_b {bad : List Int} {said : List Sp} {o : Sp} (h : SpB said) (ho : o.a.b < 18446744073709551616) : SpB (told1 bad said o).1 ∧ (told1 bad said o).2.a.b < 18446744073709551616 := by
  unfold told1
  split
  · split
    · rename_i p hf
      exact ⟨h, h p (List.mem_of_find?_eq_some hf)⟩
    · exact ⟨fun p hp => (List.mem_append.1 hp).elim (h p) (fun e => by rw [List.mem_singleton.1 e]; exact ho), ho⟩
  · exact ⟨h, ho⟩
theorem told1_len (bad : List Int) (said : List Sp) (o : Sp) : (told1 bad said o).1.length ≤ said.length + 1 := by
  unfold told1
  split
  · split
    · exact Nat.le_succ _
    · simp
  · exact Nat.le_succ _
theorem ctba_step {ep : Int} {l : List Int} {v : Int} {qs : List Pp} (h : CtBa qs) (hs : SInv ep l v qs) (o : Sp) (hb : o.a.b < 18446744073709551616) : CtBa (stp ep l v qs o).2.2 := by
  have his := stp_is hs.1 o hb
  generalize stp ep l v qs o = r at his ⊢
  cases his with
  | no er he => exact h
  | ent x h1 h2 => exact fun q hq => by obtain ⟨p, hp, rfl⟩ := List.mem_map.1 hq; exact h p hp
  | put i q q1 hi hq hc hd hk hp =>
    intro x hx
    rcases List.mem_or_eq_of_mem_set hx with h1 | h1
    · exact h x h1
    · rw [h1, setl]
      have hq1 : q1.ct.2.2.1.b < 18446744073709551616 := by rw [hc]; exact h q (List.mem_of_getElem? hq)
      split
      · simp only
        split
        · exact rd_small _
        · exact hq1
      · exact hq1
theorem stp_v {ep : Int} {l : List Int} {v : Int} {qs : List Pp} {o : Sp} (h : o.k % 4 ≠ 0) : (stp ep l v qs o).2.1 = v := by
  unfold stp
  rw [if_neg h]
  split
  · rfl
  · split <;> rfl
theorem cnt_take (p : Int → Bool) (l : List Int) (j : Nat) (hj : j < l.length) : (l.take (j + 1)).countP p = (l.take j).countP p + (if p (l.getD j 0) = true then 1 else 0) := by
  have h := getD_of (l := l) (i := j) (d := 0) hj
  obtain ⟨hl, he⟩ := List.getElem?_eq_some_iff.1 h
  rw [List.take_succ_eq_append_getElem hl, he, List.countP_append, List.countP_cons, List.countP_nil, Nat.zero_add]
theorem ag_skip {ep : Int} {l bad : List Int} {said : List Sp} {qs : List Pp} {o : Sp} (h : o.k % 4 = 0) : agOne ep l bad said qs o = (said, qs) := by rw [agOne, if_pos h]
theorem infoOpS : (Try.prog.info? 36).map (fun i => (i.zero, i.size, i.bytes)) = some (some (.agg #[.int .i64 0, .int .i64 0, .int .i64 0, .int .i64 0, .int .i64 0, .int .i64 0, .int .i64 0, .string ⟨#[]⟩, .int .u64 0, .int .i64 0, .bool false]), 11, 96) := by kernel_rfl
def VAll (ep : Int) (l bad : List Int) (said : List Sp) (qa qb : List Pp) : Prop := AInv ep l bad said qa ∧ AInv ep l bad said qb ∧ OneS said ∧ SpB said ∧ CtBa qa ∧ CtBa qb
theorem ag_next {ep : Int} {l bad : List Int} {said s2 : List Sp} {qa qb : List Pp} {o o2 : Sp} (hV : VAll ep l bad said qa qb) (h0 : o.k % 4 ≠ 0) (ht : told1 bad said o = (s2, o2)) (hb : o.a.b < 18446744073709551616) :
    o2.a.b < 18446744073709551616 ∧ VAll ep l bad s2 (stp ep l 0 qa o2).2.2 qb ∧ VAll ep l bad s2 qa (stp ep l 0 qb o2).2.2 ∧ s2.length ≤ said.length + 1 ∧ o2.k % 4 ≠ 0 := by
  obtain ⟨v1, v2, v3, v4, v5, v6⟩ := hV
  have hbb := told1_b (bad := bad) v4 hb
  have h1 := told1_one (bad := bad) (o := o) v3
  have hk := (told1_is bad said o).1
  have hm := told1_more bad said o
  have hl := told1_len bad said o
  have ea := ag_one v1 o hbb.2
  have eb := ag_one v2 o hbb.2
  rw [agOne, if_neg h0] at ea eb
  rw [ht] at hbb h1 hk hm hl ea eb
  exact ⟨hbb.2, ⟨ea, v2.more hm, h1, hbb.1, ctba_step v5 v1.1 o2 hbb.2, v6⟩, ⟨v1.more hm, eb, h1, hbb.1, v5, ctba_step v6 v2.1 o2 hbb.2⟩, hl, by rw [hk]; exact h0⟩
theorem told_no {bad : List Int} {said : List Sp} {o : Sp} (h : ¬ (o.k % 4 = 2 ∧ hasM bad o.fr = false)) : told1 bad said o = (said, o) := by rw [told1, if_neg h]
theorem told_some {bad : List Int} {said : List Sp} {o p : Sp} (h : o.k % 4 = 2 ∧ hasM bad o.fr = false) (hf : firstS said o = some p) : told1 bad said o = (said, { o with a := p.a }) := by rw [told1, if_pos h, hf]
theorem told_none {bad : List Int} {said : List Sp} {o : Sp} (h : o.k % 4 = 2 ∧ hasM bad o.fr = false) (hf : firstS said o = none) : told1 bad said o = (said ++ [o], o) := by rw [told1, if_pos h, hf]
theorem crt_b {qs : List Pp} (h : CtBa qs) : ∀ c, c ∈ crtQ qs → c.2.2.1.b < 18446744073709551616 := fun c hc => by
  obtain ⟨q, hq, rfl⟩ := List.mem_map.1 hc
  exact h q (List.mem_filter.1 hq).1
theorem agmem_lt {w : World} {am : Option Addr} {l : List Int} (h : IntsIn w am l) (hl : 0 < l.length) (x : Addr) (hx : am = some x) : x.block < w.heap.size := by
  rcases h with h | ⟨gg, off, ha, hg, _⟩
  · rw [h] at hl; cases hl
  · rw [ha] at hx; cases hx; exact hg
theorem wild_cnt (l bad : List Int) : wildS l bad = l.countP fun x => hasM bad x := by rw [wildS, List.countP_eq_length_filter]
theorem crt_isA {ep : Int} {l : List Int} {v : Int} {qs : List Pp} (h : SInv ep l v qs) (k : Nat) (hk : k < (crtQ qs).length) : ∃ (m : Nat) (q : Pp), qs[m]? = some q ∧ (crtQ qs).getD k ct0 = q.ct ∧ q.ct.2.2.2.length ≠ 0 ∧ q.ct.2.1 = 4 * ep + 1 + (m : Int) ∧ prE ep q.ct.1 q.ct.2.1 q.ct.2.2.1 = 0 := by
  have hx : (crtQ qs)[k]? = some ((crtQ qs).getD k ct0) := getD_of hk
  obtain ⟨q, hq, he⟩ := List.mem_map.1 (List.mem_of_getElem? hx)
  obtain ⟨hq1, hq2⟩ := List.mem_filter.1 hq
  obtain ⟨m, hm⟩ := List.getElem?_of_mem hq1
  have hn : q.ct.2.2.2.length ≠ 0 := by simpa using hq2
  exact ⟨m, q, hm, he.symm, hn, ((h.2 m q hm).ct hn).1, ((h.2 m q hm).ct hn).2.2.2.1⟩
theorem ag_start {ep : Int} {l bad : List Int} (h : SInv ep l 0 (z4P.map Pl.pp)) : AInv ep l bad [] (z4P.map Pl.pp) ∧ AInv ep l bad [] (z4P.map Pl.pp) ∧ OneS [] ∧ SpB [] ∧ CtBa (z4P.map Pl.pp) ∧ CtBa (z4P.map Pl.pp) := by
  have hz : ∀ q, q ∈ z4P.map Pl.pp → q = zPl.pp := fun q hq => by simpa [z4P] using hq
  have ha : AInv ep l bad [] (z4P.map Pl.pp) := ⟨h, fun i q hq => by
    rw [hz q (List.mem_of_getElem? hq)]
    exact ⟨fun j _ h => absurd (em_none j) h, fun h => absurd rfl h⟩⟩
  have hc : CtBa (z4P.map Pl.pp) := fun q hq => by rw [hz q hq]; exact show (0 : Nat) < 18446744073709551616 by decide
  exact ⟨ha, ha, fun p q hp => (by cases hp), fun p hp => (by cases hp), hc, hc⟩
/-- Two certificates of one slot have the same request, in the document's word. -/
theorem ag_req {ep : Int} {l bad : List Int} {said : List Sp} {qa qb : List Pp} (ha : AInv ep l bad said qa) (hb : AInv ep l bad said qb) (h1 : OneS said) (hw : (wildS l bad : Int) ≤ fltZ (l.length : Int)) {i k : Nat} (hi : i < (crtQ qa).length) (hk : k < (crtQ qb).length) (hs : ((crtQ qa).getD i ct0).2.1 = ((crtQ qb).getD k ct0).2.1) : sameB ((crtQ qa).getD i ct0).2.2.1 ((crtQ qb).getD k ct0).2.2.1 = true := by
  obtain ⟨m, q, m1, m2, m3, m4, m5⟩ := crt_isA ha.1 i hi
  obtain ⟨m', q', k1, k2, k3, k4, k5⟩ := crt_isA hb.1 k hk
  rw [m2, k2] at hs ⊢
  obtain rfl : m = m' := by rw [m4, k4] at hs; omega
  exact same_ofS (prE_ok m5).1 (prE_ok k5).1 (ag_same ha hb h1 hw m1 k1 m3 k3)
set_option maxRecDepth 100000 in
set_option maxHeartbeats 12800000 in
theorem slotsAgree_walk (ep : Int) (a : Option Addr) (n cap : Nat) (l : List Int) (hn : l.length = n) (hm : n ≤ maxLen) (ab : Option Addr) (nb kb : Nat) (bad : List Int) (hnb : bad.length = nb) (hmb : nb ≤ maxLen) (o1 : Option Addr) (n1 k1 : Nat) (os1 : List Sp) (hl1 : os1.length = n1) (o2 : Option Addr) (n2 k2 : Nat) (os2 : List Sp) (hl2 : os2.length = n2) (hu : n1 ≤ 1048576 ∧ n2 ≤ 1048576) (hs1 : ∀ o, o ∈ os1 → spOk o) (hs2 : ∀ o, o ∈ os2 → spOk o) (w : World) (hI : IntsIn w a l) (hB : IntsIn w ab bad) (hS1 : SpsIn w o1 os1) (hS2 : SpsIn w o2 os2) :
    Calls Try.prog 4 #[.agg #[.int .i64 ep, .slice a n cap], .slice ab nb kb, .agg #[.slice o1 n1 k1, .slice o2 n2 k2]] w fun e w' => e = .returned (.bool true) ∧ Below w.heap.size w w' := by
  have hba : Below w.heap.size w ((w.alloc (.cells #[.int .i64 ep, .slice a n cap] 24)).alloc (.cells #[.slice o1 n1 k1, .slice o2 n2 k2] 52)) := ((Below.refl _ _).alloc (Nat.le_refl _) _).alloc (by simp) _
  have H0 : Hid (BxAt ((w.alloc (.cells #[.int .i64 ep, .slice a n cap] 24)).alloc (.cells #[.slice o1 n1 k1, .slice o2 n2 k2] 52)) w.heap.size [.int .i64 ep, .slice a n cap] 24 ∧ BxAt ((w.alloc (.cells #[.int .i64 ep, .slice a n cap] 24)).alloc (.cells #[.slice o1 n1 k1, .slice o2 n2 k2] 52)) (w.heap.size + 1) [.slice o1 n1 k1, .slice o2 n2 k2] 52 ∧ Below w.heap.size w ((w.alloc (.cells #[.int .i64 ep, .slice a n cap] 24)).alloc (.cells #[.slice o1 n1 k1, .slice o2 n2 k2] 52))) := hid ⟨(Below.heap_alloc _ _ _ (by simp)).trans (heap_alloc_last w _), snd_alloc _ _ _, hba⟩
  have y0 := H0.out.1.cell 0 _ rfl
  have y1 := H0.out.1.cell 1 _ rfl
  have HIu : Hid (∀ u : World, Below w.heap.size w u → IntsIn u a l ∧ IntsIn u ab bad ∧ SpsIn u o1 os1 ∧ SpsIn u o2 os2) := hid (fun u hu => ⟨hI.keep hu (Nat.le_refl _), hB.keep hu (Nat.le_refl _), hS1.keep hu (Nat.le_refl _), hS2.keep hu (Nat.le_refl _)⟩)
  have HN := hid (And.intro hn (And.intro hm (And.intro hnb hmb)))
  have HSp := hid (And.intro hl1 (And.intro hl2 (And.intro hs1 (And.intro hs2 hu))))
  cases hr : rightC ep l with
  | false =>
    have HW : Hid (∀ u : World, Below w.heap.size w u → Calls Try.prog 8 #[.agg #[.int .i64 ep, .slice a n cap]] u fun e w' => e = .returned (.tuple #[.pointer none, .int .i64 1]) ∧ Below u.heap.size u w') := hid (fun u hu => snew_no ep a n cap l hn hm u (hI.keep hu (Nat.le_refl _)) hr)
    clear hn hm hnb hmb hl1 hl2 hu hs1 hs2 hI hB hS1 hS2 hr hba
    go_enter Try.func4, Try.ntmps4
    go_wp2_with (first
      | (go_at_call 7; go_must (refine (ulives14 _).mono ?_); rintro e w1 ⟨rfl, hb1⟩; have H1 : Hid (BxAt w1 w.heap.size [.int .i64 ep, .slice a n cap] 24 ∧ BxAt w1 (w.heap.size + 1) [.slice o1 n1 k1, .slice o2 n2 k2] 52 ∧ Below w.heap.size w w1) := hid ⟨H0.out.1.keep hb1, H0.out.2.1.keep hb1, H0.out.2.2.trans (hb1.mono H0.out.2.2.size)⟩; clear hb1 y0 y1; have y0 := H1.out.1.cell 0 _ rfl; have y1 := H1.out.1.cell 1 _ rfl)
      | (have := H2; go_at_call 8; go_must (refine (HW.out _ H2.out.2.2).mono ?_); rintro e w3 ⟨rfl, hb3⟩; have H3 : Hid (BxAt w3 w.heap.size [.int .i64 ep, .slice a n cap] 24 ∧ BxAt w3 (w.heap.size + 1) [.slice o1 n1 k1, .slice o2 n2 k2] 52 ∧ Below w.heap.size w w3) := hid ⟨H2.out.1.keep hb3, H2.out.2.1.keep hb3, H2.out.2.2.trans (hb3.mono H2.out.2.2.size)⟩; clear hb3 y0 y1)
      | (go_at_call 8; go_must (refine (HW.out _ H1.out.2.2).mono ?_); rintro e w2 ⟨rfl, hb2⟩; have H2 : Hid (BxAt w2 w.heap.size [.int .i64 ep, .slice a n cap] 24 ∧ BxAt w2 (w.heap.size + 1) [.slice o1 n1 k1, .slice o2 n2 k2] 52 ∧ Below w.heap.size w w2) := hid ⟨H1.out.1.keep hb2, H1.out.2.1.keep hb2, H1.out.2.2.trans (hb2.mono H1.out.2.2.size)⟩; clear hb2 y0 y1; have y0 := H2.out.1.cell 0 _ rfl; have y1 := H2.out.1.cell 1 _ rfl))
    go_ret
    exact ⟨rfl, H3.out.2.2⟩
  | true =>
    have HW : Hid (∀ u : World, Below w.heap.size w u → Calls Try.prog 8 #[.agg #[.int .i64 ep, .slice a n cap]] u fun e w' => NewPost u w' e ep l) := hid (fun u hu => snew_yes ep a n cap l hn u (hI.keep hu (Nat.le_refl _)) hr)
    have HR := hid hr
    have hepr := (rightC_ep hr).1
    have hln := mem_len (rightC_ep hr).2
    have hnI : (n : Int) ≤ 10 ∧ 4 ≤ (n : Int) := by omega
    have HEp := hid (And.intro hepr hln)
    clear hn hm hnb hmb hl1 hl2 hu hs1 hs2 hI hB hS1 hS2 hr hba hln
    go_enter Try.func4, Try.ntmps4
    go_wp2_with (first
      | (go_at_call 7; go_must (refine (ulives14 _).mono ?_); rintro e w1 ⟨rfl, hb1⟩; have H1 : Hid (BxAt w1 w.heap.size [.int .i64 ep, .slice a n cap] 24 ∧ BxAt w1 (w.heap.size + 1) [.slice o1 n1 k1, .slice o2 n2 k2] 52 ∧ Below w.heap.size w w1) := hid ⟨H0.out.1.keep hb1, H0.out.2.1.keep hb1, H0.out.2.2.trans (hb1.mono H0.out.2.2.size)⟩; clear hb1 y0 y1; have y0 := H1.out.1.cell 0 _ rfl; have y1 := H1.out.1.cell 1 _ rfl)
      | (have := H2; go_at_call 8; go_must (refine (HW.out _ H2.out.1.2.2).mono ?_); rintro e w3 ⟨gb, amb, cmb, rfl, hn1, hn2, hn3, hn4, hn5⟩; have H3 : Hid ((BxAt w3 w.heap.size [.int .i64 ep, .slice a n cap] 24 ∧ BxAt w3 (w.heap.size + 1) [.slice o1 n1 k1, .slice o2 n2 k2] 52 ∧ Below w.heap.size w w3) ∧ SlA w3 gb ep amb cmb l 0 z4P ∧ w2.heap.size ≤ gb ∧ gb < w3.heap.size ∧ (∀ x, amb = some x → w2.heap.size ≤ x.block ∧ x.block ≠ gb) ∧ SlA w3 ga ep ama cma l 0 z4P) := hid ⟨⟨H2.out.1.1.keep hn5, H2.out.1.2.1.keep hn5, H2.out.1.2.2.trans (hn5.mono H2.out.1.2.2.size)⟩, hn1, hn2, hn3, hn4, H2.out.2.1.keep hn5⟩; clear hn1 hn2 hn3 hn4 hn5 y0 y1)
      | (go_at_call 8; go_must (refine (HW.out _ H1.out.2.2).mono ?_); rintro e w2 ⟨ga, ama, cma, rfl, hn1, hn2, hn3, hn4, hn5⟩; have H2 : Hid ((BxAt w2 w.heap.size [.int .i64 ep, .slice a n cap] 24 ∧ BxAt w2 (w.heap.size + 1) [.slice o1 n1 k1, .slice o2 n2 k2] 52 ∧ Below w.heap.size w w2) ∧ SlA w2 ga ep ama cma l 0 z4P ∧ w1.heap.size ≤ ga ∧ ga < w2.heap.size ∧ (∀ x, ama = some x → x.block ≠ ga) ∧ ∀ x, ama = some x → x.block < w2.heap.size) := hid ⟨⟨H1.out.1.keep hn5, H1.out.2.1.keep hn5, H1.out.2.2.trans (hn5.mono H1.out.2.2.size)⟩, hn1, hn2, hn3, fun x hx => (hn4 x hx).2, fun x hx => agmem_lt hn1.mem (by have := HEp.out.2; omega) x hx⟩; clear hn1 hn2 hn3 hn4 hn5 y0 y1; have y0 := H2.out.1.1.cell 0 _ rfl; have y1 := H2.out.1.1.cell 1 _ rfl))
    have HAg : Hid (AgS w w3 ep a n cap o1 n1 k1 o2 n2 k2 w3.heap.size ga gb ama cma amb cmb l z4P z4P (.slice none 0 0) []) := hid (by
      obtain ⟨⟨h1, h2, h3⟩, h4, h5, h6, h7, h8⟩ := H3.out
      obtain ⟨_, _, g1, g2, g3, g4⟩ := H2.out
      have hz := lt_of_blk H1.out.2.1
      have hmb : ∀ x, amb = some x → x.block < w3.heap.size := fun x hx => agmem_lt h4.mem (by have := HEp.out.2; omega) x hx
      have hz4 : ∀ p, p ∈ z4P → ∀ x k n, p.ct.2 = .slice (some x) (n + 1) k → (Value.slice none 0 0).ownBlock ≠ some x.block := fun p hp x k m e => by
        have : p = zPl := by simpa [z4P] using hp
        rw [this] at e; cases e
      exact ⟨h1, h2, h3, LgM.zero h8 (by omega) (Nat.le_refl _) g3, LgM.zero h4 h6 (Nat.le_refl _) (fun x hx => (h7 x hx).2), World.ownsRow_nil _ _ _ _, fun p hp => hp.elim (hz4 p) (hz4 p), ⟨fun x hx => by have := g4 x hx; omega, hmb⟩, by omega, by omega, by omega, fun x hx => by have := g4 x hx; omega, fun x hx => by have := (h7 x hx).1; omega⟩)
    have y1 := HAg.out.cf.cell 1 _ rfl
    go_loopw [11, 12] (fun c i wr => ∃ j : Nat, j ≤ n ∧ i = .int .i64 (j : Int) ∧ c = .int .i64 (((l.take j).countP fun x => hasM bad x : Nat) : Int) ∧ Below w3.heap.size w3 wr) (fun _ i _ => ((n : Int) - intOf i).toNat)
    case atStart => exact ⟨0, Nat.zero_le _, rfl, rfl, Below.refl _ _⟩
    case round =>
      obtain ⟨j, hj, rfl, rfl, hb⟩ := hrel
      have HB := hid hb
      have HJ := hid hj
      have hj0 : (0 : Int) ≤ (j : Int) := Int.natCast_nonneg _
      clear hb y1
      have y1 := (HAg.out.keep HB.out).cf.cell 1 _ rfl
      by_cases hjn : j = n
      · have hj1 : ¬ (j : Int) < (n : Int) := by omega
        have HWc : Hid ((l.take j).countP (fun x => hasM bad x) = wildS l bad) := hid (by rw [wild_cnt, hjn, ← HN.out.1, List.take_length])
        rw [HWc.out]
        have HFa : Hid (∀ u : World, Calls Try.prog 15 #[.int .i64 (n : Int)] u fun e w' => e = .returned (.int .i64 (fltZ (n : Int))) ∧ Below u.heap.size u w') := hid (fun u => cfaults_any (n : Int) (by omega) u)
        clear hj hjn
        by_cases hwf : (wildS l bad : Int) ≤ fltZ (l.length : Int)
        · have HWf := hid hwf
          rw [HN.out.1] at hwf
          have hgt : ¬ ((wildS l bad : Int) > fltZ (n : Int)) := by omega
          clear hwf
          generalize (wildS l bad : Int) = WN at hgt ⊢
          generalize fltZ (n : Int) = FN at hgt HFa
          go_wp2_with (first
            | (go_at_call 15; go_must (refine (HFa.out _).mono ?_); rintro e w5 ⟨rfl, hb5⟩; have H5 := hid (HAg.out.keep (HB.out.trans (hb5.mono HB.out.size))); clear hb5 y1))
          have HRun : Hid (SInv ep l 0 (z4P.map Pl.pp)) := hid (z_inv HR.out)
          go_loopw [13, 14] (fun vl kv wr2 => ∃ (kk : Nat) (vx : Value) (said : List Sp) (pa pb : List Pl), kk ≤ 2 ∧ kv = .int .i64 (kk : Int) ∧ vx = vl ∧ AgS w wr2 ep a n cap o1 n1 k1 o2 n2 k2 w3.heap.size ga gb ama cma amb cmb l pa pb vx said ∧ (AInv ep l bad said (pa.map Pl.pp) ∧ AInv ep l bad said (pb.map Pl.pp) ∧ OneS said ∧ SpB said ∧ CtBa (pa.map Pl.pp) ∧ CtBa (pb.map Pl.pp)) ∧ (kk = 0 → said.length = 0) ∧ (kk = 1 → said.length ≤ 1048576)) (fun _ kv _ => ((2 : Int) - intOf kv).toNat)
          case atStart => exact ⟨0, _, [], z4P, z4P, Nat.zero_le _, rfl, rfl, H5.out, ag_start HRun.out, fun _ => rfl, fun e => by cases e⟩
          case round =>
            rename World => wA
            obtain ⟨kk, vl, said, pa, pb, hkk, rfl, rfl, hA, hV, hlen⟩ := hrel
            have HX : Hid (AgS w wA ep a n cap o1 n1 k1 o2 n2 k2 w3.heap.size ga gb ama cma amb cmb l pa pb vl said ∧ (AInv ep l bad said (pa.map Pl.pp) ∧ AInv ep l bad said (pb.map Pl.pp) ∧ OneS said ∧ SpB said ∧ CtBa (pa.map Pl.pp) ∧ CtBa (pb.map Pl.pp)) ∧ (kk = 0 → said.length = 0) ∧ (kk = 1 → said.length ≤ 1048576)) := hid ⟨hA, hV, hlen⟩
            clear hA hV hlen
            have hk0 : (0 : Int) ≤ (kk : Int) := Int.natCast_nonneg _
            by_cases hkn : kk = 2
            · have hk1 : ¬ (kk : Int) < 2 := by omega
              clear hkk hkn
              go_wp2_with fail
              obtain ⟨hva, hvb, hone, _, hca, hcb⟩ := HX.out.2.1
              have HCa : Hid (∀ u : World, LgM u w3.heap.size ga ep ama cma l 0 pa → Calls Try.prog 10 #[.pointer (some ⟨ga, 0, none⟩)] u fun e w' => ∃ a k, e = .returned (.slice a (crtQ (pa.map Pl.pp)).length k) ∧ Reads (fun b => u.heap.size ≤ b) w' (.slice a (crtQ (pa.map Pl.pp)).length k) (dCts (crtQ (pa.map Pl.pp))) ∧ Below u.heap.size u w') := hid (fun u hu => tcerts hu HX.out.2.1.1.1.1)
              have HCb : Hid (∀ u : World, LgM u w3.heap.size gb ep amb cmb l 0 pb → Calls Try.prog 10 #[.pointer (some ⟨gb, 0, none⟩)] u fun e w' => ∃ a k, e = .returned (.slice a (crtQ (pb.map Pl.pp)).length k) ∧ Reads (fun b => u.heap.size ≤ b) w' (.slice a (crtQ (pb.map Pl.pp)).length k) (dCts (crtQ (pb.map Pl.pp))) ∧ Below u.heap.size u w') := hid (fun u hu => tcerts hu HX.out.2.1.2.1.1.1)
              have HSame : Hid (∀ i k, i < (crtQ (pa.map Pl.pp)).length → k < (crtQ (pb.map Pl.pp)).length → ((crtQ (pa.map Pl.pp)).getD i ct0).2.1 = ((crtQ (pb.map Pl.pp)).getD k ct0).2.1 → sameB ((crtQ (pa.map Pl.pp)).getD i ct0).2.2.1 ((crtQ (pb.map Pl.pp)).getD k ct0).2.2.1 = true) := hid (fun i k hi hk hs => ag_req hva hvb hone HWf.out hi hk hs)
              have HBx := hid (And.intro (crt_b hca) (crt_b hcb))
              have hfa := (crt_few HX.out.2.1.1.1.1).1
              have hfb := (crt_few HX.out.2.1.2.1.1.1).1
              clear hva hvb hone hca hcb
              generalize crtQ (pa.map Pl.pp) = CA at HCa HSame HBx hfa
              generalize crtQ (pb.map Pl.pp) = CB at HCb HSame HBx hfb
              obtain ⟨LA, eLA⟩ : ∃ LA, LA = CA.length := ⟨_, rfl⟩
              obtain ⟨LB, eLB⟩ : ∃ LB, LB = CB.length := ⟨_, rfl⟩
              have HL := hid (And.intro eLA eLB)
              rw [← eLA] at HCa hfa
              rw [← eLB] at HCb hfb
              have hfaI : (LA : Int) ≤ 4 := by omega
              have hfbI : (LB : Int) ≤ 4 := by omega
              clear eLA eLB hfa hfb
              go_wp2_with (first
                | (have := H40; go_at_call 10; go_must (refine (HCb.out _ H40.out.1.lb).mono ?_); rintro e w41 ⟨ay, ky, rfl, hr41, hb41⟩; have H41 : Hid (Below w.heap.size w w41 ∧ Reads (fun b => wA.heap.size ≤ b) w41 (.slice ax LA kx) (dCts CA) ∧ Reads (fun b => w40.heap.size ≤ b) w41 (.slice ay LB ky) (dCts CB)) := hid ⟨H40.out.1.bel.trans (hb41.mono H40.out.1.bel.size), H40.out.2.under hb41 (Nat.le_refl _), hr41⟩; clear hr41 hb41)
                | (go_at_call 10; go_must (refine (HCa.out _ HX.out.1.la).mono ?_); rintro e w40 ⟨ax, kx, rfl, hr40, hb40⟩; have H40 : Hid (AgS w w40 ep a n cap o1 n1 k1 o2 n2 k2 w3.heap.size ga gb ama cma amb cmb l pa pb vl said ∧ Reads (fun b => wA.heap.size ≤ b) w40 (.slice ax LA kx) (dCts CA)) := hid ⟨HX.out.1.keep hb40, hr40⟩; clear hr40 hb40))
              go_loopw [21] (fun iv wr4 => ∃ i : Nat, i ≤ LA ∧ iv = .int .i64 (i : Int) ∧ Below w41.heap.size w41 wr4) (fun iv _ => ((LA : Int) - intOf iv).toNat)
              case atStart => exact ⟨0, Nat.zero_le _, rfl, Below.refl _ _⟩
              case round =>
                rename World => wC
                obtain ⟨i, hi, rfl, hb4⟩ := hrel
                have HB4 := hid hb4
                have hi0 : (0 : Int) ≤ (i : Int) := Int.natCast_nonneg _
                have hiw : IntKind.i64.wrap ((i : Int) + 1) = (i : Int) + 1 := wrap_s (by omega) (by omega)
                by_cases hiA : i = LA
                · have hi1 : ¬ (i : Int) < (LA : Int) := by omega
                  clear hi hiA hb4
                  go_wp2
                  go_ret
                  exact ⟨rfl, H41.out.1.trans (HB4.out.mono H41.out.1.size)⟩
                · have hi1 : (i : Int) < (LA : Int) := by omega
                  have HIa : Hid (i < LA) := hid (by omega)
                  obtain ⟨gx, ox, cx, ax2, kx2, hvx, _, hgx, hcx⟩ := ct_at H41.out.2.1 i (by rw [← HL.out.1]; exact HIa.out)
                  rw [← HL.out.1] at hvx
                  cases hvx
                  clear hi hiA hb4
                  go_wp2_with fail
                  go_loopw [22] (fun kv wr5 => ∃ k : Nat, k ≤ LB ∧ kv = .int .i64 (k : Int) ∧ Below w41.heap.size w41 wr5) (fun kv _ => ((LB : Int) - intOf kv).toNat)
                  case atStart => exact ⟨0, Nat.zero_le _, rfl, HB4.out⟩
                  case round =>
                    rename World => wD
                    obtain ⟨k, hk, rfl, hb5⟩ := hrel
                    have HB5 := hid hb5
                    have hq0 : (0 : Int) ≤ (k : Int) := Int.natCast_nonneg _
                    have hqw : IntKind.i64.wrap ((k : Int) + 1) = (k : Int) + 1 := wrap_s (by omega) (by omega)
                    by_cases hkB : k = LB
                    · have hk1 : ¬ (k : Int) < (LB : Int) := by omega
                      clear hk hkB hb5
                      go_wp2
                      go_roundw
                      case rel => exact ⟨i + 1, by have := HIa.out; omega, by go_num, HB5.out⟩
                      case measure => simp [intOf]; omega
                    · have hk1 : (k : Int) < (LB : Int) := by omega
                      have HKb : Hid (k < LB) := hid (by omega)
                      obtain ⟨gy, oy, cy, ay2, ky2, hvy, _, hgy, hcy⟩ := ct_at H41.out.2.2 k (by rw [← HL.out.2]; exact HKb.out)
                      rw [← HL.out.2] at hvy
                      cases hvy
                      have hbx := HBx.out.1 _ (List.mem_of_getElem? (getD_of (l := CA) (i := i) (d := ct0) (by rw [← HL.out.1]; exact HIa.out)))
                      have hby := HBx.out.2 _ (List.mem_of_getElem? (getD_of (l := CB) (i := k) (d := ct0) (by rw [← HL.out.2]; exact HKb.out)))
                      have hsm := HSame.out i k (by rw [← HL.out.1]; exact HIa.out) (by rw [← HL.out.2]; exact HKb.out)
                      have HRg : Hid (∀ u : World, Below w41.heap.size w41 u → AgR u gx (ox + i * 9) (CA.getD i ct0) ∧ AgR u gy (oy + k * 9) (CB.getD k ct0)) := hid (fun u hu => ⟨agr_of (fun q v hq => (hu.cell (p := ⟨gx, ox + i * 9 + q, none⟩) hgx).trans (hcx q v hq)), agr_of (fun q v hq => (hu.cell (p := ⟨gy, oy + k * 9 + q, none⟩) hgy).trans (hcy q v hq))⟩)
                      generalize CA.getD i ct0 = X at hbx hsm HRg
                      generalize CB.getD k ct0 = Y at hby hsm HRg
                      have HQS : Hid (sameB X.2.2.1 Y.2.2.1 = true → ∀ u : World, Calls Try.prog 18 #[.agg #[.int .i64 X.2.2.1.c, .int .i64 X.2.2.1.st, .int .i64 X.2.2.1.k, .string X.2.2.1.key, .float .f64 X.2.2.1.b, .int .i64 X.2.2.1.id], .agg #[.int .i64 Y.2.2.1.c, .int .i64 Y.2.2.1.st, .int .i64 Y.2.2.1.k, .string Y.2.2.1.key, .float .f64 Y.2.2.1.b, .int .i64 Y.2.2.1.id]] u fun e w' => e = .returned (.bool true) ∧ Below u.heap.size u w') := hid (fun hh u => by have := qsame_any X.2.2.1 Y.2.2.1 hbx hby u; rw [hh] at this; exact this)
                      clear hk hkB hb5 hgy hcy hbx hby
                      go_wp2_with fail
                      by_cases hsl : X.2.1 = Y.2.1
                      · have hbe : (X.2.1 == Y.2.1) = true := by simpa using hsl
                        have HQ2 := hid (HQS.out (hsm hsl))
                        clear hsl hsm
                        obtain ⟨wd, ed⟩ : ∃ u, u = wD.drew := ⟨_, rfl⟩
                        have HBd : Hid (Below w41.heap.size w41 wd) := hid (by rw [ed]; exact HB5.out.drew)
                        have HS : Hid (AgR wd gx (ox + i * 9) X ∧ AgR wd gy (oy + k * 9) Y) := hid (HRg.out _ HBd.out)
                        refine wp_region_G (S := fun ww => AgR ww gx (ox + i * 9) X ∧ AgR ww gy (oy + k * 9) Y) (ex := []) (by kernel_rfl) ?_
                        try (change wpAnyG _ _ _ _ _ _ _ _ _ (World.drew _))
                        try rw [← ed]
                        clear ed
                        refine wpAnyG_take (i := 0) (v := ?v2001) rfl (by kernel_rfl) (fun _ _ _ h => h) (Or.inl ⟨by rfl, ?hy2001⟩) HS.out ?rest2001
                        case hy2001 => (intro ww _; go_simp; try with_reducible rfl)
                        go_simp
                        refine wpAnyG_take (i := 1) (v := ?v2002) rfl (by kernel_rfl) (fun _ _ _ h => h) (Or.inl ⟨by rfl, ?hy2002⟩) HS.out ?rest2002
                        case hy2002 => (intro ww _; go_simp; try with_reducible rfl)
                        go_simp
                        refine wpAnyG_take (i := 2) (v := ?v2003) rfl (by kernel_rfl) (fun _ _ _ h => h) (Or.inl ⟨by rfl, ?hy2003⟩) HS.out ?rest2003
                        case hy2003 => (intro ww _; go_simp; try with_reducible rfl)
                        go_simp
                        refine wpAnyG_take (i := 3) (v := ?v2004) rfl (by kernel_rfl) (fun _ _ _ h => h) (Or.inl ⟨by rfl, ?hy2004⟩) HS.out ?rest2004
                        case hy2004 => (intro ww _; go_simp; try with_reducible rfl)
                        go_simp
                        refine wpAnyG_take (i := 4) (v := ?v2005) rfl (by kernel_rfl) (fun _ _ _ h => h) (Or.inl ⟨by rfl, ?hy2005⟩) HS.out ?rest2005
                        case hy2005 => (intro ww hS; have z1 := hS.1.sl; go_simp; try with_reducible rfl)
                        go_simp
                        refine wpAnyG_take (i := 5) (v := ?v2006) rfl (by kernel_rfl) (fun _ _ _ h => h) (Or.inl ⟨by rfl, ?hy2006⟩) HS.out ?rest2006
                        case hy2006 => (intro ww _; go_simp; try with_reducible rfl)
                        go_simp
                        refine wpAnyG_take (i := 6) (v := ?v2007) rfl (by kernel_rfl) (fun _ _ _ h => h) (Or.inl ⟨by rfl, ?hy2007⟩) HS.out ?rest2007
                        case hy2007 => (intro ww _; go_simp; try with_reducible rfl)
                        go_simp
                        refine wpAnyG_take (i := 7) (v := ?v2008) rfl (by kernel_rfl) (fun _ _ _ h => h) (Or.inl ⟨by rfl, ?hy2008⟩) HS.out ?rest2008
                        case hy2008 => (intro ww _; go_simp; try with_reducible rfl)
                        go_simp
                        refine wpAnyG_take (i := 8) (v := ?v2009) rfl (by kernel_rfl) (fun _ _ _ h => h) (Or.inl ⟨by rfl, ?hy2009⟩) HS.out ?rest2009
                        case hy2009 => (intro ww _; go_simp; try with_reducible rfl)
                        go_simp
                        refine wpAnyG_take (i := 9) (v := ?v2010) rfl (by kernel_rfl) (fun _ _ _ h => h) (Or.inl ⟨by rfl, ?hy2010⟩) HS.out ?rest2010
                        case hy2010 => (intro ww hS; have z2 := hS.2.sl; go_simp; try with_reducible rfl)
                        go_simp
                        refine wpAnyG_take (i := 10) (v := ?v2011) rfl (by kernel_rfl) (fun _ _ _ h => h) (Or.inl ⟨by rfl, ?hy2011⟩) HS.out ?rest2011
                        case hy2011 => (intro ww _; go_simp; try with_reducible rfl)
                        go_simp
                        refine wpAnyG_take (i := 11) (v := ?v2012) rfl (by kernel_rfl) (fun _ _ _ h => h) (Or.inl ⟨by rfl, ?hy2012⟩) HS.out ?rest2012
                        case hy2012 => (intro ww _; go_simp; try with_reducible rfl)
                        go_simp
                        refine wpAnyG_take (i := 12) (v := ?v2013) rfl (by kernel_rfl) (fun _ _ _ h => h) (Or.inl ⟨by rfl, ?hy2013⟩) HS.out ?rest2013
                        case hy2013 => (intro ww _; go_simp; try with_reducible rfl)
                        go_simp
                        refine wpAnyG_take (i := 13) (v := ?v2014) rfl (by kernel_rfl) (fun _ _ _ h => h) (Or.inl ⟨by rfl, ?hy2014⟩) HS.out ?rest2014
                        case hy2014 => (intro ww _; go_simp; try with_reducible rfl)
                        go_simp
                        refine wpAnyG_take (i := 14) (v := ?v2015) rfl (by kernel_rfl) (fun _ _ _ h => h) (Or.inl ⟨by rfl, ?hy2015⟩) HS.out ?rest2015
                        case hy2015 => (intro ww _; go_simp; try with_reducible rfl)
                        go_simp
                        refine wpAnyG_take (i := 15) (v := ?v2016) rfl (by kernel_rfl) (fun _ _ _ h => h) (Or.inl ⟨by rfl, ?hy2016⟩) HS.out ?rest2016
                        case hy2016 => (intro ww _; go_simp; try with_reducible rfl)
                        go_simp
                        refine wpAnyG_take (i := 16) (v := .agg #[.int .i64 X.2.2.1.c, .int .i64 X.2.2.1.st, .int .i64 X.2.2.1.k, .string X.2.2.1.key, .float .f64 X.2.2.1.b, .int .i64 X.2.2.1.id]) rfl (by kernel_rfl) (fun _ _ _ h => h) (yieldsIf_load_mid (by rfl) 43 _ rfl gx (ox + i * 9 + 2) (by first | rfl | (simp [Act.eval]; done)) [.int .i64 X.2.2.1.c, .int .i64 X.2.2.1.st, .int .i64 X.2.2.1.k, .string X.2.2.1.key, .float .f64 X.2.2.1.b, .int .i64 X.2.2.1.id] _ (fun _ hS => hS.1.rq) Try.underlying43 rfl (by kernel_rfl)) HS.out ?rest98
                        go_simp
                        refine wpAnyG_take (i := 17) (v := ?v2017) rfl (by kernel_rfl) (fun _ _ _ h => h) (Or.inl ⟨by rfl, ?hy2017⟩) HS.out ?rest2017
                        case hy2017 => (intro ww _; go_simp; try with_reducible rfl)
                        go_simp
                        refine wpAnyG_take (i := 18) (v := ?v2018) rfl (by kernel_rfl) (fun _ _ _ h => h) (Or.inl ⟨by rfl, ?hy2018⟩) HS.out ?rest2018
                        case hy2018 => (intro ww _; go_simp; try with_reducible rfl)
                        go_simp
                        refine wpAnyG_take (i := 19) (v := ?v2019) rfl (by kernel_rfl) (fun _ _ _ h => h) (Or.inl ⟨by rfl, ?hy2019⟩) HS.out ?rest2019
                        case hy2019 => (intro ww _; go_simp; try with_reducible rfl)
                        go_simp
                        refine wpAnyG_take (i := 20) (v := ?v2020) rfl (by kernel_rfl) (fun _ _ _ h => h) (Or.inl ⟨by rfl, ?hy2020⟩) HS.out ?rest2020
                        case hy2020 => (intro ww _; go_simp; try with_reducible rfl)
                        go_simp
                        refine wpAnyG_take (i := 21) (v := .agg #[.int .i64 Y.2.2.1.c, .int .i64 Y.2.2.1.st, .int .i64 Y.2.2.1.k, .string Y.2.2.1.key, .float .f64 Y.2.2.1.b, .int .i64 Y.2.2.1.id]) rfl (by kernel_rfl) (fun _ _ _ h => h) (yieldsIf_load_mid (by rfl) 43 _ rfl gy (oy + k * 9 + 2) (by first | rfl | (simp [Act.eval]; done)) [.int .i64 Y.2.2.1.c, .int .i64 Y.2.2.1.st, .int .i64 Y.2.2.1.k, .string Y.2.2.1.key, .float .f64 Y.2.2.1.b, .int .i64 Y.2.2.1.id] _ (fun _ hS => hS.2.rq) Try.underlying43 rfl (by kernel_rfl)) HS.out ?rest99
                        go_simp
                        refine wpAnyG_all (rs := [22]) (by kernel_rfl) (by simp) ?_
                        intro i hi
                        obtain rfl := List.mem_singleton.1 hi
                        clear hi
                        refine wpOp_s rfl (by rfl) (fun K hK => ?_)
                        go_simp
                        refine (HQ2.out _).mono ?_
                        rintro e w50 ⟨rfl, hb50⟩
                        have H50 : Hid (Below w41.heap.size w41 w50) := hid (HBd.out.trans (hb50.mono HBd.out.size))
                        have HS5 : Hid (AgR w50 gx (ox + i * 9) X ∧ AgR w50 gy (oy + k * 9) Y) := hid (HRg.out _ H50.out)
                        clear hb50
                        refine hK _ _ ⟨fun _ => HS5.out, ?_⟩
                        clear hK K
                        go_simp
                        refine wpAnyG_take (i := 23) (v := ?v2021) rfl (by kernel_rfl) (fun _ _ _ h => h) (Or.inl ⟨by rfl, ?hy2021⟩) HS5.out ?rest2021
                        case hy2021 => (intro ww _; go_simp; try with_reducible rfl)
                        go_simp
                        refine wpAnyG_take (i := 24) (v := ?v2022) rfl (by kernel_rfl) (fun _ _ _ h => h) (Or.inl ⟨by rfl, ?hy2022⟩) HS5.out ?rest2022
                        case hy2022 => (intro ww _; go_simp; try with_reducible rfl)
                        go_simp
                        refine wpAnyG_done (by kernel_rfl) ?_ _
                        go_simp
                        go_wp2
                        go_roundw
                        case rel => exact ⟨k + 1, by have := HKb.out; omega, by go_num, H50.out⟩
                        case measure => simp [intOf]; omega
                      · have hbe : (X.2.1 == Y.2.1) = false := by simpa using hsl
                        clear hsl hsm
                        obtain ⟨wd, ed⟩ : ∃ u, u = wD.drew := ⟨_, rfl⟩
                        have HBd : Hid (Below w41.heap.size w41 wd) := hid (by rw [ed]; exact HB5.out.drew)
                        have HS : Hid (AgR wd gx (ox + i * 9) X ∧ AgR wd gy (oy + k * 9) Y) := hid (HRg.out _ HBd.out)
                        refine wp_region_G (S := fun ww => AgR ww gx (ox + i * 9) X ∧ AgR ww gy (oy + k * 9) Y) (ex := []) (by kernel_rfl) ?_
                        try (change wpAnyG _ _ _ _ _ _ _ _ _ (World.drew _))
                        try rw [← ed]
                        clear ed
                        refine wpAnyG_take (i := 0) (v := ?v3001) rfl (by kernel_rfl) (fun _ _ _ h => h) (Or.inl ⟨by rfl, ?hy3001⟩) HS.out ?rest3001
                        case hy3001 => (intro ww _; go_simp; try with_reducible rfl)
                        go_simp
                        refine wpAnyG_take (i := 1) (v := ?v3002) rfl (by kernel_rfl) (fun _ _ _ h => h) (Or.inl ⟨by rfl, ?hy3002⟩) HS.out ?rest3002
                        case hy3002 => (intro ww _; go_simp; try with_reducible rfl)
                        go_simp
                        refine wpAnyG_take (i := 2) (v := ?v3003) rfl (by kernel_rfl) (fun _ _ _ h => h) (Or.inl ⟨by rfl, ?hy3003⟩) HS.out ?rest3003
                        case hy3003 => (intro ww _; go_simp; try with_reducible rfl)
                        go_simp
                        refine wpAnyG_take (i := 3) (v := ?v3004) rfl (by kernel_rfl) (fun _ _ _ h => h) (Or.inl ⟨by rfl, ?hy3004⟩) HS.out ?rest3004
                        case hy3004 => (intro ww _; go_simp; try with_reducible rfl)
                        go_simp
                        refine wpAnyG_take (i := 4) (v := ?v3005) rfl (by kernel_rfl) (fun _ _ _ h => h) (Or.inl ⟨by rfl, ?hy3005⟩) HS.out ?rest3005
                        case hy3005 => (intro ww hS; have z1 := hS.1.sl; go_simp; try with_reducible rfl)
                        go_simp
                        refine wpAnyG_take (i := 5) (v := ?v3006) rfl (by kernel_rfl) (fun _ _ _ h => h) (Or.inl ⟨by rfl, ?hy3006⟩) HS.out ?rest3006
                        case hy3006 => (intro ww _; go_simp; try with_reducible rfl)
                        go_simp
                        refine wpAnyG_take (i := 6) (v := ?v3007) rfl (by kernel_rfl) (fun _ _ _ h => h) (Or.inl ⟨by rfl, ?hy3007⟩) HS.out ?rest3007
                        case hy3007 => (intro ww _; go_simp; try with_reducible rfl)
                        go_simp
                        refine wpAnyG_take (i := 7) (v := ?v3008) rfl (by kernel_rfl) (fun _ _ _ h => h) (Or.inl ⟨by rfl, ?hy3008⟩) HS.out ?rest3008
                        case hy3008 => (intro ww _; go_simp; try with_reducible rfl)
                        go_simp
                        refine wpAnyG_take (i := 8) (v := ?v3009) rfl (by kernel_rfl) (fun _ _ _ h => h) (Or.inl ⟨by rfl, ?hy3009⟩) HS.out ?rest3009
                        case hy3009 => (intro ww _; go_simp; try with_reducible rfl)
                        go_simp
                        refine wpAnyG_take (i := 9) (v := ?v3010) rfl (by kernel_rfl) (fun _ _ _ h => h) (Or.inl ⟨by rfl, ?hy3010⟩) HS.out ?rest3010
                        case hy3010 => (intro ww hS; have z2 := hS.2.sl; go_simp; try with_reducible rfl)
                        go_simp
                        refine wpAnyG_take (i := 10) (v := ?v3011) rfl (by kernel_rfl) (fun _ _ _ h => h) (Or.inl ⟨by rfl, ?hy3011⟩) HS.out ?rest3011
                        case hy3011 => (intro ww _; go_simp; try with_reducible rfl)
                        go_simp
                        refine wpAnyG_take (i := 11) (v := ?v3012) rfl (by kernel_rfl) (fun _ _ _ h => h) (Or.inl ⟨by rfl, ?hy3012⟩) HS.out ?rest3012
                        case hy3012 => (intro ww _; go_simp; try with_reducible rfl)
                        go_simp
                        refine wpAnyG_take (i := 12) (v := undef) rfl (by kernel_rfl) (fun _ _ _ h => h) (Or.inr ⟨by rfl, rfl⟩) HS.out ?rest3013
                        go_simp
                        refine wpAnyG_take (i := 13) (v := undef) rfl (by kernel_rfl) (fun _ _ _ h => h) (Or.inr ⟨by rfl, rfl⟩) HS.out ?rest3014
                        go_simp
                        refine wpAnyG_take (i := 14) (v := undef) rfl (by kernel_rfl) (fun _ _ _ h => h) (Or.inr ⟨by rfl, rfl⟩) HS.out ?rest3015
                        go_simp
                        refine wpAnyG_take (i := 15) (v := undef) rfl (by kernel_rfl) (fun _ _ _ h => h) (Or.inr ⟨by rfl, rfl⟩) HS.out ?rest3016
                        go_simp
                        refine wpAnyG_take (i := 16) (v := undef) rfl (by kernel_rfl) (fun _ _ _ h => h) (Or.inr ⟨by rfl, rfl⟩) HS.out ?rest3017
                        go_simp
                        refine wpAnyG_take (i := 17) (v := undef) rfl (by kernel_rfl) (fun _ _ _ h => h) (Or.inr ⟨by rfl, rfl⟩) HS.out ?rest3018
                        go_simp
                        refine wpAnyG_take (i := 18) (v := undef) rfl (by kernel_rfl) (fun _ _ _ h => h) (Or.inr ⟨by rfl, rfl⟩) HS.out ?rest3019
                        go_simp
                        refine wpAnyG_take (i := 19) (v := undef) rfl (by kernel_rfl) (fun _ _ _ h => h) (Or.inr ⟨by rfl, rfl⟩) HS.out ?rest3020
                        go_simp
                        refine wpAnyG_take (i := 20) (v := undef) rfl (by kernel_rfl) (fun _ _ _ h => h) (Or.inr ⟨by rfl, rfl⟩) HS.out ?rest3021
                        go_simp
                        refine wpAnyG_take (i := 21) (v := undef) rfl (by kernel_rfl) (fun _ _ _ h => h) (Or.inr ⟨by rfl, rfl⟩) HS.out ?rest3022
                        go_simp
                        refine wpAnyG_take (i := 22) (v := undef) rfl (by kernel_rfl) (fun _ _ _ h => h) (Or.inr ⟨by rfl, rfl⟩) HS.out ?rest3023
                        go_simp
                        refine wpAnyG_take (i := 23) (v := undef) rfl (by kernel_rfl) (fun _ _ _ h => h) (Or.inr ⟨by rfl, rfl⟩) HS.out ?rest3024
                        go_simp
                        refine wpAnyG_take (i := 24) (v := ?v3025) rfl (by kernel_rfl) (fun _ _ _ h => h) (Or.inl ⟨by rfl, ?hy3025⟩) HS.out ?rest3025
                        case hy3025 => (intro ww _; go_simp; try with_reducible rfl)
                        go_simp
                        refine wpAnyG_done (by kernel_rfl) ?_ _
                        go_simp
                        go_wp2
                        go_roundw
                        case rel => exact ⟨k + 1, by have := HKb.out; omega, by go_num, HBd.out⟩
                        case measure => simp [intOf]; omega
            · have hk1 : (kk : Int) < 2 := by omega
              have hkw : IntKind.i64.wrap ((kk : Int) + 1) = (kk : Int) + 1 := wrap_s (by omega) (by omega)
              obtain ⟨ok, nk, kq, osk, hsl, hin, hol, hnk, hob⟩ : ∃ (ok : Option Addr) (nk kq : Nat) (osk : List Sp), ([.slice o1 n1 k1, .slice o2 n2 k2] : List Value)[kk]? = some (.slice ok nk kq) ∧ SpsIn w ok osk ∧ osk.length = nk ∧ nk ≤ 1048576 ∧ ∀ o, o ∈ osk → spOk o := by
                match kk, hkk, hkn with
                | 0, _, _ => exact ⟨o1, n1, k1, os1, rfl, (HIu.out w (Below.refl _ _)).2.2.1, HSp.out.1, HSp.out.2.2.2.2.1, HSp.out.2.2.1⟩
                | 1, _, _ => exact ⟨o2, n2, k2, os2, rfl, (HIu.out w (Below.refl _ _)).2.2.2, HSp.out.2.1, HSp.out.2.2.2.2.2, HSp.out.2.2.2.1⟩
              have HK : Hid (kk ≤ 2 ∧ ¬ kk = 2) := hid ⟨hkk, hkn⟩
              have HOs := hid (And.intro hin (And.intro hol (And.intro hnk hob)))
              have HCl : Hid (∀ u, BxAt u (w.heap.size + 1) [.slice o1 n1 k1, .slice o2 n2 k2] 52 → u.cell? ⟨w.heap.size + 1, kk, none⟩ = some (.slice ok nk kq)) := hid (fun u hu => hu.cell kk _ hsl)
              have hnkI : (nk : Int) ≤ 1048576 := by omega
              clear hkk hkn hsl hin hol hnk hob
              go_wp2_with fail
              go_loopw [13, 15] (fun vl iv wr3 => ∃ (i : Nat) (vx : Value) (said : List Sp) (pa pb : List Pl), i ≤ nk ∧ iv = .int .i64 (i : Int) ∧ vx = vl ∧ AgS w wr3 ep a n cap o1 n1 k1 o2 n2 k2 w3.heap.size ga gb ama cma amb cmb l pa pb vx said ∧ (AInv ep l bad said (pa.map Pl.pp) ∧ AInv ep l bad said (pb.map Pl.pp) ∧ OneS said ∧ SpB said ∧ CtBa (pa.map Pl.pp) ∧ CtBa (pb.map Pl.pp)) ∧ (kk = 0 → said.length ≤ i) ∧ (kk = 1 → said.length ≤ 1048576 + i)) (fun _ iv _ => ((nk : Int) - intOf iv).toNat)
              case atStart => exact ⟨0, _, said, pa, pb, Nat.zero_le _, rfl, rfl, HX.out.1, HX.out.2.1, fun e => (by have := HX.out.2.2.1 e; omega), fun e => (by have := HX.out.2.2.2 e; omega)⟩
              case round =>
                clear HX
                rename World => wB
                obtain ⟨i, vl, said, pa, pb, hi, rfl, rfl, hA, hV, hlen⟩ := hrel
                have HX : Hid (AgS w wB ep a n cap o1 n1 k1 o2 n2 k2 w3.heap.size ga gb ama cma amb cmb l pa pb vl said ∧ (AInv ep l bad said (pa.map Pl.pp) ∧ AInv ep l bad said (pb.map Pl.pp) ∧ OneS said ∧ SpB said ∧ CtBa (pa.map Pl.pp) ∧ CtBa (pb.map Pl.pp)) ∧ (kk = 0 → said.length ≤ i) ∧ (kk = 1 → said.length ≤ 1048576 + i)) := hid ⟨hA, hV, hlen⟩
                clear hA hV hlen
                have hi0 : (0 : Int) ≤ (i : Int) := Int.natCast_nonneg _
                have hiw : IntKind.i64.wrap ((i : Int) + 1) = (i : Int) + 1 := wrap_l (by omega) (by omega)
                have zs := HCl.out _ HX.out.1.sc
                by_cases hin : i = nk
                · have hi1 : ¬ (i : Int) < (nk : Int) := by omega
                  have HEq := hid hin
                  clear hi hin
                  go_wp2
                  go_roundw
                  case rel => exact ⟨kk + 1, _, said, pa, pb, by have := HK.out; omega, by go_num, rfl, HX.out.1, HX.out.2.1, fun e => (by omega), fun e => (by have := HX.out.2.2.1 (by omega); have := HOs.out.2.2.1; have := HEq.out; omega)⟩
                  case measure => simp [intOf]; omega
                · have hi1 : (i : Int) < (nk : Int) := by omega
                  have HI := hid (And.intro hi hin)
                  clear hi hin
                  obtain ⟨o, ho⟩ : ∃ o, osk[i]? = some o := ⟨_, List.getElem?_eq_getElem (by have := HOs.out.2.1; have := HI.out; omega)⟩
                  have hob := (HOs.out.2.2.2 o (List.mem_of_getElem? ho)).2
                  obtain ⟨gs, off, rfl, hgs, hcell⟩ : ∃ gs off, ok = some ⟨gs, off, none⟩ ∧ gs < w.heap.size ∧ w.rangeAt gs (off + i * 11) (spC o) := by
                    rcases HOs.out.1 with h0 | ⟨gs, off, h1, h2, h3⟩
                    · rw [h0] at ho; simp at ho
                    · exact ⟨gs, off, h1, h2, fun q u hq => h3 i o ho q u hq⟩
                  have HSc : Hid (∀ u : World, Below w.heap.size w u → u.rangeAt gs (off + i * 11) (spC o)) := hid (fun u hu q x hq => (hu.cell (p := ⟨gs, off + i * 11 + q, none⟩) hgs).trans (hcell q x hq))
                  have HOb := hid hob
                  have HKd : Hid (∀ u : World, Calls Try.prog 16 #[.agg #[.int .i64 o.k, .int .i64 o.fr, .int .i64 o.sl, .int .i64 o.vw, .int .i64 o.a.c, .int .i64 o.a.st, .int .i64 o.a.k, .string o.a.key, .int .u64 (o.a.b : Int), .int .i64 o.a.id, .bool o.wr]] u fun e w' => e = .returned (.int .i64 (o.k % 4)) ∧ Below u.heap.size u w') := hid (fun u => ukind_any o u)
                  have HHs : Hid (∀ u : World, Below w.heap.size w u → Calls Try.prog 14 #[.slice ab nb kb, .int .i64 o.fr] u fun e w' => e = .returned (.bool (hasM bad o.fr)) ∧ Below u.heap.size u w') := hid (fun u hu => uhas14 ab nb kb bad HN.out.2.2.1 HN.out.2.2.2 o.fr u (HIu.out u hu).2.1)
                  clear ho hob hgs hcell
                  by_cases hk4 : o.k % 4 = 0
                  · rw [hk4] at HKd

                    clear hk4
                    go_wp2_with (first
                      | (refine wl_load_at rfl 36 _ rfl gs (off + i * 11) (by first | rfl | (simp [Act.eval]; done)) [.int .i64 o.k, .int .i64 o.fr, .int .i64 o.sl, .int .i64 o.vw, .int .i64 o.a.c, .int .i64 o.a.st, .int .i64 o.a.k, .string o.a.key, .int .u64 (o.a.b : Int), .int .i64 o.a.id, .bool o.wr] (HSc.out _ HX.out.1.bel) _ Try.underlying36 rfl (by kernel_rfl) ?_)
                      | (refine wl_store_blk rfl 36 _ _ rfl wB.heap.size 0 rfl #[.int .i64 o.k, .int .i64 o.fr, .int .i64 o.sl, .int .i64 o.vw, .int .i64 o.a.c, .int .i64 o.a.st, .int .i64 o.a.k, .string o.a.key, .int .u64 (o.a.b : Int), .int .i64 o.a.id, .bool o.wr] rfl [.int .i64 0, .int .i64 0, .int .i64 0, .int .i64 0, .int .i64 0, .int .i64 0, .int .i64 0, .string ⟨#[]⟩, .int .u64 0, .int .i64 0, .bool false] 36 (heap_alloc_last wB _) (by simp) (by kernel_rfl) (by simp [Value.oneCell']) ?_; intro w20 Hz; have H20 : Hid (AgS w w20 ep a n cap o1 n1 k1 o2 n2 k2 w3.heap.size ga gb ama cma amb cmb l pa pb vl said ∧ BxAt w20 wB.heap.size [.int .i64 o.k, .int .i64 o.fr, .int .i64 o.sl, .int .i64 o.vw, .int .i64 o.a.c, .int .i64 o.a.st, .int .i64 o.a.k, .string o.a.key, .int .u64 (o.a.b : Int), .int .i64 o.a.id, .bool o.wr] 36) := hid (by have hb := Hz.out.2.below ((Below.refl wB.heap.size wB).alloc (Nat.le_refl _) _) (Nat.le_refl _); exact ⟨HX.out.1.keep hb, Hz.out.1⟩); clear Hz; have q0 := H20.out.2.cell 0 _ rfl; have q1 := H20.out.2.cell 1 _ rfl; have q2 := H20.out.2.cell 2 _ rfl; have q3 := H20.out.2.cell 3 _ rfl; have q4 := H20.out.2.cell 4 _ rfl; have q5 := H20.out.2.cell 5 _ rfl; have q6 := H20.out.2.cell 6 _ rfl; have q7 := H20.out.2.cell 7 _ rfl; have q8 := H20.out.2.cell 8 _ rfl; have q9 := H20.out.2.cell 9 _ rfl; have q10 := H20.out.2.cell 10 _ rfl)
                      | (go_at_call 16; go_must (refine (HKd.out _).mono ?_); rintro e w21 ⟨rfl, hb21⟩; have H21 : Hid (AgS w w21 ep a n cap o1 n1 k1 o2 n2 k2 w3.heap.size ga gb ama cma amb cmb l pa pb vl said ∧ BxAt w21 wB.heap.size [.int .i64 o.k, .int .i64 o.fr, .int .i64 o.sl, .int .i64 o.vw, .int .i64 o.a.c, .int .i64 o.a.st, .int .i64 o.a.k, .string o.a.key, .int .u64 (o.a.b : Int), .int .i64 o.a.id, .bool o.wr] 36) := hid ⟨H20.out.1.keep hb21, H20.out.2.keep hb21⟩; clear hb21 q0 q1 q2 q3 q4 q5 q6 q7 q8 q9 q10; have q0 := H21.out.2.cell 0 _ rfl; have q1 := H21.out.2.cell 1 _ rfl; have q2 := H21.out.2.cell 2 _ rfl; have q3 := H21.out.2.cell 3 _ rfl; have q4 := H21.out.2.cell 4 _ rfl; have q5 := H21.out.2.cell 5 _ rfl; have q6 := H21.out.2.cell 6 _ rfl; have q7 := H21.out.2.cell 7 _ rfl; have q8 := H21.out.2.cell 8 _ rfl; have q9 := H21.out.2.cell 9 _ rfl; have q10 := H21.out.2.cell 10 _ rfl))
                    go_roundw
                    case rel => exact ⟨i + 1, _, said, pa, pb, by have := HI.out; omega, by go_num, rfl, H21.out.1, HX.out.2.1, fun e => (by have := HX.out.2.2.1 e; omega), fun e => (by have := HX.out.2.2.2 e; omega)⟩
                    case measure => simp [intOf]; omega
                  · have hk40 : (o.k % 4 == 0) = false := beq_eq_false_iff_ne.2 hk4
                    obtain ⟨sd, sc, hvl, _⟩ := HX.out.1.sps
                    subst hvl
                    have HNz := hid hk4
                    obtain ⟨iv, hv0, hvz0, hvz1, hvz2⟩ := info_parts infoOpS
                    have HRoom : Hid (said.length + 1 ≤ maxLen ∧ (said.length + 1) * 96 ≤ 140737488355328) := hid (by
                      have h1 := HX.out.2.2
                      have h2 := HK.out
                      have h3 := HI.out
                      have h4 := HOs.out.2.2.1
                      have : said.length ≤ 2097152 := by
                        by_cases e : kk = 0
                        · have := h1.1 e; omega
                        · have := h1.2 (by omega); omega
                      unfold maxLen
                      omega)
                    by_cases hk2 : o.k % 4 = 2
                    · rw [hk2] at HKd
                      cases hbd : hasM bad o.fr with
                      | true =>
                        rw [hbd] at HHs
                        have HTd : Hid (told1 bad said o = (said, o)) := hid (told_no (fun e => by rw [hbd] at e; cases e.2))
                        clear hk2 hbd hk4 hk40
                        by_cases hkz : kk = 0
                        · have hkb : ((kk : Int) == 0) = true := by rw [hkz]; rfl
                          have hnx := ag_next (hV := HX.out.2.1) HNz.out (HTd.out) HOb.out
                          have HNx := hid hnx
                          have HKz := hid hkz
                          have HCall : Hid (∀ u : World, LgM u w3.heap.size ga ep ama cma l 0 pa → Calls Try.prog 9 #[.pointer (some ⟨ga, 0, none⟩), .int .i64 ep, .agg #[.int .i64 o.k, .int .i64 o.fr, .int .i64 o.sl, .int .i64 o.vw, .int .i64 o.a.c, .int .i64 o.a.st, .int .i64 o.a.k, .string o.a.key, .int .u64 (o.a.b : Int), .int .i64 o.a.id, .bool o.wr]] u fun e w' => StPost u w' w3.heap.size ga ep ama cma l 0 e (stp ep l 0 (pa.map Pl.pp) o).1 (stp ep l 0 (pa.map Pl.pp) o).2.2 pa) := hid (fun u hu => by
                            have := ucall_any o hnx.1 u hu HX.out.2.1.1.1.1
                            rw [stp_v hnx.2.2.2.2] at this
                            exact this)
                          clear hnx hkz
                          go_wp2_with (first
                            | (have := H22; go_at_call 14; go_must (refine (HHs.out _ H22.out.1.bel).mono ?_); rintro e w23 ⟨rfl, hb23⟩; have H23 : Hid (AgS w w23 ep a n cap o1 n1 k1 o2 n2 k2 w3.heap.size ga gb ama cma amb cmb l pa pb (.slice sd said.length sc) said ∧ BxAt w23 wB.heap.size [.int .i64 o.k, .int .i64 o.fr, .int .i64 o.sl, .int .i64 o.vw, .int .i64 o.a.c, .int .i64 o.a.st, .int .i64 o.a.k, .string o.a.key, .int .u64 (o.a.b : Int), .int .i64 o.a.id, .bool o.wr] 36) := hid ⟨H22.out.1.keep hb23, H22.out.2.keep hb23⟩; clear hb23 q0 q1 q2 q3 q4 q5 q6 q7 q8 q9 q10; have q0 := H23.out.2.cell 0 _ rfl; have q1 := H23.out.2.cell 1 _ rfl; have q2 := H23.out.2.cell 2 _ rfl; have q3 := H23.out.2.cell 3 _ rfl; have q4 := H23.out.2.cell 4 _ rfl; have q5 := H23.out.2.cell 5 _ rfl; have q6 := H23.out.2.cell 6 _ rfl; have q7 := H23.out.2.cell 7 _ rfl; have q8 := H23.out.2.cell 8 _ rfl; have q9 := H23.out.2.cell 9 _ rfl; have q10 := H23.out.2.cell 10 _ rfl; clear y0; have y0 := H23.out.1.cf.cell 0 _ rfl)
                            | (have := H21; go_at_call 16; go_must (refine (HKd.out _).mono ?_); rintro e w22 ⟨rfl, hb22⟩; have H22 : Hid (AgS w w22 ep a n cap o1 n1 k1 o2 n2 k2 w3.heap.size ga gb ama cma amb cmb l pa pb (.slice sd said.length sc) said ∧ BxAt w22 wB.heap.size [.int .i64 o.k, .int .i64 o.fr, .int .i64 o.sl, .int .i64 o.vw, .int .i64 o.a.c, .int .i64 o.a.st, .int .i64 o.a.k, .string o.a.key, .int .u64 (o.a.b : Int), .int .i64 o.a.id, .bool o.wr] 36) := hid ⟨H21.out.1.keep hb22, H21.out.2.keep hb22⟩; clear hb22 q0 q1 q2 q3 q4 q5 q6 q7 q8 q9 q10; have q0 := H22.out.2.cell 0 _ rfl; have q1 := H22.out.2.cell 1 _ rfl; have q2 := H22.out.2.cell 2 _ rfl; have q3 := H22.out.2.cell 3 _ rfl; have q4 := H22.out.2.cell 4 _ rfl; have q5 := H22.out.2.cell 5 _ rfl; have q6 := H22.out.2.cell 6 _ rfl; have q7 := H22.out.2.cell 7 _ rfl; have q8 := H22.out.2.cell 8 _ rfl; have q9 := H22.out.2.cell 9 _ rfl; have q10 := H22.out.2.cell 10 _ rfl; have y0 := H22.out.1.cf.cell 0 _ rfl)
                            | (go_at_call 16; go_must (refine (HKd.out _).mono ?_); rintro e w21 ⟨rfl, hb21⟩; have H21 : Hid (AgS w w21 ep a n cap o1 n1 k1 o2 n2 k2 w3.heap.size ga gb ama cma amb cmb l pa pb (.slice sd said.length sc) said ∧ BxAt w21 wB.heap.size [.int .i64 o.k, .int .i64 o.fr, .int .i64 o.sl, .int .i64 o.vw, .int .i64 o.a.c, .int .i64 o.a.st, .int .i64 o.a.k, .string o.a.key, .int .u64 (o.a.b : Int), .int .i64 o.a.id, .bool o.wr] 36) := hid ⟨H20.out.1.keep hb21, H20.out.2.keep hb21⟩; clear hb21 q0 q1 q2 q3 q4 q5 q6 q7 q8 q9 q10; have q0 := H21.out.2.cell 0 _ rfl; have q1 := H21.out.2.cell 1 _ rfl; have q2 := H21.out.2.cell 2 _ rfl; have q3 := H21.out.2.cell 3 _ rfl; have q4 := H21.out.2.cell 4 _ rfl; have q5 := H21.out.2.cell 5 _ rfl; have q6 := H21.out.2.cell 6 _ rfl; have q7 := H21.out.2.cell 7 _ rfl; have q8 := H21.out.2.cell 8 _ rfl; have q9 := H21.out.2.cell 9 _ rfl; have q10 := H21.out.2.cell 10 _ rfl)
                            | (refine wl_load_at rfl 36 _ rfl gs (off + i * 11) (by first | rfl | (simp [Act.eval]; done)) [.int .i64 o.k, .int .i64 o.fr, .int .i64 o.sl, .int .i64 o.vw, .int .i64 o.a.c, .int .i64 o.a.st, .int .i64 o.a.k, .string o.a.key, .int .u64 (o.a.b : Int), .int .i64 o.a.id, .bool o.wr] (HSc.out _ HX.out.1.bel) _ Try.underlying36 rfl (by kernel_rfl) ?_)
                            | (refine wl_store_blk rfl 36 _ _ rfl wB.heap.size 0 rfl #[.int .i64 o.k, .int .i64 o.fr, .int .i64 o.sl, .int .i64 o.vw, .int .i64 o.a.c, .int .i64 o.a.st, .int .i64 o.a.k, .string o.a.key, .int .u64 (o.a.b : Int), .int .i64 o.a.id, .bool o.wr] rfl [.int .i64 0, .int .i64 0, .int .i64 0, .int .i64 0, .int .i64 0, .int .i64 0, .int .i64 0, .string ⟨#[]⟩, .int .u64 0, .int .i64 0, .bool false] 36 (heap_alloc_last wB _) (by simp) (by kernel_rfl) (by simp [Value.oneCell']) ?_; intro w20 Hz; have H20 : Hid (AgS w w20 ep a n cap o1 n1 k1 o2 n2 k2 w3.heap.size ga gb ama cma amb cmb l pa pb (.slice sd said.length sc) said ∧ BxAt w20 wB.heap.size [.int .i64 o.k, .int .i64 o.fr, .int .i64 o.sl, .int .i64 o.vw, .int .i64 o.a.c, .int .i64 o.a.st, .int .i64 o.a.k, .string o.a.key, .int .u64 (o.a.b : Int), .int .i64 o.a.id, .bool o.wr] 36) := hid (by have hb := Hz.out.2.below ((Below.refl wB.heap.size wB).alloc (Nat.le_refl _) _) (Nat.le_refl _); exact ⟨HX.out.1.keep hb, Hz.out.1⟩); clear Hz; have q0 := H20.out.2.cell 0 _ rfl; have q1 := H20.out.2.cell 1 _ rfl; have q2 := H20.out.2.cell 2 _ rfl; have q3 := H20.out.2.cell 3 _ rfl; have q4 := H20.out.2.cell 4 _ rfl; have q5 := H20.out.2.cell 5 _ rfl; have q6 := H20.out.2.cell 6 _ rfl; have q7 := H20.out.2.cell 7 _ rfl; have q8 := H20.out.2.cell 8 _ rfl; have q9 := H20.out.2.cell 9 _ rfl; have q10 := H20.out.2.cell 10 _ rfl)
                            | (have := H23; go_at_call 9; go_must (refine (HCall.out _ H23.out.1.la).mono ?_); rintro e w30 hp30; obtain ⟨p3, rfl, hq1, hq2, hq3, hq4⟩ := hp30; have H30 : Hid (AgS w w30 ep a n cap o1 n1 k1 o2 n2 k2 w3.heap.size ga gb ama cma amb cmb l p3 pb _ said ∧ p3.map Pl.pp = (stp ep l 0 (pa.map Pl.pp) o).2.2) := hid ⟨H23.out.1.hearA hq1 hq3 hq4, hq2⟩; clear hq1 hq2 hq3 hq4 q0 q1 q2 q3 q4 q5 q6 q7 q8 q9 q10 y0))
                          go_roundw
                          case rel => exact ⟨i + 1, _, said, p3, pb, by have := HI.out; omega, by go_num, rfl, H30.out.1, by rw [H30.out.2]; exact HNx.out.2.1, fun e => (by have := HNx.out.2.2.2.1; have := HX.out.2.2.1 e; omega), fun e => (by have := HNx.out.2.2.2.1; have := HX.out.2.2.2 e; omega)⟩
                          case measure => simp [intOf]; omega
                        · have hkb : ((kk : Int) == 0) = false := beq_eq_false_iff_ne.2 (by omega)
                          have hnx := ag_next (hV := HX.out.2.1) HNz.out (HTd.out) HOb.out
                          have HNx := hid hnx
                          have HKz := hid hkz
                          have HCall : Hid (∀ u : World, LgM u w3.heap.size gb ep amb cmb l 0 pb → Calls Try.prog 9 #[.pointer (some ⟨gb, 0, none⟩), .int .i64 ep, .agg #[.int .i64 o.k, .int .i64 o.fr, .int .i64 o.sl, .int .i64 o.vw, .int .i64 o.a.c, .int .i64 o.a.st, .int .i64 o.a.k, .string o.a.key, .int .u64 (o.a.b : Int), .int .i64 o.a.id, .bool o.wr]] u fun e w' => StPost u w' w3.heap.size gb ep amb cmb l 0 e (stp ep l 0 (pb.map Pl.pp) o).1 (stp ep l 0 (pb.map Pl.pp) o).2.2 pb) := hid (fun u hu => by
                            have := ucall_any o hnx.1 u hu HX.out.2.1.2.1.1.1
                            rw [stp_v hnx.2.2.2.2] at this
                            exact this)
                          clear hnx hkz
                          go_wp2_with (first
                            | (have := H22; go_at_call 14; go_must (refine (HHs.out _ H22.out.1.bel).mono ?_); rintro e w23 ⟨rfl, hb23⟩; have H23 : Hid (AgS w w23 ep a n cap o1 n1 k1 o2 n2 k2 w3.heap.size ga gb ama cma amb cmb l pa pb (.slice sd said.length sc) said ∧ BxAt w23 wB.heap.size [.int .i64 o.k, .int .i64 o.fr, .int .i64 o.sl, .int .i64 o.vw, .int .i64 o.a.c, .int .i64 o.a.st, .int .i64 o.a.k, .string o.a.key, .int .u64 (o.a.b : Int), .int .i64 o.a.id, .bool o.wr] 36) := hid ⟨H22.out.1.keep hb23, H22.out.2.keep hb23⟩; clear hb23 q0 q1 q2 q3 q4 q5 q6 q7 q8 q9 q10; have q0 := H23.out.2.cell 0 _ rfl; have q1 := H23.out.2.cell 1 _ rfl; have q2 := H23.out.2.cell 2 _ rfl; have q3 := H23.out.2.cell 3 _ rfl; have q4 := H23.out.2.cell 4 _ rfl; have q5 := H23.out.2.cell 5 _ rfl; have q6 := H23.out.2.cell 6 _ rfl; have q7 := H23.out.2.cell 7 _ rfl; have q8 := H23.out.2.cell 8 _ rfl; have q9 := H23.out.2.cell 9 _ rfl; have q10 := H23.out.2.cell 10 _ rfl; clear y0; have y0 := H23.out.1.cf.cell 0 _ rfl)
                            | (have := H21; go_at_call 16; go_must (refine (HKd.out _).mono ?_); rintro e w22 ⟨rfl, hb22⟩; have H22 : Hid (AgS w w22 ep a n cap o1 n1 k1 o2 n2 k2 w3.heap.size ga gb ama cma amb cmb l pa pb (.slice sd said.length sc) said ∧ BxAt w22 wB.heap.size [.int .i64 o.k, .int .i64 o.fr, .int .i64 o.sl, .int .i64 o.vw, .int .i64 o.a.c, .int .i64 o.a.st, .int .i64 o.a.k, .string o.a.key, .int .u64 (o.a.b : Int), .int .i64 o.a.id, .bool o.wr] 36) := hid ⟨H21.out.1.keep hb22, H21.out.2.keep hb22⟩; clear hb22 q0 q1 q2 q3 q4 q5 q6 q7 q8 q9 q10; have q0 := H22.out.2.cell 0 _ rfl; have q1 := H22.out.2.cell 1 _ rfl; have q2 := H22.out.2.cell 2 _ rfl; have q3 := H22.out.2.cell 3 _ rfl; have q4 := H22.out.2.cell 4 _ rfl; have q5 := H22.out.2.cell 5 _ rfl; have q6 := H22.out.2.cell 6 _ rfl; have q7 := H22.out.2.cell 7 _ rfl; have q8 := H22.out.2.cell 8 _ rfl; have q9 := H22.out.2.cell 9 _ rfl; have q10 := H22.out.2.cell 10 _ rfl; have y0 := H22.out.1.cf.cell 0 _ rfl)
                            | (go_at_call 16; go_must (refine (HKd.out _).mono ?_); rintro e w21 ⟨rfl, hb21⟩; have H21 : Hid (AgS w w21 ep a n cap o1 n1 k1 o2 n2 k2 w3.heap.size ga gb ama cma amb cmb l pa pb (.slice sd said.length sc) said ∧ BxAt w21 wB.heap.size [.int .i64 o.k, .int .i64 o.fr, .int .i64 o.sl, .int .i64 o.vw, .int .i64 o.a.c, .int .i64 o.a.st, .int .i64 o.a.k, .string o.a.key, .int .u64 (o.a.b : Int), .int .i64 o.a.id, .bool o.wr] 36) := hid ⟨H20.out.1.keep hb21, H20.out.2.keep hb21⟩; clear hb21 q0 q1 q2 q3 q4 q5 q6 q7 q8 q9 q10; have q0 := H21.out.2.cell 0 _ rfl; have q1 := H21.out.2.cell 1 _ rfl; have q2 := H21.out.2.cell 2 _ rfl; have q3 := H21.out.2.cell 3 _ rfl; have q4 := H21.out.2.cell 4 _ rfl; have q5 := H21.out.2.cell 5 _ rfl; have q6 := H21.out.2.cell 6 _ rfl; have q7 := H21.out.2.cell 7 _ rfl; have q8 := H21.out.2.cell 8 _ rfl; have q9 := H21.out.2.cell 9 _ rfl; have q10 := H21.out.2.cell 10 _ rfl)
                            | (refine wl_load_at rfl 36 _ rfl gs (off + i * 11) (by first | rfl | (simp [Act.eval]; done)) [.int .i64 o.k, .int .i64 o.fr, .int .i64 o.sl, .int .i64 o.vw, .int .i64 o.a.c, .int .i64 o.a.st, .int .i64 o.a.k, .string o.a.key, .int .u64 (o.a.b : Int), .int .i64 o.a.id, .bool o.wr] (HSc.out _ HX.out.1.bel) _ Try.underlying36 rfl (by kernel_rfl) ?_)
                            | (refine wl_store_blk rfl 36 _ _ rfl wB.heap.size 0 rfl #[.int .i64 o.k, .int .i64 o.fr, .int .i64 o.sl, .int .i64 o.vw, .int .i64 o.a.c, .int .i64 o.a.st, .int .i64 o.a.k, .string o.a.key, .int .u64 (o.a.b : Int), .int .i64 o.a.id, .bool o.wr] rfl [.int .i64 0, .int .i64 0, .int .i64 0, .int .i64 0, .int .i64 0, .int .i64 0, .int .i64 0, .string ⟨#[]⟩, .int .u64 0, .int .i64 0, .bool false] 36 (heap_alloc_last wB _) (by simp) (by kernel_rfl) (by simp [Value.oneCell']) ?_; intro w20 Hz; have H20 : Hid (AgS w w20 ep a n cap o1 n1 k1 o2 n2 k2 w3.heap.size ga gb ama cma amb cmb l pa pb (.slice sd said.length sc) said ∧ BxAt w20 wB.heap.size [.int .i64 o.k, .int .i64 o.fr, .int .i64 o.sl, .int .i64 o.vw, .int .i64 o.a.c, .int .i64 o.a.st, .int .i64 o.a.k, .string o.a.key, .int .u64 (o.a.b : Int), .int .i64 o.a.id, .bool o.wr] 36) := hid (by have hb := Hz.out.2.below ((Below.refl wB.heap.size wB).alloc (Nat.le_refl _) _) (Nat.le_refl _); exact ⟨HX.out.1.keep hb, Hz.out.1⟩); clear Hz; have q0 := H20.out.2.cell 0 _ rfl; have q1 := H20.out.2.cell 1 _ rfl; have q2 := H20.out.2.cell 2 _ rfl; have q3 := H20.out.2.cell 3 _ rfl; have q4 := H20.out.2.cell 4 _ rfl; have q5 := H20.out.2.cell 5 _ rfl; have q6 := H20.out.2.cell 6 _ rfl; have q7 := H20.out.2.cell 7 _ rfl; have q8 := H20.out.2.cell 8 _ rfl; have q9 := H20.out.2.cell 9 _ rfl; have q10 := H20.out.2.cell 10 _ rfl)
                            | (have := H23; go_at_call 9; go_must (refine (HCall.out _ H23.out.1.lb).mono ?_); rintro e w30 hp30; obtain ⟨p3, rfl, hq1, hq2, hq3, hq4⟩ := hp30; have H30 : Hid (AgS w w30 ep a n cap o1 n1 k1 o2 n2 k2 w3.heap.size ga gb ama cma amb cmb l pa p3 _ said ∧ p3.map Pl.pp = (stp ep l 0 (pb.map Pl.pp) o).2.2) := hid ⟨H23.out.1.hearB hq1 hq3 hq4, hq2⟩; clear hq1 hq2 hq3 hq4 q0 q1 q2 q3 q4 q5 q6 q7 q8 q9 q10 y0))
                          go_roundw
                          case rel => exact ⟨i + 1, _, said, pa, p3, by have := HI.out; omega, by go_num, rfl, H30.out.1, by rw [H30.out.2]; exact HNx.out.2.2.1, fun e => (by have := HNx.out.2.2.2.1; have := HX.out.2.2.1 e; omega), fun e => (by have := HNx.out.2.2.2.1; have := HX.out.2.2.2 e; omega)⟩
                          case measure => simp [intOf]; omega
                      | false =>
                        rw [hbd] at HHs
                        cases hfi : firstS said o with
                        | none =>
                          have HTd : Hid (told1 bad said o = (said ++ [o], o)) := hid (told_none ⟨hk2, hbd⟩ hfi)
                          have HFi : Hid (∀ u : World, SpsIn u sd said → Calls Try.prog 17 #[.slice sd said.length sc, .agg #[.int .i64 o.k, .int .i64 o.fr, .int .i64 o.sl, .int .i64 o.vw, .int .i64 o.a.c, .int .i64 o.a.st, .int .i64 o.a.k, .string o.a.key, .int .u64 (o.a.b : Int), .int .i64 o.a.id, .bool o.wr]] u fun e w' => e = .returned (.tuple #[.agg #[.int .i64 0, .int .i64 0, .int .i64 0, .int .i64 0, .int .i64 0, .int .i64 0, .int .i64 0, .string ⟨#[]⟩, .int .u64 0, .int .i64 0, .bool false], .bool false]) ∧ Below u.heap.size u w') := hid (fun u hu => by have := ufirst14 sd said.length sc said rfl (by have := HRoom.out.1; omega) o u hu; rw [firstV, hfi] at this; exact this)
                          clear hk2 hbd hk4 hk40 hfi
                          by_cases hkz : kk = 0
                          · have hkb : ((kk : Int) == 0) = true := by rw [hkz]; rfl
                            have hnx := ag_next (hV := HX.out.2.1) HNz.out (HTd.out) HOb.out
                            have HNx := hid hnx
                            have HKz := hid hkz
                            have HCall : Hid (∀ u : World, LgM u w3.heap.size ga ep ama cma l 0 pa → Calls Try.prog 9 #[.pointer (some ⟨ga, 0, none⟩), .int .i64 ep, .agg #[.int .i64 o.k, .int .i64 o.fr, .int .i64 o.sl, .int .i64 o.vw, .int .i64 o.a.c, .int .i64 o.a.st, .int .i64 o.a.k, .string o.a.key, .int .u64 (o.a.b : Int), .int .i64 o.a.id, .bool o.wr]] u fun e w' => StPost u w' w3.heap.size ga ep ama cma l 0 e (stp ep l 0 (pa.map Pl.pp) o).1 (stp ep l 0 (pa.map Pl.pp) o).2.2 pa) := hid (fun u hu => by
                              have := ucall_any o hnx.1 u hu HX.out.2.1.1.1.1
                              rw [stp_v hnx.2.2.2.2] at this
                              exact this)
                            clear hnx hkz
                            go_wp2_with (first
                              | (have := H26e; rw [← H26e.out]; refine wl_append_at rfl _ _ 25 rfl w3.heap.size 36 iv (.agg #[.int .i64 0, .int .i64 0, .int .i64 0, .int .i64 0, .int .i64 0, .int .i64 0, .int .i64 0, .string ⟨#[]⟩, .int .u64 0, .int .i64 0, .bool false]) 11 96 Try.underlying25 hv0 hvz0 hvz1 hvz2 rfl (by decide) (.slice sd said.length sc) said.length (said.flatMap spC) rfl H26.out.1.own ⟨w25.heap.size, 0, none⟩ 1 1 (spC o) rfl rfl (by rw [H26e.out]; exact World.news_of_block (t := 36) (fr := (0, 0)) (heap_alloc_last w25 _)) (by simp [spC, Value.oneCell']) HRoom.out.1 HRoom.out.2 H26.out.1.la.sz (fun v7 w27 hown7 hgrow7 hob7 => ?_); have H27 : Hid (AgS w w27 ep a n cap o1 n1 k1 o2 n2 k2 w3.heap.size ga gb ama cma amb cmb l pa pb v7 (said ++ [o]) ∧ BxAt w27 wB.heap.size [.int .i64 o.k, .int .i64 o.fr, .int .i64 o.sl, .int .i64 o.vw, .int .i64 o.a.c, .int .i64 o.a.st, .int .i64 o.a.k, .string o.a.key, .int .u64 (o.a.b : Int), .int .i64 o.a.id, .bool o.wr] 36) := hid ⟨H26.out.1.grow hown7 hgrow7 hob7, (hgrow7.block _ (lt_of_blk H26.out.2) (fun e => by have := (HX.out.1.own.lt wB.heap.size e.symm).2; omega)).trans H26.out.2⟩; clear hown7 hgrow7 hob7 q0 q1 q2 q3 q4 q5 q6 q7 q8 q9 q10 y0; have q0 := H27.out.2.cell 0 _ rfl; have q1 := H27.out.2.cell 1 _ rfl; have q2 := H27.out.2.cell 2 _ rfl; have q3 := H27.out.2.cell 3 _ rfl; have q4 := H27.out.2.cell 4 _ rfl; have q5 := H27.out.2.cell 5 _ rfl; have q6 := H27.out.2.cell 6 _ rfl; have q7 := H27.out.2.cell 7 _ rfl; have q8 := H27.out.2.cell 8 _ rfl; have q9 := H27.out.2.cell 9 _ rfl; have q10 := H27.out.2.cell 10 _ rfl; have y0 := H27.out.1.cf.cell 0 _ rfl)
                              | (have := H24; refine wl_store_blk rfl 36 _ _ rfl w24.heap.size 0 rfl #[.int .i64 0, .int .i64 0, .int .i64 0, .int .i64 0, .int .i64 0, .int .i64 0, .int .i64 0, .string ⟨#[]⟩, .int .u64 0, .int .i64 0, .bool false] rfl [.int .i64 0, .int .i64 0, .int .i64 0, .int .i64 0, .int .i64 0, .int .i64 0, .int .i64 0, .string ⟨#[]⟩, .int .u64 0, .int .i64 0, .bool false] 36 (heap_alloc_last w24 _) (by simp) (by kernel_rfl) (by simp [Value.oneCell']) ?_; intro w25 Hz; have H25 : Hid (AgS w w25 ep a n cap o1 n1 k1 o2 n2 k2 w3.heap.size ga gb ama cma amb cmb l pa pb (.slice sd said.length sc) said ∧ BxAt w25 wB.heap.size [.int .i64 o.k, .int .i64 o.fr, .int .i64 o.sl, .int .i64 o.vw, .int .i64 o.a.c, .int .i64 o.a.st, .int .i64 o.a.k, .string o.a.key, .int .u64 (o.a.b : Int), .int .i64 o.a.id, .bool o.wr] 36 ∧ BxAt w25 w24.heap.size [.int .i64 0, .int .i64 0, .int .i64 0, .int .i64 0, .int .i64 0, .int .i64 0, .int .i64 0, .string ⟨#[]⟩, .int .u64 0, .int .i64 0, .bool false] 36 ∧ w24.heap.size ≠ wB.heap.size) := hid (by have hb := Hz.out.2.below ((Below.refl w24.heap.size w24).alloc (Nat.le_refl _) _) (Nat.le_refl _); exact ⟨H24.out.1.keep hb, H24.out.2.keep hb, Hz.out.1, fun e => by have := lt_of_blk H24.out.2; omega⟩); clear Hz q0 q1 q2 q3 q4 q5 q6 q7 q8 q9 q10 y0; have q0 := H25.out.2.1.cell 0 _ rfl; have q1 := H25.out.2.1.cell 1 _ rfl; have q2 := H25.out.2.1.cell 2 _ rfl; have q3 := H25.out.2.1.cell 3 _ rfl; have q4 := H25.out.2.1.cell 4 _ rfl; have q5 := H25.out.2.1.cell 5 _ rfl; have q6 := H25.out.2.1.cell 6 _ rfl; have q7 := H25.out.2.1.cell 7 _ rfl; have q8 := H25.out.2.1.cell 8 _ rfl; have q9 := H25.out.2.1.cell 9 _ rfl; have q10 := H25.out.2.1.cell 10 _ rfl; have y0 := H25.out.1.cf.cell 0 _ rfl; obtain ⟨w26, e26⟩ : ∃ w26, w26 = w25.alloc (.cells #[.int .i64 o.k, .int .i64 o.fr, .int .i64 o.sl, .int .i64 o.vw, .int .i64 o.a.c, .int .i64 o.a.st, .int .i64 o.a.k, .string o.a.key, .int .u64 (o.a.b : Int), .int .i64 o.a.id, .bool o.wr] 36) := ⟨_, rfl⟩; have H26e : Hid (w26 = w25.alloc (.cells #[.int .i64 o.k, .int .i64 o.fr, .int .i64 o.sl, .int .i64 o.vw, .int .i64 o.a.c, .int .i64 o.a.st, .int .i64 o.a.k, .string o.a.key, .int .u64 (o.a.b : Int), .int .i64 o.a.id, .bool o.wr] 36)) := hid e26; have H26 : Hid (AgS w w26 ep a n cap o1 n1 k1 o2 n2 k2 w3.heap.size ga gb ama cma amb cmb l pa pb (.slice sd said.length sc) said ∧ BxAt w26 wB.heap.size [.int .i64 o.k, .int .i64 o.fr, .int .i64 o.sl, .int .i64 o.vw, .int .i64 o.a.c, .int .i64 o.a.st, .int .i64 o.a.k, .string o.a.key, .int .u64 (o.a.b : Int), .int .i64 o.a.id, .bool o.wr] 36) := hid (by rw [e26]; have hb : Below w25.heap.size w25 (w25.alloc (.cells #[.int .i64 o.k, .int .i64 o.fr, .int .i64 o.sl, .int .i64 o.vw, .int .i64 o.a.c, .int .i64 o.a.st, .int .i64 o.a.k, .string o.a.key, .int .u64 (o.a.b : Int), .int .i64 o.a.id, .bool o.wr] 36)) := (Below.refl _ _).alloc (Nat.le_refl _) _; exact ⟨H25.out.1.keep hb, H25.out.2.1.keep hb⟩); clear e26)
                              | (have := H23; go_at_call 17; go_must (refine (HFi.out _ H23.out.1.spsAt).mono ?_); rintro e w24 ⟨rfl, hb24⟩; have H24 : Hid (AgS w w24 ep a n cap o1 n1 k1 o2 n2 k2 w3.heap.size ga gb ama cma amb cmb l pa pb (.slice sd said.length sc) said ∧ BxAt w24 wB.heap.size [.int .i64 o.k, .int .i64 o.fr, .int .i64 o.sl, .int .i64 o.vw, .int .i64 o.a.c, .int .i64 o.a.st, .int .i64 o.a.k, .string o.a.key, .int .u64 (o.a.b : Int), .int .i64 o.a.id, .bool o.wr] 36) := hid ⟨H23.out.1.keep hb24, H23.out.2.keep hb24⟩; clear hb24 q0 q1 q2 q3 q4 q5 q6 q7 q8 q9 q10; have q0 := H24.out.2.cell 0 _ rfl; have q1 := H24.out.2.cell 1 _ rfl; have q2 := H24.out.2.cell 2 _ rfl; have q3 := H24.out.2.cell 3 _ rfl; have q4 := H24.out.2.cell 4 _ rfl; have q5 := H24.out.2.cell 5 _ rfl; have q6 := H24.out.2.cell 6 _ rfl; have q7 := H24.out.2.cell 7 _ rfl; have q8 := H24.out.2.cell 8 _ rfl; have q9 := H24.out.2.cell 9 _ rfl; have q10 := H24.out.2.cell 10 _ rfl; clear y0; have y0 := H24.out.1.cf.cell 0 _ rfl)
                              | (have := H22; go_at_call 14; go_must (refine (HHs.out _ H22.out.1.bel).mono ?_); rintro e w23 ⟨rfl, hb23⟩; have H23 : Hid (AgS w w23 ep a n cap o1 n1 k1 o2 n2 k2 w3.heap.size ga gb ama cma amb cmb l pa pb (.slice sd said.length sc) said ∧ BxAt w23 wB.heap.size [.int .i64 o.k, .int .i64 o.fr, .int .i64 o.sl, .int .i64 o.vw, .int .i64 o.a.c, .int .i64 o.a.st, .int .i64 o.a.k, .string o.a.key, .int .u64 (o.a.b : Int), .int .i64 o.a.id, .bool o.wr] 36) := hid ⟨H22.out.1.keep hb23, H22.out.2.keep hb23⟩; clear hb23 q0 q1 q2 q3 q4 q5 q6 q7 q8 q9 q10; have q0 := H23.out.2.cell 0 _ rfl; have q1 := H23.out.2.cell 1 _ rfl; have q2 := H23.out.2.cell 2 _ rfl; have q3 := H23.out.2.cell 3 _ rfl; have q4 := H23.out.2.cell 4 _ rfl; have q5 := H23.out.2.cell 5 _ rfl; have q6 := H23.out.2.cell 6 _ rfl; have q7 := H23.out.2.cell 7 _ rfl; have q8 := H23.out.2.cell 8 _ rfl; have q9 := H23.out.2.cell 9 _ rfl; have q10 := H23.out.2.cell 10 _ rfl; clear y0; have y0 := H23.out.1.cf.cell 0 _ rfl)
                              | (have := H21; go_at_call 16; go_must (refine (HKd.out _).mono ?_); rintro e w22 ⟨rfl, hb22⟩; have H22 : Hid (AgS w w22 ep a n cap o1 n1 k1 o2 n2 k2 w3.heap.size ga gb ama cma amb cmb l pa pb (.slice sd said.length sc) said ∧ BxAt w22 wB.heap.size [.int .i64 o.k, .int .i64 o.fr, .int .i64 o.sl, .int .i64 o.vw, .int .i64 o.a.c, .int .i64 o.a.st, .int .i64 o.a.k, .string o.a.key, .int .u64 (o.a.b : Int), .int .i64 o.a.id, .bool o.wr] 36) := hid ⟨H21.out.1.keep hb22, H21.out.2.keep hb22⟩; clear hb22 q0 q1 q2 q3 q4 q5 q6 q7 q8 q9 q10; have q0 := H22.out.2.cell 0 _ rfl; have q1 := H22.out.2.cell 1 _ rfl; have q2 := H22.out.2.cell 2 _ rfl; have q3 := H22.out.2.cell 3 _ rfl; have q4 := H22.out.2.cell 4 _ rfl; have q5 := H22.out.2.cell 5 _ rfl; have q6 := H22.out.2.cell 6 _ rfl; have q7 := H22.out.2.cell 7 _ rfl; have q8 := H22.out.2.cell 8 _ rfl; have q9 := H22.out.2.cell 9 _ rfl; have q10 := H22.out.2.cell 10 _ rfl; have y0 := H22.out.1.cf.cell 0 _ rfl)
                              | (go_at_call 16; go_must (refine (HKd.out _).mono ?_); rintro e w21 ⟨rfl, hb21⟩; have H21 : Hid (AgS w w21 ep a n cap o1 n1 k1 o2 n2 k2 w3.heap.size ga gb ama cma amb cmb l pa pb (.slice sd said.length sc) said ∧ BxAt w21 wB.heap.size [.int .i64 o.k, .int .i64 o.fr, .int .i64 o.sl, .int .i64 o.vw, .int .i64 o.a.c, .int .i64 o.a.st, .int .i64 o.a.k, .string o.a.key, .int .u64 (o.a.b : Int), .int .i64 o.a.id, .bool o.wr] 36) := hid ⟨H20.out.1.keep hb21, H20.out.2.keep hb21⟩; clear hb21 q0 q1 q2 q3 q4 q5 q6 q7 q8 q9 q10; have q0 := H21.out.2.cell 0 _ rfl; have q1 := H21.out.2.cell 1 _ rfl; have q2 := H21.out.2.cell 2 _ rfl; have q3 := H21.out.2.cell 3 _ rfl; have q4 := H21.out.2.cell 4 _ rfl; have q5 := H21.out.2.cell 5 _ rfl; have q6 := H21.out.2.cell 6 _ rfl; have q7 := H21.out.2.cell 7 _ rfl; have q8 := H21.out.2.cell 8 _ rfl; have q9 := H21.out.2.cell 9 _ rfl; have q10 := H21.out.2.cell 10 _ rfl)
                              | (refine wl_load_at rfl 36 _ rfl gs (off + i * 11) (by first | rfl | (simp [Act.eval]; done)) [.int .i64 o.k, .int .i64 o.fr, .int .i64 o.sl, .int .i64 o.vw, .int .i64 o.a.c, .int .i64 o.a.st, .int .i64 o.a.k, .string o.a.key, .int .u64 (o.a.b : Int), .int .i64 o.a.id, .bool o.wr] (HSc.out _ HX.out.1.bel) _ Try.underlying36 rfl (by kernel_rfl) ?_)
                              | (refine wl_store_blk rfl 36 _ _ rfl wB.heap.size 0 rfl #[.int .i64 o.k, .int .i64 o.fr, .int .i64 o.sl, .int .i64 o.vw, .int .i64 o.a.c, .int .i64 o.a.st, .int .i64 o.a.k, .string o.a.key, .int .u64 (o.a.b : Int), .int .i64 o.a.id, .bool o.wr] rfl [.int .i64 0, .int .i64 0, .int .i64 0, .int .i64 0, .int .i64 0, .int .i64 0, .int .i64 0, .string ⟨#[]⟩, .int .u64 0, .int .i64 0, .bool false] 36 (heap_alloc_last wB _) (by simp) (by kernel_rfl) (by simp [Value.oneCell']) ?_; intro w20 Hz; have H20 : Hid (AgS w w20 ep a n cap o1 n1 k1 o2 n2 k2 w3.heap.size ga gb ama cma amb cmb l pa pb (.slice sd said.length sc) said ∧ BxAt w20 wB.heap.size [.int .i64 o.k, .int .i64 o.fr, .int .i64 o.sl, .int .i64 o.vw, .int .i64 o.a.c, .int .i64 o.a.st, .int .i64 o.a.k, .string o.a.key, .int .u64 (o.a.b : Int), .int .i64 o.a.id, .bool o.wr] 36) := hid (by have hb := Hz.out.2.below ((Below.refl wB.heap.size wB).alloc (Nat.le_refl _) _) (Nat.le_refl _); exact ⟨HX.out.1.keep hb, Hz.out.1⟩); clear Hz; have q0 := H20.out.2.cell 0 _ rfl; have q1 := H20.out.2.cell 1 _ rfl; have q2 := H20.out.2.cell 2 _ rfl; have q3 := H20.out.2.cell 3 _ rfl; have q4 := H20.out.2.cell 4 _ rfl; have q5 := H20.out.2.cell 5 _ rfl; have q6 := H20.out.2.cell 6 _ rfl; have q7 := H20.out.2.cell 7 _ rfl; have q8 := H20.out.2.cell 8 _ rfl; have q9 := H20.out.2.cell 9 _ rfl; have q10 := H20.out.2.cell 10 _ rfl)
                              | (have := H27; go_at_call 9; go_must (refine (HCall.out _ H27.out.1.la).mono ?_); rintro e w30 hp30; obtain ⟨p3, rfl, hq1, hq2, hq3, hq4⟩ := hp30; have H30 : Hid (AgS w w30 ep a n cap o1 n1 k1 o2 n2 k2 w3.heap.size ga gb ama cma amb cmb l p3 pb _ (said ++ [o]) ∧ p3.map Pl.pp = (stp ep l 0 (pa.map Pl.pp) o).2.2) := hid ⟨H27.out.1.hearA hq1 hq3 hq4, hq2⟩; clear hq1 hq2 hq3 hq4 q0 q1 q2 q3 q4 q5 q6 q7 q8 q9 q10 y0))
                            go_roundw
                            case rel => exact ⟨i + 1, _, (said ++ [o]), p3, pb, by have := HI.out; omega, by go_num, rfl, H30.out.1, by rw [H30.out.2]; exact HNx.out.2.1, fun e => (by have := HNx.out.2.2.2.1; have := HX.out.2.2.1 e; omega), fun e => (by have := HNx.out.2.2.2.1; have := HX.out.2.2.2 e; omega)⟩
                            case measure => simp [intOf]; omega
                          · have hkb : ((kk : Int) == 0) = false := beq_eq_false_iff_ne.2 (by omega)
                            have hnx := ag_next (hV := HX.out.2.1) HNz.out (HTd.out) HOb.out
                            have HNx := hid hnx
                            have HKz := hid hkz
                            have HCall : Hid (∀ u : World, LgM u w3.heap.size gb ep amb cmb l 0 pb → Calls Try.prog 9 #[.pointer (some ⟨gb, 0, none⟩), .int .i64 ep, .agg #[.int .i64 o.k, .int .i64 o.fr, .int .i64 o.sl, .int .i64 o.vw, .int .i64 o.a.c, .int .i64 o.a.st, .int .i64 o.a.k, .string o.a.key, .int .u64 (o.a.b : Int), .int .i64 o.a.id, .bool o.wr]] u fun e w' => StPost u w' w3.heap.size gb ep amb cmb l 0 e (stp ep l 0 (pb.map Pl.pp) o).1 (stp ep l 0 (pb.map Pl.pp) o).2.2 pb) := hid (fun u hu => by
                              have := ucall_any o hnx.1 u hu HX.out.2.1.2.1.1.1
                              rw [stp_v hnx.2.2.2.2] at this
                              exact this)
                            clear hnx hkz
                            go_wp2_with (first
                              | (have := H26e; rw [← H26e.out]; refine wl_append_at rfl _ _ 25 rfl w3.heap.size 36 iv (.agg #[.int .i64 0, .int .i64 0, .int .i64 0, .int .i64 0, .int .i64 0, .int .i64 0, .int .i64 0, .string ⟨#[]⟩, .int .u64 0, .int .i64 0, .bool false]) 11 96 Try.underlying25 hv0 hvz0 hvz1 hvz2 rfl (by decide) (.slice sd said.length sc) said.length (said.flatMap spC) rfl H26.out.1.own ⟨w25.heap.size, 0, none⟩ 1 1 (spC o) rfl rfl (by rw [H26e.out]; exact World.news_of_block (t := 36) (fr := (0, 0)) (heap_alloc_last w25 _)) (by simp [spC, Value.oneCell']) HRoom.out.1 HRoom.out.2 H26.out.1.la.sz (fun v7 w27 hown7 hgrow7 hob7 => ?_); have H27 : Hid (AgS w w27 ep a n cap o1 n1 k1 o2 n2 k2 w3.heap.size ga gb ama cma amb cmb l pa pb v7 (said ++ [o]) ∧ BxAt w27 wB.heap.size [.int .i64 o.k, .int .i64 o.fr, .int .i64 o.sl, .int .i64 o.vw, .int .i64 o.a.c, .int .i64 o.a.st, .int .i64 o.a.k, .string o.a.key, .int .u64 (o.a.b : Int), .int .i64 o.a.id, .bool o.wr] 36) := hid ⟨H26.out.1.grow hown7 hgrow7 hob7, (hgrow7.block _ (lt_of_blk H26.out.2) (fun e => by have := (HX.out.1.own.lt wB.heap.size e.symm).2; omega)).trans H26.out.2⟩; clear hown7 hgrow7 hob7 q0 q1 q2 q3 q4 q5 q6 q7 q8 q9 q10 y0; have q0 := H27.out.2.cell 0 _ rfl; have q1 := H27.out.2.cell 1 _ rfl; have q2 := H27.out.2.cell 2 _ rfl; have q3 := H27.out.2.cell 3 _ rfl; have q4 := H27.out.2.cell 4 _ rfl; have q5 := H27.out.2.cell 5 _ rfl; have q6 := H27.out.2.cell 6 _ rfl; have q7 := H27.out.2.cell 7 _ rfl; have q8 := H27.out.2.cell 8 _ rfl; have q9 := H27.out.2.cell 9 _ rfl; have q10 := H27.out.2.cell 10 _ rfl; have y0 := H27.out.1.cf.cell 0 _ rfl)
                              | (have := H24; refine wl_store_blk rfl 36 _ _ rfl w24.heap.size 0 rfl #[.int .i64 0, .int .i64 0, .int .i64 0, .int .i64 0, .int .i64 0, .int .i64 0, .int .i64 0, .string ⟨#[]⟩, .int .u64 0, .int .i64 0, .bool false] rfl [.int .i64 0, .int .i64 0, .int .i64 0, .int .i64 0, .int .i64 0, .int .i64 0, .int .i64 0, .string ⟨#[]⟩, .int .u64 0, .int .i64 0, .bool false] 36 (heap_alloc_last w24 _) (by simp) (by kernel_rfl) (by simp [Value.oneCell']) ?_; intro w25 Hz; have H25 : Hid (AgS w w25 ep a n cap o1 n1 k1 o2 n2 k2 w3.heap.size ga gb ama cma amb cmb l pa pb (.slice sd said.length sc) said ∧ BxAt w25 wB.heap.size [.int .i64 o.k, .int .i64 o.fr, .int .i64 o.sl, .int .i64 o.vw, .int .i64 o.a.c, .int .i64 o.a.st, .int .i64 o.a.k, .string o.a.key, .int .u64 (o.a.b : Int), .int .i64 o.a.id, .bool o.wr] 36 ∧ BxAt w25 w24.heap.size [.int .i64 0, .int .i64 0, .int .i64 0, .int .i64 0, .int .i64 0, .int .i64 0, .int .i64 0, .string ⟨#[]⟩, .int .u64 0, .int .i64 0, .bool false] 36 ∧ w24.heap.size ≠ wB.heap.size) := hid (by have hb := Hz.out.2.below ((Below.refl w24.heap.size w24).alloc (Nat.le_refl _) _) (Nat.le_refl _); exact ⟨H24.out.1.keep hb, H24.out.2.keep hb, Hz.out.1, fun e => by have := lt_of_blk H24.out.2; omega⟩); clear Hz q0 q1 q2 q3 q4 q5 q6 q7 q8 q9 q10 y0; have q0 := H25.out.2.1.cell 0 _ rfl; have q1 := H25.out.2.1.cell 1 _ rfl; have q2 := H25.out.2.1.cell 2 _ rfl; have q3 := H25.out.2.1.cell 3 _ rfl; have q4 := H25.out.2.1.cell 4 _ rfl; have q5 := H25.out.2.1.cell 5 _ rfl; have q6 := H25.out.2.1.cell 6 _ rfl; have q7 := H25.out.2.1.cell 7 _ rfl; have q8 := H25.out.2.1.cell 8 _ rfl; have q9 := H25.out.2.1.cell 9 _ rfl; have q10 := H25.out.2.1.cell 10 _ rfl; have y0 := H25.out.1.cf.cell 0 _ rfl; obtain ⟨w26, e26⟩ : ∃ w26, w26 = w25.alloc (.cells #[.int .i64 o.k, .int .i64 o.fr, .int .i64 o.sl, .int .i64 o.vw, .int .i64 o.a.c, .int .i64 o.a.st, .int .i64 o.a.k, .string o.a.key, .int .u64 (o.a.b : Int), .int .i64 o.a.id, .bool o.wr] 36) := ⟨_, rfl⟩; have H26e : Hid (w26 = w25.alloc (.cells #[.int .i64 o.k, .int .i64 o.fr, .int .i64 o.sl, .int .i64 o.vw, .int .i64 o.a.c, .int .i64 o.a.st, .int .i64 o.a.k, .string o.a.key, .int .u64 (o.a.b : Int), .int .i64 o.a.id, .bool o.wr] 36)) := hid e26; have H26 : Hid (AgS w w26 ep a n cap o1 n1 k1 o2 n2 k2 w3.heap.size ga gb ama cma amb cmb l pa pb (.slice sd said.length sc) said ∧ BxAt w26 wB.heap.size [.int .i64 o.k, .int .i64 o.fr, .int .i64 o.sl, .int .i64 o.vw, .int .i64 o.a.c, .int .i64 o.a.st, .int .i64 o.a.k, .string o.a.key, .int .u64 (o.a.b : Int), .int .i64 o.a.id, .bool o.wr] 36) := hid (by rw [e26]; have hb : Below w25.heap.size w25 (w25.alloc (.cells #[.int .i64 o.k, .int .i64 o.fr, .int .i64 o.sl, .int .i64 o.vw, .int .i64 o.a.c, .int .i64 o.a.st, .int .i64 o.a.k, .string o.a.key, .int .u64 (o.a.b : Int), .int .i64 o.a.id, .bool o.wr] 36)) := (Below.refl _ _).alloc (Nat.le_refl _) _; exact ⟨H25.out.1.keep hb, H25.out.2.1.keep hb⟩); clear e26)
                              | (have := H23; go_at_call 17; go_must (refine (HFi.out _ H23.out.1.spsAt).mono ?_); rintro e w24 ⟨rfl, hb24⟩; have H24 : Hid (AgS w w24 ep a n cap o1 n1 k1 o2 n2 k2 w3.heap.size ga gb ama cma amb cmb l pa pb (.slice sd said.length sc) said ∧ BxAt w24 wB.heap.size [.int .i64 o.k, .int .i64 o.fr, .int .i64 o.sl, .int .i64 o.vw, .int .i64 o.a.c, .int .i64 o.a.st, .int .i64 o.a.k, .string o.a.key, .int .u64 (o.a.b : Int), .int .i64 o.a.id, .bool o.wr] 36) := hid ⟨H23.out.1.keep hb24, H23.out.2.keep hb24⟩; clear hb24 q0 q1 q2 q3 q4 q5 q6 q7 q8 q9 q10; have q0 := H24.out.2.cell 0 _ rfl; have q1 := H24.out.2.cell 1 _ rfl; have q2 := H24.out.2.cell 2 _ rfl; have q3 := H24.out.2.cell 3 _ rfl; have q4 := H24.out.2.cell 4 _ rfl; have q5 := H24.out.2.cell 5 _ rfl; have q6 := H24.out.2.cell 6 _ rfl; have q7 := H24.out.2.cell 7 _ rfl; have q8 := H24.out.2.cell 8 _ rfl; have q9 := H24.out.2.cell 9 _ rfl; have q10 := H24.out.2.cell 10 _ rfl; clear y0; have y0 := H24.out.1.cf.cell 0 _ rfl)
                              | (have := H22; go_at_call 14; go_must (refine (HHs.out _ H22.out.1.bel).mono ?_); rintro e w23 ⟨rfl, hb23⟩; have H23 : Hid (AgS w w23 ep a n cap o1 n1 k1 o2 n2 k2 w3.heap.size ga gb ama cma amb cmb l pa pb (.slice sd said.length sc) said ∧ BxAt w23 wB.heap.size [.int .i64 o.k, .int .i64 o.fr, .int .i64 o.sl, .int .i64 o.vw, .int .i64 o.a.c, .int .i64 o.a.st, .int .i64 o.a.k, .string o.a.key, .int .u64 (o.a.b : Int), .int .i64 o.a.id, .bool o.wr] 36) := hid ⟨H22.out.1.keep hb23, H22.out.2.keep hb23⟩; clear hb23 q0 q1 q2 q3 q4 q5 q6 q7 q8 q9 q10; have q0 := H23.out.2.cell 0 _ rfl; have q1 := H23.out.2.cell 1 _ rfl; have q2 := H23.out.2.cell 2 _ rfl; have q3 := H23.out.2.cell 3 _ rfl; have q4 := H23.out.2.cell 4 _ rfl; have q5 := H23.out.2.cell 5 _ rfl; have q6 := H23.out.2.cell 6 _ rfl; have q7 := H23.out.2.cell 7 _ rfl; have q8 := H23.out.2.cell 8 _ rfl; have q9 := H23.out.2.cell 9 _ rfl; have q10 := H23.out.2.cell 10 _ rfl; clear y0; have y0 := H23.out.1.cf.cell 0 _ rfl)
                              | (have := H21; go_at_call 16; go_must (refine (HKd.out _).mono ?_); rintro e w22 ⟨rfl, hb22⟩; have H22 : Hid (AgS w w22 ep a n cap o1 n1 k1 o2 n2 k2 w3.heap.size ga gb ama cma amb cmb l pa pb (.slice sd said.length sc) said ∧ BxAt w22 wB.heap.size [.int .i64 o.k, .int .i64 o.fr, .int .i64 o.sl, .int .i64 o.vw, .int .i64 o.a.c, .int .i64 o.a.st, .int .i64 o.a.k, .string o.a.key, .int .u64 (o.a.b : Int), .int .i64 o.a.id, .bool o.wr] 36) := hid ⟨H21.out.1.keep hb22, H21.out.2.keep hb22⟩; clear hb22 q0 q1 q2 q3 q4 q5 q6 q7 q8 q9 q10; have q0 := H22.out.2.cell 0 _ rfl; have q1 := H22.out.2.cell 1 _ rfl; have q2 := H22.out.2.cell 2 _ rfl; have q3 := H22.out.2.cell 3 _ rfl; have q4 := H22.out.2.cell 4 _ rfl; have q5 := H22.out.2.cell 5 _ rfl; have q6 := H22.out.2.cell 6 _ rfl; have q7 := H22.out.2.cell 7 _ rfl; have q8 := H22.out.2.cell 8 _ rfl; have q9 := H22.out.2.cell 9 _ rfl; have q10 := H22.out.2.cell 10 _ rfl; have y0 := H22.out.1.cf.cell 0 _ rfl)
                              | (go_at_call 16; go_must (refine (HKd.out _).mono ?_); rintro e w21 ⟨rfl, hb21⟩; have H21 : Hid (AgS w w21 ep a n cap o1 n1 k1 o2 n2 k2 w3.heap.size ga gb ama cma amb cmb l pa pb (.slice sd said.length sc) said ∧ BxAt w21 wB.heap.size [.int .i64 o.k, .int .i64 o.fr, .int .i64 o.sl, .int .i64 o.vw, .int .i64 o.a.c, .int .i64 o.a.st, .int .i64 o.a.k, .string o.a.key, .int .u64 (o.a.b : Int), .int .i64 o.a.id, .bool o.wr] 36) := hid ⟨H20.out.1.keep hb21, H20.out.2.keep hb21⟩; clear hb21 q0 q1 q2 q3 q4 q5 q6 q7 q8 q9 q10; have q0 := H21.out.2.cell 0 _ rfl; have q1 := H21.out.2.cell 1 _ rfl; have q2 := H21.out.2.cell 2 _ rfl; have q3 := H21.out.2.cell 3 _ rfl; have q4 := H21.out.2.cell 4 _ rfl; have q5 := H21.out.2.cell 5 _ rfl; have q6 := H21.out.2.cell 6 _ rfl; have q7 := H21.out.2.cell 7 _ rfl; have q8 := H21.out.2.cell 8 _ rfl; have q9 := H21.out.2.cell 9 _ rfl; have q10 := H21.out.2.cell 10 _ rfl)
                              | (refine wl_load_at rfl 36 _ rfl gs (off + i * 11) (by first | rfl | (simp [Act.eval]; done)) [.int .i64 o.k, .int .i64 o.fr, .int .i64 o.sl, .int .i64 o.vw, .int .i64 o.a.c, .int .i64 o.a.st, .int .i64 o.a.k, .string o.a.key, .int .u64 (o.a.b : Int), .int .i64 o.a.id, .bool o.wr] (HSc.out _ HX.out.1.bel) _ Try.underlying36 rfl (by kernel_rfl) ?_)
                              | (refine wl_store_blk rfl 36 _ _ rfl wB.heap.size 0 rfl #[.int .i64 o.k, .int .i64 o.fr, .int .i64 o.sl, .int .i64 o.vw, .int .i64 o.a.c, .int .i64 o.a.st, .int .i64 o.a.k, .string o.a.key, .int .u64 (o.a.b : Int), .int .i64 o.a.id, .bool o.wr] rfl [.int .i64 0, .int .i64 0, .int .i64 0, .int .i64 0, .int .i64 0, .int .i64 0, .int .i64 0, .string ⟨#[]⟩, .int .u64 0, .int .i64 0, .bool false] 36 (heap_alloc_last wB _) (by simp) (by kernel_rfl) (by simp [Value.oneCell']) ?_; intro w20 Hz; have H20 : Hid (AgS w w20 ep a n cap o1 n1 k1 o2 n2 k2 w3.heap.size ga gb ama cma amb cmb l pa pb (.slice sd said.length sc) said ∧ BxAt w20 wB.heap.size [.int .i64 o.k, .int .i64 o.fr, .int .i64 o.sl, .int .i64 o.vw, .int .i64 o.a.c, .int .i64 o.a.st, .int .i64 o.a.k, .string o.a.key, .int .u64 (o.a.b : Int), .int .i64 o.a.id, .bool o.wr] 36) := hid (by have hb := Hz.out.2.below ((Below.refl wB.heap.size wB).alloc (Nat.le_refl _) _) (Nat.le_refl _); exact ⟨HX.out.1.keep hb, Hz.out.1⟩); clear Hz; have q0 := H20.out.2.cell 0 _ rfl; have q1 := H20.out.2.cell 1 _ rfl; have q2 := H20.out.2.cell 2 _ rfl; have q3 := H20.out.2.cell 3 _ rfl; have q4 := H20.out.2.cell 4 _ rfl; have q5 := H20.out.2.cell 5 _ rfl; have q6 := H20.out.2.cell 6 _ rfl; have q7 := H20.out.2.cell 7 _ rfl; have q8 := H20.out.2.cell 8 _ rfl; have q9 := H20.out.2.cell 9 _ rfl; have q10 := H20.out.2.cell 10 _ rfl)
                              | (have := H27; go_at_call 9; go_must (refine (HCall.out _ H27.out.1.lb).mono ?_); rintro e w30 hp30; obtain ⟨p3, rfl, hq1, hq2, hq3, hq4⟩ := hp30; have H30 : Hid (AgS w w30 ep a n cap o1 n1 k1 o2 n2 k2 w3.heap.size ga gb ama cma amb cmb l pa p3 _ (said ++ [o]) ∧ p3.map Pl.pp = (stp ep l 0 (pb.map Pl.pp) o).2.2) := hid ⟨H27.out.1.hearB hq1 hq3 hq4, hq2⟩; clear hq1 hq2 hq3 hq4 q0 q1 q2 q3 q4 q5 q6 q7 q8 q9 q10 y0))
                            go_roundw
                            case rel => exact ⟨i + 1, _, (said ++ [o]), pa, p3, by have := HI.out; omega, by go_num, rfl, H30.out.1, by rw [H30.out.2]; exact HNx.out.2.2.1, fun e => (by have := HNx.out.2.2.2.1; have := HX.out.2.2.1 e; omega), fun e => (by have := HNx.out.2.2.2.1; have := HX.out.2.2.2 e; omega)⟩
                            case measure => simp [intOf]; omega
                        | some p =>
                          have HTd : Hid (told1 bad said o = (said, { o with a := p.a })) := hid (told_some ⟨hk2, hbd⟩ hfi)
                          have HFi : Hid (∀ u : World, SpsIn u sd said → Calls Try.prog 17 #[.slice sd said.length sc, .agg #[.int .i64 o.k, .int .i64 o.fr, .int .i64 o.sl, .int .i64 o.vw, .int .i64 o.a.c, .int .i64 o.a.st, .int .i64 o.a.k, .string o.a.key, .int .u64 (o.a.b : Int), .int .i64 o.a.id, .bool o.wr]] u fun e w' => e = .returned (.tuple #[.agg #[.int .i64 p.k, .int .i64 p.fr, .int .i64 p.sl, .int .i64 p.vw, .int .i64 p.a.c, .int .i64 p.a.st, .int .i64 p.a.k, .string p.a.key, .int .u64 (p.a.b : Int), .int .i64 p.a.id, .bool p.wr], .bool true]) ∧ Below u.heap.size u w') := hid (fun u hu => by have := ufirst14 sd said.length sc said rfl (by have := HRoom.out.1; omega) o u hu; rw [firstV, hfi] at this; exact this)
                          clear hk2 hbd hk4 hk40 hfi
                          by_cases hkz : kk = 0
                          · have hkb : ((kk : Int) == 0) = true := by rw [hkz]; rfl
                            have hnx := ag_next (hV := HX.out.2.1) HNz.out (HTd.out) HOb.out
                            have HNx := hid hnx
                            have HKz := hid hkz
                            have HCall : Hid (∀ u : World, LgM u w3.heap.size ga ep ama cma l 0 pa → Calls Try.prog 9 #[.pointer (some ⟨ga, 0, none⟩), .int .i64 ep, .agg #[.int .i64 o.k, .int .i64 o.fr, .int .i64 o.sl, .int .i64 o.vw, .int .i64 p.a.c, .int .i64 p.a.st, .int .i64 p.a.k, .string p.a.key, .int .u64 (p.a.b : Int), .int .i64 p.a.id, .bool o.wr]] u fun e w' => StPost u w' w3.heap.size ga ep ama cma l 0 e (stp ep l 0 (pa.map Pl.pp) { o with a := p.a }).1 (stp ep l 0 (pa.map Pl.pp) { o with a := p.a }).2.2 pa) := hid (fun u hu => by
                              have := ucall_any { o with a := p.a } hnx.1 u hu HX.out.2.1.1.1.1
                              rw [stp_v hnx.2.2.2.2] at this
                              exact this)
                            clear hnx hkz
                            go_wp2_with (first
                              | (have := H25; refine wl_store_blk rfl 34 _ _ rfl wB.heap.size 4 rfl #[.int .i64 p.a.c, .int .i64 p.a.st, .int .i64 p.a.k, .string p.a.key, .int .u64 (p.a.b : Int), .int .i64 p.a.id] rfl [.int .i64 o.k, .int .i64 o.fr, .int .i64 o.sl, .int .i64 o.vw, .int .i64 o.a.c, .int .i64 o.a.st, .int .i64 o.a.k, .string o.a.key, .int .u64 (o.a.b : Int), .int .i64 o.a.id, .bool o.wr] 36 H25.out.2.1 (by simp) (by kernel_rfl) (by simp [Value.oneCell']) ?_; intro w26 Hz; have H26 : Hid (AgS w w26 ep a n cap o1 n1 k1 o2 n2 k2 w3.heap.size ga gb ama cma amb cmb l pa pb (.slice sd said.length sc) said ∧ BxAt w26 wB.heap.size [.int .i64 o.k, .int .i64 o.fr, .int .i64 o.sl, .int .i64 o.vw, .int .i64 p.a.c, .int .i64 p.a.st, .int .i64 p.a.k, .string p.a.key, .int .u64 (p.a.b : Int), .int .i64 p.a.id, .bool o.wr] 36) := hid ⟨H25.out.1.poke HX.out.1 Hz.out.2, Hz.out.1⟩; clear Hz q0 q1 q2 q3 q4 q5 q6 q7 q8 q9 q10 p4 p5 p6 p7 p8 p9 y0; have q0 := H26.out.2.cell 0 _ rfl; have q1 := H26.out.2.cell 1 _ rfl; have q2 := H26.out.2.cell 2 _ rfl; have q3 := H26.out.2.cell 3 _ rfl; have q4 := H26.out.2.cell 4 _ rfl; have q5 := H26.out.2.cell 5 _ rfl; have q6 := H26.out.2.cell 6 _ rfl; have q7 := H26.out.2.cell 7 _ rfl; have q8 := H26.out.2.cell 8 _ rfl; have q9 := H26.out.2.cell 9 _ rfl; have q10 := H26.out.2.cell 10 _ rfl; have y0 := H26.out.1.cf.cell 0 _ rfl)
                              | (have := H24; refine wl_store_blk rfl 36 _ _ rfl w24.heap.size 0 rfl #[.int .i64 p.k, .int .i64 p.fr, .int .i64 p.sl, .int .i64 p.vw, .int .i64 p.a.c, .int .i64 p.a.st, .int .i64 p.a.k, .string p.a.key, .int .u64 (p.a.b : Int), .int .i64 p.a.id, .bool p.wr] rfl [.int .i64 0, .int .i64 0, .int .i64 0, .int .i64 0, .int .i64 0, .int .i64 0, .int .i64 0, .string ⟨#[]⟩, .int .u64 0, .int .i64 0, .bool false] 36 (heap_alloc_last w24 _) (by simp) (by kernel_rfl) (by simp [Value.oneCell']) ?_; intro w25 Hz; have H25 : Hid (AgS w w25 ep a n cap o1 n1 k1 o2 n2 k2 w3.heap.size ga gb ama cma amb cmb l pa pb (.slice sd said.length sc) said ∧ BxAt w25 wB.heap.size [.int .i64 o.k, .int .i64 o.fr, .int .i64 o.sl, .int .i64 o.vw, .int .i64 o.a.c, .int .i64 o.a.st, .int .i64 o.a.k, .string o.a.key, .int .u64 (o.a.b : Int), .int .i64 o.a.id, .bool o.wr] 36 ∧ BxAt w25 w24.heap.size [.int .i64 p.k, .int .i64 p.fr, .int .i64 p.sl, .int .i64 p.vw, .int .i64 p.a.c, .int .i64 p.a.st, .int .i64 p.a.k, .string p.a.key, .int .u64 (p.a.b : Int), .int .i64 p.a.id, .bool p.wr] 36 ∧ w24.heap.size ≠ wB.heap.size) := hid (by have hb := Hz.out.2.below ((Below.refl w24.heap.size w24).alloc (Nat.le_refl _) _) (Nat.le_refl _); exact ⟨H24.out.1.keep hb, H24.out.2.keep hb, Hz.out.1, fun e => by have := lt_of_blk H24.out.2; omega⟩); clear Hz q0 q1 q2 q3 q4 q5 q6 q7 q8 q9 q10 y0; have q0 := H25.out.2.1.cell 0 _ rfl; have q1 := H25.out.2.1.cell 1 _ rfl; have q2 := H25.out.2.1.cell 2 _ rfl; have q3 := H25.out.2.1.cell 3 _ rfl; have q4 := H25.out.2.1.cell 4 _ rfl; have q5 := H25.out.2.1.cell 5 _ rfl; have q6 := H25.out.2.1.cell 6 _ rfl; have q7 := H25.out.2.1.cell 7 _ rfl; have q8 := H25.out.2.1.cell 8 _ rfl; have q9 := H25.out.2.1.cell 9 _ rfl; have q10 := H25.out.2.1.cell 10 _ rfl; have y0 := H25.out.1.cf.cell 0 _ rfl; have p4 := H25.out.2.2.1.cell 4 _ rfl; have p5 := H25.out.2.2.1.cell 5 _ rfl; have p6 := H25.out.2.2.1.cell 6 _ rfl; have p7 := H25.out.2.2.1.cell 7 _ rfl; have p8 := H25.out.2.2.1.cell 8 _ rfl; have p9 := H25.out.2.2.1.cell 9 _ rfl)
                              | (have := H23; go_at_call 17; go_must (refine (HFi.out _ H23.out.1.spsAt).mono ?_); rintro e w24 ⟨rfl, hb24⟩; have H24 : Hid (AgS w w24 ep a n cap o1 n1 k1 o2 n2 k2 w3.heap.size ga gb ama cma amb cmb l pa pb (.slice sd said.length sc) said ∧ BxAt w24 wB.heap.size [.int .i64 o.k, .int .i64 o.fr, .int .i64 o.sl, .int .i64 o.vw, .int .i64 o.a.c, .int .i64 o.a.st, .int .i64 o.a.k, .string o.a.key, .int .u64 (o.a.b : Int), .int .i64 o.a.id, .bool o.wr] 36) := hid ⟨H23.out.1.keep hb24, H23.out.2.keep hb24⟩; clear hb24 q0 q1 q2 q3 q4 q5 q6 q7 q8 q9 q10; have q0 := H24.out.2.cell 0 _ rfl; have q1 := H24.out.2.cell 1 _ rfl; have q2 := H24.out.2.cell 2 _ rfl; have q3 := H24.out.2.cell 3 _ rfl; have q4 := H24.out.2.cell 4 _ rfl; have q5 := H24.out.2.cell 5 _ rfl; have q6 := H24.out.2.cell 6 _ rfl; have q7 := H24.out.2.cell 7 _ rfl; have q8 := H24.out.2.cell 8 _ rfl; have q9 := H24.out.2.cell 9 _ rfl; have q10 := H24.out.2.cell 10 _ rfl; clear y0; have y0 := H24.out.1.cf.cell 0 _ rfl)
                              | (have := H22; go_at_call 14; go_must (refine (HHs.out _ H22.out.1.bel).mono ?_); rintro e w23 ⟨rfl, hb23⟩; have H23 : Hid (AgS w w23 ep a n cap o1 n1 k1 o2 n2 k2 w3.heap.size ga gb ama cma amb cmb l pa pb (.slice sd said.length sc) said ∧ BxAt w23 wB.heap.size [.int .i64 o.k, .int .i64 o.fr, .int .i64 o.sl, .int .i64 o.vw, .int .i64 o.a.c, .int .i64 o.a.st, .int .i64 o.a.k, .string o.a.key, .int .u64 (o.a.b : Int), .int .i64 o.a.id, .bool o.wr] 36) := hid ⟨H22.out.1.keep hb23, H22.out.2.keep hb23⟩; clear hb23 q0 q1 q2 q3 q4 q5 q6 q7 q8 q9 q10; have q0 := H23.out.2.cell 0 _ rfl; have q1 := H23.out.2.cell 1 _ rfl; have q2 := H23.out.2.cell 2 _ rfl; have q3 := H23.out.2.cell 3 _ rfl; have q4 := H23.out.2.cell 4 _ rfl; have q5 := H23.out.2.cell 5 _ rfl; have q6 := H23.out.2.cell 6 _ rfl; have q7 := H23.out.2.cell 7 _ rfl; have q8 := H23.out.2.cell 8 _ rfl; have q9 := H23.out.2.cell 9 _ rfl; have q10 := H23.out.2.cell 10 _ rfl; clear y0; have y0 := H23.out.1.cf.cell 0 _ rfl)
                              | (have := H21; go_at_call 16; go_must (refine (HKd.out _).mono ?_); rintro e w22 ⟨rfl, hb22⟩; have H22 : Hid (AgS w w22 ep a n cap o1 n1 k1 o2 n2 k2 w3.heap.size ga gb ama cma amb cmb l pa pb (.slice sd said.length sc) said ∧ BxAt w22 wB.heap.size [.int .i64 o.k, .int .i64 o.fr, .int .i64 o.sl, .int .i64 o.vw, .int .i64 o.a.c, .int .i64 o.a.st, .int .i64 o.a.k, .string o.a.key, .int .u64 (o.a.b : Int), .int .i64 o.a.id, .bool o.wr] 36) := hid ⟨H21.out.1.keep hb22, H21.out.2.keep hb22⟩; clear hb22 q0 q1 q2 q3 q4 q5 q6 q7 q8 q9 q10; have q0 := H22.out.2.cell 0 _ rfl; have q1 := H22.out.2.cell 1 _ rfl; have q2 := H22.out.2.cell 2 _ rfl; have q3 := H22.out.2.cell 3 _ rfl; have q4 := H22.out.2.cell 4 _ rfl; have q5 := H22.out.2.cell 5 _ rfl; have q6 := H22.out.2.cell 6 _ rfl; have q7 := H22.out.2.cell 7 _ rfl; have q8 := H22.out.2.cell 8 _ rfl; have q9 := H22.out.2.cell 9 _ rfl; have q10 := H22.out.2.cell 10 _ rfl; have y0 := H22.out.1.cf.cell 0 _ rfl)
                              | (go_at_call 16; go_must (refine (HKd.out _).mono ?_); rintro e w21 ⟨rfl, hb21⟩; have H21 : Hid (AgS w w21 ep a n cap o1 n1 k1 o2 n2 k2 w3.heap.size ga gb ama cma amb cmb l pa pb (.slice sd said.length sc) said ∧ BxAt w21 wB.heap.size [.int .i64 o.k, .int .i64 o.fr, .int .i64 o.sl, .int .i64 o.vw, .int .i64 o.a.c, .int .i64 o.a.st, .int .i64 o.a.k, .string o.a.key, .int .u64 (o.a.b : Int), .int .i64 o.a.id, .bool o.wr] 36) := hid ⟨H20.out.1.keep hb21, H20.out.2.keep hb21⟩; clear hb21 q0 q1 q2 q3 q4 q5 q6 q7 q8 q9 q10; have q0 := H21.out.2.cell 0 _ rfl; have q1 := H21.out.2.cell 1 _ rfl; have q2 := H21.out.2.cell 2 _ rfl; have q3 := H21.out.2.cell 3 _ rfl; have q4 := H21.out.2.cell 4 _ rfl; have q5 := H21.out.2.cell 5 _ rfl; have q6 := H21.out.2.cell 6 _ rfl; have q7 := H21.out.2.cell 7 _ rfl; have q8 := H21.out.2.cell 8 _ rfl; have q9 := H21.out.2.cell 9 _ rfl; have q10 := H21.out.2.cell 10 _ rfl)
                              | (refine wl_load_at rfl 36 _ rfl gs (off + i * 11) (by first | rfl | (simp [Act.eval]; done)) [.int .i64 o.k, .int .i64 o.fr, .int .i64 o.sl, .int .i64 o.vw, .int .i64 o.a.c, .int .i64 o.a.st, .int .i64 o.a.k, .string o.a.key, .int .u64 (o.a.b : Int), .int .i64 o.a.id, .bool o.wr] (HSc.out _ HX.out.1.bel) _ Try.underlying36 rfl (by kernel_rfl) ?_)
                              | (refine wl_store_blk rfl 36 _ _ rfl wB.heap.size 0 rfl #[.int .i64 o.k, .int .i64 o.fr, .int .i64 o.sl, .int .i64 o.vw, .int .i64 o.a.c, .int .i64 o.a.st, .int .i64 o.a.k, .string o.a.key, .int .u64 (o.a.b : Int), .int .i64 o.a.id, .bool o.wr] rfl [.int .i64 0, .int .i64 0, .int .i64 0, .int .i64 0, .int .i64 0, .int .i64 0, .int .i64 0, .string ⟨#[]⟩, .int .u64 0, .int .i64 0, .bool false] 36 (heap_alloc_last wB _) (by simp) (by kernel_rfl) (by simp [Value.oneCell']) ?_; intro w20 Hz; have H20 : Hid (AgS w w20 ep a n cap o1 n1 k1 o2 n2 k2 w3.heap.size ga gb ama cma amb cmb l pa pb (.slice sd said.length sc) said ∧ BxAt w20 wB.heap.size [.int .i64 o.k, .int .i64 o.fr, .int .i64 o.sl, .int .i64 o.vw, .int .i64 o.a.c, .int .i64 o.a.st, .int .i64 o.a.k, .string o.a.key, .int .u64 (o.a.b : Int), .int .i64 o.a.id, .bool o.wr] 36) := hid (by have hb := Hz.out.2.below ((Below.refl wB.heap.size wB).alloc (Nat.le_refl _) _) (Nat.le_refl _); exact ⟨HX.out.1.keep hb, Hz.out.1⟩); clear Hz; have q0 := H20.out.2.cell 0 _ rfl; have q1 := H20.out.2.cell 1 _ rfl; have q2 := H20.out.2.cell 2 _ rfl; have q3 := H20.out.2.cell 3 _ rfl; have q4 := H20.out.2.cell 4 _ rfl; have q5 := H20.out.2.cell 5 _ rfl; have q6 := H20.out.2.cell 6 _ rfl; have q7 := H20.out.2.cell 7 _ rfl; have q8 := H20.out.2.cell 8 _ rfl; have q9 := H20.out.2.cell 9 _ rfl; have q10 := H20.out.2.cell 10 _ rfl)
                              | (have := H26; go_at_call 9; go_must (refine (HCall.out _ H26.out.1.la).mono ?_); rintro e w30 hp30; obtain ⟨p3, rfl, hq1, hq2, hq3, hq4⟩ := hp30; have H30 : Hid (AgS w w30 ep a n cap o1 n1 k1 o2 n2 k2 w3.heap.size ga gb ama cma amb cmb l p3 pb _ said ∧ p3.map Pl.pp = (stp ep l 0 (pa.map Pl.pp) { o with a := p.a }).2.2) := hid ⟨H26.out.1.hearA hq1 hq3 hq4, hq2⟩; clear hq1 hq2 hq3 hq4 q0 q1 q2 q3 q4 q5 q6 q7 q8 q9 q10 y0))
                            go_roundw
                            case rel => exact ⟨i + 1, _, said, p3, pb, by have := HI.out; omega, by go_num, rfl, H30.out.1, by rw [H30.out.2]; exact HNx.out.2.1, fun e => (by have := HNx.out.2.2.2.1; have := HX.out.2.2.1 e; omega), fun e => (by have := HNx.out.2.2.2.1; have := HX.out.2.2.2 e; omega)⟩
                            case measure => simp [intOf]; omega
                          · have hkb : ((kk : Int) == 0) = false := beq_eq_false_iff_ne.2 (by omega)
                            have hnx := ag_next (hV := HX.out.2.1) HNz.out (HTd.out) HOb.out
                            have HNx := hid hnx
                            have HKz := hid hkz
                            have HCall : Hid (∀ u : World, LgM u w3.heap.size gb ep amb cmb l 0 pb → Calls Try.prog 9 #[.pointer (some ⟨gb, 0, none⟩), .int .i64 ep, .agg #[.int .i64 o.k, .int .i64 o.fr, .int .i64 o.sl, .int .i64 o.vw, .int .i64 p.a.c, .int .i64 p.a.st, .int .i64 p.a.k, .string p.a.key, .int .u64 (p.a.b : Int), .int .i64 p.a.id, .bool o.wr]] u fun e w' => StPost u w' w3.heap.size gb ep amb cmb l 0 e (stp ep l 0 (pb.map Pl.pp) { o with a := p.a }).1 (stp ep l 0 (pb.map Pl.pp) { o with a := p.a }).2.2 pb) := hid (fun u hu => by
                              have := ucall_any { o with a := p.a } hnx.1 u hu HX.out.2.1.2.1.1.1
                              rw [stp_v hnx.2.2.2.2] at this
                              exact this)
                            clear hnx hkz
                            go_wp2_with (first
                              | (have := H25; refine wl_store_blk rfl 34 _ _ rfl wB.heap.size 4 rfl #[.int .i64 p.a.c, .int .i64 p.a.st, .int .i64 p.a.k, .string p.a.key, .int .u64 (p.a.b : Int), .int .i64 p.a.id] rfl [.int .i64 o.k, .int .i64 o.fr, .int .i64 o.sl, .int .i64 o.vw, .int .i64 o.a.c, .int .i64 o.a.st, .int .i64 o.a.k, .string o.a.key, .int .u64 (o.a.b : Int), .int .i64 o.a.id, .bool o.wr] 36 H25.out.2.1 (by simp) (by kernel_rfl) (by simp [Value.oneCell']) ?_; intro w26 Hz; have H26 : Hid (AgS w w26 ep a n cap o1 n1 k1 o2 n2 k2 w3.heap.size ga gb ama cma amb cmb l pa pb (.slice sd said.length sc) said ∧ BxAt w26 wB.heap.size [.int .i64 o.k, .int .i64 o.fr, .int .i64 o.sl, .int .i64 o.vw, .int .i64 p.a.c, .int .i64 p.a.st, .int .i64 p.a.k, .string p.a.key, .int .u64 (p.a.b : Int), .int .i64 p.a.id, .bool o.wr] 36) := hid ⟨H25.out.1.poke HX.out.1 Hz.out.2, Hz.out.1⟩; clear Hz q0 q1 q2 q3 q4 q5 q6 q7 q8 q9 q10 p4 p5 p6 p7 p8 p9 y0; have q0 := H26.out.2.cell 0 _ rfl; have q1 := H26.out.2.cell 1 _ rfl; have q2 := H26.out.2.cell 2 _ rfl; have q3 := H26.out.2.cell 3 _ rfl; have q4 := H26.out.2.cell 4 _ rfl; have q5 := H26.out.2.cell 5 _ rfl; have q6 := H26.out.2.cell 6 _ rfl; have q7 := H26.out.2.cell 7 _ rfl; have q8 := H26.out.2.cell 8 _ rfl; have q9 := H26.out.2.cell 9 _ rfl; have q10 := H26.out.2.cell 10 _ rfl; have y0 := H26.out.1.cf.cell 0 _ rfl)
                              | (have := H24; refine wl_store_blk rfl 36 _ _ rfl w24.heap.size 0 rfl #[.int .i64 p.k, .int .i64 p.fr, .int .i64 p.sl, .int .i64 p.vw, .int .i64 p.a.c, .int .i64 p.a.st, .int .i64 p.a.k, .string p.a.key, .int .u64 (p.a.b : Int), .int .i64 p.a.id, .bool p.wr] rfl [.int .i64 0, .int .i64 0, .int .i64 0, .int .i64 0, .int .i64 0, .int .i64 0, .int .i64 0, .string ⟨#[]⟩, .int .u64 0, .int .i64 0, .bool false] 36 (heap_alloc_last w24 _) (by simp) (by kernel_rfl) (by simp [Value.oneCell']) ?_; intro w25 Hz; have H25 : Hid (AgS w w25 ep a n cap o1 n1 k1 o2 n2 k2 w3.heap.size ga gb ama cma amb cmb l pa pb (.slice sd said.length sc) said ∧ BxAt w25 wB.heap.size [.int .i64 o.k, .int .i64 o.fr, .int .i64 o.sl, .int .i64 o.vw, .int .i64 o.a.c, .int .i64 o.a.st, .int .i64 o.a.k, .string o.a.key, .int .u64 (o.a.b : Int), .int .i64 o.a.id, .bool o.wr] 36 ∧ BxAt w25 w24.heap.size [.int .i64 p.k, .int .i64 p.fr, .int .i64 p.sl, .int .i64 p.vw, .int .i64 p.a.c, .int .i64 p.a.st, .int .i64 p.a.k, .string p.a.key, .int .u64 (p.a.b : Int), .int .i64 p.a.id, .bool p.wr] 36 ∧ w24.heap.size ≠ wB.heap.size) := hid (by have hb := Hz.out.2.below ((Below.refl w24.heap.size w24).alloc (Nat.le_refl _) _) (Nat.le_refl _); exact ⟨H24.out.1.keep hb, H24.out.2.keep hb, Hz.out.1, fun e => by have := lt_of_blk H24.out.2; omega⟩); clear Hz q0 q1 q2 q3 q4 q5 q6 q7 q8 q9 q10 y0; have q0 := H25.out.2.1.cell 0 _ rfl; have q1 := H25.out.2.1.cell 1 _ rfl; have q2 := H25.out.2.1.cell 2 _ rfl; have q3 := H25.out.2.1.cell 3 _ rfl; have q4 := H25.out.2.1.cell 4 _ rfl; have q5 := H25.out.2.1.cell 5 _ rfl; have q6 := H25.out.2.1.cell 6 _ rfl; have q7 := H25.out.2.1.cell 7 _ rfl; have q8 := H25.out.2.1.cell 8 _ rfl; have q9 := H25.out.2.1.cell 9 _ rfl; have q10 := H25.out.2.1.cell 10 _ rfl; have y0 := H25.out.1.cf.cell 0 _ rfl; have p4 := H25.out.2.2.1.cell 4 _ rfl; have p5 := H25.out.2.2.1.cell 5 _ rfl; have p6 := H25.out.2.2.1.cell 6 _ rfl; have p7 := H25.out.2.2.1.cell 7 _ rfl; have p8 := H25.out.2.2.1.cell 8 _ rfl; have p9 := H25.out.2.2.1.cell 9 _ rfl)
                              | (have := H23; go_at_call 17; go_must (refine (HFi.out _ H23.out.1.spsAt).mono ?_); rintro e w24 ⟨rfl, hb24⟩; have H24 : Hid (AgS w w24 ep a n cap o1 n1 k1 o2 n2 k2 w3.heap.size ga gb ama cma amb cmb l pa pb (.slice sd said.length sc) said ∧ BxAt w24 wB.heap.size [.int .i64 o.k, .int .i64 o.fr, .int .i64 o.sl, .int .i64 o.vw, .int .i64 o.a.c, .int .i64 o.a.st, .int .i64 o.a.k, .string o.a.key, .int .u64 (o.a.b : Int), .int .i64 o.a.id, .bool o.wr] 36) := hid ⟨H23.out.1.keep hb24, H23.out.2.keep hb24⟩; clear hb24 q0 q1 q2 q3 q4 q5 q6 q7 q8 q9 q10; have q0 := H24.out.2.cell 0 _ rfl; have q1 := H24.out.2.cell 1 _ rfl; have q2 := H24.out.2.cell 2 _ rfl; have q3 := H24.out.2.cell 3 _ rfl; have q4 := H24.out.2.cell 4 _ rfl; have q5 := H24.out.2.cell 5 _ rfl; have q6 := H24.out.2.cell 6 _ rfl; have q7 := H24.out.2.cell 7 _ rfl; have q8 := H24.out.2.cell 8 _ rfl; have q9 := H24.out.2.cell 9 _ rfl; have q10 := H24.out.2.cell 10 _ rfl; clear y0; have y0 := H24.out.1.cf.cell 0 _ rfl)
                              | (have := H22; go_at_call 14; go_must (refine (HHs.out _ H22.out.1.bel).mono ?_); rintro e w23 ⟨rfl, hb23⟩; have H23 : Hid (AgS w w23 ep a n cap o1 n1 k1 o2 n2 k2 w3.heap.size ga gb ama cma amb cmb l pa pb (.slice sd said.length sc) said ∧ BxAt w23 wB.heap.size [.int .i64 o.k, .int .i64 o.fr, .int .i64 o.sl, .int .i64 o.vw, .int .i64 o.a.c, .int .i64 o.a.st, .int .i64 o.a.k, .string o.a.key, .int .u64 (o.a.b : Int), .int .i64 o.a.id, .bool o.wr] 36) := hid ⟨H22.out.1.keep hb23, H22.out.2.keep hb23⟩; clear hb23 q0 q1 q2 q3 q4 q5 q6 q7 q8 q9 q10; have q0 := H23.out.2.cell 0 _ rfl; have q1 := H23.out.2.cell 1 _ rfl; have q2 := H23.out.2.cell 2 _ rfl; have q3 := H23.out.2.cell 3 _ rfl; have q4 := H23.out.2.cell 4 _ rfl; have q5 := H23.out.2.cell 5 _ rfl; have q6 := H23.out.2.cell 6 _ rfl; have q7 := H23.out.2.cell 7 _ rfl; have q8 := H23.out.2.cell 8 _ rfl; have q9 := H23.out.2.cell 9 _ rfl; have q10 := H23.out.2.cell 10 _ rfl; clear y0; have y0 := H23.out.1.cf.cell 0 _ rfl)
                              | (have := H21; go_at_call 16; go_must (refine (HKd.out _).mono ?_); rintro e w22 ⟨rfl, hb22⟩; have H22 : Hid (AgS w w22 ep a n cap o1 n1 k1 o2 n2 k2 w3.heap.size ga gb ama cma amb cmb l pa pb (.slice sd said.length sc) said ∧ BxAt w22 wB.heap.size [.int .i64 o.k, .int .i64 o.fr, .int .i64 o.sl, .int .i64 o.vw, .int .i64 o.a.c, .int .i64 o.a.st, .int .i64 o.a.k, .string o.a.key, .int .u64 (o.a.b : Int), .int .i64 o.a.id, .bool o.wr] 36) := hid ⟨H21.out.1.keep hb22, H21.out.2.keep hb22⟩; clear hb22 q0 q1 q2 q3 q4 q5 q6 q7 q8 q9 q10; have q0 := H22.out.2.cell 0 _ rfl; have q1 := H22.out.2.cell 1 _ rfl; have q2 := H22.out.2.cell 2 _ rfl; have q3 := H22.out.2.cell 3 _ rfl; have q4 := H22.out.2.cell 4 _ rfl; have q5 := H22.out.2.cell 5 _ rfl; have q6 := H22.out.2.cell 6 _ rfl; have q7 := H22.out.2.cell 7 _ rfl; have q8 := H22.out.2.cell 8 _ rfl; have q9 := H22.out.2.cell 9 _ rfl; have q10 := H22.out.2.cell 10 _ rfl; have y0 := H22.out.1.cf.cell 0 _ rfl)
                              | (go_at_call 16; go_must (refine (HKd.out _).mono ?_); rintro e w21 ⟨rfl, hb21⟩; have H21 : Hid (AgS w w21 ep a n cap o1 n1 k1 o2 n2 k2 w3.heap.size ga gb ama cma amb cmb l pa pb (.slice sd said.length sc) said ∧ BxAt w21 wB.heap.size [.int .i64 o.k, .int .i64 o.fr, .int .i64 o.sl, .int .i64 o.vw, .int .i64 o.a.c, .int .i64 o.a.st, .int .i64 o.a.k, .string o.a.key, .int .u64 (o.a.b : Int), .int .i64 o.a.id, .bool o.wr] 36) := hid ⟨H20.out.1.keep hb21, H20.out.2.keep hb21⟩; clear hb21 q0 q1 q2 q3 q4 q5 q6 q7 q8 q9 q10; have q0 := H21.out.2.cell 0 _ rfl; have q1 := H21.out.2.cell 1 _ rfl; have q2 := H21.out.2.cell 2 _ rfl; have q3 := H21.out.2.cell 3 _ rfl; have q4 := H21.out.2.cell 4 _ rfl; have q5 := H21.out.2.cell 5 _ rfl; have q6 := H21.out.2.cell 6 _ rfl; have q7 := H21.out.2.cell 7 _ rfl; have q8 := H21.out.2.cell 8 _ rfl; have q9 := H21.out.2.cell 9 _ rfl; have q10 := H21.out.2.cell 10 _ rfl)
                              | (refine wl_load_at rfl 36 _ rfl gs (off + i * 11) (by first | rfl | (simp [Act.eval]; done)) [.int .i64 o.k, .int .i64 o.fr, .int .i64 o.sl, .int .i64 o.vw, .int .i64 o.a.c, .int .i64 o.a.st, .int .i64 o.a.k, .string o.a.key, .int .u64 (o.a.b : Int), .int .i64 o.a.id, .bool o.wr] (HSc.out _ HX.out.1.bel) _ Try.underlying36 rfl (by kernel_rfl) ?_)
                              | (refine wl_store_blk rfl 36 _ _ rfl wB.heap.size 0 rfl #[.int .i64 o.k, .int .i64 o.fr, .int .i64 o.sl, .int .i64 o.vw, .int .i64 o.a.c, .int .i64 o.a.st, .int .i64 o.a.k, .string o.a.key, .int .u64 (o.a.b : Int), .int .i64 o.a.id, .bool o.wr] rfl [.int .i64 0, .int .i64 0, .int .i64 0, .int .i64 0, .int .i64 0, .int .i64 0, .int .i64 0, .string ⟨#[]⟩, .int .u64 0, .int .i64 0, .bool false] 36 (heap_alloc_last wB _) (by simp) (by kernel_rfl) (by simp [Value.oneCell']) ?_; intro w20 Hz; have H20 : Hid (AgS w w20 ep a n cap o1 n1 k1 o2 n2 k2 w3.heap.size ga gb ama cma amb cmb l pa pb (.slice sd said.length sc) said ∧ BxAt w20 wB.heap.size [.int .i64 o.k, .int .i64 o.fr, .int .i64 o.sl, .int .i64 o.vw, .int .i64 o.a.c, .int .i64 o.a.st, .int .i64 o.a.k, .string o.a.key, .int .u64 (o.a.b : Int), .int .i64 o.a.id, .bool o.wr] 36) := hid (by have hb := Hz.out.2.below ((Below.refl wB.heap.size wB).alloc (Nat.le_refl _) _) (Nat.le_refl _); exact ⟨HX.out.1.keep hb, Hz.out.1⟩); clear Hz; have q0 := H20.out.2.cell 0 _ rfl; have q1 := H20.out.2.cell 1 _ rfl; have q2 := H20.out.2.cell 2 _ rfl; have q3 := H20.out.2.cell 3 _ rfl; have q4 := H20.out.2.cell 4 _ rfl; have q5 := H20.out.2.cell 5 _ rfl; have q6 := H20.out.2.cell 6 _ rfl; have q7 := H20.out.2.cell 7 _ rfl; have q8 := H20.out.2.cell 8 _ rfl; have q9 := H20.out.2.cell 9 _ rfl; have q10 := H20.out.2.cell 10 _ rfl)
                              | (have := H26; go_at_call 9; go_must (refine (HCall.out _ H26.out.1.lb).mono ?_); rintro e w30 hp30; obtain ⟨p3, rfl, hq1, hq2, hq3, hq4⟩ := hp30; have H30 : Hid (AgS w w30 ep a n cap o1 n1 k1 o2 n2 k2 w3.heap.size ga gb ama cma amb cmb l pa p3 _ said ∧ p3.map Pl.pp = (stp ep l 0 (pb.map Pl.pp) { o with a := p.a }).2.2) := hid ⟨H26.out.1.hearB hq1 hq3 hq4, hq2⟩; clear hq1 hq2 hq3 hq4 q0 q1 q2 q3 q4 q5 q6 q7 q8 q9 q10 y0))
                            go_roundw
                            case rel => exact ⟨i + 1, _, said, pa, p3, by have := HI.out; omega, by go_num, rfl, H30.out.1, by rw [H30.out.2]; exact HNx.out.2.2.1, fun e => (by have := HNx.out.2.2.2.1; have := HX.out.2.2.1 e; omega), fun e => (by have := HNx.out.2.2.2.1; have := HX.out.2.2.2 e; omega)⟩
                            case measure => simp [intOf]; omega
                    · have hk22 : (o.k % 4 == 2) = false := beq_eq_false_iff_ne.2 hk2
                      have HTd : Hid (told1 bad said o = (said, o)) := hid (told_no (fun e => hk2 e.1))
                      generalize o.k % 4 = KK at HKd hk40 hk22
                      clear hk2 hk4
                      by_cases hkz : kk = 0
                      · have hkb : ((kk : Int) == 0) = true := by rw [hkz]; rfl
                        have hnx := ag_next (hV := HX.out.2.1) HNz.out (HTd.out) HOb.out
                        have HNx := hid hnx
                        have HKz := hid hkz
                        have HCall : Hid (∀ u : World, LgM u w3.heap.size ga ep ama cma l 0 pa → Calls Try.prog 9 #[.pointer (some ⟨ga, 0, none⟩), .int .i64 ep, .agg #[.int .i64 o.k, .int .i64 o.fr, .int .i64 o.sl, .int .i64 o.vw, .int .i64 o.a.c, .int .i64 o.a.st, .int .i64 o.a.k, .string o.a.key, .int .u64 (o.a.b : Int), .int .i64 o.a.id, .bool o.wr]] u fun e w' => StPost u w' w3.heap.size ga ep ama cma l 0 e (stp ep l 0 (pa.map Pl.pp) o).1 (stp ep l 0 (pa.map Pl.pp) o).2.2 pa) := hid (fun u hu => by
                          have := ucall_any o hnx.1 u hu HX.out.2.1.1.1.1
                          rw [stp_v hnx.2.2.2.2] at this
                          exact this)
                        clear hnx hkz
                        go_wp2_with (first
                          | (have := H21; go_at_call 16; go_must (refine (HKd.out _).mono ?_); rintro e w22 ⟨rfl, hb22⟩; have H22 : Hid (AgS w w22 ep a n cap o1 n1 k1 o2 n2 k2 w3.heap.size ga gb ama cma amb cmb l pa pb (.slice sd said.length sc) said ∧ BxAt w22 wB.heap.size [.int .i64 o.k, .int .i64 o.fr, .int .i64 o.sl, .int .i64 o.vw, .int .i64 o.a.c, .int .i64 o.a.st, .int .i64 o.a.k, .string o.a.key, .int .u64 (o.a.b : Int), .int .i64 o.a.id, .bool o.wr] 36) := hid ⟨H21.out.1.keep hb22, H21.out.2.keep hb22⟩; clear hb22 q0 q1 q2 q3 q4 q5 q6 q7 q8 q9 q10; have q0 := H22.out.2.cell 0 _ rfl; have q1 := H22.out.2.cell 1 _ rfl; have q2 := H22.out.2.cell 2 _ rfl; have q3 := H22.out.2.cell 3 _ rfl; have q4 := H22.out.2.cell 4 _ rfl; have q5 := H22.out.2.cell 5 _ rfl; have q6 := H22.out.2.cell 6 _ rfl; have q7 := H22.out.2.cell 7 _ rfl; have q8 := H22.out.2.cell 8 _ rfl; have q9 := H22.out.2.cell 9 _ rfl; have q10 := H22.out.2.cell 10 _ rfl; have y0 := H22.out.1.cf.cell 0 _ rfl)
                          | (go_at_call 16; go_must (refine (HKd.out _).mono ?_); rintro e w21 ⟨rfl, hb21⟩; have H21 : Hid (AgS w w21 ep a n cap o1 n1 k1 o2 n2 k2 w3.heap.size ga gb ama cma amb cmb l pa pb (.slice sd said.length sc) said ∧ BxAt w21 wB.heap.size [.int .i64 o.k, .int .i64 o.fr, .int .i64 o.sl, .int .i64 o.vw, .int .i64 o.a.c, .int .i64 o.a.st, .int .i64 o.a.k, .string o.a.key, .int .u64 (o.a.b : Int), .int .i64 o.a.id, .bool o.wr] 36) := hid ⟨H20.out.1.keep hb21, H20.out.2.keep hb21⟩; clear hb21 q0 q1 q2 q3 q4 q5 q6 q7 q8 q9 q10; have q0 := H21.out.2.cell 0 _ rfl; have q1 := H21.out.2.cell 1 _ rfl; have q2 := H21.out.2.cell 2 _ rfl; have q3 := H21.out.2.cell 3 _ rfl; have q4 := H21.out.2.cell 4 _ rfl; have q5 := H21.out.2.cell 5 _ rfl; have q6 := H21.out.2.cell 6 _ rfl; have q7 := H21.out.2.cell 7 _ rfl; have q8 := H21.out.2.cell 8 _ rfl; have q9 := H21.out.2.cell 9 _ rfl; have q10 := H21.out.2.cell 10 _ rfl)
                          | (refine wl_load_at rfl 36 _ rfl gs (off + i * 11) (by first | rfl | (simp [Act.eval]; done)) [.int .i64 o.k, .int .i64 o.fr, .int .i64 o.sl, .int .i64 o.vw, .int .i64 o.a.c, .int .i64 o.a.st, .int .i64 o.a.k, .string o.a.key, .int .u64 (o.a.b : Int), .int .i64 o.a.id, .bool o.wr] (HSc.out _ HX.out.1.bel) _ Try.underlying36 rfl (by kernel_rfl) ?_)
                          | (refine wl_store_blk rfl 36 _ _ rfl wB.heap.size 0 rfl #[.int .i64 o.k, .int .i64 o.fr, .int .i64 o.sl, .int .i64 o.vw, .int .i64 o.a.c, .int .i64 o.a.st, .int .i64 o.a.k, .string o.a.key, .int .u64 (o.a.b : Int), .int .i64 o.a.id, .bool o.wr] rfl [.int .i64 0, .int .i64 0, .int .i64 0, .int .i64 0, .int .i64 0, .int .i64 0, .int .i64 0, .string ⟨#[]⟩, .int .u64 0, .int .i64 0, .bool false] 36 (heap_alloc_last wB _) (by simp) (by kernel_rfl) (by simp [Value.oneCell']) ?_; intro w20 Hz; have H20 : Hid (AgS w w20 ep a n cap o1 n1 k1 o2 n2 k2 w3.heap.size ga gb ama cma amb cmb l pa pb (.slice sd said.length sc) said ∧ BxAt w20 wB.heap.size [.int .i64 o.k, .int .i64 o.fr, .int .i64 o.sl, .int .i64 o.vw, .int .i64 o.a.c, .int .i64 o.a.st, .int .i64 o.a.k, .string o.a.key, .int .u64 (o.a.b : Int), .int .i64 o.a.id, .bool o.wr] 36) := hid (by have hb := Hz.out.2.below ((Below.refl wB.heap.size wB).alloc (Nat.le_refl _) _) (Nat.le_refl _); exact ⟨HX.out.1.keep hb, Hz.out.1⟩); clear Hz; have q0 := H20.out.2.cell 0 _ rfl; have q1 := H20.out.2.cell 1 _ rfl; have q2 := H20.out.2.cell 2 _ rfl; have q3 := H20.out.2.cell 3 _ rfl; have q4 := H20.out.2.cell 4 _ rfl; have q5 := H20.out.2.cell 5 _ rfl; have q6 := H20.out.2.cell 6 _ rfl; have q7 := H20.out.2.cell 7 _ rfl; have q8 := H20.out.2.cell 8 _ rfl; have q9 := H20.out.2.cell 9 _ rfl; have q10 := H20.out.2.cell 10 _ rfl)
                          | (have := H22; go_at_call 9; go_must (refine (HCall.out _ H22.out.1.la).mono ?_); rintro e w30 hp30; obtain ⟨p3, rfl, hq1, hq2, hq3, hq4⟩ := hp30; have H30 : Hid (AgS w w30 ep a n cap o1 n1 k1 o2 n2 k2 w3.heap.size ga gb ama cma amb cmb l p3 pb _ said ∧ p3.map Pl.pp = (stp ep l 0 (pa.map Pl.pp) o).2.2) := hid ⟨H22.out.1.hearA hq1 hq3 hq4, hq2⟩; clear hq1 hq2 hq3 hq4 q0 q1 q2 q3 q4 q5 q6 q7 q8 q9 q10 y0))
                        go_roundw
                        case rel => exact ⟨i + 1, _, said, p3, pb, by have := HI.out; omega, by go_num, rfl, H30.out.1, by rw [H30.out.2]; exact HNx.out.2.1, fun e => (by have := HNx.out.2.2.2.1; have := HX.out.2.2.1 e; omega), fun e => (by have := HNx.out.2.2.2.1; have := HX.out.2.2.2 e; omega)⟩
                        case measure => simp [intOf]; omega
                      · have hkb : ((kk : Int) == 0) = false := beq_eq_false_iff_ne.2 (by omega)
                        have hnx := ag_next (hV := HX.out.2.1) HNz.out (HTd.out) HOb.out
                        have HNx := hid hnx
                        have HKz := hid hkz
                        have HCall : Hid (∀ u : World, LgM u w3.heap.size gb ep amb cmb l 0 pb → Calls Try.prog 9 #[.pointer (some ⟨gb, 0, none⟩), .int .i64 ep, .agg #[.int .i64 o.k, .int .i64 o.fr, .int .i64 o.sl, .int .i64 o.vw, .int .i64 o.a.c, .int .i64 o.a.st, .int .i64 o.a.k, .string o.a.key, .int .u64 (o.a.b : Int), .int .i64 o.a.id, .bool o.wr]] u fun e w' => StPost u w' w3.heap.size gb ep amb cmb l 0 e (stp ep l 0 (pb.map Pl.pp) o).1 (stp ep l 0 (pb.map Pl.pp) o).2.2 pb) := hid (fun u hu => by
                          have := ucall_any o hnx.1 u hu HX.out.2.1.2.1.1.1
                          rw [stp_v hnx.2.2.2.2] at this
                          exact this)
                        clear hnx hkz
                        go_wp2_with (first
                          | (have := H21; go_at_call 16; go_must (refine (HKd.out _).mono ?_); rintro e w22 ⟨rfl, hb22⟩; have H22 : Hid (AgS w w22 ep a n cap o1 n1 k1 o2 n2 k2 w3.heap.size ga gb ama cma amb cmb l pa pb (.slice sd said.length sc) said ∧ BxAt w22 wB.heap.size [.int .i64 o.k, .int .i64 o.fr, .int .i64 o.sl, .int .i64 o.vw, .int .i64 o.a.c, .int .i64 o.a.st, .int .i64 o.a.k, .string o.a.key, .int .u64 (o.a.b : Int), .int .i64 o.a.id, .bool o.wr] 36) := hid ⟨H21.out.1.keep hb22, H21.out.2.keep hb22⟩; clear hb22 q0 q1 q2 q3 q4 q5 q6 q7 q8 q9 q10; have q0 := H22.out.2.cell 0 _ rfl; have q1 := H22.out.2.cell 1 _ rfl; have q2 := H22.out.2.cell 2 _ rfl; have q3 := H22.out.2.cell 3 _ rfl; have q4 := H22.out.2.cell 4 _ rfl; have q5 := H22.out.2.cell 5 _ rfl; have q6 := H22.out.2.cell 6 _ rfl; have q7 := H22.out.2.cell 7 _ rfl; have q8 := H22.out.2.cell 8 _ rfl; have q9 := H22.out.2.cell 9 _ rfl; have q10 := H22.out.2.cell 10 _ rfl; have y0 := H22.out.1.cf.cell 0 _ rfl)
                          | (go_at_call 16; go_must (refine (HKd.out _).mono ?_); rintro e w21 ⟨rfl, hb21⟩; have H21 : Hid (AgS w w21 ep a n cap o1 n1 k1 o2 n2 k2 w3.heap.size ga gb ama cma amb cmb l pa pb (.slice sd said.length sc) said ∧ BxAt w21 wB.heap.size [.int .i64 o.k, .int .i64 o.fr, .int .i64 o.sl, .int .i64 o.vw, .int .i64 o.a.c, .int .i64 o.a.st, .int .i64 o.a.k, .string o.a.key, .int .u64 (o.a.b : Int), .int .i64 o.a.id, .bool o.wr] 36) := hid ⟨H20.out.1.keep hb21, H20.out.2.keep hb21⟩; clear hb21 q0 q1 q2 q3 q4 q5 q6 q7 q8 q9 q10; have q0 := H21.out.2.cell 0 _ rfl; have q1 := H21.out.2.cell 1 _ rfl; have q2 := H21.out.2.cell 2 _ rfl; have q3 := H21.out.2.cell 3 _ rfl; have q4 := H21.out.2.cell 4 _ rfl; have q5 := H21.out.2.cell 5 _ rfl; have q6 := H21.out.2.cell 6 _ rfl; have q7 := H21.out.2.cell 7 _ rfl; have q8 := H21.out.2.cell 8 _ rfl; have q9 := H21.out.2.cell 9 _ rfl; have q10 := H21.out.2.cell 10 _ rfl)
                          | (refine wl_load_at rfl 36 _ rfl gs (off + i * 11) (by first | rfl | (simp [Act.eval]; done)) [.int .i64 o.k, .int .i64 o.fr, .int .i64 o.sl, .int .i64 o.vw, .int .i64 o.a.c, .int .i64 o.a.st, .int .i64 o.a.k, .string o.a.key, .int .u64 (o.a.b : Int), .int .i64 o.a.id, .bool o.wr] (HSc.out _ HX.out.1.bel) _ Try.underlying36 rfl (by kernel_rfl) ?_)
                          | (refine wl_store_blk rfl 36 _ _ rfl wB.heap.size 0 rfl #[.int .i64 o.k, .int .i64 o.fr, .int .i64 o.sl, .int .i64 o.vw, .int .i64 o.a.c, .int .i64 o.a.st, .int .i64 o.a.k, .string o.a.key, .int .u64 (o.a.b : Int), .int .i64 o.a.id, .bool o.wr] rfl [.int .i64 0, .int .i64 0, .int .i64 0, .int .i64 0, .int .i64 0, .int .i64 0, .int .i64 0, .string ⟨#[]⟩, .int .u64 0, .int .i64 0, .bool false] 36 (heap_alloc_last wB _) (by simp) (by kernel_rfl) (by simp [Value.oneCell']) ?_; intro w20 Hz; have H20 : Hid (AgS w w20 ep a n cap o1 n1 k1 o2 n2 k2 w3.heap.size ga gb ama cma amb cmb l pa pb (.slice sd said.length sc) said ∧ BxAt w20 wB.heap.size [.int .i64 o.k, .int .i64 o.fr, .int .i64 o.sl, .int .i64 o.vw, .int .i64 o.a.c, .int .i64 o.a.st, .int .i64 o.a.k, .string o.a.key, .int .u64 (o.a.b : Int), .int .i64 o.a.id, .bool o.wr] 36) := hid (by have hb := Hz.out.2.below ((Below.refl wB.heap.size wB).alloc (Nat.le_refl _) _) (Nat.le_refl _); exact ⟨HX.out.1.keep hb, Hz.out.1⟩); clear Hz; have q0 := H20.out.2.cell 0 _ rfl; have q1 := H20.out.2.cell 1 _ rfl; have q2 := H20.out.2.cell 2 _ rfl; have q3 := H20.out.2.cell 3 _ rfl; have q4 := H20.out.2.cell 4 _ rfl; have q5 := H20.out.2.cell 5 _ rfl; have q6 := H20.out.2.cell 6 _ rfl; have q7 := H20.out.2.cell 7 _ rfl; have q8 := H20.out.2.cell 8 _ rfl; have q9 := H20.out.2.cell 9 _ rfl; have q10 := H20.out.2.cell 10 _ rfl)
                          | (have := H22; go_at_call 9; go_must (refine (HCall.out _ H22.out.1.lb).mono ?_); rintro e w30 hp30; obtain ⟨p3, rfl, hq1, hq2, hq3, hq4⟩ := hp30; have H30 : Hid (AgS w w30 ep a n cap o1 n1 k1 o2 n2 k2 w3.heap.size ga gb ama cma amb cmb l pa p3 _ said ∧ p3.map Pl.pp = (stp ep l 0 (pb.map Pl.pp) o).2.2) := hid ⟨H22.out.1.hearB hq1 hq3 hq4, hq2⟩; clear hq1 hq2 hq3 hq4 q0 q1 q2 q3 q4 q5 q6 q7 q8 q9 q10 y0))
                        go_roundw
                        case rel => exact ⟨i + 1, _, said, pa, p3, by have := HI.out; omega, by go_num, rfl, H30.out.1, by rw [H30.out.2]; exact HNx.out.2.2.1, fun e => (by have := HNx.out.2.2.2.1; have := HX.out.2.2.1 e; omega), fun e => (by have := HNx.out.2.2.2.1; have := HX.out.2.2.2 e; omega)⟩
                        case measure => simp [intOf]; omega
        · have hgt : ((wildS l bad : Int) > fltZ (n : Int)) := by rw [HN.out.1] at hwf; omega
          clear hwf
          generalize (wildS l bad : Int) = WN at hgt ⊢
          generalize fltZ (n : Int) = FN at hgt HFa
          go_wp2_with (first
            | (go_at_call 15; go_must (refine (HFa.out _).mono ?_); rintro e w5 ⟨rfl, hb5⟩; have H5 := hid (HAg.out.keep (HB.out.trans (hb5.mono HB.out.size))); clear hb5 y1))
          go_ret
          exact ⟨rfl, H5.out.bel⟩
      · have hj1 : (j : Int) < (n : Int) := by omega
        have hjl : j < l.length := by have := HN.out.1; omega
        have HTk := hid (cnt_take (fun x => hasM bad x) l j hjl)
        have hz := getD_of (l := l) (i := j) (d := 0) hjl
        obtain ⟨gm, om, rfl, hgm, hc0⟩ := (HIu.out w (Below.refl _ _)).1.at j _ hz
        have hc := ((HAg.out.keep HB.out).bel.cell (p := ⟨gm, om + j, none⟩) hgm).trans hc0
        have HHs : Hid (∀ u : World, Below w.heap.size w u → Calls Try.prog 14 #[.slice ab nb kb, .int .i64 (l.getD j 0)] u fun e w' => e = .returned (.bool (hasM bad (l.getD j 0))) ∧ Below u.heap.size u w') := hid (fun u hu => uhas14 ab nb kb bad HN.out.2.2.1 HN.out.2.2.2 (l.getD j 0) u (HIu.out u hu).2.1)
        have hcl : (l.take j).countP (fun x => hasM bad x) ≤ 10 := Nat.le_trans List.countP_le_length (by rw [List.length_take]; omega)
        have hw5 : IntKind.i64.wrap ((j : Int) + 1) = (j : Int) + 1 := wrap_s (by omega) (by omega)
        cases hbd : hasM bad (l.getD j 0) with
        | true =>
          simp only [hbd] at HTk
          rw [hbd] at HHs
          generalize (l.take j).countP (fun x => hasM bad x) = C at hcl HTk ⊢
          have hw6 : IntKind.i64.wrap ((C : Int) + 1) = (C : Int) + 1 := wrap_s (by omega) (by omega)
          generalize l.getD j 0 = Z at hc HHs
          clear hj hjn hjl hz hgm hc0 hbd
          go_wp2_with (first
            | (go_at_call 14; go_must (refine (HHs.out _ (HAg.out.keep HB.out).bel).mono ?_); rintro e w5 ⟨rfl, hb5⟩; have H5 := hid (HB.out.trans (hb5.mono HB.out.size)); clear hb5))
          go_roundw
          case rel => exact ⟨j + 1, by have := HJ.out; omega, by go_num, by rw [HTk.out]; simp, H5.out⟩
          case measure => simp [intOf]; omega
        | false =>
          simp only [hbd] at HTk
          rw [hbd] at HHs
          generalize (l.take j).countP (fun x => hasM bad x) = C at hcl HTk ⊢
          generalize l.getD j 0 = Z at hc HHs
          clear hj hjn hjl hz hgm hc0 hbd
          go_wp2_with (first
            | (go_at_call 14; go_must (refine (HHs.out _ (HAg.out.keep HB.out).bel).mono ?_); rintro e w5 ⟨rfl, hb5⟩; have H5 := hid (HB.out.trans (hb5.mono HB.out.size)); clear hb5))
          go_roundw
          case rel => exact ⟨j + 1, by have := HJ.out; omega, by go_num, by rw [HTk.out]; simp, H5.out⟩
          case measure => simp [intOf]; omega
end Go.Proofs.Ytohhlolmojeomaa
