/- Each certificate is a proof; they stand by slots; their views only rise. -/
import Derived.Test.YtohhlolmojeomaaSlWM
import Derived.Test.YtohhlolmojeomaaTsDM
namespace Go.Proofs.Ytohhlolmojeomaa
open Go.RowKit

/-- What 'was' holds, slot by slot. -/
def WInv (WL : List Int) (qs : List Pp) : Prop := WL.length = 5 ∧ ∀ m, m < 4 → ((qs.getD m q0P).ct.2.2.2.length = 0 → WL.getD (m + 1) 0 = 0) ∧ ((qs.getD m q0P).ct.2.2.2.length ≠ 0 → WL.getD (m + 1) 0 ≤ (qs.getD m q0P).ct.1)
theorem WInv.zero {qs : List Pp} (h : ∀ m, m < 4 → (qs.getD m q0P).ct.2.2.2.length = 0) : WInv [0, 0, 0, 0, 0] qs := ⟨rfl, fun m hm => ⟨fun _ => by match m, hm with | 0, _ => rfl | 1, _ => rfl | 2, _ => rfl | 3, _ => rfl, fun e => absurd (h m hm) e⟩⟩
theorem WInv.step {WL : List Int} {ep : Int} {l : List Int} {v : Int} {qs : List Pp} (h : WInv WL qs) (hs : SInv ep l v qs) (o : Sp) (hb : o.a.b < 18446744073709551616) : WInv WL (stp ep l v qs o).2.2 := by
  refine ⟨h.1, fun m hm => ?_⟩
  have hst := stp_inv hs o hb
  have hq := getD_of (l := qs) (i := m) (d := q0P) (by rw [hs.1.four]; exact hm)
  obtain ⟨q', h1, h2⟩ := hst.2.2.2 m _ hq
  have hg : (stp ep l v qs o).2.2.getD m q0P = q' := by rw [List.getD_eq_getElem?_getD, h1]; rfl
  rw [hg]
  have hw := h.2 m hm
  by_cases hz : (qs.getD m q0P).ct.2.2.2.length = 0
  · refine ⟨fun _ => hw.1 hz, fun hn => ?_⟩
    rw [hw.1 hz]
    exact ((hst.1.2 m q' h1).ct hn).2.1
  · exact ⟨fun e => absurd e (h2.ct hz).1, fun _ => Int.le_trans (hw.2 hz) (h2.ct hz).2⟩
theorem WInv.put {WL : List Int} {qs : List Pp} (h : WInv WL qs) {m : Nat} (hm : m < 4) (hn : (qs.getD m q0P).ct.2.2.2.length ≠ 0) : WInv (WL.set (m + 1) (qs.getD m q0P).ct.1) qs := by
  refine ⟨by rw [List.length_set]; exact h.1, fun k hk => ?_⟩
  have hw := h.2 k hk
  by_cases e : k = m
  · subst e
    have : (WL.set (k + 1) (qs.getD k q0P).ct.1).getD (k + 1) 0 = (qs.getD k q0P).ct.1 := by
      rw [getD_set _ _ _ _ (by rw [h.1]; omega), if_pos rfl]
    rw [this]
    exact ⟨fun e => absurd e hn, fun _ => Int.le_refl _⟩
  · have : (WL.set (m + 1) (qs.getD m q0P).ct.1).getD (k + 1) 0 = WL.getD (k + 1) 0 := by
      rw [getD_set _ _ _ _ (by rw [h.1]; omega), if_neg (by omega)]
    rw [this]
    exact hw
/-- The certificates' requests have reals of 64 bits. -/
def CtB (qs : List Pp) : Prop := ∀ q, q ∈ qs → q.ct.2.2.1.b < 18446744073709551616
theorem CtB.step {ep : Int} {l : List Int} {v : Int} {qs : List Pp} (h : CtB qs) (hs : SInv ep l v qs) (o : Sp) (hb : o.a.b < 18446744073709551616) : CtB (stp ep l v qs o).2.2 := by
  have his := stp_is hs.1 o hb
  generalize stp ep l v qs o = r at his ⊢
  cases his with
  | no er he => exact h
  | ent x h1 h2 => exact fun q hq => by obtain ⟨p, hp, rfl⟩ := List.mem_map.1 hq; exact h p hp
  | put i q q1 hi hq hc hd hk hp =>
    intro x hx
    rcases List.mem_or_eq_of_mem_set hx with h1 | h1
    · exact h x h1
    · rw [h1, setl]
      have hq1 : q1.ct.2.2.1.b < 18446744073709551616 := by rw [hc]; exact h q (List.mem_of_getElem? hq)
      split
      · simp only
        split
        · exact rd_small _
        · exact hq1
      · exact hq1
theorem CtB.zero : CtB (z4P.map Pl.pp) := fun q hq => by
  have : q = zPl.pp := by simpa [z4P] using hq
  rw [this]; exact show (0 : Nat) < 18446744073709551616 by decide
/-- Certificate by certificate: whose it is, and that slots rise. -/
theorem crt_is {ep : Int} {l : List Int} {v : Int} {qs : List Pp} (h : SInv ep l v qs) (k : Nat) (hk : k < (crtQ qs).length) : ∃ m, m < 4 ∧ (crtQ qs).getD k ct0 = (qs.getD m q0P).ct ∧ (qs.getD m q0P).ct.2.2.2.length ≠ 0 ∧ ((crtQ qs).getD k ct0).2.1 = 4 * ep + 1 + (m : Int) := by
  have hx : (crtQ qs)[k]? = some ((crtQ qs).getD k ct0) := getD_of hk
  obtain ⟨q, hq, he⟩ := List.mem_map.1 (List.mem_of_getElem? hx)
  obtain ⟨hq1, hq2⟩ := List.mem_filter.1 hq
  obtain ⟨m, hm⟩ := List.getElem?_of_mem hq1
  have hl := (List.getElem?_eq_some_iff.1 hm).1
  have hg : qs.getD m q0P = q := by rw [List.getD_eq_getElem?_getD, hm]; rfl
  have hn : q.ct.2.2.2.length ≠ 0 := by simpa using hq2
  exact ⟨m, by rw [h.1.four] at hl; exact hl, by rw [hg, he], by rw [hg]; exact hn, by rw [← he]; exact ((h.2 m q hm).ct hn).1⟩
theorem crt_rise {ep : Int} {l : List Int} {v : Int} {qs : List Pp} (h : SInv ep l v qs) (k : Nat) (hk : k + 1 < (crtQ qs).length) : ((crtQ qs).getD k ct0).2.1 < ((crtQ qs).getD (k + 1) ct0).2.1 := by
  have hp : List.Pairwise (fun a b : Ct => a.2.1 < b.2.1) (crtQ qs) := by
    rw [crtQ, List.pairwise_map, List.pairwise_filter, List.pairwise_iff_getElem]
    intro i j hi hj hij h1 h2
    have e1 := ((h.2 i _ (List.getElem?_eq_getElem hi)).ct (by simpa using h1)).1
    have e2 := ((h.2 j _ (List.getElem?_eq_getElem hj)).ct (by simpa using h2)).1
    omega
  have := List.pairwise_iff_getElem.1 hp k (k + 1) (by omega) hk (by omega)
  rw [List.getD_eq_getElem?_getD, List.getD_eq_getElem?_getD, List.getElem?_eq_getElem hk, List.getElem?_eq_getElem (show k < (crtQ qs).length by omega)]
  exact this
def lastS (ep : Int) (C : List Ct) : Nat → Int
  | 0 => 0
  | k + 1 => (C.getD k ct0).2.1 - 4 * ep
theorem ints_set (WL : List Int) (i : Nat) (x : Int) : (WL.map (Value.int .i64)).set i (.int .i64 x) = (WL.set i x).map (Value.int .i64) := by rw [List.map_set]
theorem ints_at (WL : List Int) (i : Nat) (h : i < WL.length) : (WL.map (Value.int .i64))[i]? = some (.int .i64 (WL.getD i 0)) := by rw [List.getElem?_map, getD_of h]; rfl
theorem mem_lt {w : World} {am : Option Addr} {l : List Int} (h : IntsIn w am l) (hl : 0 < l.length) (x : Addr) (hx : am = some x) : x.block < w.heap.size := by
  rcases h with h | ⟨gg, off, ha, hg, _⟩
  · rw [h] at hl; cases hl
  · rw [ha] at hx; cases hx; exact hg
theorem run_make5 (u : World) : (Instr.makeSlice 22 (.int .i64 5) (.int .i64 5)).run Try.prog u = .ok (.slice (some ⟨u.heap.size, 0, none⟩) 5 5) (u.alloc (.cells #[.int .i64 0, .int .i64 0, .int .i64 0, .int .i64 0, .int .i64 0] 3)) := by kernel_rfl
set_option maxRecDepth 100000 in
set_option maxHeartbeats 12800000 in
theorem slotsProofs_walk (ep : Int) (a : Option Addr) (n cap : Nat) (l : List Int) (hn : l.length = n) (hm : n ≤ maxLen) (ad : Option Addr) (len : Nat) (kc : Nat) (os : List Sp) (hlen : os.length = len) (hmax : len ≤ maxLen) (hos : ∀ o, o ∈ os → spOk o) (w : World) (hI : IntsIn w a l) (hS : SpsIn w ad os) :
    Calls Try.prog 3 #[.agg #[.int .i64 ep, .slice a n cap], .slice ad len kc] w fun e w' => e = .returned (.bool true) ∧ Below w.heap.size w w' := by
  have hbA : Below w.heap.size w (w.alloc (.cells #[.int .i64 ep, .slice a n cap] 24)) := (Below.refl _ _).alloc (Nat.le_refl _) _
  have H0 : Hid (BxAt (w.alloc (.cells #[.int .i64 ep, .slice a n cap] 24)) w.heap.size [.int .i64 ep, .slice a n cap] 24 ∧ Below w.heap.size w (w.alloc (.cells #[.int .i64 ep, .slice a n cap] 24))) := hid ⟨heap_alloc_last w _, hbA⟩
  have y0 := H0.out.1.cell 0 _ rfl
  have y1 := H0.out.1.cell 1 _ rfl
  have HI := hid (And.intro hI hS)
  have HN := hid (And.intro hn (And.intro hm (And.intro hlen (And.intro hmax hos))))
  have hlenI : (len : Int) ≤ 9223372036854775807 := by unfold maxLen at hmax; omega
  cases hr : rightC ep l with
  | false =>
    have HW : Hid (∀ u : World, Below w.heap.size w u → Calls Try.prog 8 #[.agg #[.int .i64 ep, .slice a n cap]] u fun e w' => e = .returned (.tuple #[.pointer none, .int .i64 1]) ∧ Below u.heap.size u w') := hid (fun u hu => snew_no ep a n cap l hn hm u (hI.keep hu (Nat.le_refl _)) hr)
    clear hn hm hI hS hlen hmax hos hr hbA
    go_enter Try.func3, Try.ntmps3
    go_wp2_with (first
      | (go_at_call 7; go_must (refine (ulives14 _).mono ?_); rintro e w1 ⟨rfl, hb1⟩; have H1 : Hid (BxAt w1 w.heap.size [.int .i64 ep, .slice a n cap] 24 ∧ Below w.heap.size w w1) := hid ⟨H0.out.1.keep hb1, H0.out.2.trans (hb1.mono H0.out.2.size)⟩; clear hb1 y0 y1; have y0 := H1.out.1.cell 0 _ rfl; have y1 := H1.out.1.cell 1 _ rfl)
      | (go_at_call 8; go_must (refine (HW.out _ H1.out.2).mono ?_); rintro e w2 ⟨rfl, hb2⟩; have H2 := hid (H1.out.2.trans (hb2.mono H1.out.2.size)); clear hb2 y0 y1))
    go_ret
    exact ⟨rfl, H2.out⟩
  | true =>
    have HW : Hid (∀ u : World, Below w.heap.size w u → Calls Try.prog 8 #[.agg #[.int .i64 ep, .slice a n cap]] u fun e w' => NewPost u w' e ep l) := hid (fun u hu => snew_yes ep a n cap l hn u (hI.keep hu (Nat.le_refl _)) hr)
    have HZ := hid (z_inv hr)
    have hepr := (rightC_ep hr).1
    have hln := mem_len (rightC_ep hr).2
    have hw1 : IntKind.i64.wrap (4 * ep) = 4 * ep := wrap_s (by omega) (by omega)
    have HEp := hid (And.intro hepr hln)
    have HIu : Hid (∀ u : World, Below w.heap.size w u → IntsIn u a l) := hid (fun u hu => hI.keep hu (Nat.le_refl _))
    clear hn hm hI hS hlen hmax hos hr hbA hln
    go_enter Try.func3, Try.ntmps3
    go_wp2_with (first
      | (rw [run_make5])
      | (go_at_call 7; go_must (refine (ulives14 _).mono ?_); rintro e w1 ⟨rfl, hb1⟩; have H1 : Hid (BxAt w1 w.heap.size [.int .i64 ep, .slice a n cap] 24 ∧ Below w.heap.size w w1) := hid ⟨H0.out.1.keep hb1, H0.out.2.trans (hb1.mono H0.out.2.size)⟩; clear hb1 y0 y1; have y0 := H1.out.1.cell 0 _ rfl; have y1 := H1.out.1.cell 1 _ rfl)
      | (go_at_call 8; go_must (refine (HW.out _ H1.out.2).mono ?_); rintro e w2 ⟨g, am, cm, rfl, hn1, hn2, hn3, hn4, hn5⟩; have H2 : Hid ((BxAt w2 w.heap.size [.int .i64 ep, .slice a n cap] 24 ∧ Below w.heap.size w w2) ∧ SlA w2 g ep am cm l 0 z4P ∧ w.heap.size < g ∧ g < w2.heap.size ∧ (∀ x, am = some x → x.block ≠ g) ∧ ∀ x, am = some x → x.block < w2.heap.size) := hid ⟨⟨H1.out.1.keep hn5, H1.out.2.trans (hn5.mono H1.out.2.size)⟩, hn1, by have := lt_of_blk H1.out.1; omega, hn3, fun x hx => (hn4 x hx).2, fun x hx => mem_lt hn1.mem (by have := HEp.out.2; omega) x hx⟩; clear hn1 hn2 hn3 hn4 hn5 y0 y1))
    obtain ⟨bw, ebw⟩ : ∃ bw, bw = w2.heap.size := ⟨_, rfl⟩
    have H3 : Hid ((BxAt (w2.alloc (.cells #[.int .i64 0, .int .i64 0, .int .i64 0, .int .i64 0, .int .i64 0] 3)) w.heap.size [.int .i64 ep, .slice a n cap] 24 ∧ Below w.heap.size w (w2.alloc (.cells #[.int .i64 0, .int .i64 0, .int .i64 0, .int .i64 0, .int .i64 0] 3))) ∧ LgM (w2.alloc (.cells #[.int .i64 0, .int .i64 0, .int .i64 0, .int .i64 0, .int .i64 0] 3)) (bw + 1) g ep am cm l 0 z4P ∧ BxAt (w2.alloc (.cells #[.int .i64 0, .int .i64 0, .int .i64 0, .int .i64 0, .int .i64 0] 3)) bw ([0, 0, 0, 0, 0].map (Value.int .i64)) 3 ∧ g < bw ∧ ∀ x, am = some x → x.block ≠ bw) := hid (by
      have hb : Below w2.heap.size w2 (w2.alloc (.cells #[.int .i64 0, .int .i64 0, .int .i64 0, .int .i64 0, .int .i64 0] 3)) := (Below.refl _ _).alloc (Nat.le_refl _) _
      exact ⟨⟨H2.out.1.1.keep hb, H2.out.1.2.trans (hb.mono H2.out.1.2.size)⟩, LgM.zero (H2.out.2.1.keep hb) (by have := H2.out.2.2.2.1; omega) (by rw [ebw]; simp) H2.out.2.2.2.2.1, by rw [ebw]; exact heap_alloc_last w2 _, by rw [ebw]; exact H2.out.2.2.2.1, fun x hx => by rw [ebw]; have := H2.out.2.2.2.2.2 x hx; omega⟩)
    rw [← ebw]
    clear ebw
    have hz0 : ∀ m, m < 4 → ((z4P.map Pl.pp).getD m q0P).ct.2.2.2.length = 0 := fun m hm => by match m, hm with | 0, _ => rfl | 1, _ => rfl | 2, _ => rfl | 3, _ => rfl
    go_loopw [8] (fun i wr => ∃ (j : Nat) (v : Int) (ps : List Pl) (WL : List Int), j ≤ len ∧ i = .int .i64 (j : Int) ∧ (BxAt wr w.heap.size [.int .i64 ep, .slice a n cap] 24 ∧ Below w.heap.size w wr) ∧ LgM wr (bw + 1) g ep am cm l v ps ∧ SInv ep l v (ps.map Pl.pp) ∧ CtB (ps.map Pl.pp) ∧ BxAt wr bw (WL.map (Value.int .i64)) 3 ∧ WInv WL (ps.map Pl.pp)) (fun i _ => ((len : Int) - intOf i).toNat)
    case atStart => exact ⟨0, 0, z4P, [0, 0, 0, 0, 0], Nat.zero_le _, rfl, H3.out.1, H3.out.2.1, HZ.out, CtB.zero, H3.out.2.2.1, WInv.zero hz0⟩
    case round =>
      obtain ⟨j, v, ps, WL, hj, rfl, hE, hL, hI, hC, hWb, hWi⟩ := hrel
      have HX : Hid ((BxAt wr w.heap.size [.int .i64 ep, .slice a n cap] 24 ∧ Below w.heap.size w wr) ∧ LgM wr (bw + 1) g ep am cm l v ps ∧ SInv ep l v (ps.map Pl.pp) ∧ CtB (ps.map Pl.pp) ∧ BxAt wr bw (WL.map (Value.int .i64)) 3 ∧ WInv WL (ps.map Pl.pp)) := hid ⟨hE, hL, hI, hC, hWb, hWi⟩
      clear hE hL hI hC hWb hWi hz0
      have hj0 : (0 : Int) ≤ (j : Int) := Int.natCast_nonneg _
      by_cases hjn : j = len
      · have hj1 : ¬ (j : Int) < (len : Int) := by omega
        clear hj hjn
        go_wp2
        go_ret
        exact ⟨rfl, HX.out.1.2⟩
      · have hj1 : (j : Int) < (len : Int) := by omega
        obtain ⟨o, ho⟩ : ∃ o, os[j]? = some o := ⟨_, List.getElem?_eq_getElem (by have := HN.out.2.2.1; omega)⟩
        have hob := (HN.out.2.2.2.2 o (List.mem_of_getElem? ho)).2
        obtain ⟨gs, off, rfl, hgs, hcell⟩ : ∃ gs off, ad = some ⟨gs, off, none⟩ ∧ gs < w.heap.size ∧ w.rangeAt gs (off + j * 11) (spC o) := by
          rcases HI.out.2 with h0 | ⟨gs, off, h1, h2, h3⟩
          · rw [h0] at ho; simp at ho
          · exact ⟨gs, off, h1, h2, fun q u hq => h3 j o ho q u hq⟩
        have HSc : Hid (∀ u : World, Below w.heap.size w u → u.rangeAt gs (off + j * 11) (spC o)) := hid (fun u hu q x hq => (hu.cell (p := ⟨gs, off + j * 11 + q, none⟩) hgs).trans (hcell q x hq))
        have hw5 : IntKind.i64.wrap ((j : Int) + 1) = (j : Int) + 1 := wrap_l (by omega) (by omega)
        have hst := stp_inv HX.out.2.2.1 o hob
        have HI1 := hid hst.1
        have HC1 := hid (HX.out.2.2.2.1.step HX.out.2.2.1 o hob)
        have HW1 := hid (HX.out.2.2.2.2.2.step HX.out.2.2.1 o hob)
        have HCall : Hid (∀ u : World, LgM u (bw + 1) g ep am cm l v ps → Calls Try.prog 9 #[.pointer (some ⟨g, 0, none⟩), .int .i64 ep, .agg (spC o).toArray] u fun e w' => StPost u w' (bw + 1) g ep am cm l (stp ep l v (ps.map Pl.pp) o).2.1 e (stp ep l v (ps.map Pl.pp) o).1 (stp ep l v (ps.map Pl.pp) o).2.2) := hid (fun u hu => ucall_any o hob u hu HX.out.2.2.1.1)
        generalize hR : stp ep l v (ps.map Pl.pp) o = R at HCall HI1 HC1 HW1
        obtain ⟨Er, v', qs'⟩ := R
        have HJ := hid (And.intro hj hjn)
        clear hj hjn ho hob hcell hst hR hgs
        go_wp2_with fail
        obtain ⟨wd, ed⟩ : ∃ u, u = wr.drew := ⟨_, rfl⟩
        have HD : Hid ((BxAt wd w.heap.size [.int .i64 ep, .slice a n cap] 24 ∧ Below w.heap.size w wd) ∧ LgM wd (bw + 1) g ep am cm l v ps ∧ BxAt wd bw (WL.map (Value.int .i64)) 3) := hid (by rw [ed]; have hb := (Below.refl wr.heap.size wr).drew; exact ⟨⟨HX.out.1.1, HX.out.1.2.drew⟩, HX.out.2.1.keep hb, HX.out.2.2.2.2.1⟩)
        have HS : Hid (BxAt wd w.heap.size [.int .i64 ep, .slice a n cap] 24 ∧ wd.rangeAt gs (off + j * 11) (spC o)) := hid ⟨HD.out.1.1, HSc.out _ HD.out.1.2⟩
        refine wp_region_G (S := fun ww => BxAt ww w.heap.size [.int .i64 ep, .slice a n cap] 24 ∧ ww.rangeAt gs (off + j * 11) (spC o)) (ex := [7]) (by kernel_rfl) ?_
        try (change wpAnyG _ _ _ _ _ _ _ _ _ (World.drew _))
        try rw [← ed]
        clear ed
        refine wpAnyG_take (i := 0) (v := ?v1) rfl (by kernel_rfl) (fun _ _ _ h => h) (Or.inl ⟨by rfl, ?hy1⟩) HS.out ?rest1
        case hy1 => (intro ww _; go_simp; try with_reducible rfl)
        go_simp
        refine wpAnyG_take (i := 1) (v := ?v2) rfl (by kernel_rfl) (fun _ _ _ h => h) (Or.inl ⟨by rfl, ?hy2⟩) HS.out ?rest2
        case hy2 => (intro ww _; go_simp; try with_reducible rfl)
        go_simp
        refine wpAnyG_take (i := 2) (v := ?v3) rfl (by kernel_rfl) (fun _ _ _ h => h) (Or.inl ⟨by rfl, ?hy3⟩) HS.out ?rest3
        case hy3 => (intro ww hS; have y0 := hS.1.cell 0 _ rfl; go_simp; try with_reducible rfl)
        go_simp
        refine wpAnyG_take (i := 3) (v := ?v4) rfl (by kernel_rfl) (fun _ _ _ h => h) (Or.inl ⟨by rfl, ?hy4⟩) HS.out ?rest4
        case hy4 => (intro ww _; go_simp; try with_reducible rfl)
        go_simp
        refine wpAnyG_take (i := 4) (v := ?v5) rfl (by kernel_rfl) (fun _ _ _ h => h) (Or.inl ⟨by rfl, ?hy5⟩) HS.out ?rest5
        case hy5 => (intro ww _; go_simp; try with_reducible rfl)
        go_simp
        refine wpAnyG_take (i := 5) (v := ?v6) rfl (by kernel_rfl) (fun _ _ _ h => h) (Or.inl ⟨by rfl, ?hy6⟩) HS.out ?rest6
        case hy6 => (intro ww _; go_simp; try with_reducible rfl)
        go_simp
        refine wpAnyG_take (i := 6) (v := .agg (spC o).toArray) rfl (by kernel_rfl) (fun _ _ _ h => h) (yieldsIf_load_mid (by rfl) 36 _ rfl gs (off + j * 11) (by first | rfl | (simp [Act.eval]; done)) (spC o) _ (fun _ hS => hS.2) Try.underlying36 rfl (by kernel_rfl)) HS.out ?rest99
        go_simp
        refine wpAnyG_all (rs := [7]) (by kernel_rfl) (by simp) ?_
        intro i hi
        obtain rfl := List.mem_singleton.1 hi
        clear hi
        refine wpOp_s rfl (by rfl) (fun K hK => ?_)
        go_simp
        refine (HCall.out _ HD.out.2.1).mono ?_
        rintro e w9 hp9
        obtain ⟨ps9, rfl, hq1, hq2, hq3⟩ := hp9
        have H9 : Hid ((BxAt w9 w.heap.size [.int .i64 ep, .slice a n cap] 24 ∧ Below w.heap.size w w9) ∧ LgM w9 (bw + 1) g ep am cm l v' ps9 ∧ ps9.map Pl.pp = qs' ∧ BxAt w9 bw (WL.map (Value.int .i64)) 3) := hid (by
          have hg := H2.out.2.2.1
          have hgb := H3.out.2.2.2.1
          obtain ⟨h1, h2, h3⟩ := HD.out
          exact ⟨⟨(hq3.block _ (lt_of_blk h1.1) (by omega)).trans h1.1, h1.2.trans (hq3.below h1.2.size (by omega))⟩, hq1, hq2, (hq3.block _ (lt_of_blk h3) (by omega)).trans h3⟩)
        clear hq1 hq2 hq3
        refine hK _ _ ⟨fun h => absurd (by simp) h, ?_⟩
        clear hK K
        go_simp
        refine wpAnyG_done (by kernel_rfl) ?_ _
        go_simp
        have HQ9 : Hid (SInv ep l v' (ps9.map Pl.pp) ∧ CtB (ps9.map Pl.pp) ∧ WInv WL (ps9.map Pl.pp)) := hid (by rw [H9.out.2.2.1]; exact ⟨HI1.out, HC1.out, HW1.out⟩)
        have HCe := hid (tcerts H9.out.2.1 HQ9.out.1.1)
        have HFew := hid (crt_few HQ9.out.1.1)
        obtain ⟨LN, eLN⟩ : ∃ LN, LN = (crtQ (ps9.map Pl.pp)).length := ⟨_, rfl⟩
        have HLn := hid eLN
        rw [← eLN] at HCe HFew
        clear eLN
        go_wp2_with (first
          | (go_at_call 10; go_must (refine (HCe.out).mono ?_); rintro e w10 ⟨a8, k8, rfl, hr8, hb8⟩; have H10 : Hid ((BxAt w10 w.heap.size [.int .i64 ep, .slice a n cap] 24 ∧ Below w.heap.size w w10) ∧ LgM w10 (bw + 1) g ep am cm l v' ps9 ∧ BxAt w10 bw (WL.map (Value.int .i64)) 3 ∧ Reads (fun b => w9.heap.size ≤ b) w10 (.slice a8 LN k8) (dCts (crtQ (ps9.map Pl.pp))) ∧ bw < w9.heap.size) := hid ⟨⟨H9.out.1.1.keep hb8, H9.out.1.2.trans (hb8.mono H9.out.1.2.size)⟩, H9.out.2.1.keep hb8, H9.out.2.2.2.keep hb8, hr8, lt_of_blk H9.out.2.2.2⟩; clear hr8 hb8))
        go_loopw [10, 11] (fun la i w2r => ∃ (k : Nat) (W2 : List Int), k ≤ LN ∧ i = .int .i64 (k : Int) ∧ la = .int .i64 (lastS ep (crtQ (ps9.map Pl.pp)) k) ∧ (BxAt w2r w.heap.size [.int .i64 ep, .slice a n cap] 24 ∧ Below w.heap.size w w2r) ∧ LgM w2r (bw + 1) g ep am cm l v' ps9 ∧ BxAt w2r bw (W2.map (Value.int .i64)) 3 ∧ WInv W2 (ps9.map Pl.pp) ∧ Reads (fun b => w9.heap.size ≤ b) w2r (.slice a8 LN k8) (dCts (crtQ (ps9.map Pl.pp)))) (fun _ i _ => ((LN : Int) - intOf i).toNat)
        case atStart => exact ⟨0, WL, Nat.zero_le _, rfl, rfl, H10.out.1, H10.out.2.1, H10.out.2.2.1, HQ9.out.2.2, H10.out.2.2.2.1⟩
        case round =>
          obtain ⟨k, W2, hk, rfl, rfl, hE2, hL2, hWb2, hWi2, hR2⟩ := hrel
          rename World => wS
          have HY : Hid ((BxAt wS w.heap.size [.int .i64 ep, .slice a n cap] 24 ∧ Below w.heap.size w wS) ∧ LgM wS (bw + 1) g ep am cm l v' ps9 ∧ BxAt wS bw (W2.map (Value.int .i64)) 3 ∧ WInv W2 (ps9.map Pl.pp) ∧ Reads (fun b => w9.heap.size ≤ b) wS (.slice a8 LN k8) (dCts (crtQ (ps9.map Pl.pp)))) := hid ⟨hE2, hL2, hWb2, hWi2, hR2⟩
          clear hE2 hL2 hWb2 hWi2 hR2
          have hk0 : (0 : Int) ≤ (k : Int) := Int.natCast_nonneg _
          have hLn : (LN : Int) ≤ 4 := by have := HFew.out.1; omega
          have hwk : IntKind.i64.wrap ((k : Int) + 1) = (k : Int) + 1 := wrap_l (by omega) (by omega)
          by_cases hkn : k = LN
          · have hk1 : ¬ (k : Int) < (LN : Int) := by omega
            clear hk hkn
            go_wp2
            go_roundw
            case rel => exact ⟨j + 1, v', ps9, W2, by have := HJ.out; omega, by go_num, HY.out.1, HY.out.2.1, HQ9.out.1, HQ9.out.2.1, HY.out.2.2.1, HY.out.2.2.2.1⟩
            case measure => simp [intOf]; omega
          · have hk1 : (k : Int) < (LN : Int) := by omega
            have HK : Hid (k < LN) := hid (by omega)
            obtain ⟨m, hm4, hcm, hcn, hsl⟩ := crt_is HQ9.out.1 k (by rw [← HLn.out]; exact HK.out)
            have hpi := (HQ9.out.1.2 m _ (getD_of (l := ps9.map Pl.pp) (d := q0P) (by rw [HQ9.out.1.1.four]; exact hm4))).ct hcn
            have hcb := HQ9.out.2.1 _ (List.mem_of_getElem? (getD_of (l := ps9.map Pl.pp) (i := m) (d := q0P) (by rw [HQ9.out.1.1.four]; exact hm4)))
            have hsg := HQ9.out.1.1.sg _ (List.mem_of_getElem? (getD_of (l := ps9.map Pl.pp) (i := m) (d := q0P) (by rw [HQ9.out.1.1.four]; exact hm4)))
            have hwv := (HY.out.2.2.2.1.2 m hm4).2 hcn
            have hput := HY.out.2.2.2.1.put hm4 hcn
            have hla : lastS ep (crtQ (ps9.map Pl.pp)) k < (m : Int) + 1 := by
              cases k with
              | zero => show (0 : Int) < _; omega
              | succ t =>
                have := crt_rise HQ9.out.1 t (by rw [← HLn.out]; exact HK.out)
                show ((crtQ (ps9.map Pl.pp)).getD t ct0).2.1 - 4 * ep < _
                omega
            have hln1 : lastS ep (crtQ (ps9.map Pl.pp)) (k + 1) = (m : Int) + 1 := by show ((crtQ (ps9.map Pl.pp)).getD k ct0).2.1 - 4 * ep = _; omega
            rw [← hcm] at hpi hcb hsg hwv hput
            obtain ⟨gc, oc, cc, ax, kx, hv, hpx, _, hcx⟩ := ct_at HY.out.2.2.2.2 k (by rw [← HLn.out]; exact HK.out)
            rw [← HLn.out] at hv
            cases hv
            generalize hcg : (crtQ (ps9.map Pl.pp)).getD k ct0 = c at hpi hcb hsg hwv hput hsl hpx hcx
            obtain ⟨vw, sl, rq, sg⟩ := c
            simp only at hsl hpi hcb hsg hwv hput hpx hcx
            subst hsl
            obtain ⟨M1, eM1⟩ : ∃ M1 : Nat, M1 = m + 1 := ⟨_, rfl⟩
            have hM1 : (M1 : Int) ≤ 4 ∧ 1 ≤ (M1 : Int) := by omega
            have hsub : IntKind.i64.wrap (4 * ep + 1 + (m : Int) - 4 * ep) = (M1 : Int) := (wrap_s (by omega) (by omega)).trans (by omega)
            have HRng : Hid (wS.rangeAt gc (oc + k * 9) [.int .i64 vw, .int .i64 (4 * ep + 1 + (m : Int)), .int .i64 rq.c, .int .i64 rq.st, .int .i64 rq.k, .string rq.key, .float .f64 rq.b, .int .i64 rq.id, .slice ax sg.length kx]) := hid (fun q u hq => hcx q u hq)
            have HPx : Hid (PairsIn wS ax sg ∧ sg.length ≤ 16) := hid ⟨hpx, hsg⟩
            have HPt : Hid (∀ u : World, Calls Try.prog 11 #[.int .i64 ep, .int .i64 vw, .int .i64 (4 * ep + 1 + (m : Int)), .agg #[.int .i64 rq.c, .int .i64 rq.st, .int .i64 rq.k, .string rq.key, .float .f64 rq.b, .int .i64 rq.id]] u fun e w' => e = .returned (.tuple #[.string (prT ep vw (4 * ep + 1 + (m : Int)) rq), .int .i64 0]) ∧ Below u.heap.size u w') := hid (fun u => by have := qprepared_any ep vw (4 * ep + 1 + (m : Int)) rq hcb u; rw [hpi.2.2.2.1] at this; exact this)
            have HPv : Hid (∀ u : World, PairsIn u ax sg → Below w.heap.size w u → Calls Try.prog 13 #[.agg #[.int .i64 ep, .slice a n cap], .string (prT ep vw (4 * ep + 1 + (m : Int)) rq), .slice ax sg.length kx] u fun e w' => e = .returned (.bool true) ∧ Below u.heap.size u w') := hid (fun u hu hb => by have := tproves_any ep a n cap l HN.out.1 HN.out.2.1 (prT ep vw (4 * ep + 1 + (m : Int)) rq) ax sg.length kx sg rfl (by unfold maxLen; omega) u (HIu.out u hb) hu; rw [hpi.2.2.2.2] at this; exact this)
            have HVw : Hid (∀ u : World, LgM u (bw + 1) g ep am cm l v' ps9 → Calls Try.prog 12 #[.pointer (some ⟨g, 0, none⟩)] u fun e w' => e = .returned (.int .i64 v') ∧ w' = u) := hid (fun u hu => sview_any g ep am cm l v' ps9 u hu.at_ HQ9.out.1.1.len.2.1)
            have hvv : ¬ (vw > v') := by have := hpi.2.2.1; omega
            have HLa : Hid (lastS ep (crtQ (ps9.map Pl.pp)) (k + 1) = (M1 : Int)) := hid (by rw [hln1, eM1]; omega)
            have hlaM : ¬ ((M1 : Int) ≤ lastS ep (crtQ (ps9.map Pl.pp)) k) := by omega
            have hM4 : ¬ ((M1 : Int) > 4) := by omega
            have HPut : Hid (WInv (W2.set M1 vw) (ps9.map Pl.pp)) := hid (by rw [eM1]; exact hput)
            obtain ⟨wv, ewv⟩ : ∃ wv, wv = W2.getD M1 0 := ⟨_, rfl⟩
            have hwl : ¬ (vw < wv) := by rw [ewv, eM1]; omega
            have HWv : Hid ((W2.map (Value.int .i64))[M1]? = some (.int .i64 wv) ∧ W2.length = 5 ∧ M1 < 5) := hid ⟨by rw [ewv]; exact ints_at W2 M1 (by rw [HY.out.2.2.2.1.1]; omega), HY.out.2.2.2.1.1, by omega⟩
            generalize lastS ep (crtQ (ps9.map Pl.pp)) k = LA at hlaM ⊢
            generalize prT ep vw (4 * ep + 1 + (m : Int)) rq = tx at HPt HPv
            have HFacts := hid (And.intro hlaM (And.intro hM4 (And.intro hvv hwl)))
            clear hlaM hM4 hvv hwl
            have hM0 : (0 : Int) ≤ (M1 : Int) := by omega
            have hM5 : (M1 : Int) < 5 := by omega
            have hkL : k < LN := HK.out
            clear hk hkn hm4 hcm hcn hpi hcb hsg hwv hput hla hln1 hpx hcx hcg eM1 ewv
            have y0 := HY.out.1.1.cell 0 _ rfl
            go_wp2_with (first
              | (refine wl_load_at rfl 46 _ rfl gc (oc + k * 9) (by first | rfl | (simp [Act.eval]; done)) [.int .i64 vw, .int .i64 (4 * ep + 1 + (m : Int)), .int .i64 rq.c, .int .i64 rq.st, .int .i64 rq.k, .string rq.key, .float .f64 rq.b, .int .i64 rq.id, .slice ax sg.length kx] HRng.out _ Try.underlying46 rfl (by kernel_rfl) ?_)
              | (refine wl_store_blk rfl 46 _ _ rfl wS.heap.size 0 rfl #[.int .i64 vw, .int .i64 (4 * ep + 1 + (m : Int)), .int .i64 rq.c, .int .i64 rq.st, .int .i64 rq.k, .string rq.key, .float .f64 rq.b, .int .i64 rq.id, .slice ax sg.length kx] rfl [.int .i64 0, .int .i64 0, .int .i64 0, .int .i64 0, .int .i64 0, .string ⟨#[]⟩, .float .f64 0, .int .i64 0, .slice none 0 0] 46 (heap_alloc_last wS _) (by simp) (by kernel_rfl) (by simp [Value.oneCell']) ?_; intro w20 Hz; have H20 : Hid ((BxAt w20 w.heap.size [.int .i64 ep, .slice a n cap] 24 ∧ Below w.heap.size w w20) ∧ LgM w20 (bw + 1) g ep am cm l v' ps9 ∧ BxAt w20 bw (W2.map (Value.int .i64)) 3 ∧ BxAt w20 wS.heap.size [.int .i64 vw, .int .i64 (4 * ep + 1 + (m : Int)), .int .i64 rq.c, .int .i64 rq.st, .int .i64 rq.k, .string rq.key, .float .f64 rq.b, .int .i64 rq.id, .slice ax sg.length kx] 46 ∧ Below wS.heap.size wS w20) := hid (by have hb := Hz.out.2.below ((Below.refl wS.heap.size wS).alloc (Nat.le_refl _) _) (Nat.le_refl _); exact ⟨⟨HY.out.1.1.keep hb, HY.out.1.2.trans (hb.mono HY.out.1.2.size)⟩, HY.out.2.1.keep hb, HY.out.2.2.1.keep hb, Hz.out.1, hb⟩); clear Hz y0; have y0 := H20.out.1.1.cell 0 _ rfl; have x0 := H20.out.2.2.2.1.cell 0 _ rfl; have x1 := H20.out.2.2.2.1.cell 1 _ rfl; have x2 := H20.out.2.2.2.1.cell 2 _ rfl; have x3 := H20.out.2.2.2.1.cell 3 _ rfl; have x4 := H20.out.2.2.2.1.cell 4 _ rfl; have x5 := H20.out.2.2.2.1.cell 5 _ rfl; have x6 := H20.out.2.2.2.1.cell 6 _ rfl; have x7 := H20.out.2.2.2.1.cell 7 _ rfl; have x8 := H20.out.2.2.2.1.cell 8 _ rfl)
              | (go_at_call 11; go_must (refine (HPt.out _).mono ?_); rintro e w21 ⟨rfl, hb21⟩; have H21 : Hid ((BxAt w21 w.heap.size [.int .i64 ep, .slice a n cap] 24 ∧ Below w.heap.size w w21) ∧ LgM w21 (bw + 1) g ep am cm l v' ps9 ∧ BxAt w21 bw (W2.map (Value.int .i64)) 3 ∧ BxAt w21 wS.heap.size [.int .i64 vw, .int .i64 (4 * ep + 1 + (m : Int)), .int .i64 rq.c, .int .i64 rq.st, .int .i64 rq.k, .string rq.key, .float .f64 rq.b, .int .i64 rq.id, .slice ax sg.length kx] 46 ∧ Below wS.heap.size wS w21) := hid ⟨⟨H20.out.1.1.keep hb21, H20.out.1.2.trans (hb21.mono H20.out.1.2.size)⟩, H20.out.2.1.keep hb21, H20.out.2.2.1.keep hb21, H20.out.2.2.2.1.keep hb21, H20.out.2.2.2.2.trans (hb21.mono H20.out.2.2.2.2.size)⟩; clear hb21 y0 x0 x1 x2 x3 x4 x5 x6 x7 x8; have y0 := H21.out.1.1.cell 0 _ rfl; have x0 := H21.out.2.2.2.1.cell 0 _ rfl; have x1 := H21.out.2.2.2.1.cell 1 _ rfl; have x2 := H21.out.2.2.2.1.cell 2 _ rfl; have x3 := H21.out.2.2.2.1.cell 3 _ rfl; have x4 := H21.out.2.2.2.1.cell 4 _ rfl; have x5 := H21.out.2.2.2.1.cell 5 _ rfl; have x6 := H21.out.2.2.2.1.cell 6 _ rfl; have x7 := H21.out.2.2.2.1.cell 7 _ rfl; have x8 := H21.out.2.2.2.1.cell 8 _ rfl))
            obtain ⟨wf, ef⟩ : ∃ u, u = w21.drew := ⟨_, rfl⟩
            have HF : Hid ((BxAt wf w.heap.size [.int .i64 ep, .slice a n cap] 24 ∧ Below w.heap.size w wf) ∧ LgM wf (bw + 1) g ep am cm l v' ps9 ∧ BxAt wf bw (W2.map (Value.int .i64)) 3 ∧ BxAt wf wS.heap.size [.int .i64 vw, .int .i64 (4 * ep + 1 + (m : Int)), .int .i64 rq.c, .int .i64 rq.st, .int .i64 rq.k, .string rq.key, .float .f64 rq.b, .int .i64 rq.id, .slice ax sg.length kx] 46 ∧ Below wS.heap.size wS wf) := hid (by rw [ef]; have hb := (Below.refl w21.heap.size w21).drew; exact ⟨⟨H21.out.1.1, H21.out.1.2.drew⟩, H21.out.2.1.keep hb, H21.out.2.2.1, H21.out.2.2.2.1, H21.out.2.2.2.2.drew⟩)
            clear y0 x0 x1 x2 x3 x4 x5 x6 x7 x8
            have hd1 : decide ((M1 : Int) ≤ LA) = false := decide_eq_false (by have := HFacts.out.1; omega)
            have hd2 : decide ((4 : Int) < (M1 : Int)) = false := decide_eq_false (by have := HFacts.out.2.1; omega)
            have hd3 : decide (v' < vw) = false := decide_eq_false (by have := HFacts.out.2.2.1; omega)
            have hd4 : decide (vw < wv) = false := decide_eq_false (by have := HFacts.out.2.2.2; omega)
            have HS2 : Hid (BxAt wf w.heap.size [.int .i64 ep, .slice a n cap] 24 ∧ BxAt wf wS.heap.size [.int .i64 vw, .int .i64 (4 * ep + 1 + (m : Int)), .int .i64 rq.c, .int .i64 rq.st, .int .i64 rq.k, .string rq.key, .float .f64 rq.b, .int .i64 rq.id, .slice ax sg.length kx] 46 ∧ BxAt wf bw (W2.map (Value.int .i64)) 3) := hid ⟨HF.out.1.1, HF.out.2.2.2.1, HF.out.2.2.1⟩
            refine wp_region_G (S := fun ww => BxAt ww w.heap.size [.int .i64 ep, .slice a n cap] 24 ∧ BxAt ww wS.heap.size [.int .i64 vw, .int .i64 (4 * ep + 1 + (m : Int)), .int .i64 rq.c, .int .i64 rq.st, .int .i64 rq.k, .string rq.key, .float .f64 rq.b, .int .i64 rq.id, .slice ax sg.length kx] 46 ∧ BxAt ww bw (W2.map (Value.int .i64)) 3) (ex := []) (by kernel_rfl) ?_
            try (change wpAnyG _ _ _ _ _ _ _ _ _ (World.drew _))
            try rw [← ef]
            clear ef
            refine wpAnyG_take (i := 0) (v := ?v501) rfl (by kernel_rfl) (fun _ _ _ h => h) (Or.inl ⟨by rfl, ?hy501⟩) HS2.out ?rest501
            case hy501 => (intro ww _; go_simp; try with_reducible rfl)
            go_simp
            refine wpAnyG_take (i := 1) (v := ?v502) rfl (by kernel_rfl) (fun _ _ _ h => h) (Or.inl ⟨by rfl, ?hy502⟩) HS2.out ?rest502
            case hy502 => (intro ww _; go_simp; try with_reducible rfl)
            go_simp
            refine wpAnyG_take (i := 2) (v := ?v503) rfl (by kernel_rfl) (fun _ _ _ h => h) (Or.inl ⟨by rfl, ?hy503⟩) HS2.out ?rest503
            case hy503 => (intro ww _; go_simp; try with_reducible rfl)
            go_simp
            refine wpAnyG_take (i := 3) (v := ?v504) rfl (by kernel_rfl) (fun _ _ _ h => h) (Or.inl ⟨by rfl, ?hy504⟩) HS2.out ?rest504
            case hy504 => (intro ww _; go_simp; try with_reducible rfl)
            go_simp
            refine wpAnyG_take (i := 4) (v := ?v505) rfl (by kernel_rfl) (fun _ _ _ h => h) (Or.inl ⟨by rfl, ?hy505⟩) HS2.out ?rest505
            case hy505 => (intro ww _; go_simp; try with_reducible rfl)
            go_simp
            refine wpAnyG_take (i := 5) (v := ?v506) rfl (by kernel_rfl) (fun _ _ _ h => h) (Or.inl ⟨by rfl, ?hy506⟩) HS2.out ?rest506
            case hy506 => (intro ww _; go_simp; try with_reducible rfl)
            go_simp
            try simp only [hd1]
            refine wpAnyG_take (i := 6) (v := ?v507) rfl (by kernel_rfl) (fun _ _ _ h => h) (Or.inl ⟨by rfl, ?hy507⟩) HS2.out ?rest507
            case hy507 => (intro ww _; go_simp; try with_reducible rfl)
            go_simp
            refine wpAnyG_take (i := 7) (v := ?v508) rfl (by kernel_rfl) (fun _ _ _ h => h) (Or.inl ⟨by rfl, ?hy508⟩) HS2.out ?rest508
            case hy508 => (intro ww _; go_simp; try with_reducible rfl)
            go_simp
            refine wpAnyG_take (i := 8) (v := ?v509) rfl (by kernel_rfl) (fun _ _ _ h => h) (Or.inl ⟨by rfl, ?hy509⟩) HS2.out ?rest509
            case hy509 => (intro ww _; go_simp; try with_reducible rfl)
            go_simp
            refine wpAnyG_take (i := 9) (v := ?v510) rfl (by kernel_rfl) (fun _ _ _ h => h) (Or.inl ⟨by rfl, ?hy510⟩) HS2.out ?rest510
            case hy510 => (intro ww _; go_simp; try with_reducible rfl)
            go_simp
            try simp only [hd2]
            refine wpAnyG_take (i := 10) (v := ?v511) rfl (by kernel_rfl) (fun _ _ _ h => h) (Or.inl ⟨by rfl, ?hy511⟩) HS2.out ?rest511
            case hy511 => (intro ww _; go_simp; try with_reducible rfl)
            go_simp
            refine wpAnyG_take (i := 11) (v := ?v512) rfl (by kernel_rfl) (fun _ _ _ h => h) (Or.inl ⟨by rfl, ?hy512⟩) HS2.out ?rest512
            case hy512 => (intro ww _; go_simp; try with_reducible rfl)
            go_simp
            refine wpAnyG_take (i := 12) (v := ?v513) rfl (by kernel_rfl) (fun _ _ _ h => h) (Or.inl ⟨by rfl, ?hy513⟩) HS2.out ?rest513
            case hy513 => (intro ww _; go_simp; try with_reducible rfl)
            go_simp
            refine wpAnyG_take (i := 13) (v := ?v514) rfl (by kernel_rfl) (fun _ _ _ h => h) (Or.inl ⟨by rfl, ?hy514⟩) HS2.out ?rest514
            case hy514 => (intro ww hS; have x0 := hS.2.1.cell 0 _ rfl; go_simp; try with_reducible rfl)
            go_simp
            refine wpAnyG_take (i := 14) (v := ?v515) rfl (by kernel_rfl) (fun _ _ _ h => h) (Or.inl ⟨by rfl, ?hy515⟩) HS2.out ?rest515
            case hy515 => (intro ww _; go_simp; try with_reducible rfl)
            go_simp
            refine wpAnyG_all (rs := [15]) (by kernel_rfl) (by simp) ?_
            intro i hi
            obtain rfl := List.mem_singleton.1 hi
            clear hi
            refine wpOp_s rfl (by rfl) (fun K hK => ?_)
            go_simp
            refine (HVw.out _ HF.out.2.1).mono ?_
            rintro e wq ⟨rfl, hwq⟩
            replace hwq := hwq.symm
            subst hwq
            refine hK _ _ ⟨fun _ => HS2.out, ?_⟩
            clear hK K
            go_simp
            refine wpAnyG_take (i := 16) (v := ?v516) rfl (by kernel_rfl) (fun _ _ _ h => h) (Or.inl ⟨by rfl, ?hy516⟩) HS2.out ?rest516
            case hy516 => (intro ww _; go_simp; try with_reducible rfl)
            go_simp
            try simp only [hd3]
            refine wpAnyG_take (i := 17) (v := ?v517) rfl (by kernel_rfl) (fun _ _ _ h => h) (Or.inl ⟨by rfl, ?hy517⟩) HS2.out ?rest517
            case hy517 => (intro ww _; go_simp; try with_reducible rfl)
            go_simp
            refine wpAnyG_take (i := 18) (v := ?v518) rfl (by kernel_rfl) (fun _ _ _ h => h) (Or.inl ⟨by rfl, ?hy518⟩) HS2.out ?rest518
            case hy518 => (intro ww _; go_simp; try with_reducible rfl)
            go_simp
            refine wpAnyG_take (i := 19) (v := ?v519) rfl (by kernel_rfl) (fun _ _ _ h => h) (Or.inl ⟨by rfl, ?hy519⟩) HS2.out ?rest519
            case hy519 => (intro ww _; go_simp; try with_reducible rfl)
            go_simp
            refine wpAnyG_take (i := 20) (v := ?v520) rfl (by kernel_rfl) (fun _ _ _ h => h) (Or.inl ⟨by rfl, ?hy520⟩) HS2.out ?rest520
            case hy520 => (intro ww hS; have x0 := hS.2.1.cell 0 _ rfl; go_simp; try with_reducible rfl)
            go_simp
            refine wpAnyG_take (i := 21) (v := ?v521) rfl (by kernel_rfl) (fun _ _ _ h => h) (Or.inl ⟨by rfl, ?hy521⟩) HS2.out ?rest521
            case hy521 => (intro ww _; go_simp; try with_reducible rfl)
            go_simp
            refine wpAnyG_take (i := 22) (v := ?v522) rfl (by kernel_rfl) (fun _ _ _ h => h) (Or.inl ⟨by rfl, ?hy522⟩) HS2.out ?rest522
            case hy522 => (intro ww _; go_simp; try with_reducible rfl)
            go_simp
            refine wpAnyG_take (i := 23) (v := ?v523) rfl (by kernel_rfl) (fun _ _ _ h => h) (Or.inl ⟨by rfl, ?hy523⟩) HS2.out ?rest523
            case hy523 => (intro ww _; go_simp; try with_reducible rfl)
            go_simp
            refine wpAnyG_take (i := 24) (v := ?v524) rfl (by kernel_rfl) (fun _ _ _ h => h) (Or.inl ⟨by rfl, ?hy524⟩) HS2.out ?rest524
            case hy524 => (intro ww hS; have z0 := hS.2.2.cell M1 _ HWv.out.1; go_simp; try with_reducible rfl)
            go_simp
            refine wpAnyG_take (i := 25) (v := ?v525) rfl (by kernel_rfl) (fun _ _ _ h => h) (Or.inl ⟨by rfl, ?hy525⟩) HS2.out ?rest525
            case hy525 => (intro ww _; go_simp; try with_reducible rfl)
            go_simp
            try simp only [hd4]
            refine wpAnyG_take (i := 26) (v := ?v526) rfl (by kernel_rfl) (fun _ _ _ h => h) (Or.inl ⟨by rfl, ?hy526⟩) HS2.out ?rest526
            case hy526 => (intro ww _; go_simp; try with_reducible rfl)
            go_simp
            refine wpAnyG_take (i := 27) (v := ?v527) rfl (by kernel_rfl) (fun _ _ _ h => h) (Or.inl ⟨by rfl, ?hy527⟩) HS2.out ?rest527
            case hy527 => (intro ww _; go_simp; try with_reducible rfl)
            go_simp
            refine wpAnyG_take (i := 28) (v := ?v528) rfl (by kernel_rfl) (fun _ _ _ h => h) (Or.inl ⟨by rfl, ?hy528⟩) HS2.out ?rest528
            case hy528 => (intro ww hS; have c0 := hS.1.cell 0 _ rfl; have c1 := hS.1.cell 1 _ rfl; go_simp; try with_reducible rfl)
            go_simp
            refine wpAnyG_take (i := 29) (v := ?v529) rfl (by kernel_rfl) (fun _ _ _ h => h) (Or.inl ⟨by rfl, ?hy529⟩) HS2.out ?rest529
            case hy529 => (intro ww _; go_simp; try with_reducible rfl)
            go_simp
            refine wpAnyG_take (i := 30) (v := ?v530) rfl (by kernel_rfl) (fun _ _ _ h => h) (Or.inl ⟨by rfl, ?hy530⟩) HS2.out ?rest530
            case hy530 => (intro ww _; go_simp; try with_reducible rfl)
            go_simp
            refine wpAnyG_take (i := 31) (v := ?v531) rfl (by kernel_rfl) (fun _ _ _ h => h) (Or.inl ⟨by rfl, ?hy531⟩) HS2.out ?rest531
            case hy531 => (intro ww hS; have x8 := hS.2.1.cell 8 _ rfl; go_simp; try with_reducible rfl)
            go_simp
            refine wpAnyG_all (rs := [32]) (by kernel_rfl) (by simp) ?_
            intro i hi
            obtain rfl := List.mem_singleton.1 hi
            clear hi
            refine wpOp_s rfl (by rfl) (fun K hK => ?_)
            go_simp
            refine (HPv.out _ (HPx.out.1.keep HF.out.2.2.2.2 (Nat.le_refl _)) HF.out.1.2).mono ?_
            rintro e w22 ⟨rfl, hb22⟩
            have H22 : Hid ((BxAt w22 w.heap.size [.int .i64 ep, .slice a n cap] 24 ∧ Below w.heap.size w w22) ∧ LgM w22 (bw + 1) g ep am cm l v' ps9 ∧ BxAt w22 bw (W2.map (Value.int .i64)) 3 ∧ BxAt w22 wS.heap.size [.int .i64 vw, .int .i64 (4 * ep + 1 + (m : Int)), .int .i64 rq.c, .int .i64 rq.st, .int .i64 rq.k, .string rq.key, .float .f64 rq.b, .int .i64 rq.id, .slice ax sg.length kx] 46 ∧ Below wS.heap.size wS w22) := hid ⟨⟨HF.out.1.1.keep hb22, HF.out.1.2.trans (hb22.mono HF.out.1.2.size)⟩, HF.out.2.1.keep hb22, HF.out.2.2.1.keep hb22, HF.out.2.2.2.1.keep hb22, HF.out.2.2.2.2.trans (hb22.mono HF.out.2.2.2.2.size)⟩
            have HS3 : Hid (BxAt w22 w.heap.size [.int .i64 ep, .slice a n cap] 24 ∧ BxAt w22 wS.heap.size [.int .i64 vw, .int .i64 (4 * ep + 1 + (m : Int)), .int .i64 rq.c, .int .i64 rq.st, .int .i64 rq.k, .string rq.key, .float .f64 rq.b, .int .i64 rq.id, .slice ax sg.length kx] 46 ∧ BxAt w22 bw (W2.map (Value.int .i64)) 3) := hid ⟨H22.out.1.1, H22.out.2.2.2.1, H22.out.2.2.1⟩
            clear hb22
            refine hK _ _ ⟨fun _ => HS3.out, ?_⟩
            clear hK K
            go_simp
            refine wpAnyG_take (i := 33) (v := ?v532) rfl (by kernel_rfl) (fun _ _ _ h => h) (Or.inl ⟨by rfl, ?hy532⟩) HS3.out ?rest532
            case hy532 => (intro ww _; go_simp; try with_reducible rfl)
            go_simp
            refine wpAnyG_take (i := 34) (v := ?v533) rfl (by kernel_rfl) (fun _ _ _ h => h) (Or.inl ⟨by rfl, ?hy533⟩) HS3.out ?rest533
            case hy533 => (intro ww _; go_simp; try with_reducible rfl)
            go_simp
            refine wpAnyG_done (by kernel_rfl) ?_ _
            go_simp
            have x0 := H22.out.2.2.2.1.cell 0 _ rfl
            go_wp2_with (first
              | (refine wl_storeV rfl 3 _ _ rfl bw M1 (by first | rfl | (simp [Act.eval]; done)) (.int .i64 vw) rfl rfl rfl (W2.map (Value.int .i64)) 3 H22.out.2.2.1 (by rw [List.length_map, HWv.out.2.1]; exact HWv.out.2.2) (by kernel_rfl) ?_; intro w23 Hz; go_must (have H23 : Hid ((BxAt w23 w.heap.size [.int .i64 ep, .slice a n cap] 24 ∧ Below w.heap.size w w23) ∧ LgM w23 (bw + 1) g ep am cm l v' ps9 ∧ BxAt w23 bw ((W2.set M1 vw).map (Value.int .i64)) 3 ∧ Reads (fun b => w9.heap.size ≤ b) w23 (.slice (some ⟨gc, oc, none⟩) LN k8) (dCts (crtQ (ps9.map Pl.pp)))) := hid (by
                  have hg := H2.out.2.2.1
                  have hgb := H3.out.2.2.2.1
                  have hbw := H10.out.2.2.2.2
                  have hbt := Hz.out.2.but
                  refine ⟨⟨(Hz.out.2.block _ (by omega)).trans H22.out.1.1, H22.out.1.2.trans (Hz.out.2.below (Below.refl _ _) (by omega))⟩, H22.out.2.1.but hbt (by omega) (by omega) H3.out.2.2.2.2, ?_, ?_⟩
                  · have := Hz.out.1; rw [ints_set] at this; exact this
                  · exact (HY.out.2.2.2.2.under H22.out.2.2.2.2 (Nat.le_refl _)).move hbt.size (fun b hk hF => ⟨hbt.block b hk (by have : w9.heap.size ≤ b := hF; omega), hF⟩))); clear Hz x0))
            go_roundw
            case rel => exact ⟨k + 1, W2.set M1 vw, by omega, by go_num, by rw [HLa.out], H23.out.1, H23.out.2.1, H23.out.2.2.1, HPut.out, H23.out.2.2.2⟩
            case measure => simp [intOf]; omega
end Go.Proofs.Ytohhlolmojeomaa
