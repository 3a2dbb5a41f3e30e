/- The document's tally: a vote that is added. -/
import Derived.Test.YtclfphffbfdimaaVPcM
import Derived.Maps.AppendAt
import Derived.Test.YtclfphffbfdimaaApAM
namespace Go.Proofs.Ytclfphffbfdimaa
open Go.RowKit

theorem infoRV : (Try.prog.info? 85).map (fun i => (i.zero, i.size, i.bytes)) = some (some (.agg #[.int .i64 0, .string ⟨#[]⟩, .slice none 0 0, .slice none 0 0]), 4, 72) := by kernel_rfl
theorem undRV : Try.prog.underlying 43 = some (.slice 85) := by kernel_rfl
theorem DtA.keep {R : Nat → Prop} {w w' : World} {g : Nat} {am : Option Addr} {cm : Nat} {y : Value} {ep : Int} {l : List Int} {xs : List RtM} (h : DtA R w g am cm y ep l xs) (hb : Below w.heap.size w w') : DtA R w' g am cm y ep l xs := h.stay hb.size (fun k hk => hb.block k (h.lt k hk))
/-- The blocks of one vote's lists. -/
def rvK (x : RtM) (k : Nat) : Prop := (∃ z, x.2.1.1 = some z ∧ k = z.block) ∨ ∃ z, x.2.2.1 = some z ∧ k = z.block
theorem DtA.more {R : Nat → Prop} {w w7 w8 : World} {g : Nat} {am : Option Addr} {cm : Nat} {y y' : Value} {ep : Int} {l : List Int} {xs : List RtM} (h : DtA R w g am cm y ep l xs) (x : RtM) (hx : IntsIn w x.2.1.1 x.1.2.2.1 ∧ PairsIn w x.2.2.1 x.1.2.2.2) (B : Nat) (hn : ∀ k, rvK x k → B ≤ k ∧ k < w.heap.size) (hB : ∀ k, fpD R g y k → k < B)
    (hg : w.grownBy w7 y.ownBlock) (ho : w7.ownsRow 0 85 4 y' (xs.length + 1) (rtC xs ++ rvC x)) (hy : y'.ownBlock = y.ownBlock ∨ y'.ownBlock = some w.heap.size) (h1 : One g w7 w8) (hb : w8.heap[g]? = some (.cells #[.int .i64 ep, .slice am l.length cm, y'] 45 (0, 0))) :
    DtA (fun k => R k ∨ rvK x k) w8 g am cm y' ep l (xs ++ [x]) := by
  have hgl := lt_of_blk h.blk
  have hs : w.heap.size ≤ w8.heap.size := by rw [h1.size]; exact hg.size
  have hk : ∀ k, k < w.heap.size → y.ownBlock ≠ some k → k ≠ g → w8.heap[k]? = w.heap[k]? := fun k hl hn hne => (h1.block k hne).trans (hg.block k hl (fun e => hn e.symm))
  have hR : ∀ k, R k → w8.heap[k]? = w.heap[k]? := fun k hr => hk k (h.Rlt k hr) (fun e => (h.rg k e).2 hr) (fun e => h.gR (e ▸ hr))
  have hN : ∀ k, rvK x k → w8.heap[k]? = w.heap[k]? := fun k hr => hk k (hn k hr).2 (fun e => by have := hB k (.inr (.inl e)); have := (hn k hr).1; omega) (fun e => by have := hB k (.inl e); have := (hn k hr).1; omega)
  have hyg : ∀ k, y'.ownBlock = some k → k ≠ g ∧ ¬ (R k ∨ rvK x k) := fun k e => by
    rcases hy with e2 | e2
    · have e3 := e2 ▸ e
      refine ⟨(h.rg k e3).1, ?_⟩
      rintro (hr | hr)
      · exact (h.rg k e3).2 hr
      · have := hB k (.inr (.inl e3)); have := (hn k hr).1; omega
    · rw [e2] at e
      cases e
      refine ⟨by omega, ?_⟩
      rintro (hr | hr)
      · have := h.Rlt _ hr; omega
      · have := (hn _ hr).2; omega
  refine ⟨hb, ints_stayV h.im hs (fun z hz => hR _ (h.imR z hz)), fun z hz => .inl (h.imR z hz), ?_, hyg, ?_, ?_, ?_⟩
  · rw [List.length_append, rtC_app, show rtC [x] = rvC x by simp [rtC]]
    refine ⟨ho.1, ?_⟩
    rcases ho.2 with e | ⟨k, cap, cur, hv, hB2, hh, hr⟩
    · exact .inl e
    · exact .inr ⟨k, cap, cur, hv, hB2, (h1.block k (hyg k (by rw [hv]; rfl)).1).trans hh, hr⟩
  · rintro (hr | hr)
    · exact h.gR hr
    · have := hB g (.inl rfl); have := (hn _ hr).1; omega
  · intro x2 hx2
    rcases List.mem_append.1 hx2 with hx2 | hx2
    · exact ⟨⟨ints_stayV (h.it x2 hx2).1.1 hs (fun z hz => hR _ ((h.it x2 hx2).2.1 z hz)), pairs_stayV (h.it x2 hx2).1.2 hs (fun z hz => hR _ ((h.it x2 hx2).2.2 z hz))⟩, fun z hz => .inl ((h.it x2 hx2).2.1 z hz), fun z hz => .inl ((h.it x2 hx2).2.2 z hz)⟩
    · obtain rfl := List.mem_singleton.1 hx2
      exact ⟨⟨ints_stayV hx.1 hs (fun z hz => hN _ (.inl ⟨z, hz, rfl⟩)), pairs_stayV hx.2 hs (fun z hz => hN _ (.inr ⟨z, hz, rfl⟩))⟩, fun z hz => .inr (.inl ⟨z, hz, rfl⟩), fun z hz => .inr (.inr ⟨z, hz, rfl⟩)⟩
  · rintro k (hr | hr)
    · have := h.Rlt k hr; omega
    · have := (hn k hr).2; omega
set_option maxRecDepth 100000 in
set_option maxHeartbeats 1600000 in
theorem waddT_new (R : Nat → Prop) (g : Nat) (am : Option Addr) (cm : Nat) (y : Value) (ep : Int) (l : List Int) (xs : List RtM) (hml : l.length ≤ 10) (f : Int) (t : ByteArray) (ht : t.size ≤ 140737488355328) (b : Option Addr) (k cp : Nat) (nx : List Int) (hk : nx.length = k) (hkm : k ≤ maxLen) (a2 : Option Addr) (n2 c2 : Nat) (sg : List (Int × ByteArray)) (hn2 : sg.length = n2) (hm2 : n2 ≤ maxLen) (w : World) (h : DtA R w g am cm y ep l xs) (hN : IntsIn w b nx) (hP : PairsIn w a2 sg) (hnew : ∀ r ∈ xs, r.1.1 ≠ f) (hx10 : xs.length ≤ 1000) (h1 : voB ep l t nx = true) (h2 : hasM l f = true) (h3 : sg = twoS f (voS ep l t nx) (voC ep l t nx)) :
    Calls Try.prog 16 #[.pointer (some ⟨g, 0, none⟩), .int .i64 f, .string t, .slice b k cp, .slice a2 n2 c2] w fun e w' => e = .returned (.int .i64 0) ∧ DtTo R w w' g am cm y ep l xs (f, t, nx, sg) := by
  have HS := hid hnew
  clear hnew
  have HLn : Hid (nx.length ≤ 10 ∧ sg.length = 2 ∧ nx.length = k ∧ sg.length = n2 ∧ xs.length ≤ 1000) := hid ⟨(mem_len (rightC_ep (voB_parts h1).2.2).2).2, by rw [h3]; rfl, hk, hn2, hx10⟩
  have hl3 : (l.length : Nat) ≤ maxLen := by unfold maxLen; omega
  have c0 := cell_at (L := [_, _, _]) h.blk 0 _ rfl
  have c1 := cell_at (L := [_, _, _]) h.blk 1 _ rfl
  have HT := hid h
  have HN := hid hN
  have HP := hid hP
  have HX : Hid (∀ u : World, Below w.heap.size w u → Calls Try.prog 11 #[.agg #[.int .i64 ep, .slice am l.length cm], .string t, .slice b k cp] u fun e w' => e = .returned (.tuple #[.string (voS ep l t nx), .string (voC ep l t nx), .int .i64 (voE ep l t nx)]) ∧ Below w.heap.size w w') := hid (fun u hu => (wtexts_any ep am _ cm l rfl hl3 t ht b k cp nx hk hkm u (HT.out.im.keep hu (Nat.le_refl _)) (HN.out.keep hu (Nat.le_refl _))).mono fun e w' ⟨h1, h2⟩ => ⟨h1, hu.trans (h2.mono hu.size)⟩)
  have HH : Hid (∀ u : World, Below w.heap.size w u → Calls Try.prog 24 #[.slice am l.length cm, .int .i64 f] u fun e w' => e = .returned (.bool (hasM l f)) ∧ Below w.heap.size w w') := hid (fun u hu => (vhas_any am _ cm l rfl hl3 f u (HT.out.im.keep hu (Nat.le_refl _))).mono fun e w' ⟨h1, h2⟩ => ⟨h1, h2 ▸ hu⟩)
  have HQ : Hid (∀ (u : World) (x z : ByteArray) (q : Nat) (cq : Nat), Below w.heap.size w u → PairsIn u (some ⟨q, 0, none⟩) (twoS f x z) → Calls Try.prog 40 #[.slice a2 n2 c2, .slice (some ⟨q, 0, none⟩) 2 cq] u fun e w' => e = .returned (.bool (decide (sg = twoS f x z))) ∧ Below w.heap.size w w') := hid (fun u x z q cq hu hp => (wsame_dec a2 _ n2 2 c2 cq sg (twoS f x z) hn2 rfl hm2 (by decide) u (HP.out.keep hu (Nat.le_refl _)) hp).mono fun e w' ⟨h1, h2⟩ => ⟨h1, hu.trans (h2.mono hu.size)⟩)
  have HG := hid (lt_of_blk h.blk)
  have q2 := cell_at (L := [_, _, _]) h.blk 2 _ rfl
  have hys : ∃ af cf, y = .slice af xs.length cf := by
    rcases h.row.2 with ⟨hv, h0⟩ | ⟨gg, cap2, cur, hv, _⟩
    · exact ⟨none, 0, by rw [hv, h0]⟩
    · exact ⟨_, _, hv⟩
  obtain ⟨af, cf, rfl⟩ := hys
  rw [show voE ep l t nx = 0 by rw [voE, h1]; rfl] at HX
  clear h1
  rw [h2] at HH
  clear h2
  obtain ⟨x, ex⟩ : ∃ x, x = voS ep l t nx := ⟨_, rfl⟩
  obtain ⟨z, ez⟩ : ∃ z, z = voC ep l t nx := ⟨_, rfl⟩
  rw [← ex, ← ez] at HX h3
  have HQ2 : Hid (∀ (u : World) (q : Nat) (cq : Nat), Below w.heap.size w u → PairsIn u (some ⟨q, 0, none⟩) (twoS f x z) → Calls Try.prog 40 #[.slice a2 n2 c2, .slice (some ⟨q, 0, none⟩) 2 cq] u fun e w' => e = .returned (.bool true) ∧ Below w.heap.size w w') := hid (fun u q cq hu hp => by have := HQ.out u x z q cq hu hp; rwa [decide_eq_true h3] at this)
  clear h3 HQ ex ez
  have hx1k : (xs.length : Int) ≤ 1000 := by omega
  clear h hN hP hk hn2
  obtain ⟨iv, hv0, hvz0, hvz1, hvz2⟩ := info_parts infoRV
  go_enter Try.func16, Try.ntmps16
  go_wp2_with (first
    | (go_at_call 11; go_must (refine (HX.out _ (Below.refl _ _)).mono ?_; rintro e w1 ⟨rfl, hb1⟩; have H1 := hid hb1; have d0 := (hb1.cell (p := ⟨g, 0, none⟩) HG.out).trans c0; have d1 := (hb1.cell (p := ⟨g, 1, none⟩) HG.out).trans c1; clear hb1))
    | (go_at_call 24; go_must (refine (HH.out _ H1.out).mono ?_; rintro e w2 ⟨rfl, hb2⟩; have H2 := hid hb2; clear hb2))
    | (go_at_call 40; go_must (refine (HQ2.out _ _ _ (by exact (H2.out.alloc H2.out.size _)) (by exact two_pairs _ _ _ _)).mono ?_; rintro e w3 ⟨rfl, hb3⟩; have H3 := hid hb3; clear hb3)))
  clear c0 c1 q2 d0 d1
  go_loopw [14] (fun i wr => ∃ j : Nat, j ≤ xs.length ∧ i = .int .i64 (j : Int) ∧ Below w.heap.size w wr) (fun i _ => ((xs.length : Int) - intOf i).toNat)
  case atStart => exact ⟨0, by omega, rfl, H3.out⟩
  case round =>
    obtain ⟨j, hj, rfl, hb⟩ := hrel
    have hd := HT.out.stay hb.size (fun k hk => hb.block k (HT.out.lt k hk))
    have q2 := cell_at (L := [_, _, _]) hd.blk 2 _ rfl
    have hj0 : (0 : Int) ≤ (j : Int) := Int.natCast_nonneg _
    by_cases hjn : j = xs.length
    · have hj1 : ¬ ((j : Int) < (xs.length : Int)) := by omega
      have HB := hid (And.intro hb hd)
      clear hb hd hj hjn
      go_wp2
      clear q2
      have HD : Hid (DtA R wr.drew g am cm (.slice af xs.length cf) ep l xs ∧ Below w.heap.size w wr.drew) := hid ⟨HB.out.2.keep (Below.refl _ _).drew, HB.out.1.drew⟩
      refine wp_region_G (S := fun ww => ww.heap[g]? = some (.cells #[.int .i64 ep, .slice am l.length cm, .slice af xs.length cf] 45 (0, 0))) (ex := [16]) (by kernel_rfl) ?_
      try (change wpAnyG _ _ _ _ _ _ _ _ _ (World.drew _))
      refine wpAnyG_take (i := 0) (v := ?v1) rfl (by kernel_rfl) (fun _ _ _ h => h) (Or.inl ⟨by rfl, ?hy1⟩) HD.out.1.blk ?rest1
      case hy1 => (intro ww hS; go_simp; try with_reducible rfl)
      go_simp
      refine wpAnyG_take (i := 1) (v := ?v2) rfl (by kernel_rfl) (fun _ _ _ h => h) (Or.inl ⟨by rfl, ?hy2⟩) HD.out.1.blk ?rest2
      case hy2 => (intro ww hS; go_simp; try with_reducible rfl)
      go_simp
      refine wpAnyG_take (i := 2) (v := ?v3) rfl (by kernel_rfl) (fun _ _ _ h => h) (Or.inl ⟨by rfl, ?hy3⟩) HD.out.1.blk ?rest3
      case hy3 => (intro ww hS; go_simp; try with_reducible rfl)
      go_simp
      refine wpAnyG_take (i := 3) (v := ?v4) rfl (by kernel_rfl) (fun _ _ _ h => h) (Or.inl ⟨by rfl, ?hy4⟩) HD.out.1.blk ?rest4
      case hy4 => (intro ww hS; go_simp; try with_reducible rfl)
      go_simp
      refine wpAnyG_take (i := 4) (v := ?v5) rfl (by kernel_rfl) (fun _ _ _ h => h) (Or.inl ⟨by rfl, ?hy5⟩) HD.out.1.blk ?rest5
      case hy5 => (intro ww hS; have y2 := cell_at (L := [_, _, _]) hS 2 _ rfl; go_simp; try with_reducible rfl)
      go_simp
      refine wpAnyG_take (i := 5) (v := ?v6) rfl (by kernel_rfl) (fun _ _ _ h => h) (Or.inl ⟨by rfl, ?hy6⟩) HD.out.1.blk ?rest6
      case hy6 => (intro ww hS; go_simp; try with_reducible rfl)
      go_simp
      refine wpAnyG_take (i := 6) (v := ?v7) rfl (by kernel_rfl) (fun _ _ _ h => h) (Or.inl ⟨by rfl, ?hy7⟩) HD.out.1.blk ?rest7
      case hy7 => (intro ww hS; go_simp; try with_reducible rfl)
      go_simp
      refine wpAnyG_take (i := 7) (v := ?v8) rfl (by kernel_rfl) (fun _ _ _ h => h) (Or.inl ⟨by rfl, ?hy8⟩) HD.out.1.blk ?rest8
      case hy8 => (intro ww hS; go_simp; try with_reducible rfl)
      go_simp
      refine wpAnyG_take (i := 9) (v := ?v9) rfl (by kernel_rfl) (fun _ _ _ h => h) (Or.inl ⟨by rfl, ?hy9⟩) HD.out.1.blk ?rest9
      case hy9 => (intro ww hS; go_simp; try with_reducible rfl)
      go_simp
      refine wpAnyG_all (rs := [8]) (by kernel_rfl) (by simp) ?_
      intro i hi
      obtain rfl := List.mem_singleton.1 hi
      clear hi
      refine wpOp_v rfl (by rfl) (fun K hK => ?_)
      refine owp_ownI _ _ rfl rfl b k cp nx rfl HLn.out.2.2.1 (HN.out.keep HD.out.2 (Nat.le_refl _)) (by have := HLn.out; omega) (fun v4 w4 h4 => ?_)
      have hb4 := h4.out.bel
      obtain ⟨ad4, cp4, rfl, hi4⟩ := h4.out.new
      have H4 : Hid (DtA R w4 g am cm (.slice af xs.length cf) ep l xs ∧ NewI wr.heap.size w4 ad4 nx ∧ Below wr.heap.size wr.drew w4) := hid ⟨HD.out.1.keep hb4, hi4, hb4⟩
      clear h4 hb4 hi4
      go_simp
      refine hK _ _ ⟨fun _ => H4.out.1.blk, ?_⟩
      clear hK K
      go_simp
      refine wpAnyG_all (rs := [10]) (by kernel_rfl) (by simp) ?_
      intro i hi
      obtain rfl := List.mem_singleton.1 hi
      clear hi
      refine wpOp_v rfl (by rfl) (fun K hK => ?_)
      refine owp_ownT _ _ rfl rfl a2 n2 c2 sg rfl HLn.out.2.2.2.1 (HP.out.keep (HD.out.2.trans (H4.out.2.2.mono HD.out.2.size)) (Nat.le_refl _)) (by have := HLn.out; omega) (fun v5 w5 h5 => ?_)
      have hb5 := h5.out.bel
      obtain ⟨ad5, cp5, rfl, hp5⟩ := h5.out.nw
      have H5 : Hid (DtA R w5 g am cm (.slice af xs.length cf) ep l xs ∧ NewI wr.heap.size w5 ad4 nx ∧ NwP w4.heap.size w5 ad5 sg ∧ Below wr.heap.size wr.drew w5 ∧ wr.heap.size ≤ w4.heap.size) := hid ⟨H4.out.1.keep hb5, H4.out.2.1.keep hb5, hp5, H4.out.2.2.trans (hb5.mono H4.out.2.2.size), H4.out.2.2.size⟩
      clear h5 hb5 hp5
      go_simp
      refine hK _ _ ⟨fun _ => H5.out.1.blk, ?_⟩
      clear hK K
      go_simp
      refine wpAnyG_take (i := 11) (v := ?v10) rfl (by kernel_rfl) (fun _ _ _ h => h) (Or.inl ⟨by rfl, ?hy10⟩) H5.out.1.blk ?rest10
      case hy10 => (intro ww hS; go_simp; try with_reducible rfl)
      go_simp
      refine wpAnyG_all (rs := [12]) (by kernel_rfl) (by simp) ?_
      intro i hi
      obtain rfl := List.mem_singleton.1 hi
      clear hi
      refine wpOp_v rfl (by rfl) (fun K hK => ?_)
      go_simp
      have H6 : Hid (DtA R (w5.alloc (.cells #[.int .i64 f, .string t, .slice ad4 nx.length cp4, .slice ad5 sg.length cp5] 85)) g am cm (.slice af xs.length cf) ep l xs) := hid (H5.out.1.keep ((Below.refl _ _).alloc (Nat.le_refl _) _))
      refine hK _ _ ⟨fun _ => H6.out.blk, ?_⟩
      clear hK K
      go_simp
      refine wpAnyG_all (rs := [13]) (by kernel_rfl) (by simp) ?_
      intro i hi
      obtain rfl := List.mem_singleton.1 hi
      clear hi
      refine wpOp_v rfl (by rfl) (fun K hK => ?_)
      refine owp_append_at _ _ 43 rfl 0 85 iv (.agg #[.int .i64 0, .string ⟨#[]⟩, .slice none 0 0, .slice none 0 0]) 4 72 undRV hv0 hvz0 hvz1 hvz2 rfl (by decide) (.slice af xs.length cf) xs.length (rtC xs) rfl H6.out.row ⟨_, 0, none⟩ 1 1 (rvC (((f, t, nx, sg), (ad4, cp4), (ad5, cp5)) : RtM)) rfl rfl (World.news_of_block (t := 85) (fr := (0, 0)) (heap_alloc_last w5 _)) (by simp [rvC, Value.oneCell']) (by have := HLn.out; unfold maxLen; omega) (by have := HLn.out; omega) (Nat.zero_le _) (fun v7 w7 hown7 hgrow7 hob7 => ?_)
      have hc7 : v7.cells = #[v7] ∧ v7.oneCell' = true := by
        rcases hown7.2 with ⟨hv, _⟩ | ⟨_, _, _, hv, _⟩ <;> (rw [hv]; exact ⟨rfl, rfl⟩)
      have H7 := hid (And.intro ((hgrow7.block g (lt_of_blk H6.out.blk) (fun e => (H6.out.rg g e.symm).1 rfl)).trans H6.out.blk) (And.intro hown7 (And.intro hgrow7 (And.intro hob7 hc7))))
      clear hown7 hgrow7 hob7 hc7
      go_simp
      refine hK _ _ ⟨fun _ => H7.out.1, ?_⟩
      clear hK K
      go_simp
      refine wpAnyG_take (i := 14) (v := ?v11) rfl (by kernel_rfl) (fun _ _ _ h => h) (Or.inl ⟨by rfl, ?hy11⟩) H7.out.1 ?rest11
      case hy11 => (intro ww hS; go_simp; try with_reducible rfl)
      go_simp
      refine wpAnyG_take (i := 15) (v := ?v12) rfl (by kernel_rfl) (fun _ _ _ h => h) (Or.inl ⟨by rfl, ?hy12⟩) H7.out.1 ?rest12
      case hy12 => (intro ww hS; go_simp; try with_reducible rfl)
      go_simp
      refine wpAnyG_all (rs := [16]) (by kernel_rfl) (by simp) ?_
      intro i hi
      obtain rfl := List.mem_singleton.1 hi
      clear hi
      refine wpOp_v rfl (by rfl) (fun K hK => ?_)
      refine owp_storeV 43 _ _ rfl g 2 (by rfl) v7 (by rfl) H7.out.2.2.2.2.1 H7.out.2.2.2.2.2 [_, _, _] _ H7.out.1 (by simp) (by kernel_rfl) (fun w8 Hz => ?_)
      refine hK _ _ ⟨fun h => absurd (by simp) h, ?_⟩
      clear hK K
      go_simp
      refine wpAnyG_done (by kernel_rfl) ?_ _
      go_simp
      go_wp2
      go_ret
      have hsz := HB.out.1.size
      have hal := (Below.refl w5.heap.size w5).alloc (Nat.le_refl _) (.cells #[.int .i64 f, .string t, .slice ad4 nx.length cp4, .slice ad5 sg.length cp5] 85)
      have hs5 : wr.heap.size ≤ w5.heap.size := H5.out.2.2.2.1.size
      have hn : ∀ k, rvK (((f, t, nx, sg), (ad4, cp4), (ad5, cp5)) : RtM) k → wr.heap.size ≤ k ∧ k < (w5.alloc (.cells #[.int .i64 f, .string t, .slice ad4 nx.length cp4, .slice ad5 sg.length cp5] 85)).heap.size := by
        rintro k (⟨z, hz, rfl⟩ | ⟨z, hz, rfl⟩)
        · have h1 := H5.out.2.1.far z hz
          have := h1.2.lt
          have := hal.size
          exact ⟨h1.1, by omega⟩
        · have h1 := H5.out.2.2.1.2 z hz
          have := h1.2.lt
          have := hal.size
          have := H5.out.2.2.2.2
          exact ⟨by omega, by omega⟩
      have hD := H6.out.more (((f, t, nx, sg), (ad4, cp4), (ad5, cp5)) : RtM) ⟨(H5.out.2.1.keep hal).ints, (H5.out.2.2.1.keep hal).1⟩ wr.heap.size hn (fun k hk => HB.out.2.lt k hk) H7.out.2.2.1 H7.out.2.1 H7.out.2.2.2.1 Hz.out.2 Hz.out.1
      refine ⟨rfl, _, _, (((f, t, nx, sg), (ad4, cp4), (ad5, cp5)) : RtM), rfl, hD, ?_, ?_⟩
      · rintro k (rfl | hk | hk | hk)
        · exact .inl (.inl rfl)
        · rcases H7.out.2.2.2.1 with e | e
          · exact .inl (.inr (.inl (e ▸ hk)))
          · rw [e] at hk
            cases hk
            have := hal.size
            exact .inr (by omega)
        · exact .inl (.inr (.inr hk))
        · exact .inr (Nat.le_trans hsz (hn k hk).1)
      · have o1 := Hz.out.2
        have o2 := H7.out.2.2.1
        have o3 := H5.out.2.2.2.1
        have o4 := HB.out.1
        refine ⟨o1.os.trans (o2.os.trans (hal.os.trans (o3.os.trans o4.os))), o1.tape.trans (o2.tape.trans (hal.tape.trans (o3.tape.trans o4.tape))), o1.output.trans (o2.output.trans (hal.output.trans (o3.output.trans o4.output))), by have := o1.size; have := o2.size; have := hal.size; omega, fun k hk hnk => ?_⟩
        have hkr : k < wr.heap.size := Nat.lt_of_lt_of_le hk hsz
        exact (Hz.out.2.block k (fun e => hnk (.inl e))).trans ((H7.out.2.2.1.block k (by have := hal.size; omega) (fun e => hnk (.inr (.inl e.symm)))).trans ((hal.block k (by omega)).trans ((H5.out.2.2.2.1.block k hkr).trans (HB.out.1.block k hk))))
    · have hj1 : (j : Int) < (xs.length : Int) := by omega
      obtain ⟨r, hr⟩ : ∃ r, xs[j]? = some r := ⟨_, List.getElem?_eq_getElem (by omega)⟩
      have hat := rtC_at xs j r hr
      have haf : ∃ gf, af = some ⟨gf, 0, none⟩ := by
        rcases hd.row.2 with ⟨hv, h0⟩ | ⟨gg, cap2, cur, hv, _⟩
        · exact absurd h0 (by omega)
        · cases hv; exact ⟨gg, rfl⟩
      obtain ⟨gf, rfl⟩ := haf
      have m0 := hd.row.cells (g := gf) rfl _ _ hat.1
      rw [Addr.add_lit, Nat.zero_add] at m0
      have HB := hid (And.intro hb (And.intro hj hjn))
      have he := HS.out r (List.mem_of_getElem? hr)
      obtain ⟨F0, eF⟩ : ∃ F0, F0 = r.1.1 := ⟨_, rfl⟩
      rw [← eF] at m0 he
      clear hb hd hj hjn hr hat eF
      have hbe : (F0 == f) = false := by simpa using he
      go_wp2
      go_roundw
      case rel => exact ⟨j + 1, by have := HB.out.2; omega, by go_num, HB.out.1⟩
      case measure => simp [intOf]; omega
end Go.Proofs.Ytclfphffbfdimaa
