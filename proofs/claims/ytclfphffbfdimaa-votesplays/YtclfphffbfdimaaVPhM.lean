/- The document's Settled. -/
import Derived.Test.YtclfphffbfdimaaVPgM
import Derived.Test.YtclfphffbfdimaaKh1
import Derived.Test.YtclfphffbfdimaaApAM
import Derived.Test.YtclfphffbfdimaaVPiM
namespace Go.Proofs.Ytclfphffbfdimaa
open Go.RowKit

theorem take_mem {xs : List RtM} {j : Nat} {x z : RtM} (h : xs[j]? = some x) (hz : z ∈ xs.take (j + 1)) : z ∈ xs.take j ∨ z = x := by
  obtain ⟨hl, he⟩ := List.getElem?_eq_some_iff.1 h
  rw [List.take_succ_eq_append_getElem hl, he] at hz
  rcases List.mem_append.1 hz with h | h
  · exact .inl h
  · exact .inr (List.mem_singleton.1 h)
theorem OwnedT.slT {B : Nat} {w : World} {v : Value} {ps : List (Int × ByteArray)} (h : w.ownsRow B 47 2 v ps.length (pC ps)) : ∃ ad cap, v = .slice ad ps.length cap ∧ PairsIn w ad ps := by
  obtain ⟨ad, cap, hv, hp, _⟩ := OwnedT.sl (B := 0) (w0 := w) ⟨ownsRow_low h (Nat.zero_le _), Below.refl _ _, Nat.zero_le _⟩
  exact ⟨ad, cap, hv, hp⟩
theorem two_at {w : World} {a : Option Addr} {f : Int} {s1 s2 : ByteArray} (h : PairsIn w a (twoS f s1 s2)) : ∃ g o, a = some ⟨g, o, none⟩ ∧ ∀ ww, Below w.heap.size w ww → (ww.cell? ⟨g, o, none⟩ = some (.int .i64 f) ∧ ww.cell? ⟨g, o + 1, none⟩ = some (.string s1)) ∧ ww.cell? ⟨g, o + 2, none⟩ = some (.int .i64 f) ∧ ww.cell? ⟨g, o + 3, none⟩ = some (.string s2) := by
  rcases h with h | ⟨g, o, ha, hg, hc⟩
  · cases h
  · refine ⟨g, o, ha, fun ww hw => ?_⟩
    have h0 := hc 0 _ rfl
    have h1 := hc 1 _ rfl
    have hb : ww.heap[g]? = w.heap[g]? := hw.block g hg
    simp only [World.cell?, hb]
    exact ⟨h0, h1⟩
theorem ep_wrap {ep : Int} (h : 0 ≤ ep ∧ ep ≤ 60) : IntKind.i64.wrap (ep + 1) = ep + 1 := wrap_small _ (by omega) (by omega)
theorem load_setW (w : World) (b : Nat) (x0 x1 x2 x3 x4 : Value) (h : w.heap[b]? = some (.cells #[x0, x1, x2, x3, x4] 54 (0, 0))) : (loadVar 54 ⟨b, 0, none⟩).run Try.prog w = .ok (.agg #[x0, x1, x2, x3, x4]) w := by
  have c0 := cell_at (L := [x0, x1, x2, x3, x4]) h 0 _ rfl
  have c1 := cell_at (L := [x0, x1, x2, x3, x4]) h 1 _ rfl
  have c2 := cell_at (L := [x0, x1, x2, x3, x4]) h 2 _ rfl
  have c3 := cell_at (L := [x0, x1, x2, x3, x4]) h 3 _ rfl
  have c4 := cell_at (L := [x0, x1, x2, x3, x4]) h 4 _ rfl
  go_simp
set_option maxRecDepth 100000 in
set_option maxHeartbeats 6400000 in
theorem wsettledT_any (R : Nat → Prop) (g : Nat) (am : Option Addr) (cm : Nat) (y : Value) (ep : Int) (l : List Int) (xs : List RtM) (s : Ta) (hok : RvOk s (xs.map (·.1))) (he : s.ep = ep) (hm : s.mem = l) (w : World) (h : DtA R w g am cm y ep l xs) :
    Calls Try.prog 19 #[.pointer (some ⟨g, 0, none⟩)] w fun e w' => ∃ v, e = .returned v ∧ SetAns w' s v ∧ Below w.heap.size w w' := by
  have hml : l.length ≤ 10 := by rw [← hm]; exact hok.ok.mlen.2
  have hxl : xs.length ≤ 1000 := by
    have h1 := hok.ok.len
    rw [hok.vs, List.length_map, List.length_map, hm] at h1
    omega
  have hbx : ∀ x ∈ xs, x.1.2.2.1.length ≤ 10 := fun x hx => (mem_len (rightC_ep (hok.nx x.1 (List.mem_map.2 ⟨x, hx, rfl⟩))).2).2
  obtain ⟨af, cf, rfl⟩ : ∃ af cf, y = .slice af xs.length cf := by
    rcases h.row.2 with ⟨hv, h0⟩ | ⟨gg, cap2, cur, hv, _⟩
    · exact ⟨none, 0, by rw [hv, h0]⟩
    · exact ⟨_, _, hv⟩
  obtain ⟨wa, ea⟩ : ∃ wa, wa = w.alloc (.cells #[.string ⟨#[]⟩, .slice none 0 0, .int .i64 0, .slice none 0 0, .slice none 0 0] 54) := ⟨_, rfl⟩
  have hba : Below w.heap.size w wa := by rw [ea]; exact (Below.refl _ _).alloc (Nat.le_refl _) _
  have HA : Hid (DtA R wa g am cm (.slice af xs.length cf) ep l xs ∧ wa.heap[w.heap.size]? = some (.cells #[.string ⟨#[]⟩, .slice none 0 0, .int .i64 0, .slice none 0 0, .slice none 0 0] 54 (0, 0)) ∧ Below w.heap.size w wa) := hid ⟨h.keep hba, by rw [ea]; exact heap_alloc_last w _, hba⟩
  have HE := hid ea
  have HL := hid (And.intro hml (And.intro hxl hbx))
  have HOk := hid (And.intro hok (And.intro he hm))
  have hx1k : (xs.length : Int) ≤ 1000 := by omega
  have hl10 : (l.length : Int) ≤ 10 := by omega
  clear h ea hba hml hxl hbx hok he hm
  go_enter Try.func19, Try.ntmps19
  go_wp2
  rw [← HE.out]
  go_loopw [4] (fun i wr => ∃ j : Nat, j ≤ xs.length ∧ i = .int .i64 (j : Int) ∧ (∀ x ∈ xs.take j, ¬ quoT s ≤ ((likeX l xs x.1).length : Int)) ∧ Below wa.heap.size wa wr) (fun i _ => ((xs.length : Int) - intOf i).toNat)
  case atStart => exact ⟨0, by omega, rfl, fun x hx => by simp at hx, Below.refl _ _⟩
  case round =>
    obtain ⟨j, hj, rfl, hno, hb⟩ := hrel
    have hd := HA.out.1.keep hb
    have k2 := cell_at (L := [_, _, _]) hd.blk 2 _ rfl
    have k1 := cell_at (L := [_, _, _]) hd.blk 1 _ rfl
    have hj0 : (0 : Int) ≤ (j : Int) := Int.natCast_nonneg _
    by_cases hjn : j = xs.length
    · have hj1 : ¬ ((j : Int) < (xs.length : Int)) := by omega
      have HN : Hid (chF s = false) := hid (by
        refine HOk.out.1.none (fun v hv => ?_)
        obtain ⟨x, hx, rfl⟩ := List.mem_map.1 hv
        have h1 := hno x (by rw [hjn, List.take_length]; exact hx)
        have h2 := likeX_map xs x.1 s.mem
        rw [← h2, List.length_map, HOk.out.2.2]
        exact h1)
      have HB := hid hb
      clear hb hd hj hjn hno
      have HRb : Hid (wr.heap[w.heap.size]? = some (.cells #[.string ⟨#[]⟩, .slice none 0 0, .int .i64 0, .slice none 0 0, .slice none 0 0] 54 (0, 0))) := hid ((HB.out.block _ (lt_of_blk HA.out.2.1)).trans HA.out.2.1)
      go_wp2_with (refine wl_store_blk rfl 54 _ _ rfl w.heap.size 0 rfl #[.string ⟨#[]⟩, .slice none 0 0, .int .i64 0, .slice none 0 0, .slice none 0 0] rfl [.string ⟨#[]⟩, .slice none 0 0, .int .i64 0, .slice none 0 0, .slice none 0 0] 54 HRb.out (by simp) (by kernel_rfl) (by simp [Value.oneCell']) ?_; intro w9 Hz; go_must (have H9 : Hid (w9.heap[w.heap.size]? = some (.cells #[.string ⟨#[]⟩, .slice none 0 0, .int .i64 0, .slice none 0 0, .slice none 0 0] 54 (0, 0)) ∧ One w.heap.size wr w9) := hid Hz.out); clear Hz)
      refine ret_cell2 (s := 2) (s2 := 3) (ad := ⟨w.heap.size, 0, none⟩) rfl rfl (load_setW _ _ _ _ _ _ _ H9.out.1) rfl rfl ?_
      refine ⟨_, rfl, ?_, H9.out.2.below (HA.out.2.2.trans (HB.out.mono HA.out.2.2.size)) (Nat.le_refl _)⟩
      rw [SetAns, if_neg (by rw [HN.out]; decide)]
      rfl
    · have hj1 : (j : Int) < (xs.length : Int) := by omega
      obtain ⟨x, hx⟩ : ∃ x, xs[j]? = some x := ⟨_, List.getElem?_eq_getElem (by omega)⟩
      obtain ⟨h0, h1, h2, h3⟩ := rtC_at xs j x hx
      have haf : ∃ gf, af = some ⟨gf, 0, none⟩ := by
        rcases hd.row.2 with ⟨hv, h0⟩ | ⟨gg, cap2, cur, hv, _⟩
        · exact absurd h0 (by omega)
        · cases hv; exact ⟨gg, rfl⟩
      obtain ⟨gf, rfl⟩ := haf
      have m0 := hd.row.cells (g := gf) rfl _ _ h0
      have m1 := hd.row.cells (g := gf) rfl _ _ h1
      have m2 := hd.row.cells (g := gf) rfl _ _ h2
      have m3 := hd.row.cells (g := gf) rfl _ _ h3
      rw [Addr.add_lit, Nat.zero_add] at m0 m1 m2 m3
      have hit := (hd.it x (List.mem_of_getElem? hx)).1.1
      obtain ⟨LX, eLX⟩ : ∃ LX, LX = likeX l xs x.1 := ⟨_, rfl⟩
      have HX := hid (And.intro hx (And.intro eLX (And.intro hj (And.intro hjn hno))))
      obtain ⟨⟨F, T, X, Y⟩, ⟨ax, kx⟩, ⟨ay, ky⟩⟩ := x
      have HLk : Hid (Calls Try.prog 44 #[.pointer (some ⟨g, 0, none⟩), .agg #[.int .i64 F, .string T, .slice ax X.length kx, .slice ay Y.length ky]] wr fun e w' => ∃ aL cL, e = .returned (.slice aL LX.length cL) ∧ OwnedV wr.heap.size wr w' (.slice aL LX.length cL) LX) := hid (by
        have := wlike_any R g am cm _ ep l xs HL.out.1 HL.out.2.1 F T X Y ax kx ay ky wr hd (Nat.le_trans (HL.out.2.2 _ (List.mem_of_getElem? hx)) (by unfold maxLen; omega)) (fun x hx => Nat.le_trans (HL.out.2.2 x hx) (by unfold maxLen; omega)) hit
        refine this.mono fun e w' ⟨u, h1, h2⟩ => ?_
        rw [← eLX] at h2
        obtain ⟨aL, cL, rfl⟩ := h2.slice
        exact ⟨aL, cL, h1, h2⟩)
      have HQ : Hid (∀ u : World, Calls Try.prog 45 #[.int .i64 (l.length : Int)] u fun e w' => e = .returned (.int .i64 (quoT s)) ∧ w' = u) := hid (fun u => by have := vquorum_any (l.length : Int) (by omega) u; rw [← HOk.out.2.2] at this ⊢; exact this)
      have HB := hid (And.intro hb hd)
      have hLl : LX.length ≤ 10000 := by
        rw [eLX]
        exact Nat.le_trans (likeX_len xs _ l) (Nat.le_trans (Nat.mul_le_mul HL.out.1 HL.out.2.1) (by decide))
      have hLi : (LX.length : Int) ≤ 10000 := by omega
      clear hb hd hj hjn hno hx h0 h1 h2 h3 hit eLX hLl
      by_cases hq : ((LX.length : Int) < quoT s)
      · have HQq := hid hq
        obtain ⟨QQ, eQ⟩ : ∃ QQ, QQ = quoT s := ⟨_, rfl⟩
        rw [← eQ] at HQ hq
        clear eQ
        go_wp2_with (first
          | (go_at_call 44; go_must (refine HLk.out.mono ?_); rintro e w1 ⟨aL, cL, rfl, h1⟩; have H1 := hid h1; clear h1 m0 m1 m2 m3 k1; have k1 := cell_at (L := [_, _, _]) (HB.out.2.keep H1.out.bel).blk 1 _ rfl)
          | (go_at_call 45; go_must (refine (HQ.out _).mono ?_); rintro e w2 ⟨rfl, hw2⟩; replace hw2 := hw2.symm; subst hw2))
        go_roundw
        case rel => exact ⟨j + 1, by have := HX.out.2.2; omega, by go_num, fun z hz => by
          rcases take_mem HX.out.1 hz with h | rfl
          · have := HX.out.2.2.2.2 z h; omega
          · rw [← HX.out.2.1]; have := HQq.out; omega, HB.out.1.trans ((H1.out.bel.mono HB.out.1.size))⟩
        case measure => simp [intOf]; omega
      · have hf3 : quoT s ≤ (LX.length : Int) := by omega
        obtain ⟨xr, hxr⟩ : ∃ xr : RtM, xs[j]? = some xr ∧ LX = likeX l xs xr.1 ∧ xr.1 = (F, T, X, Y) := ⟨_, HX.out.1, HX.out.2.1, rfl⟩
        have hsm := HOk.out.1.some (v := (F, T, X, Y)) (List.mem_map.2 ⟨xr, List.mem_of_getElem? hxr.1, hxr.2.2⟩) (by
          have h2 := likeX_map xs (F, T, X, Y) s.mem
          rw [← h2, List.length_map, HOk.out.2.2]
          rw [hxr.2.1, hxr.2.2] at hf3
          exact hf3)
        have hlm : likeOf s.mem (xs.map (·.1)) (F, T, X, Y) = LX.map (·.1) := by
          have h2 := likeX_map xs (F, T, X, Y) s.mem
          rw [← h2, HOk.out.2.2, hxr.2.1, hxr.2.2]
        rw [hlm] at hsm
        have hal : ∀ z ∈ LX, z ∈ xs ∧ z.1.2.1 = T ∧ z.1.2.2.1 = X ∧ z.1.2.2.2 = twoS z.1.1 (setS s) (chB s).2 := fun z hz => by
          have h1 : z.1 ∈ likeOf s.mem (xs.map (·.1)) (F, T, X, Y) := by rw [hlm]; exact List.mem_map.2 ⟨z, hz, rfl⟩
          have h2 := mem_like h1
          refine ⟨likeX_mem (by rw [← hxr.2.1]; exact hz), h2.2.1, h2.2.2, hsm.2.2.2.1 _ (List.mem_map.2 ⟨z, hz, rfl⟩)⟩
        have h3q := quoT_pos HOk.out.1.ok
        have hep := rightC_ep HOk.out.1.ok.right
        rw [HOk.out.2.1] at hep
        obtain ⟨S1, eS1⟩ : ∃ S1, S1 = setS s := ⟨_, rfl⟩
        obtain ⟨S2, eS2⟩ : ∃ S2, S2 = (chB s).2 := ⟨_, rfl⟩
        rw [← eS1, ← eS2] at hal
        have HY := hid (And.intro hal (And.intro hsm (And.intro eS1 eS2)))
        have hL3 : 3 ≤ LX.length := by omega
        have hL0 : 0 < LX.length := by omega
        have HEp := hid hep.1
        have hw1 : IntKind.i64.wrap (ep + 1) = ep + 1 := ep_wrap hep.1
        clear hf3 hxr hsm hlm hal h3q hep eS1 eS2
        obtain ⟨QQ, eQ⟩ : ∃ QQ, QQ = quoT s := ⟨_, rfl⟩
        rw [← eQ] at HQ hq
        clear eQ
        go_wp2_with (first
          | (go_at_call 44; go_must (refine HLk.out.mono ?_); rintro e w1 ⟨aL, cL, rfl, h1⟩; have H1 := hid h1; clear h1 m0 m1 m2 m3 k1; have k1 := cell_at (L := [_, _, _]) (HB.out.2.keep H1.out.bel).blk 1 _ rfl)
          | (go_at_call 45; go_must (refine (HQ.out _).mono ?_); rintro e w2 ⟨rfl, hw2⟩; replace hw2 := hw2.symm; subst hw2))
        have haL : ∃ gL, aL = some ⟨gL, 0, none⟩ := by
          rcases H1.out.own.2 with ⟨hv, h0⟩ | ⟨gg, cap2, cur, hv, _⟩
          · exact absurd h0 (by omega)
          · cases hv; exact ⟨gg, rfl⟩
        obtain ⟨gL, rfl⟩ := haL
        obtain ⟨x0, hx0⟩ : ∃ x0, LX[0]? = some x0 := ⟨_, List.getElem?_eq_getElem (by omega)⟩
        have hy0 := HY.out.1 x0 (List.mem_of_getElem? hx0)
        obtain ⟨⟨F0, T0, X0, Y0⟩, ⟨ax0, kx0⟩, ⟨ay0, ky0⟩⟩ := x0
        obtain ⟨hm0, rfl, rfl, _⟩ : _ ∧ T0 = T ∧ X0 = X ∧ _ := hy0
        have hd1 := HB.out.2.keep H1.out.bel
        have HV : Hid (∀ ww, Below w1.heap.size w1 ww → (ww.cell? ⟨gL, 1, none⟩ = some (.string T0) ∧ ww.cell? ⟨gL, 2, none⟩ = some (.slice ax0 X0.length kx0) ∧ ww.cell? ⟨g, 0, none⟩ = some (.int .i64 ep)) ∧ IntsIn ww ax0 X0) := hid (fun ww hw => by
          obtain ⟨q0, q1, q2, q3⟩ := rtC_at LX 0 _ hx0
          have hr := (ownsRow_keep H1.out.own hw)
          have z1 := hr.cells (g := gL) rfl _ _ q1
          have z2 := hr.cells (g := gL) rfl _ _ q2
          rw [Addr.add_lit, Nat.zero_add] at z1 z2
          exact ⟨⟨z1, z2, cell_at (L := [_, _, _]) (hd1.keep hw).blk 0 _ rfl⟩, ((hd1.it _ hm0).1.1).keep hw (Nat.le_refl _)⟩)
        have hx10 : X0.length ≤ 10 := HL.out.2.2 _ hm0
        have HX10 := hid hx10
        have HD : Hid (∀ ww, Below w1.heap.size w1 ww → DtA R ww g am cm (.slice (some ⟨gf, 0, none⟩) xs.length cf) ep l xs ∧ ww.ownsRow wr.heap.size 85 4 (.slice (some ⟨gL, 0, none⟩) LX.length cL) LX.length (rtC LX)) := hid (fun ww hw => ⟨hd1.keep hw, ownsRow_keep H1.out.own hw⟩)
        clear hx0 hm0 hd1 hx10 k1 k2
        have HS0 : Hid (Below w1.heap.size w1 w1.drew) := hid (Below.refl _ _).drew
        refine wp_region_G (S := fun ww => Below w1.heap.size w1 ww) (ex := []) (by kernel_rfl) ?_
        try (change wpAnyG _ _ _ _ _ _ _ _ _ (World.drew _))
        refine wpAnyG_take (i := 0) (v := ?v1) rfl (by kernel_rfl) (fun _ _ _ h => h) (Or.inl ⟨by rfl, ?hy1⟩) HS0.out ?rest1
        case hy1 => (intro ww _; go_simp; try with_reducible rfl)
        go_simp
        refine wpAnyG_take (i := 1) (v := ?v2) rfl (by kernel_rfl) (fun _ _ _ h => h) (Or.inl ⟨by rfl, ?hy2⟩) HS0.out ?rest2
        case hy2 => (intro ww _; go_simp; try with_reducible rfl)
        go_simp
        refine wpAnyG_take (i := 2) (v := ?v3) rfl (by kernel_rfl) (fun _ _ _ h => h) (Or.inl ⟨by rfl, ?hy3⟩) HS0.out ?rest3
        case hy3 => (intro ww _; go_simp; try with_reducible rfl)
        go_simp
        refine wpAnyG_take (i := 3) (v := ?v4) rfl (by kernel_rfl) (fun _ _ _ h => h) (Or.inl ⟨by rfl, ?hy4⟩) HS0.out ?rest4
        case hy4 => (intro ww hS; obtain ⟨⟨z1, z2, z3⟩, _⟩ := HV.out ww hS; go_simp; try with_reducible rfl)
        go_simp
        refine wpAnyG_take (i := 4) (v := ?v5) rfl (by kernel_rfl) (fun _ _ _ h => h) (Or.inl ⟨by rfl, ?hy5⟩) HS0.out ?rest5
        case hy5 => (intro ww _; go_simp; try with_reducible rfl)
        go_simp
        refine wpAnyG_take (i := 5) (v := ?v6) rfl (by kernel_rfl) (fun _ _ _ h => h) (Or.inl ⟨by rfl, ?hy6⟩) HS0.out ?rest6
        case hy6 => (intro ww _; go_simp; try with_reducible rfl)
        go_simp
        refine wpAnyG_take (i := 6) (v := ?v7) rfl (by kernel_rfl) (fun _ _ _ h => h) (Or.inl ⟨by rfl, ?hy7⟩) HS0.out ?rest7
        case hy7 => (intro ww _; go_simp; try with_reducible rfl)
        go_simp
        refine wpAnyG_take (i := 7) (v := ?v8) rfl (by kernel_rfl) (fun _ _ _ h => h) (Or.inl ⟨by rfl, ?hy8⟩) HS0.out ?rest8
        case hy8 => (intro ww _; go_simp; try with_reducible rfl)
        go_simp
        refine wpAnyG_take (i := 8) (v := ?v9) rfl (by kernel_rfl) (fun _ _ _ h => h) (Or.inl ⟨by rfl, ?hy9⟩) HS0.out ?rest9
        case hy9 => (intro ww hS; obtain ⟨⟨z1, z2, z3⟩, _⟩ := HV.out ww hS; go_simp; try with_reducible rfl)
        go_simp
        refine wpAnyG_take (i := 9) (v := ?v10) rfl (by kernel_rfl) (fun _ _ _ h => h) (Or.inl ⟨by rfl, ?hy10⟩) HS0.out ?rest10
        case hy10 => (intro ww _; go_simp; try with_reducible rfl)
        go_simp
        refine wpAnyG_take (i := 10) (v := ?v11) rfl (by kernel_rfl) (fun _ _ _ h => h) (Or.inl ⟨by rfl, ?hy11⟩) HS0.out ?rest11
        case hy11 => (intro ww _; go_simp; try with_reducible rfl)
        go_simp
        refine wpAnyG_take (i := 11) (v := ?v12) rfl (by kernel_rfl) (fun _ _ _ h => h) (Or.inl ⟨by rfl, ?hy12⟩) HS0.out ?rest12
        case hy12 => (intro ww _; go_simp; try with_reducible rfl)
        go_simp
        refine wpAnyG_take (i := 12) (v := ?v13) rfl (by kernel_rfl) (fun _ _ _ h => h) (Or.inl ⟨by rfl, ?hy13⟩) HS0.out ?rest13
        case hy13 => (intro ww _; go_simp; try with_reducible rfl)
        go_simp
        refine wpAnyG_take (i := 13) (v := ?v14) rfl (by kernel_rfl) (fun _ _ _ h => h) (Or.inl ⟨by rfl, ?hy14⟩) HS0.out ?rest14
        case hy14 => (intro ww hS; obtain ⟨⟨z1, z2, z3⟩, _⟩ := HV.out ww hS; go_simp; try with_reducible rfl)
        go_simp
        refine wpAnyG_all (rs := [14, 18]) (by kernel_rfl) (by simp) ?_
        intro i hi
        rcases List.mem_cons.1 hi with rfl | hi
        · clear hi
          refine wpOp_v rfl (by rfl) (fun K hK => ?_)
          refine owp_ownI _ _ rfl rfl ax0 X0.length kx0 X0 rfl rfl (HV.out _ HS0.out).2 (by have := HX10.out; omega) (fun v4 w4 h4 => ?_)
          have hb4 := h4.out.bel
          obtain ⟨ad4, cp4, rfl, hi4⟩ := h4.out.new
          have H4 : Hid (NewI w1.heap.size w4 ad4 X0 ∧ Below w1.heap.size w1 w4) := hid ⟨hi4, HS0.out.trans (hb4.mono HS0.out.size)⟩
          clear h4 hb4 hi4
          go_simp
          refine hK _ _ ⟨fun _ => H4.out.2, ?_⟩
          clear hK K
          go_simp
          refine wpAnyG_take (i := 15) (v := ?v101) rfl (by kernel_rfl) (fun _ _ _ h => h) (Or.inl ⟨by rfl, ?hy101⟩) H4.out.2 ?rest101
          case hy101 => (intro ww _; go_simp; try with_reducible rfl)
          go_simp
          refine wpAnyG_take (i := 16) (v := ?v102) rfl (by kernel_rfl) (fun _ _ _ h => h) (Or.inl ⟨by rfl, ?hy102⟩) H4.out.2 ?rest102
          case hy102 => (intro ww _; go_simp; try with_reducible rfl)
          go_simp
          refine wpAnyG_take (i := 17) (v := ?v103) rfl (by kernel_rfl) (fun _ _ _ h => h) (Or.inl ⟨by rfl, ?hy103⟩) H4.out.2 ?rest103
          case hy103 => (intro ww _; go_simp; try with_reducible rfl)
          go_simp
          refine wpAnyG_all (rs := [18]) (by kernel_rfl) (by simp) ?_
          intro i hi
          obtain rfl := List.mem_singleton.1 hi
          clear hi
          refine wpOp_v rfl (by rfl) (fun K hK => ?_)
          go_simp
          obtain ⟨w5, e5⟩ : ∃ w5, w5 = w4.alloc (.cells #[.string ⟨#[]⟩, .slice none 0 0, .int .i64 0, .slice none 0 0, .slice none 0 0] 54) := ⟨_, rfl⟩
          rw [← e5]
          have hb5 : Below w4.heap.size w4 w5 := by rw [e5]; exact (Below.refl _ _).alloc (Nat.le_refl _) _
          have H5 : Hid (NewI w1.heap.size w5 ad4 X0 ∧ w5.heap[w4.heap.size]? = some (.cells #[.string ⟨#[]⟩, .slice none 0 0, .int .i64 0, .slice none 0 0, .slice none 0 0] 54 (0, 0)) ∧ Below w1.heap.size w1 w5 ∧ (∀ x, ad4 = some x → x.block ≠ w4.heap.size) ∧ w1.heap.size ≤ w4.heap.size) := hid ⟨H4.out.1.keep hb5, by rw [e5]; exact heap_alloc_last w4 _, H4.out.2.trans (hb5.mono H4.out.2.size), fun x hx => Nat.ne_of_lt (H4.out.1.far x hx).2.lt, H4.out.2.size⟩
          clear e5 hb5 H4
          obtain ⟨p, ep5⟩ : ∃ p, p = w4.heap.size := ⟨_, rfl⟩
          rw [← ep5] at H5 ⊢
          clear ep5
          refine hK _ _ ⟨fun _ => H5.out.2.2.1, ?_⟩
          clear hK K
          go_simp
          refine wpAnyG_all (rs := [19]) (by kernel_rfl) (by simp) ?_
          intro i hi
          obtain rfl := List.mem_singleton.1 hi
          clear hi
          refine wpOp_v rfl (by rfl) (fun K hK => ?_)
          refine owp_store_blk 54 _ _ rfl p 0 rfl #[.string T0, .slice none 0 0, .int .i64 (ep + 1), .slice ad4 X0.length cp4, .slice none 0 0] rfl [.string ⟨#[]⟩, .slice none 0 0, .int .i64 0, .slice none 0 0, .slice none 0 0] 54 H5.out.2.1 (by simp) (by kernel_rfl) (by simp [Value.oneCell']) (fun w6 Hz => ?_)
          have H6 : Hid (SbA w1.heap.size w1 w6 p T0 (ep + 1) ad4 cp4 X0 (.slice none 0 0) (.slice none 0 0) [] []) := hid (by
            have ho := Hz.out.2
            have hpl := lt_of_blk H5.out.2.1
            refine ⟨Hz.out.1, World.ownsRow_nil _ _ _ _, World.ownsRow_nil _ _ _ _, fun k h => (by cases h), fun h => (by cases h), fun h => (by cases h), H5.out.2.2.2.2, ints_stayV H5.out.1.ints (by rw [ho.size]; exact Nat.le_refl _) (fun x hx => ho.block _ (H5.out.2.2.2.1 x hx)), fun x hx => ⟨(H5.out.1.far x hx).1, by rw [ho.size]; exact (H5.out.1.far x hx).2.lt, H5.out.2.2.2.1 x hx, fun h => (by cases h), fun h => (by cases h)⟩, ho.below H5.out.2.2.1 H5.out.2.2.2.2, by rw [ho.size]; exact H5.out.2.2.1.size⟩)
          refine hK _ _ ⟨fun _ => H6.out.bel, ?_⟩
          clear hK K Hz
          go_simp
          refine wpAnyG_done (by kernel_rfl) ?_ _
          go_simp
          have HPw : Hid ((∀ ww, Below w1.heap.size w1 ww → ∀ (q : Nat) (x : RtM), LX[q]? = some x → ww.cell? ⟨gL, q * 4 + 3, none⟩ = some (.slice x.2.2.1 x.1.2.2.2.length x.2.2.2) ∧ PairsIn ww x.2.2.1 x.1.2.2.2) ∧ Below w.heap.size w w1 ∧ w1.heap[w.heap.size]? = some (.cells #[.string ⟨#[]⟩, .slice none 0 0, .int .i64 0, .slice none 0 0, .slice none 0 0] 54 (0, 0))) := hid ⟨fun ww hw q x hx => by
              obtain ⟨q0, q1, q2, q3⟩ := rtC_at LX q x hx
              have hr := (HD.out ww hw).2
              have z3 := hr.cells (g := gL) rfl _ _ q3
              rw [Addr.add_lit, Nat.zero_add] at z3
              exact ⟨z3, ((HD.out ww hw).1.it x (HY.out.1 x (List.mem_of_getElem? hx)).1).1.2⟩, HA.out.2.2.trans ((HB.out.1.trans (H1.out.bel.mono HB.out.1.size)).mono HA.out.2.2.size), ((HB.out.1.trans (H1.out.bel.mono HB.out.1.size)).block _ (lt_of_blk HA.out.2.1)).trans HA.out.2.1⟩
          have HLs : Hid (LX.length ≤ 10000) := hid (by omega)
          clear HD HB H1 HV HS0 HQ HA HE H5 HLk
          obtain ⟨iv, hv0, hvz0, hvz1, hvz2⟩ := info_parts Try.info47
          go_wp2_with fail
          go_loopw [7] (fun k wr => ∃ q : Nat, q ≤ LX.length ∧ k = .int .i64 (q : Int) ∧ ∃ v1 v2, SbA w1.heap.size w1 wr p T0 (ep + 1) ad4 cp4 X0 v1 v2 ((LX.take q).map fun x => (x.1.1, S1)) ((LX.take q).map fun x => (x.1.1, S2))) (fun k _ => ((LX.length : Int) - intOf k).toNat)
          case atStart => exact ⟨0, by omega, rfl, _, _, H6.out⟩
          case round =>
            obtain ⟨q, hq5, rfl, v1, v2, hsb⟩ := hrel
            have hq0 : (0 : Int) ≤ (q : Int) := Int.natCast_nonneg _
            have hlq : (LX.take q).length = q := by rw [List.length_take]; omega
            have hl1 : ((LX.take q).map fun x => (x.1.1, S1)).length = q := by rw [List.length_map]; exact hlq
            have hl2 : ((LX.take q).map fun x => (x.1.1, S2)).length = q := by rw [List.length_map]; exact hlq
            obtain ⟨a1, c1, rfl⟩ := hsb.sl1
            obtain ⟨a3, c3, rfl⟩ := hsb.sl2
            by_cases hqn : q = LX.length
            · have hq1 : ¬ ((q : Int) < (LX.length : Int)) := by omega
              have htk : LX.take q = LX := by rw [hqn, List.take_length]
              rw [htk] at hsb hl1 hl2
              have HSb := hid hsb
              have HF := hid (And.intro hl1 hl2)
              have b0 := cell_at (L := [_, _, _, _, _]) hsb.blk 0 _ rfl
              have b1 := cell_at (L := [_, _, _, _, _]) hsb.blk 1 _ rfl
              have b2 := cell_at (L := [_, _, _, _, _]) hsb.blk 2 _ rfl
              have b3 := cell_at (L := [_, _, _, _, _]) hsb.blk 3 _ rfl
              have b4 := cell_at (L := [_, _, _, _, _]) hsb.blk 4 _ rfl
              have HRb : Hid (wr.heap[w.heap.size]? = some (.cells #[.string ⟨#[]⟩, .slice none 0 0, .int .i64 0, .slice none 0 0, .slice none 0 0] 54 (0, 0)) ∧ w.heap.size < w1.heap.size) := hid ⟨(hsb.bel.block _ (lt_of_blk HPw.out.2.2)).trans HPw.out.2.2, lt_of_blk HPw.out.2.2⟩
              clear hsb hq5 hqn hlq hl1 hl2 htk
              generalize hN1 : (LX.map fun x => (x.1.1, S1)).length = N1 at b1
              generalize hN2 : (LX.map fun x => (x.1.1, S2)).length = N2 at b4
              have HN := hid (And.intro hN1 hN2)
              clear hN1 hN2
              go_wp2_with (refine wl_store_blk rfl 54 _ _ rfl w.heap.size 0 rfl #[.string T0, .slice a1 N1 c1, .int .i64 (ep + 1), .slice ad4 X0.length cp4, .slice a3 N2 c3] rfl [.string ⟨#[]⟩, .slice none 0 0, .int .i64 0, .slice none 0 0, .slice none 0 0] 54 HRb.out.1 (by simp) (by kernel_rfl) (by simp [Value.oneCell']) ?_; intro w9 Hz; go_must (have H9 : Hid (w9.heap[w.heap.size]? = some (.cells #[.string T0, .slice a1 N1 c1, .int .i64 (ep + 1), .slice ad4 X0.length cp4, .slice a3 N2 c3] 54 (0, 0)) ∧ One w.heap.size wr w9) := hid Hz.out); clear Hz)
              refine ret_cell2 (s := 2) (s2 := 3) (ad := ⟨w.heap.size, 0, none⟩) rfl rfl (load_setW _ _ _ _ _ _ _ H9.out.1) rfl rfl ?_
              have hY := HY.out.2
              have hs9 : w9.heap.size = wr.heap.size := H9.out.2.size
              refine ⟨_, rfl, ?_, H9.out.2.below (HPw.out.2.1.trans (HSb.out.bel.mono HPw.out.2.1.size)) (Nat.le_refl _)⟩
              rw [SetAns, if_pos hY.1.1]
              have e1 : signsOf s (chB s) (setS s) = LX.map fun x => (x.1.1, S1) := by rw [hY.1.2.2.2.2.1, List.map_map, hY.2.1]; rfl
              have e2 : signsOf s (chB s) (chB s).2 = LX.map fun x => (x.1.1, S2) := by rw [hY.1.2.2.2.2.2, List.map_map, hY.2.2]; rfl
              have hst : ∀ k, w1.heap.size ≤ k → w9.heap[k]? = wr.heap[k]? := fun k hk => H9.out.2.block k (by have := HRb.out.2; omega)
              have hr1 := row_stay HSb.out.r1 (fun k e => hst k (HSb.out.r1.lt k e).1)
              have hr2 := row_stay HSb.out.r2 (fun k e => hst k (HSb.out.r2.lt k e).1)
              rw [HN.out.1] at hr1
              rw [HN.out.2] at hr2
              obtain ⟨p1, f1, hv1, hp1⟩ := OwnedT.slT (ps := LX.map fun x => (x.1.1, S1)) (by rw [HN.out.1]; exact hr1)
              obtain ⟨p2, f2, hv2, hp2⟩ := OwnedT.slT (ps := LX.map fun x => (x.1.1, S2)) (by rw [HN.out.2]; exact hr2)
              cases hv1
              cases hv2
              refine ⟨a1, c1, ad4, cp4, a3, c3, ?_, by rw [e1]; exact hp1, by rw [hY.1.2.2.1]; exact ints_stayV HSb.out.vi (by omega) (fun x hx => hst _ (HSb.out.vf x hx).1), by rw [e2]; exact hp2⟩
              rw [e1, e2, hY.1.2.1, hY.1.2.2.1, HOk.out.2.1, HN.out.1, HN.out.2]
              rfl
            · have hq1 : (q : Int) < (LX.length : Int) := by omega
              rw [hl1] at hsb
              rw [hl2] at hsb
              obtain ⟨x, hx⟩ : ∃ x, LX[q]? = some x := ⟨_, List.getElem?_eq_getElem (by omega)⟩
              have hy := (HY.out.1 x (List.mem_of_getElem? hx)).2.2.2
              have HTk : Hid (LX.take (q + 1) = LX.take q ++ [x]) := hid (by obtain ⟨h1, h2⟩ := List.getElem?_eq_some_iff.1 hx; rw [List.take_succ_eq_append_getElem h1, h2])
              obtain ⟨gy, oy, hgy, hcy⟩ : ∃ gy oy, x.2.2.1 = some ⟨gy, oy, none⟩ ∧ ∀ ww, Below w1.heap.size w1 ww → (ww.cell? ⟨gy, oy, none⟩ = some (.int .i64 x.1.1) ∧ ww.cell? ⟨gy, oy + 1, none⟩ = some (.string S1)) ∧ ww.cell? ⟨gy, oy + 2, none⟩ = some (.int .i64 x.1.1) ∧ ww.cell? ⟨gy, oy + 3, none⟩ = some (.string S2) := by
                have hp := (HPw.out.1 w1 (Below.refl _ _) q x hx).2
                rw [hy] at hp
                exact two_at hp
              have HPc : Hid (∀ ww, Below w1.heap.size w1 ww → ww.cell? ⟨gL, q * 4 + 3, none⟩ = some (.slice (some ⟨gy, oy, none⟩) 2 x.2.2.2) ∧ (ww.cell? ⟨gy, oy, none⟩ = some (.int .i64 x.1.1) ∧ ww.cell? ⟨gy, oy + 1, none⟩ = some (.string S1)) ∧ ww.cell? ⟨gy, oy + 2, none⟩ = some (.int .i64 x.1.1) ∧ ww.cell? ⟨gy, oy + 3, none⟩ = some (.string S2)) := hid (fun ww hw => by
                have h1 := (HPw.out.1 ww hw q x hx).1
                rw [hgy, hy] at h1
                exact ⟨h1, hcy ww hw⟩)
              obtain ⟨FX, eFX⟩ : ∃ FX, FX = x.1.1 := ⟨_, rfl⟩
              rw [← eFX] at HPc
              have HFX := hid eFX
              clear eFX
              generalize x.2.2.2 = CX at HPc
              have HSb := hid hsb
              have HQn : Hid (q < LX.length ∧ LX.length ≤ 10000) := hid ⟨by omega, HLs.out⟩
              clear hsb hq5 hqn hlq hx hy hgy hcy
              have HLen : Hid (((LX.take q).map fun x => (x.1.1, S1)).length = q ∧ ((LX.take q).map fun x => (x.1.1, S2)).length = q) := hid ⟨hl1, hl2⟩
              clear hl1 hl2
              go_wp2_with fail
              have HSwr : Hid (wr.drew.heap[p]? = some (.cells #[.string T0, (Value.slice a1 q c1), .int .i64 (ep + 1), .slice ad4 X0.length cp4, (Value.slice a3 q c3)] 54 (0, 0)) ∧ Below w1.heap.size w1 wr.drew) := hid ⟨HSb.out.blk, HSb.out.bel.drew⟩
              refine wp_region_G (S := fun ww => ww.heap[p]? = some (.cells #[.string T0, (Value.slice a1 q c1), .int .i64 (ep + 1), .slice ad4 X0.length cp4, (Value.slice a3 q c3)] 54 (0, 0)) ∧ Below w1.heap.size w1 ww) (ex := [12]) (by kernel_rfl) ?_
              try (change wpAnyG _ _ _ _ _ _ _ _ _ (World.drew _))
              refine wpAnyG_take (i := 0) (v := ?v501) rfl (by kernel_rfl) (fun _ _ _ h => h) (Or.inl ⟨by rfl, ?hy501⟩) HSwr.out ?rest501
              case hy501 => (intro ww _; go_simp; try with_reducible rfl)
              go_simp
              refine wpAnyG_take (i := 1) (v := ?v502) rfl (by kernel_rfl) (fun _ _ _ h => h) (Or.inl ⟨by rfl, ?hy502⟩) HSwr.out ?rest502
              case hy502 => (intro ww hS; have yb := cell_at (L := [_, _, _, _, _]) hS.1 1 _ rfl; go_simp; try with_reducible rfl)
              go_simp
              refine wpAnyG_take (i := 2) (v := ?v503) rfl (by kernel_rfl) (fun _ _ _ h => h) (Or.inl ⟨by rfl, ?hy503⟩) HSwr.out ?rest503
              case hy503 => (intro ww _; go_simp; try with_reducible rfl)
              go_simp
              refine wpAnyG_take (i := 3) (v := ?v504) rfl (by kernel_rfl) (fun _ _ _ h => h) (Or.inl ⟨by rfl, ?hy504⟩) HSwr.out ?rest504
              case hy504 => (intro ww _; go_simp; try with_reducible rfl)
              go_simp
              refine wpAnyG_take (i := 4) (v := ?v505) rfl (by kernel_rfl) (fun _ _ _ h => h) (Or.inl ⟨by rfl, ?hy505⟩) HSwr.out ?rest505
              case hy505 => (intro ww _; go_simp; try with_reducible rfl)
              go_simp
              refine wpAnyG_take (i := 5) (v := ?v506) rfl (by kernel_rfl) (fun _ _ _ h => h) (Or.inl ⟨by rfl, ?hy506⟩) HSwr.out ?rest506
              case hy506 => (intro ww _; go_simp; try with_reducible rfl)
              go_simp
              refine wpAnyG_take (i := 6) (v := ?v507) rfl (by kernel_rfl) (fun _ _ _ h => h) (Or.inl ⟨by rfl, ?hy507⟩) HSwr.out ?rest507
              case hy507 => (intro ww hS; obtain ⟨y3, ⟨y4, y5⟩, y6, y7⟩ := HPc.out ww hS.2; go_simp; try with_reducible rfl)
              go_simp
              refine wpAnyG_take (i := 7) (v := ?v508) rfl (by kernel_rfl) (fun _ _ _ h => h) (Or.inl ⟨by rfl, ?hy508⟩) HSwr.out ?rest508
              case hy508 => (intro ww _; go_simp; try with_reducible rfl)
              go_simp
              refine wpAnyG_take (i := 8) (v := ?v509) rfl (by kernel_rfl) (fun _ _ _ h => h) (Or.inl ⟨by rfl, ?hy509⟩) HSwr.out ?rest509
              case hy509 => (intro ww hS; obtain ⟨y3, ⟨y4, y5⟩, y6, y7⟩ := HPc.out ww hS.2; go_simp; try with_reducible rfl)
              go_simp
              refine wpAnyG_all (rs := [9]) (by kernel_rfl) (by simp) ?_
              intro i hi
              obtain rfl := List.mem_singleton.1 hi
              clear hi
              refine wpOp_v rfl (by rfl) (fun K hK => ?_)
              go_simp
              have hba : Below wr.heap.size wr (wr.drew.alloc (.cells #[.int .i64 FX, .string S1] 47)) := ((Below.refl _ _).drew).alloc (Nat.le_refl _) _
              have HAl : Hid (((wr.drew.alloc (.cells #[.int .i64 FX, .string S1] 47)).heap[p]? = some (.cells #[.string T0, (Value.slice a1 q c1), .int .i64 (ep + 1), .slice ad4 X0.length cp4, (Value.slice a3 q c3)] 54 (0, 0)) ∧ Below w1.heap.size w1 (wr.drew.alloc (.cells #[.int .i64 FX, .string S1] 47))) ∧ SbA w1.heap.size w1 (wr.drew.alloc (.cells #[.int .i64 FX, .string S1] 47)) p T0 (ep + 1) ad4 cp4 X0 (Value.slice a1 q c1) (Value.slice a3 q c3) ((LX.take q).map fun x => (x.1.1, S1)) ((LX.take q).map fun x => (x.1.1, S2)) ∧ Below wr.heap.size wr (wr.drew.alloc (.cells #[.int .i64 FX, .string S1] 47))) := hid ⟨⟨(hba.block _ (lt_of_blk HSb.out.blk)).trans HSb.out.blk, HSb.out.bel.trans (hba.mono HSb.out.le)⟩, HSb.out.keep hba, hba⟩
              clear hba
              refine hK _ _ ⟨fun _ => HAl.out.1, ?_⟩
              clear hK K
              go_simp
              refine wpAnyG_all (rs := [10]) (by kernel_rfl) (by simp) ?_
              intro i hi
              obtain rfl := List.mem_singleton.1 hi
              clear hi
              refine wpOp_v rfl (by rfl) (fun K hK => ?_)
              refine owp_append_at _ _ 39 rfl w1.heap.size 47 iv (.agg #[.int .i64 0, .string ⟨#[]⟩]) 2 24 Try.underlying39 hv0 hvz0 hvz1 hvz2 rfl (by decide) ((Value.slice a1 q c1)) q (pC ((LX.take q).map fun x => (x.1.1, S1))) rfl (by have := HAl.out.2.1.r1; rw [HLen.out.1] at this; exact this) ⟨wr.heap.size, 0, none⟩ 1 1 (pC [(FX, S1)]) rfl rfl (World.news_of_block (t := 47) (fr := (0, 0)) (heap_alloc_last wr.drew _)) (by simp [pC, Value.oneCell']) (by have := HQn.out; unfold maxLen; omega) (by have := HQn.out; omega) (HAl.out.2.1.le) (fun v7 w7 hown7 hgrow7 hob7 => ?_)
              have hc7 : v7.cells = #[v7] ∧ v7.oneCell' = true := by
                rcases hown7.2 with ⟨hv, _⟩ | ⟨_, _, _, hv, _⟩ <;> (rw [hv]; exact ⟨rfl, rfl⟩)
              have HAp : Hid ((w7.heap[p]? = some (.cells #[.string T0, (Value.slice a1 q c1), .int .i64 (ep + 1), .slice ad4 X0.length cp4, (Value.slice a3 q c3)] 54 (0, 0)) ∧ Below w1.heap.size w1 w7) ∧ w7.ownsRow w1.heap.size 47 2 v7 (q + 1) (pC ((LX.take q).map fun x => (x.1.1, S1)) ++ pC [(FX, S1)]) ∧ (wr.drew.alloc (.cells #[.int .i64 FX, .string S1] 47)).grownBy w7 ((Value.slice a1 q c1)).ownBlock ∧ (v7.ownBlock = ((Value.slice a1 q c1)).ownBlock ∨ v7.ownBlock = some (wr.drew.alloc (.cells #[.int .i64 FX, .string S1] 47)).heap.size) ∧ (v7.cells = #[v7] ∧ v7.oneCell' = true)) := hid ⟨⟨(hgrow7.block p (lt_of_blk HAl.out.1.1) (fun e => HAl.out.2.1.n1 e.symm)).trans HAl.out.1.1, HAl.out.1.2.grown hgrow7 HAl.out.2.1.le (fun k hk => (HAl.out.2.1.r1.lt k hk).1)⟩, hown7, hgrow7, hob7, hc7⟩
              clear hown7 hgrow7 hob7 hc7
              go_simp
              refine hK _ _ ⟨fun _ => HAp.out.1, ?_⟩
              clear hK K
              go_simp
              refine wpAnyG_take (i := 11) (v := ?v510) rfl (by kernel_rfl) (fun _ _ _ h => h) (Or.inl ⟨by rfl, ?hy510⟩) HAp.out.1 ?rest510
              case hy510 => (intro ww _; go_simp; try with_reducible rfl)
              go_simp
              refine wpAnyG_all (rs := [12]) (by kernel_rfl) (by simp) ?_
              intro i hi
              obtain rfl := List.mem_singleton.1 hi
              clear hi
              refine wpOp_v rfl (by rfl) (fun K hK => ?_)
              refine owp_storeV 39 _ _ rfl p 1 (by rfl) v7 (by rfl) HAp.out.2.2.2.2.1 HAp.out.2.2.2.2.2 [.string T0, (Value.slice a1 q c1), .int .i64 (ep + 1), .slice ad4 X0.length cp4, (Value.slice a3 q c3)] _ HAp.out.1.1 (by simp) (by kernel_rfl) (fun w8 Hz => ?_)
              refine hK _ _ ⟨fun h => absurd (by simp) h, ?_⟩
              clear hK K
              go_simp
              refine wpAnyG_done (by kernel_rfl) ?_ _
              go_simp
              have HSc := hid (HSb.out.step1 (x := (FX, S1)) HAl.out.2.2 HAp.out.2.2.1 (by rw [HLen.out.1]; exact HAp.out.2.1) HAp.out.2.2.2.1 Hz.out.2 Hz.out.1)
              clear HAl HAp Hz HSwr
              go_wp2_with fail
              have HSw8 : Hid (w8.drew.heap[p]? = some (.cells #[.string T0, v7, .int .i64 (ep + 1), .slice ad4 X0.length cp4, (Value.slice a3 q c3)] 54 (0, 0)) ∧ Below w1.heap.size w1 w8.drew) := hid ⟨HSc.out.blk, HSc.out.bel.drew⟩
              refine wp_region_G (S := fun ww => ww.heap[p]? = some (.cells #[.string T0, v7, .int .i64 (ep + 1), .slice ad4 X0.length cp4, (Value.slice a3 q c3)] 54 (0, 0)) ∧ Below w1.heap.size w1 ww) (ex := [14]) (by kernel_rfl) ?_
              try (change wpAnyG _ _ _ _ _ _ _ _ _ (World.drew _))
              refine wpAnyG_take (i := 0) (v := ?v601) rfl (by kernel_rfl) (fun _ _ _ h => h) (Or.inl ⟨by rfl, ?hy601⟩) HSw8.out ?rest601
              case hy601 => (intro ww _; go_simp; try with_reducible rfl)
              go_simp
              refine wpAnyG_take (i := 1) (v := ?v602) rfl (by kernel_rfl) (fun _ _ _ h => h) (Or.inl ⟨by rfl, ?hy602⟩) HSw8.out ?rest602
              case hy602 => (intro ww _; go_simp; try with_reducible rfl)
              go_simp
              refine wpAnyG_take (i := 2) (v := ?v603) rfl (by kernel_rfl) (fun _ _ _ h => h) (Or.inl ⟨by rfl, ?hy603⟩) HSw8.out ?rest603
              case hy603 => (intro ww hS; have yb := cell_at (L := [_, _, _, _, _]) hS.1 4 _ rfl; go_simp; try with_reducible rfl)
              go_simp
              refine wpAnyG_take (i := 3) (v := ?v604) rfl (by kernel_rfl) (fun _ _ _ h => h) (Or.inl ⟨by rfl, ?hy604⟩) HSw8.out ?rest604
              case hy604 => (intro ww _; go_simp; try with_reducible rfl)
              go_simp
              refine wpAnyG_take (i := 4) (v := ?v605) rfl (by kernel_rfl) (fun _ _ _ h => h) (Or.inl ⟨by rfl, ?hy605⟩) HSw8.out ?rest605
              case hy605 => (intro ww _; go_simp; try with_reducible rfl)
              go_simp
              refine wpAnyG_take (i := 5) (v := ?v606) rfl (by kernel_rfl) (fun _ _ _ h => h) (Or.inl ⟨by rfl, ?hy606⟩) HSw8.out ?rest606
              case hy606 => (intro ww _; go_simp; try with_reducible rfl)
              go_simp
              refine wpAnyG_take (i := 6) (v := ?v607) rfl (by kernel_rfl) (fun _ _ _ h => h) (Or.inl ⟨by rfl, ?hy607⟩) HSw8.out ?rest607
              case hy607 => (intro ww _; go_simp; try with_reducible rfl)
              go_simp
              refine wpAnyG_take (i := 7) (v := ?v608) rfl (by kernel_rfl) (fun _ _ _ h => h) (Or.inl ⟨by rfl, ?hy608⟩) HSw8.out ?rest608
              case hy608 => (intro ww hS; obtain ⟨y3, ⟨y4, y5⟩, y6, y7⟩ := HPc.out ww hS.2; go_simp; try with_reducible rfl)
              go_simp
              refine wpAnyG_take (i := 8) (v := ?v609) rfl (by kernel_rfl) (fun _ _ _ h => h) (Or.inl ⟨by rfl, ?hy609⟩) HSw8.out ?rest609
              case hy609 => (intro ww _; go_simp; try with_reducible rfl)
              go_simp
              refine wpAnyG_take (i := 9) (v := ?v610) rfl (by kernel_rfl) (fun _ _ _ h => h) (Or.inl ⟨by rfl, ?hy610⟩) HSw8.out ?rest610
              case hy610 => (intro ww hS; obtain ⟨y3, ⟨y4, y5⟩, y6, y7⟩ := HPc.out ww hS.2; go_simp; try with_reducible rfl)
              go_simp
              refine wpAnyG_all (rs := [10]) (by kernel_rfl) (by simp) ?_
              intro i hi
              obtain rfl := List.mem_singleton.1 hi
              clear hi
              refine wpOp_v rfl (by rfl) (fun K hK => ?_)
              go_simp
              have hba : Below w8.heap.size w8 (w8.drew.alloc (.cells #[.int .i64 FX, .string S2] 47)) := ((Below.refl _ _).drew).alloc (Nat.le_refl _) _
              have HAl : Hid (((w8.drew.alloc (.cells #[.int .i64 FX, .string S2] 47)).heap[p]? = some (.cells #[.string T0, v7, .int .i64 (ep + 1), .slice ad4 X0.length cp4, (Value.slice a3 q c3)] 54 (0, 0)) ∧ Below w1.heap.size w1 (w8.drew.alloc (.cells #[.int .i64 FX, .string S2] 47))) ∧ SbA w1.heap.size w1 (w8.drew.alloc (.cells #[.int .i64 FX, .string S2] 47)) p T0 (ep + 1) ad4 cp4 X0 v7 (Value.slice a3 q c3) (((LX.take q).map fun x => (x.1.1, S1)) ++ [(FX, S1)]) ((LX.take q).map fun x => (x.1.1, S2)) ∧ Below w8.heap.size w8 (w8.drew.alloc (.cells #[.int .i64 FX, .string S2] 47))) := hid ⟨⟨(hba.block _ (lt_of_blk HSc.out.blk)).trans HSc.out.blk, HSc.out.bel.trans (hba.mono HSc.out.le)⟩, HSc.out.keep hba, hba⟩
              clear hba
              refine hK _ _ ⟨fun _ => HAl.out.1, ?_⟩
              clear hK K
              go_simp
              refine wpAnyG_all (rs := [11]) (by kernel_rfl) (by simp) ?_
              intro i hi
              obtain rfl := List.mem_singleton.1 hi
              clear hi
              refine wpOp_v rfl (by rfl) (fun K hK => ?_)
              refine owp_append_at _ _ 39 rfl w1.heap.size 47 iv (.agg #[.int .i64 0, .string ⟨#[]⟩]) 2 24 Try.underlying39 hv0 hvz0 hvz1 hvz2 rfl (by decide) ((Value.slice a3 q c3)) q (pC ((LX.take q).map fun x => (x.1.1, S2))) rfl (by have := HAl.out.2.1.r2; rw [HLen.out.2] at this; exact this) ⟨w8.heap.size, 0, none⟩ 1 1 (pC [(FX, S2)]) rfl rfl (World.news_of_block (t := 47) (fr := (0, 0)) (heap_alloc_last w8.drew _)) (by simp [pC, Value.oneCell']) (by have := HQn.out; unfold maxLen; omega) (by have := HQn.out; omega) (HAl.out.2.1.le) (fun v8 w9 hown7 hgrow7 hob7 => ?_)
              have hc7 : v8.cells = #[v8] ∧ v8.oneCell' = true := by
                rcases hown7.2 with ⟨hv, _⟩ | ⟨_, _, _, hv, _⟩ <;> (rw [hv]; exact ⟨rfl, rfl⟩)
              have HAp : Hid ((w9.heap[p]? = some (.cells #[.string T0, v7, .int .i64 (ep + 1), .slice ad4 X0.length cp4, (Value.slice a3 q c3)] 54 (0, 0)) ∧ Below w1.heap.size w1 w9) ∧ w9.ownsRow w1.heap.size 47 2 v8 (q + 1) (pC ((LX.take q).map fun x => (x.1.1, S2)) ++ pC [(FX, S2)]) ∧ (w8.drew.alloc (.cells #[.int .i64 FX, .string S2] 47)).grownBy w9 ((Value.slice a3 q c3)).ownBlock ∧ (v8.ownBlock = ((Value.slice a3 q c3)).ownBlock ∨ v8.ownBlock = some (w8.drew.alloc (.cells #[.int .i64 FX, .string S2] 47)).heap.size) ∧ (v8.cells = #[v8] ∧ v8.oneCell' = true)) := hid ⟨⟨(hgrow7.block p (lt_of_blk HAl.out.1.1) (fun e => HAl.out.2.1.n2 e.symm)).trans HAl.out.1.1, HAl.out.1.2.grown hgrow7 HAl.out.2.1.le (fun k hk => (HAl.out.2.1.r2.lt k hk).1)⟩, hown7, hgrow7, hob7, hc7⟩
              clear hown7 hgrow7 hob7 hc7
              go_simp
              refine hK _ _ ⟨fun _ => HAp.out.1, ?_⟩
              clear hK K
              go_simp
              refine wpAnyG_take (i := 12) (v := ?v611) rfl (by kernel_rfl) (fun _ _ _ h => h) (Or.inl ⟨by rfl, ?hy611⟩) HAp.out.1 ?rest611
              case hy611 => (intro ww _; go_simp; try with_reducible rfl)
              go_simp
              refine wpAnyG_take (i := 13) (v := ?v612) rfl (by kernel_rfl) (fun _ _ _ h => h) (Or.inl ⟨by rfl, ?hy612⟩) HAp.out.1 ?rest612
              case hy612 => (intro ww _; go_simp; try with_reducible rfl)
              go_simp
              refine wpAnyG_all (rs := [14]) (by kernel_rfl) (by simp) ?_
              intro i hi
              obtain rfl := List.mem_singleton.1 hi
              clear hi
              refine wpOp_v rfl (by rfl) (fun K hK => ?_)
              refine owp_storeV 39 _ _ rfl p 4 (by rfl) v8 (by rfl) HAp.out.2.2.2.2.1 HAp.out.2.2.2.2.2 [.string T0, v7, .int .i64 (ep + 1), .slice ad4 X0.length cp4, (Value.slice a3 q c3)] _ HAp.out.1.1 (by simp) (by kernel_rfl) (fun w10 Hz => ?_)
              refine hK _ _ ⟨fun h => absurd (by simp) h, ?_⟩
              clear hK K
              go_simp
              refine wpAnyG_done (by kernel_rfl) ?_ _
              go_simp
              have HSd := hid (HSc.out.step2 (x := (FX, S2)) HAl.out.2.2 HAp.out.2.2.1 (by rw [HLen.out.2]; exact HAp.out.2.1) HAp.out.2.2.2.1 Hz.out.2 Hz.out.1)
              clear HAl HAp Hz HSw8
              go_wp2
              go_roundw
              case rel => exact ⟨q + 1, by have := HQn.out; omega, by go_num, v7, v8, by rw [HTk.out, List.map_append, List.map_append]; have := HSd.out; rw [HFX.out] at this; exact this⟩
              case measure => simp [intOf]; omega
        · obtain rfl := List.mem_singleton.1 hi
          clear hi
          refine wpOp_v rfl (by rfl) (fun K hK => ?_)
          go_simp
          obtain ⟨w4, e4⟩ : ∃ w4, w4 = (w1.alloc (.cells #[.string ⟨#[]⟩, .slice none 0 0, .int .i64 0, .slice none 0 0, .slice none 0 0] 54)).drew := ⟨_, rfl⟩
          rw [← e4]
          have hb4 : Below w1.heap.size w1 w4 := by rw [e4]; exact ((Below.refl _ _).alloc (Nat.le_refl _) _).drew
          have H4 : Hid (w4.heap[w1.heap.size]? = some (.cells #[.string ⟨#[]⟩, .slice none 0 0, .int .i64 0, .slice none 0 0, .slice none 0 0] 54 (0, 0)) ∧ Below w1.heap.size w1 w4) := hid ⟨by rw [e4]; exact heap_alloc_last w1 _, hb4⟩
          clear e4 hb4
          refine hK _ _ ⟨fun _ => H4.out.2, ?_⟩
          clear hK K
          go_simp
          refine wpAnyG_all (rs := [14]) (by kernel_rfl) (by simp) ?_
          intro i hi
          obtain rfl := List.mem_singleton.1 hi
          clear hi
          refine wpOp_v rfl (by rfl) (fun K hK => ?_)
          refine owp_ownI _ _ rfl rfl ax0 X0.length kx0 X0 rfl rfl (HV.out _ H4.out.2).2 (by have := HX10.out; omega) (fun v5 w5 h5 => ?_)
          have hb5 := h5.out.bel
          obtain ⟨ad4, cp4, rfl, hi5⟩ := h5.out.new
          have H5 : Hid (NewI w1.heap.size w5 ad4 X0 ∧ w5.heap[w1.heap.size]? = some (.cells #[.string ⟨#[]⟩, .slice none 0 0, .int .i64 0, .slice none 0 0, .slice none 0 0] 54 (0, 0)) ∧ Below w1.heap.size w1 w5 ∧ (∀ x, ad4 = some x → x.block ≠ w1.heap.size) ∧ w1.heap.size ≤ w1.heap.size) := hid ⟨⟨hi5.ints, fun x hx => ⟨Nat.le_trans H4.out.2.size (hi5.far x hx).1, (hi5.far x hx).2⟩⟩, (hb5.block _ (lt_of_blk H4.out.1)).trans H4.out.1, H4.out.2.trans (hb5.mono H4.out.2.size), fun x hx => by have := (hi5.far x hx).1; have := lt_of_blk H4.out.1; omega, Nat.le_refl _⟩
          clear h5 hb5 hi5 H4
          go_simp
          refine hK _ _ ⟨fun _ => H5.out.2.2.1, ?_⟩
          clear hK K
          go_simp
          refine wpAnyG_take (i := 15) (v := ?v201) rfl (by kernel_rfl) (fun _ _ _ h => h) (Or.inl ⟨by rfl, ?hy201⟩) H5.out.2.2.1 ?rest201
          case hy201 => (intro ww _; go_simp; try with_reducible rfl)
          go_simp
          refine wpAnyG_take (i := 16) (v := ?v202) rfl (by kernel_rfl) (fun _ _ _ h => h) (Or.inl ⟨by rfl, ?hy202⟩) H5.out.2.2.1 ?rest202
          case hy202 => (intro ww _; go_simp; try with_reducible rfl)
          go_simp
          refine wpAnyG_take (i := 17) (v := ?v203) rfl (by kernel_rfl) (fun _ _ _ h => h) (Or.inl ⟨by rfl, ?hy203⟩) H5.out.2.2.1 ?rest203
          case hy203 => (intro ww _; go_simp; try with_reducible rfl)
          go_simp
          refine wpAnyG_all (rs := [19]) (by kernel_rfl) (by simp) ?_
          intro i hi
          obtain rfl := List.mem_singleton.1 hi
          clear hi
          refine wpOp_v rfl (by rfl) (fun K hK => ?_)
          refine owp_store_blk 54 _ _ rfl w1.heap.size 0 rfl #[.string T0, .slice none 0 0, .int .i64 (ep + 1), .slice ad4 X0.length cp4, .slice none 0 0] rfl [.string ⟨#[]⟩, .slice none 0 0, .int .i64 0, .slice none 0 0, .slice none 0 0] 54 H5.out.2.1 (by simp) (by kernel_rfl) (by simp [Value.oneCell']) (fun w6 Hz => ?_)
          have H6 : Hid (SbA w1.heap.size w1 w6 w1.heap.size T0 (ep + 1) ad4 cp4 X0 (.slice none 0 0) (.slice none 0 0) [] []) := hid (by
            have ho := Hz.out.2
            have hpl := lt_of_blk H5.out.2.1
            refine ⟨Hz.out.1, World.ownsRow_nil _ _ _ _, World.ownsRow_nil _ _ _ _, fun k h => (by cases h), fun h => (by cases h), fun h => (by cases h), H5.out.2.2.2.2, ints_stayV H5.out.1.ints (by rw [ho.size]; exact Nat.le_refl _) (fun x hx => ho.block _ (H5.out.2.2.2.1 x hx)), fun x hx => ⟨(H5.out.1.far x hx).1, by rw [ho.size]; exact (H5.out.1.far x hx).2.lt, H5.out.2.2.2.1 x hx, fun h => (by cases h), fun h => (by cases h)⟩, ho.below H5.out.2.2.1 H5.out.2.2.2.2, by rw [ho.size]; exact H5.out.2.2.1.size⟩)
          refine hK _ _ ⟨fun _ => H6.out.bel, ?_⟩
          clear hK K Hz
          go_simp
          refine wpAnyG_done (by kernel_rfl) ?_ _
          go_simp
          obtain ⟨p, ep5⟩ : ∃ p, p = w1.heap.size := ⟨_, rfl⟩
          have H6 : Hid (SbA w1.heap.size w1 w6 p T0 (ep + 1) ad4 cp4 X0 (.slice none 0 0) (.slice none 0 0) [] []) := hid (by have := H6.out; rw [← ep5] at this ⊢; exact this)
          rw [← ep5]
          clear ep5
          have HPw : Hid ((∀ ww, Below w1.heap.size w1 ww → ∀ (q : Nat) (x : RtM), LX[q]? = some x → ww.cell? ⟨gL, q * 4 + 3, none⟩ = some (.slice x.2.2.1 x.1.2.2.2.length x.2.2.2) ∧ PairsIn ww x.2.2.1 x.1.2.2.2) ∧ Below w.heap.size w w1 ∧ w1.heap[w.heap.size]? = some (.cells #[.string ⟨#[]⟩, .slice none 0 0, .int .i64 0, .slice none 0 0, .slice none 0 0] 54 (0, 0))) := hid ⟨fun ww hw q x hx => by
              obtain ⟨q0, q1, q2, q3⟩ := rtC_at LX q x hx
              have hr := (HD.out ww hw).2
              have z3 := hr.cells (g := gL) rfl _ _ q3
              rw [Addr.add_lit, Nat.zero_add] at z3
              exact ⟨z3, ((HD.out ww hw).1.it x (HY.out.1 x (List.mem_of_getElem? hx)).1).1.2⟩, HA.out.2.2.trans ((HB.out.1.trans (H1.out.bel.mono HB.out.1.size)).mono HA.out.2.2.size), ((HB.out.1.trans (H1.out.bel.mono HB.out.1.size)).block _ (lt_of_blk HA.out.2.1)).trans HA.out.2.1⟩
          have HLs : Hid (LX.length ≤ 10000) := hid (by omega)
          clear HD HB H1 HV HS0 HQ HA HE H5 HLk
          obtain ⟨iv, hv0, hvz0, hvz1, hvz2⟩ := info_parts Try.info47
          go_wp2_with fail
          go_loopw [7] (fun k wr => ∃ q : Nat, q ≤ LX.length ∧ k = .int .i64 (q : Int) ∧ ∃ v1 v2, SbA w1.heap.size w1 wr p T0 (ep + 1) ad4 cp4 X0 v1 v2 ((LX.take q).map fun x => (x.1.1, S1)) ((LX.take q).map fun x => (x.1.1, S2))) (fun k _ => ((LX.length : Int) - intOf k).toNat)
          case atStart => exact ⟨0, by omega, rfl, _, _, H6.out⟩
          case round =>
            obtain ⟨q, hq5, rfl, v1, v2, hsb⟩ := hrel
            have hq0 : (0 : Int) ≤ (q : Int) := Int.natCast_nonneg _
            have hlq : (LX.take q).length = q := by rw [List.length_take]; omega
            have hl1 : ((LX.take q).map fun x => (x.1.1, S1)).length = q := by rw [List.length_map]; exact hlq
            have hl2 : ((LX.take q).map fun x => (x.1.1, S2)).length = q := by rw [List.length_map]; exact hlq
            obtain ⟨a1, c1, rfl⟩ := hsb.sl1
            obtain ⟨a3, c3, rfl⟩ := hsb.sl2
            by_cases hqn : q = LX.length
            · have hq1 : ¬ ((q : Int) < (LX.length : Int)) := by omega
              have htk : LX.take q = LX := by rw [hqn, List.take_length]
              rw [htk] at hsb hl1 hl2
              have HSb := hid hsb
              have HF := hid (And.intro hl1 hl2)
              have b0 := cell_at (L := [_, _, _, _, _]) hsb.blk 0 _ rfl
              have b1 := cell_at (L := [_, _, _, _, _]) hsb.blk 1 _ rfl
              have b2 := cell_at (L := [_, _, _, _, _]) hsb.blk 2 _ rfl
              have b3 := cell_at (L := [_, _, _, _, _]) hsb.blk 3 _ rfl
              have b4 := cell_at (L := [_, _, _, _, _]) hsb.blk 4 _ rfl
              have HRb : Hid (wr.heap[w.heap.size]? = some (.cells #[.string ⟨#[]⟩, .slice none 0 0, .int .i64 0, .slice none 0 0, .slice none 0 0] 54 (0, 0)) ∧ w.heap.size < w1.heap.size) := hid ⟨(hsb.bel.block _ (lt_of_blk HPw.out.2.2)).trans HPw.out.2.2, lt_of_blk HPw.out.2.2⟩
              clear hsb hq5 hqn hlq hl1 hl2 htk
              generalize hN1 : (LX.map fun x => (x.1.1, S1)).length = N1 at b1
              generalize hN2 : (LX.map fun x => (x.1.1, S2)).length = N2 at b4
              have HN := hid (And.intro hN1 hN2)
              clear hN1 hN2
              go_wp2_with (refine wl_store_blk rfl 54 _ _ rfl w.heap.size 0 rfl #[.string T0, .slice a1 N1 c1, .int .i64 (ep + 1), .slice ad4 X0.length cp4, .slice a3 N2 c3] rfl [.string ⟨#[]⟩, .slice none 0 0, .int .i64 0, .slice none 0 0, .slice none 0 0] 54 HRb.out.1 (by simp) (by kernel_rfl) (by simp [Value.oneCell']) ?_; intro w9 Hz; go_must (have H9 : Hid (w9.heap[w.heap.size]? = some (.cells #[.string T0, .slice a1 N1 c1, .int .i64 (ep + 1), .slice ad4 X0.length cp4, .slice a3 N2 c3] 54 (0, 0)) ∧ One w.heap.size wr w9) := hid Hz.out); clear Hz)
              refine ret_cell2 (s := 2) (s2 := 3) (ad := ⟨w.heap.size, 0, none⟩) rfl rfl (load_setW _ _ _ _ _ _ _ H9.out.1) rfl rfl ?_
              have hY := HY.out.2
              have hs9 : w9.heap.size = wr.heap.size := H9.out.2.size
              refine ⟨_, rfl, ?_, H9.out.2.below (HPw.out.2.1.trans (HSb.out.bel.mono HPw.out.2.1.size)) (Nat.le_refl _)⟩
              rw [SetAns, if_pos hY.1.1]
              have e1 : signsOf s (chB s) (setS s) = LX.map fun x => (x.1.1, S1) := by rw [hY.1.2.2.2.2.1, List.map_map, hY.2.1]; rfl
              have e2 : signsOf s (chB s) (chB s).2 = LX.map fun x => (x.1.1, S2) := by rw [hY.1.2.2.2.2.2, List.map_map, hY.2.2]; rfl
              have hst : ∀ k, w1.heap.size ≤ k → w9.heap[k]? = wr.heap[k]? := fun k hk => H9.out.2.block k (by have := HRb.out.2; omega)
              have hr1 := row_stay HSb.out.r1 (fun k e => hst k (HSb.out.r1.lt k e).1)
              have hr2 := row_stay HSb.out.r2 (fun k e => hst k (HSb.out.r2.lt k e).1)
              rw [HN.out.1] at hr1
              rw [HN.out.2] at hr2
              obtain ⟨p1, f1, hv1, hp1⟩ := OwnedT.slT (ps := LX.map fun x => (x.1.1, S1)) (by rw [HN.out.1]; exact hr1)
              obtain ⟨p2, f2, hv2, hp2⟩ := OwnedT.slT (ps := LX.map fun x => (x.1.1, S2)) (by rw [HN.out.2]; exact hr2)
              cases hv1
              cases hv2
              refine ⟨a1, c1, ad4, cp4, a3, c3, ?_, by rw [e1]; exact hp1, by rw [hY.1.2.2.1]; exact ints_stayV HSb.out.vi (by omega) (fun x hx => hst _ (HSb.out.vf x hx).1), by rw [e2]; exact hp2⟩
              rw [e1, e2, hY.1.2.1, hY.1.2.2.1, HOk.out.2.1, HN.out.1, HN.out.2]
              rfl
            · have hq1 : (q : Int) < (LX.length : Int) := by omega
              rw [hl1] at hsb
              rw [hl2] at hsb
              obtain ⟨x, hx⟩ : ∃ x, LX[q]? = some x := ⟨_, List.getElem?_eq_getElem (by omega)⟩
              have hy := (HY.out.1 x (List.mem_of_getElem? hx)).2.2.2
              have HTk : Hid (LX.take (q + 1) = LX.take q ++ [x]) := hid (by obtain ⟨h1, h2⟩ := List.getElem?_eq_some_iff.1 hx; rw [List.take_succ_eq_append_getElem h1, h2])
              obtain ⟨gy, oy, hgy, hcy⟩ : ∃ gy oy, x.2.2.1 = some ⟨gy, oy, none⟩ ∧ ∀ ww, Below w1.heap.size w1 ww → (ww.cell? ⟨gy, oy, none⟩ = some (.int .i64 x.1.1) ∧ ww.cell? ⟨gy, oy + 1, none⟩ = some (.string S1)) ∧ ww.cell? ⟨gy, oy + 2, none⟩ = some (.int .i64 x.1.1) ∧ ww.cell? ⟨gy, oy + 3, none⟩ = some (.string S2) := by
                have hp := (HPw.out.1 w1 (Below.refl _ _) q x hx).2
                rw [hy] at hp
                exact two_at hp
              have HPc : Hid (∀ ww, Below w1.heap.size w1 ww → ww.cell? ⟨gL, q * 4 + 3, none⟩ = some (.slice (some ⟨gy, oy, none⟩) 2 x.2.2.2) ∧ (ww.cell? ⟨gy, oy, none⟩ = some (.int .i64 x.1.1) ∧ ww.cell? ⟨gy, oy + 1, none⟩ = some (.string S1)) ∧ ww.cell? ⟨gy, oy + 2, none⟩ = some (.int .i64 x.1.1) ∧ ww.cell? ⟨gy, oy + 3, none⟩ = some (.string S2)) := hid (fun ww hw => by
                have h1 := (HPw.out.1 ww hw q x hx).1
                rw [hgy, hy] at h1
                exact ⟨h1, hcy ww hw⟩)
              obtain ⟨FX, eFX⟩ : ∃ FX, FX = x.1.1 := ⟨_, rfl⟩
              rw [← eFX] at HPc
              have HFX := hid eFX
              clear eFX
              generalize x.2.2.2 = CX at HPc
              have HSb := hid hsb
              have HQn : Hid (q < LX.length ∧ LX.length ≤ 10000) := hid ⟨by omega, HLs.out⟩
              clear hsb hq5 hqn hlq hx hy hgy hcy
              have HLen : Hid (((LX.take q).map fun x => (x.1.1, S1)).length = q ∧ ((LX.take q).map fun x => (x.1.1, S2)).length = q) := hid ⟨hl1, hl2⟩
              clear hl1 hl2
              go_wp2_with fail
              have HSwr : Hid (wr.drew.heap[p]? = some (.cells #[.string T0, (Value.slice a1 q c1), .int .i64 (ep + 1), .slice ad4 X0.length cp4, (Value.slice a3 q c3)] 54 (0, 0)) ∧ Below w1.heap.size w1 wr.drew) := hid ⟨HSb.out.blk, HSb.out.bel.drew⟩
              refine wp_region_G (S := fun ww => ww.heap[p]? = some (.cells #[.string T0, (Value.slice a1 q c1), .int .i64 (ep + 1), .slice ad4 X0.length cp4, (Value.slice a3 q c3)] 54 (0, 0)) ∧ Below w1.heap.size w1 ww) (ex := [12]) (by kernel_rfl) ?_
              try (change wpAnyG _ _ _ _ _ _ _ _ _ (World.drew _))
              refine wpAnyG_take (i := 0) (v := ?v1501) rfl (by kernel_rfl) (fun _ _ _ h => h) (Or.inl ⟨by rfl, ?hy1501⟩) HSwr.out ?rest1501
              case hy1501 => (intro ww _; go_simp; try with_reducible rfl)
              go_simp
              refine wpAnyG_take (i := 1) (v := ?v1502) rfl (by kernel_rfl) (fun _ _ _ h => h) (Or.inl ⟨by rfl, ?hy1502⟩) HSwr.out ?rest1502
              case hy1502 => (intro ww hS; have yb := cell_at (L := [_, _, _, _, _]) hS.1 1 _ rfl; go_simp; try with_reducible rfl)
              go_simp
              refine wpAnyG_take (i := 2) (v := ?v1503) rfl (by kernel_rfl) (fun _ _ _ h => h) (Or.inl ⟨by rfl, ?hy1503⟩) HSwr.out ?rest1503
              case hy1503 => (intro ww _; go_simp; try with_reducible rfl)
              go_simp
              refine wpAnyG_take (i := 3) (v := ?v1504) rfl (by kernel_rfl) (fun _ _ _ h => h) (Or.inl ⟨by rfl, ?hy1504⟩) HSwr.out ?rest1504
              case hy1504 => (intro ww _; go_simp; try with_reducible rfl)
              go_simp
              refine wpAnyG_take (i := 4) (v := ?v1505) rfl (by kernel_rfl) (fun _ _ _ h => h) (Or.inl ⟨by rfl, ?hy1505⟩) HSwr.out ?rest1505
              case hy1505 => (intro ww _; go_simp; try with_reducible rfl)
              go_simp
              refine wpAnyG_take (i := 5) (v := ?v1506) rfl (by kernel_rfl) (fun _ _ _ h => h) (Or.inl ⟨by rfl, ?hy1506⟩) HSwr.out ?rest1506
              case hy1506 => (intro ww _; go_simp; try with_reducible rfl)
              go_simp
              refine wpAnyG_take (i := 6) (v := ?v1507) rfl (by kernel_rfl) (fun _ _ _ h => h) (Or.inl ⟨by rfl, ?hy1507⟩) HSwr.out ?rest1507
              case hy1507 => (intro ww hS; obtain ⟨y3, ⟨y4, y5⟩, y6, y7⟩ := HPc.out ww hS.2; go_simp; try with_reducible rfl)
              go_simp
              refine wpAnyG_take (i := 7) (v := ?v1508) rfl (by kernel_rfl) (fun _ _ _ h => h) (Or.inl ⟨by rfl, ?hy1508⟩) HSwr.out ?rest1508
              case hy1508 => (intro ww _; go_simp; try with_reducible rfl)
              go_simp
              refine wpAnyG_take (i := 8) (v := ?v1509) rfl (by kernel_rfl) (fun _ _ _ h => h) (Or.inl ⟨by rfl, ?hy1509⟩) HSwr.out ?rest1509
              case hy1509 => (intro ww hS; obtain ⟨y3, ⟨y4, y5⟩, y6, y7⟩ := HPc.out ww hS.2; go_simp; try with_reducible rfl)
              go_simp
              refine wpAnyG_all (rs := [9]) (by kernel_rfl) (by simp) ?_
              intro i hi
              obtain rfl := List.mem_singleton.1 hi
              clear hi
              refine wpOp_v rfl (by rfl) (fun K hK => ?_)
              go_simp
              have hba : Below wr.heap.size wr (wr.drew.alloc (.cells #[.int .i64 FX, .string S1] 47)) := ((Below.refl _ _).drew).alloc (Nat.le_refl _) _
              have HAl : Hid (((wr.drew.alloc (.cells #[.int .i64 FX, .string S1] 47)).heap[p]? = some (.cells #[.string T0, (Value.slice a1 q c1), .int .i64 (ep + 1), .slice ad4 X0.length cp4, (Value.slice a3 q c3)] 54 (0, 0)) ∧ Below w1.heap.size w1 (wr.drew.alloc (.cells #[.int .i64 FX, .string S1] 47))) ∧ SbA w1.heap.size w1 (wr.drew.alloc (.cells #[.int .i64 FX, .string S1] 47)) p T0 (ep + 1) ad4 cp4 X0 (Value.slice a1 q c1) (Value.slice a3 q c3) ((LX.take q).map fun x => (x.1.1, S1)) ((LX.take q).map fun x => (x.1.1, S2)) ∧ Below wr.heap.size wr (wr.drew.alloc (.cells #[.int .i64 FX, .string S1] 47))) := hid ⟨⟨(hba.block _ (lt_of_blk HSb.out.blk)).trans HSb.out.blk, HSb.out.bel.trans (hba.mono HSb.out.le)⟩, HSb.out.keep hba, hba⟩
              clear hba
              refine hK _ _ ⟨fun _ => HAl.out.1, ?_⟩
              clear hK K
              go_simp
              refine wpAnyG_all (rs := [10]) (by kernel_rfl) (by simp) ?_
              intro i hi
              obtain rfl := List.mem_singleton.1 hi
              clear hi
              refine wpOp_v rfl (by rfl) (fun K hK => ?_)
              refine owp_append_at _ _ 39 rfl w1.heap.size 47 iv (.agg #[.int .i64 0, .string ⟨#[]⟩]) 2 24 Try.underlying39 hv0 hvz0 hvz1 hvz2 rfl (by decide) ((Value.slice a1 q c1)) q (pC ((LX.take q).map fun x => (x.1.1, S1))) rfl (by have := HAl.out.2.1.r1; rw [HLen.out.1] at this; exact this) ⟨wr.heap.size, 0, none⟩ 1 1 (pC [(FX, S1)]) rfl rfl (World.news_of_block (t := 47) (fr := (0, 0)) (heap_alloc_last wr.drew _)) (by simp [pC, Value.oneCell']) (by have := HQn.out; unfold maxLen; omega) (by have := HQn.out; omega) (HAl.out.2.1.le) (fun v7 w7 hown7 hgrow7 hob7 => ?_)
              have hc7 : v7.cells = #[v7] ∧ v7.oneCell' = true := by
                rcases hown7.2 with ⟨hv, _⟩ | ⟨_, _, _, hv, _⟩ <;> (rw [hv]; exact ⟨rfl, rfl⟩)
              have HAp : Hid ((w7.heap[p]? = some (.cells #[.string T0, (Value.slice a1 q c1), .int .i64 (ep + 1), .slice ad4 X0.length cp4, (Value.slice a3 q c3)] 54 (0, 0)) ∧ Below w1.heap.size w1 w7) ∧ w7.ownsRow w1.heap.size 47 2 v7 (q + 1) (pC ((LX.take q).map fun x => (x.1.1, S1)) ++ pC [(FX, S1)]) ∧ (wr.drew.alloc (.cells #[.int .i64 FX, .string S1] 47)).grownBy w7 ((Value.slice a1 q c1)).ownBlock ∧ (v7.ownBlock = ((Value.slice a1 q c1)).ownBlock ∨ v7.ownBlock = some (wr.drew.alloc (.cells #[.int .i64 FX, .string S1] 47)).heap.size) ∧ (v7.cells = #[v7] ∧ v7.oneCell' = true)) := hid ⟨⟨(hgrow7.block p (lt_of_blk HAl.out.1.1) (fun e => HAl.out.2.1.n1 e.symm)).trans HAl.out.1.1, HAl.out.1.2.grown hgrow7 HAl.out.2.1.le (fun k hk => (HAl.out.2.1.r1.lt k hk).1)⟩, hown7, hgrow7, hob7, hc7⟩
              clear hown7 hgrow7 hob7 hc7
              go_simp
              refine hK _ _ ⟨fun _ => HAp.out.1, ?_⟩
              clear hK K
              go_simp
              refine wpAnyG_take (i := 11) (v := ?v1510) rfl (by kernel_rfl) (fun _ _ _ h => h) (Or.inl ⟨by rfl, ?hy1510⟩) HAp.out.1 ?rest1510
              case hy1510 => (intro ww _; go_simp; try with_reducible rfl)
              go_simp
              refine wpAnyG_all (rs := [12]) (by kernel_rfl) (by simp) ?_
              intro i hi
              obtain rfl := List.mem_singleton.1 hi
              clear hi
              refine wpOp_v rfl (by rfl) (fun K hK => ?_)
              refine owp_storeV 39 _ _ rfl p 1 (by rfl) v7 (by rfl) HAp.out.2.2.2.2.1 HAp.out.2.2.2.2.2 [.string T0, (Value.slice a1 q c1), .int .i64 (ep + 1), .slice ad4 X0.length cp4, (Value.slice a3 q c3)] _ HAp.out.1.1 (by simp) (by kernel_rfl) (fun w8 Hz => ?_)
              refine hK _ _ ⟨fun h => absurd (by simp) h, ?_⟩
              clear hK K
              go_simp
              refine wpAnyG_done (by kernel_rfl) ?_ _
              go_simp
              have HSc := hid (HSb.out.step1 (x := (FX, S1)) HAl.out.2.2 HAp.out.2.2.1 (by rw [HLen.out.1]; exact HAp.out.2.1) HAp.out.2.2.2.1 Hz.out.2 Hz.out.1)
              clear HAl HAp Hz HSwr
              go_wp2_with fail
              have HSw8 : Hid (w8.drew.heap[p]? = some (.cells #[.string T0, v7, .int .i64 (ep + 1), .slice ad4 X0.length cp4, (Value.slice a3 q c3)] 54 (0, 0)) ∧ Below w1.heap.size w1 w8.drew) := hid ⟨HSc.out.blk, HSc.out.bel.drew⟩
              refine wp_region_G (S := fun ww => ww.heap[p]? = some (.cells #[.string T0, v7, .int .i64 (ep + 1), .slice ad4 X0.length cp4, (Value.slice a3 q c3)] 54 (0, 0)) ∧ Below w1.heap.size w1 ww) (ex := [14]) (by kernel_rfl) ?_
              try (change wpAnyG _ _ _ _ _ _ _ _ _ (World.drew _))
              refine wpAnyG_take (i := 0) (v := ?v1601) rfl (by kernel_rfl) (fun _ _ _ h => h) (Or.inl ⟨by rfl, ?hy1601⟩) HSw8.out ?rest1601
              case hy1601 => (intro ww _; go_simp; try with_reducible rfl)
              go_simp
              refine wpAnyG_take (i := 1) (v := ?v1602) rfl (by kernel_rfl) (fun _ _ _ h => h) (Or.inl ⟨by rfl, ?hy1602⟩) HSw8.out ?rest1602
              case hy1602 => (intro ww _; go_simp; try with_reducible rfl)
              go_simp
              refine wpAnyG_take (i := 2) (v := ?v1603) rfl (by kernel_rfl) (fun _ _ _ h => h) (Or.inl ⟨by rfl, ?hy1603⟩) HSw8.out ?rest1603
              case hy1603 => (intro ww hS; have yb := cell_at (L := [_, _, _, _, _]) hS.1 4 _ rfl; go_simp; try with_reducible rfl)
              go_simp
              refine wpAnyG_take (i := 3) (v := ?v1604) rfl (by kernel_rfl) (fun _ _ _ h => h) (Or.inl ⟨by rfl, ?hy1604⟩) HSw8.out ?rest1604
              case hy1604 => (intro ww _; go_simp; try with_reducible rfl)
              go_simp
              refine wpAnyG_take (i := 4) (v := ?v1605) rfl (by kernel_rfl) (fun _ _ _ h => h) (Or.inl ⟨by rfl, ?hy1605⟩) HSw8.out ?rest1605
              case hy1605 => (intro ww _; go_simp; try with_reducible rfl)
              go_simp
              refine wpAnyG_take (i := 5) (v := ?v1606) rfl (by kernel_rfl) (fun _ _ _ h => h) (Or.inl ⟨by rfl, ?hy1606⟩) HSw8.out ?rest1606
              case hy1606 => (intro ww _; go_simp; try with_reducible rfl)
              go_simp
              refine wpAnyG_take (i := 6) (v := ?v1607) rfl (by kernel_rfl) (fun _ _ _ h => h) (Or.inl ⟨by rfl, ?hy1607⟩) HSw8.out ?rest1607
              case hy1607 => (intro ww _; go_simp; try with_reducible rfl)
              go_simp
              refine wpAnyG_take (i := 7) (v := ?v1608) rfl (by kernel_rfl) (fun _ _ _ h => h) (Or.inl ⟨by rfl, ?hy1608⟩) HSw8.out ?rest1608
              case hy1608 => (intro ww hS; obtain ⟨y3, ⟨y4, y5⟩, y6, y7⟩ := HPc.out ww hS.2; go_simp; try with_reducible rfl)
              go_simp
              refine wpAnyG_take (i := 8) (v := ?v1609) rfl (by kernel_rfl) (fun _ _ _ h => h) (Or.inl ⟨by rfl, ?hy1609⟩) HSw8.out ?rest1609
              case hy1609 => (intro ww _; go_simp; try with_reducible rfl)
              go_simp
              refine wpAnyG_take (i := 9) (v := ?v1610) rfl (by kernel_rfl) (fun _ _ _ h => h) (Or.inl ⟨by rfl, ?hy1610⟩) HSw8.out ?rest1610
              case hy1610 => (intro ww hS; obtain ⟨y3, ⟨y4, y5⟩, y6, y7⟩ := HPc.out ww hS.2; go_simp; try with_reducible rfl)
              go_simp
              refine wpAnyG_all (rs := [10]) (by kernel_rfl) (by simp) ?_
              intro i hi
              obtain rfl := List.mem_singleton.1 hi
              clear hi
              refine wpOp_v rfl (by rfl) (fun K hK => ?_)
              go_simp
              have hba : Below w8.heap.size w8 (w8.drew.alloc (.cells #[.int .i64 FX, .string S2] 47)) := ((Below.refl _ _).drew).alloc (Nat.le_refl _) _
              have HAl : Hid (((w8.drew.alloc (.cells #[.int .i64 FX, .string S2] 47)).heap[p]? = some (.cells #[.string T0, v7, .int .i64 (ep + 1), .slice ad4 X0.length cp4, (Value.slice a3 q c3)] 54 (0, 0)) ∧ Below w1.heap.size w1 (w8.drew.alloc (.cells #[.int .i64 FX, .string S2] 47))) ∧ SbA w1.heap.size w1 (w8.drew.alloc (.cells #[.int .i64 FX, .string S2] 47)) p T0 (ep + 1) ad4 cp4 X0 v7 (Value.slice a3 q c3) (((LX.take q).map fun x => (x.1.1, S1)) ++ [(FX, S1)]) ((LX.take q).map fun x => (x.1.1, S2)) ∧ Below w8.heap.size w8 (w8.drew.alloc (.cells #[.int .i64 FX, .string S2] 47))) := hid ⟨⟨(hba.block _ (lt_of_blk HSc.out.blk)).trans HSc.out.blk, HSc.out.bel.trans (hba.mono HSc.out.le)⟩, HSc.out.keep hba, hba⟩
              clear hba
              refine hK _ _ ⟨fun _ => HAl.out.1, ?_⟩
              clear hK K
              go_simp
              refine wpAnyG_all (rs := [11]) (by kernel_rfl) (by simp) ?_
              intro i hi
              obtain rfl := List.mem_singleton.1 hi
              clear hi
              refine wpOp_v rfl (by rfl) (fun K hK => ?_)
              refine owp_append_at _ _ 39 rfl w1.heap.size 47 iv (.agg #[.int .i64 0, .string ⟨#[]⟩]) 2 24 Try.underlying39 hv0 hvz0 hvz1 hvz2 rfl (by decide) ((Value.slice a3 q c3)) q (pC ((LX.take q).map fun x => (x.1.1, S2))) rfl (by have := HAl.out.2.1.r2; rw [HLen.out.2] at this; exact this) ⟨w8.heap.size, 0, none⟩ 1 1 (pC [(FX, S2)]) rfl rfl (World.news_of_block (t := 47) (fr := (0, 0)) (heap_alloc_last w8.drew _)) (by simp [pC, Value.oneCell']) (by have := HQn.out; unfold maxLen; omega) (by have := HQn.out; omega) (HAl.out.2.1.le) (fun v8 w9 hown7 hgrow7 hob7 => ?_)
              have hc7 : v8.cells = #[v8] ∧ v8.oneCell' = true := by
                rcases hown7.2 with ⟨hv, _⟩ | ⟨_, _, _, hv, _⟩ <;> (rw [hv]; exact ⟨rfl, rfl⟩)
              have HAp : Hid ((w9.heap[p]? = some (.cells #[.string T0, v7, .int .i64 (ep + 1), .slice ad4 X0.length cp4, (Value.slice a3 q c3)] 54 (0, 0)) ∧ Below w1.heap.size w1 w9) ∧ w9.ownsRow w1.heap.size 47 2 v8 (q + 1) (pC ((LX.take q).map fun x => (x.1.1, S2)) ++ pC [(FX, S2)]) ∧ (w8.drew.alloc (.cells #[.int .i64 FX, .string S2] 47)).grownBy w9 ((Value.slice a3 q c3)).ownBlock ∧ (v8.ownBlock = ((Value.slice a3 q c3)).ownBlock ∨ v8.ownBlock = some (w8.drew.alloc (.cells #[.int .i64 FX, .string S2] 47)).heap.size) ∧ (v8.cells = #[v8] ∧ v8.oneCell' = true)) := hid ⟨⟨(hgrow7.block p (lt_of_blk HAl.out.1.1) (fun e => HAl.out.2.1.n2 e.symm)).trans HAl.out.1.1, HAl.out.1.2.grown hgrow7 HAl.out.2.1.le (fun k hk => (HAl.out.2.1.r2.lt k hk).1)⟩, hown7, hgrow7, hob7, hc7⟩
              clear hown7 hgrow7 hob7 hc7
              go_simp
              refine hK _ _ ⟨fun _ => HAp.out.1, ?_⟩
              clear hK K
              go_simp
              refine wpAnyG_take (i := 12) (v := ?v1611) rfl (by kernel_rfl) (fun _ _ _ h => h) (Or.inl ⟨by rfl, ?hy1611⟩) HAp.out.1 ?rest1611
              case hy1611 => (intro ww _; go_simp; try with_reducible rfl)
              go_simp
              refine wpAnyG_take (i := 13) (v := ?v1612) rfl (by kernel_rfl) (fun _ _ _ h => h) (Or.inl ⟨by rfl, ?hy1612⟩) HAp.out.1 ?rest1612
              case hy1612 => (intro ww _; go_simp; try with_reducible rfl)
              go_simp
              refine wpAnyG_all (rs := [14]) (by kernel_rfl) (by simp) ?_
              intro i hi
              obtain rfl := List.mem_singleton.1 hi
              clear hi
              refine wpOp_v rfl (by rfl) (fun K hK => ?_)
              refine owp_storeV 39 _ _ rfl p 4 (by rfl) v8 (by rfl) HAp.out.2.2.2.2.1 HAp.out.2.2.2.2.2 [.string T0, v7, .int .i64 (ep + 1), .slice ad4 X0.length cp4, (Value.slice a3 q c3)] _ HAp.out.1.1 (by simp) (by kernel_rfl) (fun w10 Hz => ?_)
              refine hK _ _ ⟨fun h => absurd (by simp) h, ?_⟩
              clear hK K
              go_simp
              refine wpAnyG_done (by kernel_rfl) ?_ _
              go_simp
              have HSd := hid (HSc.out.step2 (x := (FX, S2)) HAl.out.2.2 HAp.out.2.2.1 (by rw [HLen.out.2]; exact HAp.out.2.1) HAp.out.2.2.2.1 Hz.out.2 Hz.out.1)
              clear HAl HAp Hz HSw8
              go_wp2
              go_roundw
              case rel => exact ⟨q + 1, by have := HQn.out; omega, by go_num, v7, v8, by rw [HTk.out, List.map_append, List.map_append]; have := HSd.out; rw [HFX.out] at this; exact this⟩
              case measure => simp [intOf]; omega
end Go.Proofs.Ytclfphffbfdimaa
