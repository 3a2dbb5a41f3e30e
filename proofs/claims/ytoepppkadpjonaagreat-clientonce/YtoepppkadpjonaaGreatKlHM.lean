/- The program's client: a reply that counts. -/
import Derived.Test.YtoepppkadpjonaaGreatKlGM
namespace Go.Proofs.YtoepppkadpjonaaGreat
set_option maxRecDepth 100000
open Go.RowKit
section
variable {O P : Nat → Prop} {N g : Nat} {w w9 w10 w11 : World} {v3 v4 vt vc va : Value} {fm : List Int} {ls : List Lk} {c c1 c2 : Clt}
theorem rp_grow (hO : Outs (Cfp O g vc va) w w9) (hv : ∀ k, v3.ownBlock = some k → vc.ownBlock = some k ∨ w.heap.size ≤ k) (hM : ClM O N w9 g vt v3 va fm ls c1) (hb : Below w9.heap.size w9 w10) : RpPost O N w w10 g vt vc va fm ls c1 :=
 ⟨v3, va, hM.keep hb, hO.trans (Outs.of (O := fun _ => False) hb) (fun _ _ h => h.elim), hv, fun _ hk => .inl hk⟩
theorem rp_done (hO : Outs (Cfp O g vc va) w w9) (hv : ∀ k, v3.ownBlock = some k → vc.ownBlock = some k ∨ w.heap.size ≤ k) (hb : Below w9.heap.size w9 w10) (hM : ClM O N w11 g vt (.slice none 0 0) v4 fm ls c2) (ho : Outs (Cfp O g v3 va) w10 w11) (h4 : ∀ k, v4.ownBlock = some k → va.ownBlock = some k ∨ w10.heap.size ≤ k) : RpPost O N w w11 g vt vc va fm ls c2 := by
 have h1 : Outs (Cfp O g vc va) w w10 := hO.trans (Outs.of (O := fun _ => False) hb) (fun _ _ h => h.elim)
 refine ⟨_, v4, hM, h1.trans ho (fun j hj hq => ?_), by simp [Value.ownBlock], fun k hk => ?_⟩
 · rcases hq with hq | hq | hq | hq
   · exact .inl hq
   · exact .inr (.inl hq)
   · rcases hv j hq with h | h
     · exact .inr (.inr (.inl h))
     · omega
   · exact .inr (.inr (.inr hq))
 · rcases h4 k hk with h | h
   · exact .inl h
   · exact .inr (Nat.le_trans h1.size h)
set_option maxHeartbeats 6400000 in
theorem kreply_acc {adc : Option Addr} {cpc : Nat} (h : ClM O N w g vt (.slice adc c.cm.length cpc) va fm ls c) (hfm : fm.length ≤ 10) (hl : ls.length ≤ 900) (hls : ∀ k, k ∈ ls → k.2.1.length ≤ 10) (hcm : (c.cm.length + 1) * 32 ≤ 140737488355328) (hac : (c.ac.length + 1) * 72 ≤ 140737488355328) (hob : c.op.b < 18446744073709551616) (m : Ms) (a13 a14 a15 a16 : Option Addr) (c13 c14 c15 c16 : Nat) (fr : Int) (hrb : m.rq.b < 18446744073709551616) (hrf : m.rs.2 < 18446744073709551616) (k1 : atB ls m.ep = true) (k2 : hasM (atM fm ls m.ep) fr = true) (k3 : sameB m.rq c.op = true) (k4 : hasW c.cm m.ep fr = false) (hwc : wekZ ((atM fm ls m.ep).length : Int) ≤ (cntW (c.cm ++ [(m.ep, fr, rsT m.rs.1 m.rs.2)]) m.ep (rsT m.rs.1 m.rs.2) : Int)) :
   Calls Tryz.prog 49 #[.pointer (some ⟨g, 0, none⟩), .int .i64 fr, .agg (msA m a13 a14 a15 a16 c13 c14 c15 c16).toArray] w fun e w' => e = .returned (.tuple #[]) ∧ RpPost O N w w' g vt (.slice adc c.cm.length cpc) va fm ls { c with op := zeroQ, cm := [], ac := c.ac ++ [(c.op, m.rs)] } := by
 obtain ⟨wa, HA, hb, hx⟩ := msA_new m a13 a14 a15 a16 c13 c14 c15 c16 48 w
 have HH := hid h
 obtain ⟨gt, hgt⟩ := h.tr.isptr
 subst hgt
 obtain ⟨z, ez⟩ : ∃ z, z = atZ 0 ls m.ep := ⟨_, rfl⟩
 obtain ⟨L, eL⟩ : ∃ L, L = atM fm ls m.ep := ⟨_, rfl⟩
 have hLl : L.length ≤ 10 := by rw [eL]; exact atM_len fm ls hfm hls m.ep
 have HLl := hid hLl
 have HAt := hid (fun (u : World) (hu : Below w.heap.size w u) => lat_any O _ fm hfm ls hl hls m.ep u (h.keep hu).tr)
 rw [← ez, ← eL, k1] at HAt
 have HHas := hid (fun (u : World) (ad : Option Addr) (cp : Nat) (hI : IntsIn u ad L) => chas_any z ad L.length cp L rfl (by unfold maxLen; omega) fr u hI)
 have HSm := hid (fun (u : World) => dsame_any m.rq c.op hrb hob u)
 have HWd := hid (fun (u : World) (hu : Below w.heap.size w u) => khasWord_any (h.keep hu) (by unfold maxLen; omega) m.ep fr)
 have HRt := hid (fun (u : World) => dresultText_any m.rs.1 m.rs.2 hrf u)
 have H0 : Hid (BxAt wa.drew w.heap.size (msA m a13 a14 a15 a16 c13 c14 c15 c16) 48 ∧ BxAt wa.drew g (clC c (.pointer (some ⟨gt, 0, none⟩)) (.slice adc c.cm.length cpc) va) 94) := hid ⟨hx, h.blk.keep hb.drew⟩
 have HB := hid hb
 have HBd := hid (And.intro hcm hac)
 have HLe := hid eL
 unfold msA
 simp only [msA] at HA
 replace HA := hid HA
 rw [eL, k2, ← eL] at HHas
 rw [k3] at HSm
 rw [k4] at HWd
 have eLk := hid eL
 clear k2 k3 k4
 clear h hb hx hfm hl hls hcm hac hob hrb hrf ez eL hLl
 go_enter Tryz.func49, Tryz.ntmps49
 go_upto_region 1 with fail
 rw [HA.out]
 refine wp_region_G (S := fun ww => BxAt ww w.heap.size (msA m a13 a14 a15 a16 c13 c14 c15 c16) 48 ∧ BxAt ww g (clC c (.pointer (some ⟨gt, 0, none⟩)) (.slice adc c.cm.length cpc) va) 94) (ex := []) (by kernel_rfl) ?_
 try (change wpAnyG _ _ _ _ _ _ _ _ _ (World.drew _))
 refine wpAnyG_take (i := 0) (v := ?v1) rfl (by kernel_rfl) (fun _ _ _ h => h) (Or.inl ⟨by rfl, ?hy1⟩) H0.out ?rest1
 case hy1 => (intro ww _; go_simp; try with_reducible rfl)
 go_simp
 refine wpAnyG_take (i := 1) (v := ?v2) rfl (by kernel_rfl) (fun _ _ _ h => h) (Or.inl ⟨by rfl, ?hy2⟩) H0.out ?rest2
 case hy2 => (intro ww _; go_simp; try with_reducible rfl)
 go_simp
 refine wpAnyG_take (i := 2) (v := ?v3) rfl (by kernel_rfl) (fun _ _ _ h => h) (Or.inl ⟨by rfl, ?hy3⟩) H0.out ?rest3
 case hy3 => (intro ww _; go_simp; try with_reducible rfl)
 go_simp
 refine wpAnyG_take (i := 3) (v := ?v4) rfl (by kernel_rfl) (fun _ _ _ h => h) (Or.inl ⟨by rfl, ?hy4⟩) H0.out ?rest4
 case hy4 => (intro ww hS; obtain ⟨hS1, hS2⟩ := hS; have y1 := hS2.cell 1 _ rfl; have x1 := hS1.cell 1 _ rfl; go_simp; try with_reducible rfl)
 go_simp
 refine wpAnyG_take (i := 4) (v := ?v5) rfl (by kernel_rfl) (fun _ _ _ h => h) (Or.inl ⟨by rfl, ?hy5⟩) H0.out ?rest5
 case hy5 => (intro ww _; go_simp; try with_reducible rfl)
 go_simp
 refine wpAnyG_take (i := 5) (v := ?v6) rfl (by kernel_rfl) (fun _ _ _ h => h) (Or.inl ⟨by rfl, ?hy6⟩) H0.out ?rest6
 case hy6 => (intro ww hS; obtain ⟨hS1, hS2⟩ := hS; have y1 := hS2.cell 1 _ rfl; have x1 := hS1.cell 1 _ rfl; go_simp; try with_reducible rfl)
 go_simp
 refine wpAnyG_all (rs := [6, 10]) (by kernel_rfl) (by simp) ?_
 intro i hi
 rcases List.mem_cons.1 hi with rfl | hi
 · refine wpOp_c rfl (by rfl) (fun K hK => ?_)
   go_simp
   refine (HAt.out _ HB.out.drew).mono ?_
   rintro e w2 ⟨ad, cp, rfl, hn, hb⟩
   have H2 : Hid (BxAt w2 w.heap.size (msA m a13 a14 a15 a16 c13 c14 c15 c16) 48 ∧ BxAt w2 g (clC c (.pointer (some ⟨gt, 0, none⟩)) (.slice adc c.cm.length cpc) va) 94) := hid ⟨H0.out.1.keep hb, H0.out.2.keep hb⟩
   have HB2 := hid (HB.out.drew.trans (hb.mono HB.out.size))
   have HI2 := hid hn.ints
   clear hn hb
   refine hK _ _ ⟨fun _ => H2.out, ?_⟩
   clear hK K
   go_simp
   refine wpAnyG_take (i := 7) (v := ?v7) rfl (by kernel_rfl) (fun _ _ _ h => h) (Or.inl ⟨by rfl, ?hy7⟩) H2.out ?rest7
   case hy7 => (intro ww _; go_simp; try with_reducible rfl)
   go_simp
   refine wpAnyG_take (i := 8) (v := ?v8) rfl (by kernel_rfl) (fun _ _ _ h => h) (Or.inl ⟨by rfl, ?hy8⟩) H2.out ?rest8
   case hy8 => (intro ww _; go_simp; try with_reducible rfl)
   go_simp
   refine wpAnyG_take (i := 9) (v := ?v9) rfl (by kernel_rfl) (fun _ _ _ h => h) (Or.inl ⟨by rfl, ?hy9⟩) H2.out ?rest9
   case hy9 => (intro ww _; go_simp; try with_reducible rfl)
   go_simp
   refine wpAnyG_all (rs := [10]) (by kernel_rfl) (by simp) ?_
   intro i hi
   obtain rfl := List.mem_singleton.1 hi
   clear hi
   refine wpOp_c rfl (by rfl) (fun K hK => ?_)
   go_simp
   have hb3 : Below w2.heap.size w2 (w2.alloc (.cells #[.int .i64 0, .slice none 0 0] 24)) := (Below.refl _ _).alloc (Nat.le_refl _) _
   have H3 : Hid (BxAt (w2.alloc (.cells #[.int .i64 0, .slice none 0 0] 24)) w.heap.size (msA m a13 a14 a15 a16 c13 c14 c15 c16) 48 ∧ BxAt (w2.alloc (.cells #[.int .i64 0, .slice none 0 0] 24)) g (clC c (.pointer (some ⟨gt, 0, none⟩)) (.slice adc c.cm.length cpc) va) 94) := hid ⟨H2.out.1.keep hb3, H2.out.2.keep hb3⟩
   clear hb3
   refine hK _ _ ⟨fun _ => H3.out, ?_⟩
   clear hK K
   go_simp
   refine wpAnyG_all (rs := [11]) (by kernel_rfl) (by simp) ?_
   intro i hi
   obtain rfl := List.mem_singleton.1 hi
   clear hi
   refine wpOp_c rfl (by rfl) (fun K hK => ?_)
   refine owp_store_blk 24 _ _ rfl w2.heap.size 0 (by rfl) #[.int .i64 z, .slice ad L.length cp] (by rfl) [.int .i64 0, .slice none 0 0] 24 (heap_alloc_last w2 _) (by simp) (by kernel_rfl) (by simp [Value.oneCell']) ?_
   intro w4 Hz
   have hb4 : Below w2.heap.size w2 w4 := Hz.out.2.below ((Below.refl _ _).alloc (Nat.le_refl _) _) (Nat.le_refl _)
   have HC4 : Hid (BxAt w4 w2.heap.size [.int .i64 z, .slice ad L.length cp] 24) := hid Hz.out.1
   have H4 : Hid (BxAt w4 w.heap.size (msA m a13 a14 a15 a16 c13 c14 c15 c16) 48 ∧ BxAt w4 g (clC c (.pointer (some ⟨gt, 0, none⟩)) (.slice adc c.cm.length cpc) va) 94) := hid ⟨H2.out.1.keep hb4, H2.out.2.keep hb4⟩
   have HB4 := hid (HB2.out.trans (hb4.mono HB2.out.size))
   have HI4 := hid (HI2.out.keep hb4 (Nat.le_refl _))
   clear Hz hb4
   refine hK _ _ ⟨fun _ => H4.out, ?_⟩
   clear hK K
   go_simp
   refine wpAnyG_take (i := 12) (v := ?v10) rfl (by kernel_rfl) (fun _ _ _ h => h) (Or.inl ⟨by rfl, ?hy10⟩) H4.out ?rest10
   case hy10 => (intro ww _; go_simp; try with_reducible rfl)
   go_simp
   refine wpAnyG_done (by kernel_rfl) ?_ _
   go_simp
   go_wp2_with fail
   have p0 := BxAt.cls H4.out.1 4 (.int .i64 m.rq.c) rfl
   have p1 := BxAt.cls H4.out.1 5 (.int .i64 m.rq.st) rfl
   have p2 := BxAt.cls H4.out.1 6 (.int .i64 m.rq.k) rfl
   have p3 := BxAt.cls H4.out.1 7 (.string m.rq.key) rfl
   have p4 := BxAt.cls H4.out.1 8 (.float .f64 m.rq.b) rfl
   have p5 := BxAt.cls H4.out.1 9 (.int .i64 m.rq.id) rfl
   have q0 := BxAt.cls H4.out.2 3 (.int .i64 c.op.c) rfl
   have q1 := BxAt.cls H4.out.2 4 (.int .i64 c.op.st) rfl
   have q2 := BxAt.cls H4.out.2 5 (.int .i64 c.op.k) rfl
   have q3 := BxAt.cls H4.out.2 6 (.string c.op.key) rfl
   have q4 := BxAt.cls H4.out.2 7 (.float .f64 c.op.b) rfl
   have q5 := BxAt.cls H4.out.2 8 (.int .i64 c.op.id) rfl
   have p9 := BxAt.cls H4.out.1 1 (.int .i64 m.ep) rfl
   have r0 := BxAt.cls HC4.out 0 (.int .i64 z) rfl
   have r1 := BxAt.cls HC4.out 1 (.slice ad L.length cp) rfl
   have T2 := hid (fun (u : World) (hu : Below w4.heap.size w4 u) => HHas.out u ad cp (HI4.out.keep hu (Nat.le_refl _)))
   have T4 := hid (fun (u : World) (hu : Below w4.heap.size w4 u) => HWd.out u (HB4.out.trans (hu.mono HB4.out.size)))
   haveI := Cls.ne w4
   refine wp_region_cls w4 (by kernel_rfl) (by kernel_rfl) ?_
   repeat (go_big_quiet_step ((first
     | (go_at_call 88; exact Cls.of _ (fun u hu => T2.out u hu))
     | (go_at_call 89; exact Cls.of _ (fun u hu => HSm.out u))
     | (go_at_call 90; exact Cls.of _ (fun u hu => T4.out u hu)))))
   refine wpQuiet_nil ?_
   rintro w5 ⟨x, hx⟩
   have hb5 : Below w4.heap.size w4 w5 := by first | (rw [← hx]; exact x.2) | (rw [hx]; exact x.2)
   clear hx x p0 p1 p2 p3 p4 p5 q0 q1 q2 q3 q4 q5 p9 r0 r1 T2 T4
   have H5 : Hid (BxAt w5 w.heap.size (msA m a13 a14 a15 a16 c13 c14 c15 c16) 48 ∧ BxAt w5 g (clC c (.pointer (some ⟨gt, 0, none⟩)) (.slice adc c.cm.length cpc) va) 94) := hid ⟨H4.out.1.keep hb5, H4.out.2.keep hb5⟩
   have HB5 := hid (HB4.out.trans (hb5.mono HB4.out.size))
   have HC5 := hid (HC4.out.keep hb5)
   have HCg : Hid (w2.heap.size ≠ g ∧ w.heap.size ≤ w2.heap.size ∧ w2.heap.size < w5.heap.size ∧ g < w.heap.size ∧ w.heap.size < w5.heap.size) := hid (by have h1 := lt_of_blk HH.out.blk; have h2 := lt_of_blk HC5.out; have h3 := lt_of_blk H5.out.1; have h4 : w.heap.size ≤ w2.heap.size := (Nat.le_trans HB2.out.size (Nat.le_refl _)); omega)
   have x10 := H5.out.1.cell 10 _ rfl
   have x11 := H5.out.1.cell 11 _ rfl
   clear hb5
   go_wp2_with (go_at_call 91; go_must (refine (HRt.out _).mono ?_; rintro e w6 ⟨rfl, hb⟩; have H6 : Hid (BxAt w6 w.heap.size (msA m a13 a14 a15 a16 c13 c14 c15 c16) 48 ∧ BxAt w6 g (clC c (.pointer (some ⟨gt, 0, none⟩)) (.slice adc c.cm.length cpc) va) 94) := hid ⟨H5.out.1.keep hb, H5.out.2.keep hb⟩; have HB6 := hid (HB5.out.trans (hb.mono HB5.out.size)); have HC6 := hid (HC5.out.keep hb); have HZ6 := hid hb.size; clear hb x10 x11))
   have H6 : Hid (BxAt w6.drew w.heap.size (msA m a13 a14 a15 a16 c13 c14 c15 c16) 48 ∧ BxAt w6.drew g (clC c (.pointer (some ⟨gt, 0, none⟩)) (.slice adc c.cm.length cpc) va) 94) := hid ⟨H6.out.1, H6.out.2⟩
   refine wp_region_G (S := fun ww => BxAt ww w.heap.size (msA m a13 a14 a15 a16 c13 c14 c15 c16) 48 ∧ BxAt ww g (clC c (.pointer (some ⟨gt, 0, none⟩)) (.slice adc c.cm.length cpc) va) 94) (ex := [14]) (by kernel_rfl) ?_
   try (change wpAnyG _ _ _ _ _ _ _ _ _ (World.drew _))
   refine wpAnyG_take (i := 0) (v := ?v11) rfl (by kernel_rfl) (fun _ _ _ h => h) (Or.inl ⟨by rfl, ?hy11⟩) H6.out ?rest11
   case hy11 => (intro ww _; go_simp; try with_reducible rfl)
   go_simp
   refine wpAnyG_take (i := 1) (v := ?v12) rfl (by kernel_rfl) (fun _ _ _ h => h) (Or.inl ⟨by rfl, ?hy12⟩) H6.out ?rest12
   case hy12 => (intro ww _; go_simp; try with_reducible rfl)
   go_simp
   refine wpAnyG_take (i := 2) (v := ?v13) rfl (by kernel_rfl) (fun _ _ _ h => h) (Or.inl ⟨by rfl, ?hy13⟩) H6.out ?rest13
   case hy13 => (intro ww _; go_simp; try with_reducible rfl)
   go_simp
   refine wpAnyG_take (i := 3) (v := ?v14) rfl (by kernel_rfl) (fun _ _ _ h => h) (Or.inl ⟨by rfl, ?hy14⟩) H6.out ?rest14
   case hy14 => (intro ww _; go_simp; try with_reducible rfl)
   go_simp
   refine wpAnyG_take (i := 4) (v := ?v15) rfl (by kernel_rfl) (fun _ _ _ h => h) (Or.inl ⟨by rfl, ?hy15⟩) H6.out ?rest15
   case hy15 => (intro ww hS; obtain ⟨hS1, hS2⟩ := hS; have y9 := hS2.cell 9 _ rfl; have x1 := hS1.cell 1 _ rfl; go_simp; try with_reducible rfl)
   go_simp
   refine wpAnyG_take (i := 5) (v := ?v16) rfl (by kernel_rfl) (fun _ _ _ h => h) (Or.inl ⟨by rfl, ?hy16⟩) H6.out ?rest16
   case hy16 => (intro ww _; go_simp; try with_reducible rfl)
   go_simp
   refine wpAnyG_take (i := 6) (v := ?v17) rfl (by kernel_rfl) (fun _ _ _ h => h) (Or.inl ⟨by rfl, ?hy17⟩) H6.out ?rest17
   case hy17 => (intro ww hS; obtain ⟨hS1, hS2⟩ := hS; have y9 := hS2.cell 9 _ rfl; have x1 := hS1.cell 1 _ rfl; go_simp; try with_reducible rfl)
   go_simp
   refine wpAnyG_take (i := 7) (v := ?v18) rfl (by kernel_rfl) (fun _ _ _ h => h) (Or.inl ⟨by rfl, ?hy18⟩) H6.out ?rest18
   case hy18 => (intro ww _; go_simp; try with_reducible rfl)
   go_simp
   refine wpAnyG_take (i := 8) (v := ?v19) rfl (by kernel_rfl) (fun _ _ _ h => h) (Or.inl ⟨by rfl, ?hy19⟩) H6.out ?rest19
   case hy19 => (intro ww _; go_simp; try with_reducible rfl)
   go_simp
   refine wpAnyG_take (i := 9) (v := ?v20) rfl (by kernel_rfl) (fun _ _ _ h => h) (Or.inl ⟨by rfl, ?hy20⟩) H6.out ?rest20
   case hy20 => (intro ww _; go_simp; try with_reducible rfl)
   go_simp
   refine wpAnyG_all (rs := [10]) (by kernel_rfl) (by simp) ?_
   intro i hi
   obtain rfl := List.mem_singleton.1 hi
   clear hi
   refine wpOp_c rfl (by rfl) (fun K hK => ?_)
   go_simp
   obtain ⟨w7, e7⟩ : ∃ w7, w7 = (w6.alloc (.cells #[.int .i64 m.ep, .int .i64 fr, .string (rsT m.rs.1 m.rs.2)] 148)).drew := ⟨_, rfl⟩
   have hb7 : Below w6.heap.size w6 w7 := by rw [e7]; exact ((Below.refl _ _).alloc (Nat.le_refl _) _).drew
   have HX7 : Hid (BxAt w7 w6.heap.size [.int .i64 m.ep, .int .i64 fr, .string (rsT m.rs.1 m.rs.2)] 148) := hid (by rw [e7]; exact heap_alloc_last w6 _)
   have H7 : Hid (BxAt w7 w.heap.size (msA m a13 a14 a15 a16 c13 c14 c15 c16) 48 ∧ BxAt w7 g (clC c (.pointer (some ⟨gt, 0, none⟩)) (.slice adc c.cm.length cpc) va) 94) := hid ⟨(show BxAt w6 w.heap.size (msA m a13 a14 a15 a16 c13 c14 c15 c16) 48 from H6.out.1).keep hb7, (show BxAt w6 g (clC c (.pointer (some ⟨gt, 0, none⟩)) (.slice adc c.cm.length cpc) va) 94 from H6.out.2).keep hb7⟩
   have HC7 := hid (HC6.out.keep hb7)
   have HB7 := hid (HB6.out.trans (hb7.mono HB6.out.size))
   rw [← e7]
   clear e7 hb7
   refine hK _ _ ⟨fun _ => H7.out, ?_⟩
   clear hK K
   go_simp
   refine wpAnyG_all (rs := [11]) (by kernel_rfl) (by simp) ?_
   intro i hi
   obtain rfl := List.mem_singleton.1 hi
   clear hi
   refine wpOp_c rfl (by rfl) (fun K hK => ?_)
   obtain ⟨i0, hi0, hz0, hz1, hz2⟩ := info_parts infoWd
   refine owp_append_at _ _ 91 rfl N 148 i0 (.agg #[.int .i64 0, .int .i64 0, .string ⟨#[]⟩]) 3 32 undWd hi0 hz0 hz1 hz2 rfl (by decide) (.slice adc c.cm.length cpc) c.cm.length (wdC c.cm) rfl (HH.out.keep HB7.out).cm ⟨w6.heap.size, 0, none⟩ 1 1 (wdV (m.ep, fr, rsT m.rs.1 m.rs.2)) rfl rfl (fun j u hu => by rw [Addr.add_lit, Nat.zero_add]; exact cell_at HX7.out j u hu) (by simp [wdV, Value.oneCell']) (by have := HBd.out.1; unfold maxLen; omega) HBd.out.1 (HH.out.keep HB7.out).le ?_
   intro v3 w8 hown hgr hv3
   obtain ⟨ad3, cp3, rfl, _, _⟩ := row_open hown
   have HG := hid (And.intro hgr (And.intro (show w8.ownsRow N 148 3 _ (c.cm.length + 1) (wdC (c.cm ++ [(m.ep, fr, rsT m.rs.1 m.rs.2)])) by rw [wdC_app, wdC_one]; exact hown) hv3))
   have hcmlt : ∀ k, (Value.slice adc c.cm.length cpc).ownBlock = some k → k < w.heap.size := fun k hk => (HH.out.cm.lt k hk).2
   have H8 : Hid (BxAt w8 w.heap.size (msA m a13 a14 a15 a16 c13 c14 c15 c16) 48 ∧ BxAt w8 g (clC c (.pointer (some ⟨gt, 0, none⟩)) (.slice adc c.cm.length cpc) va) 94) := hid ⟨(hgr.block _ (lt_of_blk H7.out.1) (fun e => by have := hcmlt _ e.symm; omega)).trans H7.out.1, (hgr.block g (lt_of_blk H7.out.2) (fun e => HH.out.cg e.symm)).trans H7.out.2⟩
   have HC8 : Hid (BxAt w8 w2.heap.size [.int .i64 z, .slice ad L.length cp] 24) := hid ((hgr.block _ (lt_of_blk HC7.out) (fun e => by have := hcmlt _ e.symm; have := HCg.out.2.1; omega)).trans HC7.out)
   clear hown hgr hv3 hi0 hz0 hz1 hz2 hcmlt
   refine hK _ _ ⟨fun _ => H8.out, ?_⟩
   clear hK K
   go_simp
   refine wpAnyG_take (i := 12) (v := ?v21) rfl (by kernel_rfl) (fun _ _ _ h => h) (Or.inl ⟨by rfl, ?hy21⟩) H8.out ?rest21
   case hy21 => (intro ww _; go_simp; try with_reducible rfl)
   go_simp
   refine wpAnyG_take (i := 13) (v := ?v22) rfl (by kernel_rfl) (fun _ _ _ h => h) (Or.inl ⟨by rfl, ?hy22⟩) H8.out ?rest22
   case hy22 => (intro ww _; go_simp; try with_reducible rfl)
   go_simp
   refine wpAnyG_all (rs := [14]) (by kernel_rfl) (by simp) ?_
   intro i hi
   obtain rfl := List.mem_singleton.1 hi
   clear hi
   refine wpOp_c rfl (by rfl) (fun K hK => ?_)
   refine owp_store1 91 _ _ rfl g 9 (by rfl) (.slice ad3 (c.cm.length + 1) cp3) (by rfl) rfl rfl (clC c (.pointer (some ⟨gt, 0, none⟩)) (.slice adc c.cm.length cpc) va) 94 H8.out.2 (by simp [clC]) (by kernel_rfl) ?_
   intro w9 Hz
   have HM9 := hid (HH.out.growC HB7.out (m.ep, fr, rsT m.rs.1 m.rs.2) HG.out.1 HG.out.2.1 HG.out.2.2 Hz.out.2 Hz.out.1)
   have H9 : Hid (BxAt w9 w.heap.size (msA m a13 a14 a15 a16 c13 c14 c15 c16) 48 ∧ BxAt w9 w2.heap.size [.int .i64 z, .slice ad L.length cp] 24) := hid ⟨(Hz.out.2.block _ (by have := HCg.out.2.2.2.1; omega)).trans H8.out.1, (Hz.out.2.block _ HCg.out.1).trans HC8.out⟩
   clear Hz
   refine hK _ _ ⟨fun h => absurd (by simp) h, ?_⟩
   clear hK K
   go_simp
   refine wpAnyG_done (by kernel_rfl) ?_ _
   go_simp
   have HAl := hid (fun (u : World) (hu : Below w9.heap.size w9 u) => kalike_any (HM9.out.1.keep hu) (by rw [List.length_append]; have := HBd.out.1; unfold maxLen; simp only [List.length_cons, List.length_nil]; omega) m.ep (rsT m.rs.1 m.rs.2))
   have HWk := hid (fun (u : World) => cweak_any (L.length : Int) (by have := HLl.out; omega) u)
   go_wp2_with fail
   have p9 := BxAt.cls H9.out.1 1 (.int .i64 m.ep) rfl
   have r1 := BxAt.cls H9.out.2 1 (.slice ad L.length cp) rfl
   obtain ⟨cn, en⟩ : ∃ cn : Int, cn = (cntW (c.cm ++ [(m.ep, fr, rsT m.rs.1 m.rs.2)]) m.ep (rsT m.rs.1 m.rs.2) : Int) := ⟨_, rfl⟩
   obtain ⟨wk, ewk⟩ : ∃ wk : Int, wk = wekZ (L.length : Int) := ⟨_, rfl⟩
   rw [← en] at HAl
   rw [← ewk] at HWk
   have HKc := hid (And.intro en ewk)
   have hge : decide (cn ≥ wk) = true := by have h9 := hwc; rw [← eLk.out, ← ewk, ← en] at h9; exact decide_eq_true (by omega)
   have hge2 : decide (wk ≤ cn) = true := hge
   clear en ewk hwc
   haveI := Cls.ne w9
   refine wp_region_cls w9 (by kernel_rfl) (by kernel_rfl) ?_
   repeat (go_big_quiet_step ((first
     | (go_at_call 92; exact Cls.of _ (fun u hu => HAl.out u hu))
     | (go_at_call 29; exact Cls.of _ (fun u hu => HWk.out u)))))
   refine wpQuiet_nil ?_
   rintro wX ⟨x, hx⟩
   have hbX : Below w9.heap.size w9 wX := by first | (rw [← hx]; exact x.2) | (rw [hx]; exact x.2)
   clear hx x
   have HX := hid hbX
   have x10 := (H9.out.1.keep hbX).cell 10 _ rfl
   have x11 := (H9.out.1.keep hbX).cell 11 _ rfl
   have HAc := hid (kaccept_any (HM9.out.1.keep hbX) (by exact HBd.out.2) m.rs.1 m.rs.2)
   clear hbX
   go_wp2_with (go_at_call 93; go_must (refine HAc.out.mono ?_; rintro e w11 ⟨rfl, v4, h1, h2, h3⟩; have HE := hid (And.intro h1 (And.intro h2 h3)); clear h1 h2 h3 x10 x11))
   go_end0
   exact ⟨rfl, rp_done HM9.out.2.1 HM9.out.2.2 HX.out HE.out.1 HE.out.2.1 HE.out.2.2⟩
 · obtain rfl := List.mem_singleton.1 hi
   clear hi
   refine wpOp_c rfl (by rfl) (fun K hK => ?_)
   go_simp
   obtain ⟨w1, e1⟩ : ∃ w1, w1 = (wa.alloc (.cells #[.int .i64 0, .slice none 0 0] 24)).drew := ⟨_, rfl⟩
   have hb1 : Below wa.heap.size wa w1 := by rw [e1]; exact ((Below.refl _ _).alloc (Nat.le_refl _) _).drew
   have HC1 : Hid (BxAt w1 wa.heap.size [.int .i64 0, .slice none 0 0] 24) := hid (by rw [e1]; exact heap_alloc_last wa _)
   have H1 : Hid (BxAt w1 w.heap.size (msA m a13 a14 a15 a16 c13 c14 c15 c16) 48 ∧ BxAt w1 g (clC c (.pointer (some ⟨gt, 0, none⟩)) (.slice adc c.cm.length cpc) va) 94) := hid ⟨(show BxAt wa w.heap.size (msA m a13 a14 a15 a16 c13 c14 c15 c16) 48 from H0.out.1).keep hb1, (show BxAt wa g (clC c (.pointer (some ⟨gt, 0, none⟩)) (.slice adc c.cm.length cpc) va) 94 from H0.out.2).keep hb1⟩
   have HB1 := hid (HB.out.trans (hb1.mono HB.out.size))
   rw [← e1]
   clear e1 hb1
   refine hK _ _ ⟨fun _ => H1.out, ?_⟩
   clear hK K
   go_simp
   refine wpAnyG_all (rs := [6]) (by kernel_rfl) (by simp) ?_
   intro i hi
   obtain rfl := List.mem_singleton.1 hi
   clear hi
   refine wpOp_c rfl (by rfl) (fun K hK => ?_)
   go_simp
   refine (HAt.out _ HB1.out).mono ?_
   rintro e w2 ⟨ad, cp, rfl, hn, hb⟩
   have H2 : Hid (BxAt w2 w.heap.size (msA m a13 a14 a15 a16 c13 c14 c15 c16) 48 ∧ BxAt w2 g (clC c (.pointer (some ⟨gt, 0, none⟩)) (.slice adc c.cm.length cpc) va) 94) := hid ⟨H1.out.1.keep hb, H1.out.2.keep hb⟩
   have HC2 := hid (HC1.out.keep hb)
   have HB2 := hid (HB1.out.trans (hb.mono HB1.out.size))
   have HI2 := hid hn.ints
   have HFar := hid (fun x hx => (hn.far x hx))
   clear hn hb
   refine hK _ _ ⟨fun _ => H2.out, ?_⟩
   clear hK K
   go_simp
   refine wpAnyG_take (i := 7) (v := ?v23) rfl (by kernel_rfl) (fun _ _ _ h => h) (Or.inl ⟨by rfl, ?hy23⟩) H2.out ?rest23
   case hy23 => (intro ww _; go_simp; try with_reducible rfl)
   go_simp
   refine wpAnyG_take (i := 8) (v := ?v24) rfl (by kernel_rfl) (fun _ _ _ h => h) (Or.inl ⟨by rfl, ?hy24⟩) H2.out ?rest24
   case hy24 => (intro ww _; go_simp; try with_reducible rfl)
   go_simp
   refine wpAnyG_take (i := 9) (v := ?v25) rfl (by kernel_rfl) (fun _ _ _ h => h) (Or.inl ⟨by rfl, ?hy25⟩) H2.out ?rest25
   case hy25 => (intro ww _; go_simp; try with_reducible rfl)
   go_simp
   refine wpAnyG_all (rs := [11]) (by kernel_rfl) (by simp) ?_
   intro i hi
   obtain rfl := List.mem_singleton.1 hi
   clear hi
   refine wpOp_c rfl (by rfl) (fun K hK => ?_)
   refine owp_store_blk 24 _ _ rfl wa.heap.size 0 (by rfl) #[.int .i64 z, .slice ad L.length cp] (by rfl) [.int .i64 0, .slice none 0 0] 24 HC2.out (by simp) (by kernel_rfl) (by simp [Value.oneCell']) ?_
   intro w4 Hz
   have HC4 : Hid (BxAt w4 wa.heap.size [.int .i64 z, .slice ad L.length cp] 24) := hid Hz.out.1
   have hlm : w.heap.size < wa.heap.size := lt_of_blk H0.out.1
   have hgm : g < w.heap.size := lt_of_blk HH.out.blk
   have H4 : Hid (BxAt w4 w.heap.size (msA m a13 a14 a15 a16 c13 c14 c15 c16) 48 ∧ BxAt w4 g (clC c (.pointer (some ⟨gt, 0, none⟩)) (.slice adc c.cm.length cpc) va) 94) := hid ⟨(Hz.out.2.block _ (by omega)).trans H2.out.1, (Hz.out.2.block _ (by omega)).trans H2.out.2⟩
   have HB4 := hid (Hz.out.2.below HB2.out (by omega))
   have HI4 := hid (ints_one HI2.out Hz.out.2 (fun x hx => by have := (HFar.out x hx).1; have := lt_of_blk HC1.out; omega))
   clear Hz
   refine hK _ _ ⟨fun _ => H4.out, ?_⟩
   clear hK K
   go_simp
   refine wpAnyG_take (i := 12) (v := ?v26) rfl (by kernel_rfl) (fun _ _ _ h => h) (Or.inl ⟨by rfl, ?hy26⟩) H4.out ?rest26
   case hy26 => (intro ww _; go_simp; try with_reducible rfl)
   go_simp
   refine wpAnyG_done (by kernel_rfl) ?_ _
   go_simp
   go_wp2_with fail
   have p0 := BxAt.cls H4.out.1 4 (.int .i64 m.rq.c) rfl
   have p1 := BxAt.cls H4.out.1 5 (.int .i64 m.rq.st) rfl
   have p2 := BxAt.cls H4.out.1 6 (.int .i64 m.rq.k) rfl
   have p3 := BxAt.cls H4.out.1 7 (.string m.rq.key) rfl
   have p4 := BxAt.cls H4.out.1 8 (.float .f64 m.rq.b) rfl
   have p5 := BxAt.cls H4.out.1 9 (.int .i64 m.rq.id) rfl
   have q0 := BxAt.cls H4.out.2 3 (.int .i64 c.op.c) rfl
   have q1 := BxAt.cls H4.out.2 4 (.int .i64 c.op.st) rfl
   have q2 := BxAt.cls H4.out.2 5 (.int .i64 c.op.k) rfl
   have q3 := BxAt.cls H4.out.2 6 (.string c.op.key) rfl
   have q4 := BxAt.cls H4.out.2 7 (.float .f64 c.op.b) rfl
   have q5 := BxAt.cls H4.out.2 8 (.int .i64 c.op.id) rfl
   have p9 := BxAt.cls H4.out.1 1 (.int .i64 m.ep) rfl
   have r0 := BxAt.cls HC4.out 0 (.int .i64 z) rfl
   have r1 := BxAt.cls HC4.out 1 (.slice ad L.length cp) rfl
   have T2 := hid (fun (u : World) (hu : Below w4.heap.size w4 u) => HHas.out u ad cp (HI4.out.keep hu (Nat.le_refl _)))
   have T4 := hid (fun (u : World) (hu : Below w4.heap.size w4 u) => HWd.out u (HB4.out.trans (hu.mono HB4.out.size)))
   haveI := Cls.ne w4
   refine wp_region_cls w4 (by kernel_rfl) (by kernel_rfl) ?_
   repeat (go_big_quiet_step ((first
     | (go_at_call 88; exact Cls.of _ (fun u hu => T2.out u hu))
     | (go_at_call 89; exact Cls.of _ (fun u hu => HSm.out u))
     | (go_at_call 90; exact Cls.of _ (fun u hu => T4.out u hu)))))
   refine wpQuiet_nil ?_
   rintro w5 ⟨x, hx⟩
   have hb5 : Below w4.heap.size w4 w5 := by first | (rw [← hx]; exact x.2) | (rw [hx]; exact x.2)
   clear hx x p0 p1 p2 p3 p4 p5 q0 q1 q2 q3 q4 q5 p9 r0 r1 T2 T4
   have H5 : Hid (BxAt w5 w.heap.size (msA m a13 a14 a15 a16 c13 c14 c15 c16) 48 ∧ BxAt w5 g (clC c (.pointer (some ⟨gt, 0, none⟩)) (.slice adc c.cm.length cpc) va) 94) := hid ⟨H4.out.1.keep hb5, H4.out.2.keep hb5⟩
   have HB5 := hid (HB4.out.trans (hb5.mono HB4.out.size))
   have HC5 := hid (HC4.out.keep hb5)
   have HCg : Hid (wa.heap.size ≠ g ∧ w.heap.size ≤ wa.heap.size ∧ wa.heap.size < w5.heap.size ∧ g < w.heap.size ∧ w.heap.size < w5.heap.size) := hid (by have h1 := lt_of_blk HH.out.blk; have h2 := lt_of_blk HC5.out; have h3 := lt_of_blk H5.out.1; have h4 : w.heap.size ≤ wa.heap.size := HB.out.size; omega)
   have x10 := H5.out.1.cell 10 _ rfl
   have x11 := H5.out.1.cell 11 _ rfl
   clear hb5
   go_wp2_with (go_at_call 91; go_must (refine (HRt.out _).mono ?_; rintro e w6 ⟨rfl, hb⟩; have H6 : Hid (BxAt w6 w.heap.size (msA m a13 a14 a15 a16 c13 c14 c15 c16) 48 ∧ BxAt w6 g (clC c (.pointer (some ⟨gt, 0, none⟩)) (.slice adc c.cm.length cpc) va) 94) := hid ⟨H5.out.1.keep hb, H5.out.2.keep hb⟩; have HB6 := hid (HB5.out.trans (hb.mono HB5.out.size)); have HC6 := hid (HC5.out.keep hb); have HZ6 := hid hb.size; clear hb x10 x11))
   have H6 : Hid (BxAt w6.drew w.heap.size (msA m a13 a14 a15 a16 c13 c14 c15 c16) 48 ∧ BxAt w6.drew g (clC c (.pointer (some ⟨gt, 0, none⟩)) (.slice adc c.cm.length cpc) va) 94) := hid ⟨H6.out.1, H6.out.2⟩
   refine wp_region_G (S := fun ww => BxAt ww w.heap.size (msA m a13 a14 a15 a16 c13 c14 c15 c16) 48 ∧ BxAt ww g (clC c (.pointer (some ⟨gt, 0, none⟩)) (.slice adc c.cm.length cpc) va) 94) (ex := [14]) (by kernel_rfl) ?_
   try (change wpAnyG _ _ _ _ _ _ _ _ _ (World.drew _))
   refine wpAnyG_take (i := 0) (v := ?v27) rfl (by kernel_rfl) (fun _ _ _ h => h) (Or.inl ⟨by rfl, ?hy27⟩) H6.out ?rest27
   case hy27 => (intro ww _; go_simp; try with_reducible rfl)
   go_simp
   refine wpAnyG_take (i := 1) (v := ?v28) rfl (by kernel_rfl) (fun _ _ _ h => h) (Or.inl ⟨by rfl, ?hy28⟩) H6.out ?rest28
   case hy28 => (intro ww _; go_simp; try with_reducible rfl)
   go_simp
   refine wpAnyG_take (i := 2) (v := ?v29) rfl (by kernel_rfl) (fun _ _ _ h => h) (Or.inl ⟨by rfl, ?hy29⟩) H6.out ?rest29
   case hy29 => (intro ww _; go_simp; try with_reducible rfl)
   go_simp
   refine wpAnyG_take (i := 3) (v := ?v30) rfl (by kernel_rfl) (fun _ _ _ h => h) (Or.inl ⟨by rfl, ?hy30⟩) H6.out ?rest30
   case hy30 => (intro ww _; go_simp; try with_reducible rfl)
   go_simp
   refine wpAnyG_take (i := 4) (v := ?v31) rfl (by kernel_rfl) (fun _ _ _ h => h) (Or.inl ⟨by rfl, ?hy31⟩) H6.out ?rest31
   case hy31 => (intro ww hS; obtain ⟨hS1, hS2⟩ := hS; have y9 := hS2.cell 9 _ rfl; have x1 := hS1.cell 1 _ rfl; go_simp; try with_reducible rfl)
   go_simp
   refine wpAnyG_take (i := 5) (v := ?v32) rfl (by kernel_rfl) (fun _ _ _ h => h) (Or.inl ⟨by rfl, ?hy32⟩) H6.out ?rest32
   case hy32 => (intro ww _; go_simp; try with_reducible rfl)
   go_simp
   refine wpAnyG_take (i := 6) (v := ?v33) rfl (by kernel_rfl) (fun _ _ _ h => h) (Or.inl ⟨by rfl, ?hy33⟩) H6.out ?rest33
   case hy33 => (intro ww hS; obtain ⟨hS1, hS2⟩ := hS; have y9 := hS2.cell 9 _ rfl; have x1 := hS1.cell 1 _ rfl; go_simp; try with_reducible rfl)
   go_simp
   refine wpAnyG_take (i := 7) (v := ?v34) rfl (by kernel_rfl) (fun _ _ _ h => h) (Or.inl ⟨by rfl, ?hy34⟩) H6.out ?rest34
   case hy34 => (intro ww _; go_simp; try with_reducible rfl)
   go_simp
   refine wpAnyG_take (i := 8) (v := ?v35) rfl (by kernel_rfl) (fun _ _ _ h => h) (Or.inl ⟨by rfl, ?hy35⟩) H6.out ?rest35
   case hy35 => (intro ww _; go_simp; try with_reducible rfl)
   go_simp
   refine wpAnyG_take (i := 9) (v := ?v36) rfl (by kernel_rfl) (fun _ _ _ h => h) (Or.inl ⟨by rfl, ?hy36⟩) H6.out ?rest36
   case hy36 => (intro ww _; go_simp; try with_reducible rfl)
   go_simp
   refine wpAnyG_all (rs := [10]) (by kernel_rfl) (by simp) ?_
   intro i hi
   obtain rfl := List.mem_singleton.1 hi
   clear hi
   refine wpOp_c rfl (by rfl) (fun K hK => ?_)
   go_simp
   obtain ⟨w7, e7⟩ : ∃ w7, w7 = (w6.alloc (.cells #[.int .i64 m.ep, .int .i64 fr, .string (rsT m.rs.1 m.rs.2)] 148)).drew := ⟨_, rfl⟩
   have hb7 : Below w6.heap.size w6 w7 := by rw [e7]; exact ((Below.refl _ _).alloc (Nat.le_refl _) _).drew
   have HX7 : Hid (BxAt w7 w6.heap.size [.int .i64 m.ep, .int .i64 fr, .string (rsT m.rs.1 m.rs.2)] 148) := hid (by rw [e7]; exact heap_alloc_last w6 _)
   have H7 : Hid (BxAt w7 w.heap.size (msA m a13 a14 a15 a16 c13 c14 c15 c16) 48 ∧ BxAt w7 g (clC c (.pointer (some ⟨gt, 0, none⟩)) (.slice adc c.cm.length cpc) va) 94) := hid ⟨(show BxAt w6 w.heap.size (msA m a13 a14 a15 a16 c13 c14 c15 c16) 48 from H6.out.1).keep hb7, (show BxAt w6 g (clC c (.pointer (some ⟨gt, 0, none⟩)) (.slice adc c.cm.length cpc) va) 94 from H6.out.2).keep hb7⟩
   have HC7 := hid (HC6.out.keep hb7)
   have HB7 := hid (HB6.out.trans (hb7.mono HB6.out.size))
   rw [← e7]
   clear e7 hb7
   refine hK _ _ ⟨fun _ => H7.out, ?_⟩
   clear hK K
   go_simp
   refine wpAnyG_all (rs := [11]) (by kernel_rfl) (by simp) ?_
   intro i hi
   obtain rfl := List.mem_singleton.1 hi
   clear hi
   refine wpOp_c rfl (by rfl) (fun K hK => ?_)
   obtain ⟨i0, hi0, hz0, hz1, hz2⟩ := info_parts infoWd
   refine owp_append_at _ _ 91 rfl N 148 i0 (.agg #[.int .i64 0, .int .i64 0, .string ⟨#[]⟩]) 3 32 undWd hi0 hz0 hz1 hz2 rfl (by decide) (.slice adc c.cm.length cpc) c.cm.length (wdC c.cm) rfl (HH.out.keep HB7.out).cm ⟨w6.heap.size, 0, none⟩ 1 1 (wdV (m.ep, fr, rsT m.rs.1 m.rs.2)) rfl rfl (fun j u hu => by rw [Addr.add_lit, Nat.zero_add]; exact cell_at HX7.out j u hu) (by simp [wdV, Value.oneCell']) (by have := HBd.out.1; unfold maxLen; omega) HBd.out.1 (HH.out.keep HB7.out).le ?_
   intro v3 w8 hown hgr hv3
   obtain ⟨ad3, cp3, rfl, _, _⟩ := row_open hown
   have HG := hid (And.intro hgr (And.intro (show w8.ownsRow N 148 3 _ (c.cm.length + 1) (wdC (c.cm ++ [(m.ep, fr, rsT m.rs.1 m.rs.2)])) by rw [wdC_app, wdC_one]; exact hown) hv3))
   have hcmlt : ∀ k, (Value.slice adc c.cm.length cpc).ownBlock = some k → k < w.heap.size := fun k hk => (HH.out.cm.lt k hk).2
   have H8 : Hid (BxAt w8 w.heap.size (msA m a13 a14 a15 a16 c13 c14 c15 c16) 48 ∧ BxAt w8 g (clC c (.pointer (some ⟨gt, 0, none⟩)) (.slice adc c.cm.length cpc) va) 94) := hid ⟨(hgr.block _ (lt_of_blk H7.out.1) (fun e => by have := hcmlt _ e.symm; omega)).trans H7.out.1, (hgr.block g (lt_of_blk H7.out.2) (fun e => HH.out.cg e.symm)).trans H7.out.2⟩
   have HC8 : Hid (BxAt w8 wa.heap.size [.int .i64 z, .slice ad L.length cp] 24) := hid ((hgr.block _ (lt_of_blk HC7.out) (fun e => by have := hcmlt _ e.symm; have := HCg.out.2.1; omega)).trans HC7.out)
   clear hown hgr hv3 hi0 hz0 hz1 hz2 hcmlt
   refine hK _ _ ⟨fun _ => H8.out, ?_⟩
   clear hK K
   go_simp
   refine wpAnyG_take (i := 12) (v := ?v37) rfl (by kernel_rfl) (fun _ _ _ h => h) (Or.inl ⟨by rfl, ?hy37⟩) H8.out ?rest37
   case hy37 => (intro ww _; go_simp; try with_reducible rfl)
   go_simp
   refine wpAnyG_take (i := 13) (v := ?v38) rfl (by kernel_rfl) (fun _ _ _ h => h) (Or.inl ⟨by rfl, ?hy38⟩) H8.out ?rest38
   case hy38 => (intro ww _; go_simp; try with_reducible rfl)
   go_simp
   refine wpAnyG_all (rs := [14]) (by kernel_rfl) (by simp) ?_
   intro i hi
   obtain rfl := List.mem_singleton.1 hi
   clear hi
   refine wpOp_c rfl (by rfl) (fun K hK => ?_)
   refine owp_store1 91 _ _ rfl g 9 (by rfl) (.slice ad3 (c.cm.length + 1) cp3) (by rfl) rfl rfl (clC c (.pointer (some ⟨gt, 0, none⟩)) (.slice adc c.cm.length cpc) va) 94 H8.out.2 (by simp [clC]) (by kernel_rfl) ?_
   intro w9 Hz
   have HM9 := hid (HH.out.growC HB7.out (m.ep, fr, rsT m.rs.1 m.rs.2) HG.out.1 HG.out.2.1 HG.out.2.2 Hz.out.2 Hz.out.1)
   have H9 : Hid (BxAt w9 w.heap.size (msA m a13 a14 a15 a16 c13 c14 c15 c16) 48 ∧ BxAt w9 wa.heap.size [.int .i64 z, .slice ad L.length cp] 24) := hid ⟨(Hz.out.2.block _ (by have := HCg.out.2.2.2.1; omega)).trans H8.out.1, (Hz.out.2.block _ HCg.out.1).trans HC8.out⟩
   clear Hz
   refine hK _ _ ⟨fun h => absurd (by simp) h, ?_⟩
   clear hK K
   go_simp
   refine wpAnyG_done (by kernel_rfl) ?_ _
   go_simp
   have HAl := hid (fun (u : World) (hu : Below w9.heap.size w9 u) => kalike_any (HM9.out.1.keep hu) (by rw [List.length_append]; have := HBd.out.1; unfold maxLen; simp only [List.length_cons, List.length_nil]; omega) m.ep (rsT m.rs.1 m.rs.2))
   have HWk := hid (fun (u : World) => cweak_any (L.length : Int) (by have := HLl.out; omega) u)
   go_wp2_with fail
   have p9 := BxAt.cls H9.out.1 1 (.int .i64 m.ep) rfl
   have r1 := BxAt.cls H9.out.2 1 (.slice ad L.length cp) rfl
   obtain ⟨cn, en⟩ : ∃ cn : Int, cn = (cntW (c.cm ++ [(m.ep, fr, rsT m.rs.1 m.rs.2)]) m.ep (rsT m.rs.1 m.rs.2) : Int) := ⟨_, rfl⟩
   obtain ⟨wk, ewk⟩ : ∃ wk : Int, wk = wekZ (L.length : Int) := ⟨_, rfl⟩
   rw [← en] at HAl
   rw [← ewk] at HWk
   have HKc := hid (And.intro en ewk)
   have hge : decide (cn ≥ wk) = true := by have h9 := hwc; rw [← eLk.out, ← ewk, ← en] at h9; exact decide_eq_true (by omega)
   have hge2 : decide (wk ≤ cn) = true := hge
   clear en ewk hwc
   haveI := Cls.ne w9
   refine wp_region_cls w9 (by kernel_rfl) (by kernel_rfl) ?_
   repeat (go_big_quiet_step ((first
     | (go_at_call 92; exact Cls.of _ (fun u hu => HAl.out u hu))
     | (go_at_call 29; exact Cls.of _ (fun u hu => HWk.out u)))))
   refine wpQuiet_nil ?_
   rintro wX ⟨x, hx⟩
   have hbX : Below w9.heap.size w9 wX := by first | (rw [← hx]; exact x.2) | (rw [hx]; exact x.2)
   clear hx x
   have HX := hid hbX
   have x10 := (H9.out.1.keep hbX).cell 10 _ rfl
   have x11 := (H9.out.1.keep hbX).cell 11 _ rfl
   have HAc := hid (kaccept_any (HM9.out.1.keep hbX) (by exact HBd.out.2) m.rs.1 m.rs.2)
   clear hbX
   go_wp2_with (go_at_call 93; go_must (refine HAc.out.mono ?_; rintro e w11 ⟨rfl, v4, h1, h2, h3⟩; have HE := hid (And.intro h1 (And.intro h2 h3)); clear h1 h2 h3 x10 x11))
   go_end0
   exact ⟨rfl, rp_done HM9.out.2.1 HM9.out.2.2 HX.out HE.out.1 HE.out.2.1 HE.out.2.2⟩
set_option maxHeartbeats 6400000 in
theorem kreply_cnt {adc : Option Addr} {cpc : Nat} (h : ClM O N w g vt (.slice adc c.cm.length cpc) va fm ls c) (hfm : fm.length ≤ 10) (hl : ls.length ≤ 900) (hls : ∀ k, k ∈ ls → k.2.1.length ≤ 10) (hcm : (c.cm.length + 1) * 32 ≤ 140737488355328) (hac : (c.ac.length + 1) * 72 ≤ 140737488355328) (hob : c.op.b < 18446744073709551616) (m : Ms) (a13 a14 a15 a16 : Option Addr) (c13 c14 c15 c16 : Nat) (fr : Int) (hrb : m.rq.b < 18446744073709551616) (hrf : m.rs.2 < 18446744073709551616) (k1 : atB ls m.ep = true) (k2 : hasM (atM fm ls m.ep) fr = true) (k3 : sameB m.rq c.op = true) (k4 : hasW c.cm m.ep fr = false) (hwc : ¬ wekZ ((atM fm ls m.ep).length : Int) ≤ (cntW (c.cm ++ [(m.ep, fr, rsT m.rs.1 m.rs.2)]) m.ep (rsT m.rs.1 m.rs.2) : Int)) :
   Calls Tryz.prog 49 #[.pointer (some ⟨g, 0, none⟩), .int .i64 fr, .agg (msA m a13 a14 a15 a16 c13 c14 c15 c16).toArray] w fun e w' => e = .returned (.tuple #[]) ∧ RpPost O N w w' g vt (.slice adc c.cm.length cpc) va fm ls { c with cm := c.cm ++ [(m.ep, fr, rsT m.rs.1 m.rs.2)] } := by
 obtain ⟨wa, HA, hb, hx⟩ := msA_new m a13 a14 a15 a16 c13 c14 c15 c16 48 w
 have HH := hid h
 obtain ⟨gt, hgt⟩ := h.tr.isptr
 subst hgt
 obtain ⟨z, ez⟩ : ∃ z, z = atZ 0 ls m.ep := ⟨_, rfl⟩
 obtain ⟨L, eL⟩ : ∃ L, L = atM fm ls m.ep := ⟨_, rfl⟩
 have hLl : L.length ≤ 10 := by rw [eL]; exact atM_len fm ls hfm hls m.ep
 have HLl := hid hLl
 have HAt := hid (fun (u : World) (hu : Below w.heap.size w u) => lat_any O _ fm hfm ls hl hls m.ep u (h.keep hu).tr)
 rw [← ez, ← eL, k1] at HAt
 have HHas := hid (fun (u : World) (ad : Option Addr) (cp : Nat) (hI : IntsIn u ad L) => chas_any z ad L.length cp L rfl (by unfold maxLen; omega) fr u hI)
 have HSm := hid (fun (u : World) => dsame_any m.rq c.op hrb hob u)
 have HWd := hid (fun (u : World) (hu : Below w.heap.size w u) => khasWord_any (h.keep hu) (by unfold maxLen; omega) m.ep fr)
 have HRt := hid (fun (u : World) => dresultText_any m.rs.1 m.rs.2 hrf u)
 have H0 : Hid (BxAt wa.drew w.heap.size (msA m a13 a14 a15 a16 c13 c14 c15 c16) 48 ∧ BxAt wa.drew g (clC c (.pointer (some ⟨gt, 0, none⟩)) (.slice adc c.cm.length cpc) va) 94) := hid ⟨hx, h.blk.keep hb.drew⟩
 have HB := hid hb
 have HBd := hid (And.intro hcm hac)
 have HLe := hid eL
 unfold msA
 simp only [msA] at HA
 replace HA := hid HA
 rw [eL, k2, ← eL] at HHas
 rw [k3] at HSm
 rw [k4] at HWd
 have eLk := hid eL
 clear k2 k3 k4
 clear h hb hx hfm hl hls hcm hac hob hrb hrf ez eL hLl
 go_enter Tryz.func49, Tryz.ntmps49
 go_upto_region 1 with fail
 rw [HA.out]
 refine wp_region_G (S := fun ww => BxAt ww w.heap.size (msA m a13 a14 a15 a16 c13 c14 c15 c16) 48 ∧ BxAt ww g (clC c (.pointer (some ⟨gt, 0, none⟩)) (.slice adc c.cm.length cpc) va) 94) (ex := []) (by kernel_rfl) ?_
 try (change wpAnyG _ _ _ _ _ _ _ _ _ (World.drew _))
 refine wpAnyG_take (i := 0) (v := ?v1) rfl (by kernel_rfl) (fun _ _ _ h => h) (Or.inl ⟨by rfl, ?hy1⟩) H0.out ?rest1
 case hy1 => (intro ww _; go_simp; try with_reducible rfl)
 go_simp
 refine wpAnyG_take (i := 1) (v := ?v2) rfl (by kernel_rfl) (fun _ _ _ h => h) (Or.inl ⟨by rfl, ?hy2⟩) H0.out ?rest2
 case hy2 => (intro ww _; go_simp; try with_reducible rfl)
 go_simp
 refine wpAnyG_take (i := 2) (v := ?v3) rfl (by kernel_rfl) (fun _ _ _ h => h) (Or.inl ⟨by rfl, ?hy3⟩) H0.out ?rest3
 case hy3 => (intro ww _; go_simp; try with_reducible rfl)
 go_simp
 refine wpAnyG_take (i := 3) (v := ?v4) rfl (by kernel_rfl) (fun _ _ _ h => h) (Or.inl ⟨by rfl, ?hy4⟩) H0.out ?rest4
 case hy4 => (intro ww hS; obtain ⟨hS1, hS2⟩ := hS; have y1 := hS2.cell 1 _ rfl; have x1 := hS1.cell 1 _ rfl; go_simp; try with_reducible rfl)
 go_simp
 refine wpAnyG_take (i := 4) (v := ?v5) rfl (by kernel_rfl) (fun _ _ _ h => h) (Or.inl ⟨by rfl, ?hy5⟩) H0.out ?rest5
 case hy5 => (intro ww _; go_simp; try with_reducible rfl)
 go_simp
 refine wpAnyG_take (i := 5) (v := ?v6) rfl (by kernel_rfl) (fun _ _ _ h => h) (Or.inl ⟨by rfl, ?hy6⟩) H0.out ?rest6
 case hy6 => (intro ww hS; obtain ⟨hS1, hS2⟩ := hS; have y1 := hS2.cell 1 _ rfl; have x1 := hS1.cell 1 _ rfl; go_simp; try with_reducible rfl)
 go_simp
 refine wpAnyG_all (rs := [6, 10]) (by kernel_rfl) (by simp) ?_
 intro i hi
 rcases List.mem_cons.1 hi with rfl | hi
 · refine wpOp_c rfl (by rfl) (fun K hK => ?_)
   go_simp
   refine (HAt.out _ HB.out.drew).mono ?_
   rintro e w2 ⟨ad, cp, rfl, hn, hb⟩
   have H2 : Hid (BxAt w2 w.heap.size (msA m a13 a14 a15 a16 c13 c14 c15 c16) 48 ∧ BxAt w2 g (clC c (.pointer (some ⟨gt, 0, none⟩)) (.slice adc c.cm.length cpc) va) 94) := hid ⟨H0.out.1.keep hb, H0.out.2.keep hb⟩
   have HB2 := hid (HB.out.drew.trans (hb.mono HB.out.size))
   have HI2 := hid hn.ints
   clear hn hb
   refine hK _ _ ⟨fun _ => H2.out, ?_⟩
   clear hK K
   go_simp
   refine wpAnyG_take (i := 7) (v := ?v7) rfl (by kernel_rfl) (fun _ _ _ h => h) (Or.inl ⟨by rfl, ?hy7⟩) H2.out ?rest7
   case hy7 => (intro ww _; go_simp; try with_reducible rfl)
   go_simp
   refine wpAnyG_take (i := 8) (v := ?v8) rfl (by kernel_rfl) (fun _ _ _ h => h) (Or.inl ⟨by rfl, ?hy8⟩) H2.out ?rest8
   case hy8 => (intro ww _; go_simp; try with_reducible rfl)
   go_simp
   refine wpAnyG_take (i := 9) (v := ?v9) rfl (by kernel_rfl) (fun _ _ _ h => h) (Or.inl ⟨by rfl, ?hy9⟩) H2.out ?rest9
   case hy9 => (intro ww _; go_simp; try with_reducible rfl)
   go_simp
   refine wpAnyG_all (rs := [10]) (by kernel_rfl) (by simp) ?_
   intro i hi
   obtain rfl := List.mem_singleton.1 hi
   clear hi
   refine wpOp_c rfl (by rfl) (fun K hK => ?_)
   go_simp
   have hb3 : Below w2.heap.size w2 (w2.alloc (.cells #[.int .i64 0, .slice none 0 0] 24)) := (Below.refl _ _).alloc (Nat.le_refl _) _
   have H3 : Hid (BxAt (w2.alloc (.cells #[.int .i64 0, .slice none 0 0] 24)) w.heap.size (msA m a13 a14 a15 a16 c13 c14 c15 c16) 48 ∧ BxAt (w2.alloc (.cells #[.int .i64 0, .slice none 0 0] 24)) g (clC c (.pointer (some ⟨gt, 0, none⟩)) (.slice adc c.cm.length cpc) va) 94) := hid ⟨H2.out.1.keep hb3, H2.out.2.keep hb3⟩
   clear hb3
   refine hK _ _ ⟨fun _ => H3.out, ?_⟩
   clear hK K
   go_simp
   refine wpAnyG_all (rs := [11]) (by kernel_rfl) (by simp) ?_
   intro i hi
   obtain rfl := List.mem_singleton.1 hi
   clear hi
   refine wpOp_c rfl (by rfl) (fun K hK => ?_)
   refine owp_store_blk 24 _ _ rfl w2.heap.size 0 (by rfl) #[.int .i64 z, .slice ad L.length cp] (by rfl) [.int .i64 0, .slice none 0 0] 24 (heap_alloc_last w2 _) (by simp) (by kernel_rfl) (by simp [Value.oneCell']) ?_
   intro w4 Hz
   have hb4 : Below w2.heap.size w2 w4 := Hz.out.2.below ((Below.refl _ _).alloc (Nat.le_refl _) _) (Nat.le_refl _)
   have HC4 : Hid (BxAt w4 w2.heap.size [.int .i64 z, .slice ad L.length cp] 24) := hid Hz.out.1
   have H4 : Hid (BxAt w4 w.heap.size (msA m a13 a14 a15 a16 c13 c14 c15 c16) 48 ∧ BxAt w4 g (clC c (.pointer (some ⟨gt, 0, none⟩)) (.slice adc c.cm.length cpc) va) 94) := hid ⟨H2.out.1.keep hb4, H2.out.2.keep hb4⟩
   have HB4 := hid (HB2.out.trans (hb4.mono HB2.out.size))
   have HI4 := hid (HI2.out.keep hb4 (Nat.le_refl _))
   clear Hz hb4
   refine hK _ _ ⟨fun _ => H4.out, ?_⟩
   clear hK K
   go_simp
   refine wpAnyG_take (i := 12) (v := ?v10) rfl (by kernel_rfl) (fun _ _ _ h => h) (Or.inl ⟨by rfl, ?hy10⟩) H4.out ?rest10
   case hy10 => (intro ww _; go_simp; try with_reducible rfl)
   go_simp
   refine wpAnyG_done (by kernel_rfl) ?_ _
   go_simp
   go_wp2_with fail
   have p0 := BxAt.cls H4.out.1 4 (.int .i64 m.rq.c) rfl
   have p1 := BxAt.cls H4.out.1 5 (.int .i64 m.rq.st) rfl
   have p2 := BxAt.cls H4.out.1 6 (.int .i64 m.rq.k) rfl
   have p3 := BxAt.cls H4.out.1 7 (.string m.rq.key) rfl
   have p4 := BxAt.cls H4.out.1 8 (.float .f64 m.rq.b) rfl
   have p5 := BxAt.cls H4.out.1 9 (.int .i64 m.rq.id) rfl
   have q0 := BxAt.cls H4.out.2 3 (.int .i64 c.op.c) rfl
   have q1 := BxAt.cls H4.out.2 4 (.int .i64 c.op.st) rfl
   have q2 := BxAt.cls H4.out.2 5 (.int .i64 c.op.k) rfl
   have q3 := BxAt.cls H4.out.2 6 (.string c.op.key) rfl
   have q4 := BxAt.cls H4.out.2 7 (.float .f64 c.op.b) rfl
   have q5 := BxAt.cls H4.out.2 8 (.int .i64 c.op.id) rfl
   have p9 := BxAt.cls H4.out.1 1 (.int .i64 m.ep) rfl
   have r0 := BxAt.cls HC4.out 0 (.int .i64 z) rfl
   have r1 := BxAt.cls HC4.out 1 (.slice ad L.length cp) rfl
   have T2 := hid (fun (u : World) (hu : Below w4.heap.size w4 u) => HHas.out u ad cp (HI4.out.keep hu (Nat.le_refl _)))
   have T4 := hid (fun (u : World) (hu : Below w4.heap.size w4 u) => HWd.out u (HB4.out.trans (hu.mono HB4.out.size)))
   haveI := Cls.ne w4
   refine wp_region_cls w4 (by kernel_rfl) (by kernel_rfl) ?_
   repeat (go_big_quiet_step ((first
     | (go_at_call 88; exact Cls.of _ (fun u hu => T2.out u hu))
     | (go_at_call 89; exact Cls.of _ (fun u hu => HSm.out u))
     | (go_at_call 90; exact Cls.of _ (fun u hu => T4.out u hu)))))
   refine wpQuiet_nil ?_
   rintro w5 ⟨x, hx⟩
   have hb5 : Below w4.heap.size w4 w5 := by first | (rw [← hx]; exact x.2) | (rw [hx]; exact x.2)
   clear hx x p0 p1 p2 p3 p4 p5 q0 q1 q2 q3 q4 q5 p9 r0 r1 T2 T4
   have H5 : Hid (BxAt w5 w.heap.size (msA m a13 a14 a15 a16 c13 c14 c15 c16) 48 ∧ BxAt w5 g (clC c (.pointer (some ⟨gt, 0, none⟩)) (.slice adc c.cm.length cpc) va) 94) := hid ⟨H4.out.1.keep hb5, H4.out.2.keep hb5⟩
   have HB5 := hid (HB4.out.trans (hb5.mono HB4.out.size))
   have HC5 := hid (HC4.out.keep hb5)
   have HCg : Hid (w2.heap.size ≠ g ∧ w.heap.size ≤ w2.heap.size ∧ w2.heap.size < w5.heap.size ∧ g < w.heap.size ∧ w.heap.size < w5.heap.size) := hid (by have h1 := lt_of_blk HH.out.blk; have h2 := lt_of_blk HC5.out; have h3 := lt_of_blk H5.out.1; have h4 : w.heap.size ≤ w2.heap.size := (Nat.le_trans HB2.out.size (Nat.le_refl _)); omega)
   have x10 := H5.out.1.cell 10 _ rfl
   have x11 := H5.out.1.cell 11 _ rfl
   clear hb5
   go_wp2_with (go_at_call 91; go_must (refine (HRt.out _).mono ?_; rintro e w6 ⟨rfl, hb⟩; have H6 : Hid (BxAt w6 w.heap.size (msA m a13 a14 a15 a16 c13 c14 c15 c16) 48 ∧ BxAt w6 g (clC c (.pointer (some ⟨gt, 0, none⟩)) (.slice adc c.cm.length cpc) va) 94) := hid ⟨H5.out.1.keep hb, H5.out.2.keep hb⟩; have HB6 := hid (HB5.out.trans (hb.mono HB5.out.size)); have HC6 := hid (HC5.out.keep hb); have HZ6 := hid hb.size; clear hb x10 x11))
   have H6 : Hid (BxAt w6.drew w.heap.size (msA m a13 a14 a15 a16 c13 c14 c15 c16) 48 ∧ BxAt w6.drew g (clC c (.pointer (some ⟨gt, 0, none⟩)) (.slice adc c.cm.length cpc) va) 94) := hid ⟨H6.out.1, H6.out.2⟩
   refine wp_region_G (S := fun ww => BxAt ww w.heap.size (msA m a13 a14 a15 a16 c13 c14 c15 c16) 48 ∧ BxAt ww g (clC c (.pointer (some ⟨gt, 0, none⟩)) (.slice adc c.cm.length cpc) va) 94) (ex := [14]) (by kernel_rfl) ?_
   try (change wpAnyG _ _ _ _ _ _ _ _ _ (World.drew _))
   refine wpAnyG_take (i := 0) (v := ?v11) rfl (by kernel_rfl) (fun _ _ _ h => h) (Or.inl ⟨by rfl, ?hy11⟩) H6.out ?rest11
   case hy11 => (intro ww _; go_simp; try with_reducible rfl)
   go_simp
   refine wpAnyG_take (i := 1) (v := ?v12) rfl (by kernel_rfl) (fun _ _ _ h => h) (Or.inl ⟨by rfl, ?hy12⟩) H6.out ?rest12
   case hy12 => (intro ww _; go_simp; try with_reducible rfl)
   go_simp
   refine wpAnyG_take (i := 2) (v := ?v13) rfl (by kernel_rfl) (fun _ _ _ h => h) (Or.inl ⟨by rfl, ?hy13⟩) H6.out ?rest13
   case hy13 => (intro ww _; go_simp; try with_reducible rfl)
   go_simp
   refine wpAnyG_take (i := 3) (v := ?v14) rfl (by kernel_rfl) (fun _ _ _ h => h) (Or.inl ⟨by rfl, ?hy14⟩) H6.out ?rest14
   case hy14 => (intro ww _; go_simp; try with_reducible rfl)
   go_simp
   refine wpAnyG_take (i := 4) (v := ?v15) rfl (by kernel_rfl) (fun _ _ _ h => h) (Or.inl ⟨by rfl, ?hy15⟩) H6.out ?rest15
   case hy15 => (intro ww hS; obtain ⟨hS1, hS2⟩ := hS; have y9 := hS2.cell 9 _ rfl; have x1 := hS1.cell 1 _ rfl; go_simp; try with_reducible rfl)
   go_simp
   refine wpAnyG_take (i := 5) (v := ?v16) rfl (by kernel_rfl) (fun _ _ _ h => h) (Or.inl ⟨by rfl, ?hy16⟩) H6.out ?rest16
   case hy16 => (intro ww _; go_simp; try with_reducible rfl)
   go_simp
   refine wpAnyG_take (i := 6) (v := ?v17) rfl (by kernel_rfl) (fun _ _ _ h => h) (Or.inl ⟨by rfl, ?hy17⟩) H6.out ?rest17
   case hy17 => (intro ww hS; obtain ⟨hS1, hS2⟩ := hS; have y9 := hS2.cell 9 _ rfl; have x1 := hS1.cell 1 _ rfl; go_simp; try with_reducible rfl)
   go_simp
   refine wpAnyG_take (i := 7) (v := ?v18) rfl (by kernel_rfl) (fun _ _ _ h => h) (Or.inl ⟨by rfl, ?hy18⟩) H6.out ?rest18
   case hy18 => (intro ww _; go_simp; try with_reducible rfl)
   go_simp
   refine wpAnyG_take (i := 8) (v := ?v19) rfl (by kernel_rfl) (fun _ _ _ h => h) (Or.inl ⟨by rfl, ?hy19⟩) H6.out ?rest19
   case hy19 => (intro ww _; go_simp; try with_reducible rfl)
   go_simp
   refine wpAnyG_take (i := 9) (v := ?v20) rfl (by kernel_rfl) (fun _ _ _ h => h) (Or.inl ⟨by rfl, ?hy20⟩) H6.out ?rest20
   case hy20 => (intro ww _; go_simp; try with_reducible rfl)
   go_simp
   refine wpAnyG_all (rs := [10]) (by kernel_rfl) (by simp) ?_
   intro i hi
   obtain rfl := List.mem_singleton.1 hi
   clear hi
   refine wpOp_c rfl (by rfl) (fun K hK => ?_)
   go_simp
   obtain ⟨w7, e7⟩ : ∃ w7, w7 = (w6.alloc (.cells #[.int .i64 m.ep, .int .i64 fr, .string (rsT m.rs.1 m.rs.2)] 148)).drew := ⟨_, rfl⟩
   have hb7 : Below w6.heap.size w6 w7 := by rw [e7]; exact ((Below.refl _ _).alloc (Nat.le_refl _) _).drew
   have HX7 : Hid (BxAt w7 w6.heap.size [.int .i64 m.ep, .int .i64 fr, .string (rsT m.rs.1 m.rs.2)] 148) := hid (by rw [e7]; exact heap_alloc_last w6 _)
   have H7 : Hid (BxAt w7 w.heap.size (msA m a13 a14 a15 a16 c13 c14 c15 c16) 48 ∧ BxAt w7 g (clC c (.pointer (some ⟨gt, 0, none⟩)) (.slice adc c.cm.length cpc) va) 94) := hid ⟨(show BxAt w6 w.heap.size (msA m a13 a14 a15 a16 c13 c14 c15 c16) 48 from H6.out.1).keep hb7, (show BxAt w6 g (clC c (.pointer (some ⟨gt, 0, none⟩)) (.slice adc c.cm.length cpc) va) 94 from H6.out.2).keep hb7⟩
   have HC7 := hid (HC6.out.keep hb7)
   have HB7 := hid (HB6.out.trans (hb7.mono HB6.out.size))
   rw [← e7]
   clear e7 hb7
   refine hK _ _ ⟨fun _ => H7.out, ?_⟩
   clear hK K
   go_simp
   refine wpAnyG_all (rs := [11]) (by kernel_rfl) (by simp) ?_
   intro i hi
   obtain rfl := List.mem_singleton.1 hi
   clear hi
   refine wpOp_c rfl (by rfl) (fun K hK => ?_)
   obtain ⟨i0, hi0, hz0, hz1, hz2⟩ := info_parts infoWd
   refine owp_append_at _ _ 91 rfl N 148 i0 (.agg #[.int .i64 0, .int .i64 0, .string ⟨#[]⟩]) 3 32 undWd hi0 hz0 hz1 hz2 rfl (by decide) (.slice adc c.cm.length cpc) c.cm.length (wdC c.cm) rfl (HH.out.keep HB7.out).cm ⟨w6.heap.size, 0, none⟩ 1 1 (wdV (m.ep, fr, rsT m.rs.1 m.rs.2)) rfl rfl (fun j u hu => by rw [Addr.add_lit, Nat.zero_add]; exact cell_at HX7.out j u hu) (by simp [wdV, Value.oneCell']) (by have := HBd.out.1; unfold maxLen; omega) HBd.out.1 (HH.out.keep HB7.out).le ?_
   intro v3 w8 hown hgr hv3
   obtain ⟨ad3, cp3, rfl, _, _⟩ := row_open hown
   have HG := hid (And.intro hgr (And.intro (show w8.ownsRow N 148 3 _ (c.cm.length + 1) (wdC (c.cm ++ [(m.ep, fr, rsT m.rs.1 m.rs.2)])) by rw [wdC_app, wdC_one]; exact hown) hv3))
   have hcmlt : ∀ k, (Value.slice adc c.cm.length cpc).ownBlock = some k → k < w.heap.size := fun k hk => (HH.out.cm.lt k hk).2
   have H8 : Hid (BxAt w8 w.heap.size (msA m a13 a14 a15 a16 c13 c14 c15 c16) 48 ∧ BxAt w8 g (clC c (.pointer (some ⟨gt, 0, none⟩)) (.slice adc c.cm.length cpc) va) 94) := hid ⟨(hgr.block _ (lt_of_blk H7.out.1) (fun e => by have := hcmlt _ e.symm; omega)).trans H7.out.1, (hgr.block g (lt_of_blk H7.out.2) (fun e => HH.out.cg e.symm)).trans H7.out.2⟩
   have HC8 : Hid (BxAt w8 w2.heap.size [.int .i64 z, .slice ad L.length cp] 24) := hid ((hgr.block _ (lt_of_blk HC7.out) (fun e => by have := hcmlt _ e.symm; have := HCg.out.2.1; omega)).trans HC7.out)
   clear hown hgr hv3 hi0 hz0 hz1 hz2 hcmlt
   refine hK _ _ ⟨fun _ => H8.out, ?_⟩
   clear hK K
   go_simp
   refine wpAnyG_take (i := 12) (v := ?v21) rfl (by kernel_rfl) (fun _ _ _ h => h) (Or.inl ⟨by rfl, ?hy21⟩) H8.out ?rest21
   case hy21 => (intro ww _; go_simp; try with_reducible rfl)
   go_simp
   refine wpAnyG_take (i := 13) (v := ?v22) rfl (by kernel_rfl) (fun _ _ _ h => h) (Or.inl ⟨by rfl, ?hy22⟩) H8.out ?rest22
   case hy22 => (intro ww _; go_simp; try with_reducible rfl)
   go_simp
   refine wpAnyG_all (rs := [14]) (by kernel_rfl) (by simp) ?_
   intro i hi
   obtain rfl := List.mem_singleton.1 hi
   clear hi
   refine wpOp_c rfl (by rfl) (fun K hK => ?_)
   refine owp_store1 91 _ _ rfl g 9 (by rfl) (.slice ad3 (c.cm.length + 1) cp3) (by rfl) rfl rfl (clC c (.pointer (some ⟨gt, 0, none⟩)) (.slice adc c.cm.length cpc) va) 94 H8.out.2 (by simp [clC]) (by kernel_rfl) ?_
   intro w9 Hz
   have HM9 := hid (HH.out.growC HB7.out (m.ep, fr, rsT m.rs.1 m.rs.2) HG.out.1 HG.out.2.1 HG.out.2.2 Hz.out.2 Hz.out.1)
   have H9 : Hid (BxAt w9 w.heap.size (msA m a13 a14 a15 a16 c13 c14 c15 c16) 48 ∧ BxAt w9 w2.heap.size [.int .i64 z, .slice ad L.length cp] 24) := hid ⟨(Hz.out.2.block _ (by have := HCg.out.2.2.2.1; omega)).trans H8.out.1, (Hz.out.2.block _ HCg.out.1).trans HC8.out⟩
   clear Hz
   refine hK _ _ ⟨fun h => absurd (by simp) h, ?_⟩
   clear hK K
   go_simp
   refine wpAnyG_done (by kernel_rfl) ?_ _
   go_simp
   have HAl := hid (fun (u : World) (hu : Below w9.heap.size w9 u) => kalike_any (HM9.out.1.keep hu) (by rw [List.length_append]; have := HBd.out.1; unfold maxLen; simp only [List.length_cons, List.length_nil]; omega) m.ep (rsT m.rs.1 m.rs.2))
   have HWk := hid (fun (u : World) => cweak_any (L.length : Int) (by have := HLl.out; omega) u)
   go_wp2_with fail
   have p9 := BxAt.cls H9.out.1 1 (.int .i64 m.ep) rfl
   have r1 := BxAt.cls H9.out.2 1 (.slice ad L.length cp) rfl
   obtain ⟨cn, en⟩ : ∃ cn : Int, cn = (cntW (c.cm ++ [(m.ep, fr, rsT m.rs.1 m.rs.2)]) m.ep (rsT m.rs.1 m.rs.2) : Int) := ⟨_, rfl⟩
   obtain ⟨wk, ewk⟩ : ∃ wk : Int, wk = wekZ (L.length : Int) := ⟨_, rfl⟩
   rw [← en] at HAl
   rw [← ewk] at HWk
   have HKc := hid (And.intro en ewk)
   have hge : decide (cn ≥ wk) = false := by have h9 := hwc; rw [← eLk.out, ← ewk, ← en] at h9; exact decide_eq_false (by omega)
   have hge2 : decide (wk ≤ cn) = false := hge
   clear en ewk hwc
   haveI := Cls.ne w9
   refine wp_region_cls w9 (by kernel_rfl) (by kernel_rfl) ?_
   repeat (go_big_quiet_step ((first
     | (go_at_call 92; exact Cls.of _ (fun u hu => HAl.out u hu))
     | (go_at_call 29; exact Cls.of _ (fun u hu => HWk.out u)))))
   refine wpQuiet_nil ?_
   rintro wX ⟨x, hx⟩
   have hbX : Below w9.heap.size w9 wX := by first | (rw [← hx]; exact x.2) | (rw [hx]; exact x.2)
   clear hx x
   have HX := hid hbX
   clear hbX
   go_wp2
   go_end0
   exact ⟨rfl, rp_grow HM9.out.2.1 HM9.out.2.2 HM9.out.1 HX.out⟩
 · obtain rfl := List.mem_singleton.1 hi
   clear hi
   refine wpOp_c rfl (by rfl) (fun K hK => ?_)
   go_simp
   obtain ⟨w1, e1⟩ : ∃ w1, w1 = (wa.alloc (.cells #[.int .i64 0, .slice none 0 0] 24)).drew := ⟨_, rfl⟩
   have hb1 : Below wa.heap.size wa w1 := by rw [e1]; exact ((Below.refl _ _).alloc (Nat.le_refl _) _).drew
   have HC1 : Hid (BxAt w1 wa.heap.size [.int .i64 0, .slice none 0 0] 24) := hid (by rw [e1]; exact heap_alloc_last wa _)
   have H1 : Hid (BxAt w1 w.heap.size (msA m a13 a14 a15 a16 c13 c14 c15 c16) 48 ∧ BxAt w1 g (clC c (.pointer (some ⟨gt, 0, none⟩)) (.slice adc c.cm.length cpc) va) 94) := hid ⟨(show BxAt wa w.heap.size (msA m a13 a14 a15 a16 c13 c14 c15 c16) 48 from H0.out.1).keep hb1, (show BxAt wa g (clC c (.pointer (some ⟨gt, 0, none⟩)) (.slice adc c.cm.length cpc) va) 94 from H0.out.2).keep hb1⟩
   have HB1 := hid (HB.out.trans (hb1.mono HB.out.size))
   rw [← e1]
   clear e1 hb1
   refine hK _ _ ⟨fun _ => H1.out, ?_⟩
   clear hK K
   go_simp
   refine wpAnyG_all (rs := [6]) (by kernel_rfl) (by simp) ?_
   intro i hi
   obtain rfl := List.mem_singleton.1 hi
   clear hi
   refine wpOp_c rfl (by rfl) (fun K hK => ?_)
   go_simp
   refine (HAt.out _ HB1.out).mono ?_
   rintro e w2 ⟨ad, cp, rfl, hn, hb⟩
   have H2 : Hid (BxAt w2 w.heap.size (msA m a13 a14 a15 a16 c13 c14 c15 c16) 48 ∧ BxAt w2 g (clC c (.pointer (some ⟨gt, 0, none⟩)) (.slice adc c.cm.length cpc) va) 94) := hid ⟨H1.out.1.keep hb, H1.out.2.keep hb⟩
   have HC2 := hid (HC1.out.keep hb)
   have HB2 := hid (HB1.out.trans (hb.mono HB1.out.size))
   have HI2 := hid hn.ints
   have HFar := hid (fun x hx => (hn.far x hx))
   clear hn hb
   refine hK _ _ ⟨fun _ => H2.out, ?_⟩
   clear hK K
   go_simp
   refine wpAnyG_take (i := 7) (v := ?v23) rfl (by kernel_rfl) (fun _ _ _ h => h) (Or.inl ⟨by rfl, ?hy23⟩) H2.out ?rest23
   case hy23 => (intro ww _; go_simp; try with_reducible rfl)
   go_simp
   refine wpAnyG_take (i := 8) (v := ?v24) rfl (by kernel_rfl) (fun _ _ _ h => h) (Or.inl ⟨by rfl, ?hy24⟩) H2.out ?rest24
   case hy24 => (intro ww _; go_simp; try with_reducible rfl)
   go_simp
   refine wpAnyG_take (i := 9) (v := ?v25) rfl (by kernel_rfl) (fun _ _ _ h => h) (Or.inl ⟨by rfl, ?hy25⟩) H2.out ?rest25
   case hy25 => (intro ww _; go_simp; try with_reducible rfl)
   go_simp
   refine wpAnyG_all (rs := [11]) (by kernel_rfl) (by simp) ?_
   intro i hi
   obtain rfl := List.mem_singleton.1 hi
   clear hi
   refine wpOp_c rfl (by rfl) (fun K hK => ?_)
   refine owp_store_blk 24 _ _ rfl wa.heap.size 0 (by rfl) #[.int .i64 z, .slice ad L.length cp] (by rfl) [.int .i64 0, .slice none 0 0] 24 HC2.out (by simp) (by kernel_rfl) (by simp [Value.oneCell']) ?_
   intro w4 Hz
   have HC4 : Hid (BxAt w4 wa.heap.size [.int .i64 z, .slice ad L.length cp] 24) := hid Hz.out.1
   have hlm : w.heap.size < wa.heap.size := lt_of_blk H0.out.1
   have hgm : g < w.heap.size := lt_of_blk HH.out.blk
   have H4 : Hid (BxAt w4 w.heap.size (msA m a13 a14 a15 a16 c13 c14 c15 c16) 48 ∧ BxAt w4 g (clC c (.pointer (some ⟨gt, 0, none⟩)) (.slice adc c.cm.length cpc) va) 94) := hid ⟨(Hz.out.2.block _ (by omega)).trans H2.out.1, (Hz.out.2.block _ (by omega)).trans H2.out.2⟩
   have HB4 := hid (Hz.out.2.below HB2.out (by omega))
   have HI4 := hid (ints_one HI2.out Hz.out.2 (fun x hx => by have := (HFar.out x hx).1; have := lt_of_blk HC1.out; omega))
   clear Hz
   refine hK _ _ ⟨fun _ => H4.out, ?_⟩
   clear hK K
   go_simp
   refine wpAnyG_take (i := 12) (v := ?v26) rfl (by kernel_rfl) (fun _ _ _ h => h) (Or.inl ⟨by rfl, ?hy26⟩) H4.out ?rest26
   case hy26 => (intro ww _; go_simp; try with_reducible rfl)
   go_simp
   refine wpAnyG_done (by kernel_rfl) ?_ _
   go_simp
   go_wp2_with fail
   have p0 := BxAt.cls H4.out.1 4 (.int .i64 m.rq.c) rfl
   have p1 := BxAt.cls H4.out.1 5 (.int .i64 m.rq.st) rfl
   have p2 := BxAt.cls H4.out.1 6 (.int .i64 m.rq.k) rfl
   have p3 := BxAt.cls H4.out.1 7 (.string m.rq.key) rfl
   have p4 := BxAt.cls H4.out.1 8 (.float .f64 m.rq.b) rfl
   have p5 := BxAt.cls H4.out.1 9 (.int .i64 m.rq.id) rfl
   have q0 := BxAt.cls H4.out.2 3 (.int .i64 c.op.c) rfl
   have q1 := BxAt.cls H4.out.2 4 (.int .i64 c.op.st) rfl
   have q2 := BxAt.cls H4.out.2 5 (.int .i64 c.op.k) rfl
   have q3 := BxAt.cls H4.out.2 6 (.string c.op.key) rfl
   have q4 := BxAt.cls H4.out.2 7 (.float .f64 c.op.b) rfl
   have q5 := BxAt.cls H4.out.2 8 (.int .i64 c.op.id) rfl
   have p9 := BxAt.cls H4.out.1 1 (.int .i64 m.ep) rfl
   have r0 := BxAt.cls HC4.out 0 (.int .i64 z) rfl
   have r1 := BxAt.cls HC4.out 1 (.slice ad L.length cp) rfl
   have T2 := hid (fun (u : World) (hu : Below w4.heap.size w4 u) => HHas.out u ad cp (HI4.out.keep hu (Nat.le_refl _)))
   have T4 := hid (fun (u : World) (hu : Below w4.heap.size w4 u) => HWd.out u (HB4.out.trans (hu.mono HB4.out.size)))
   haveI := Cls.ne w4
   refine wp_region_cls w4 (by kernel_rfl) (by kernel_rfl) ?_
   repeat (go_big_quiet_step ((first
     | (go_at_call 88; exact Cls.of _ (fun u hu => T2.out u hu))
     | (go_at_call 89; exact Cls.of _ (fun u hu => HSm.out u))
     | (go_at_call 90; exact Cls.of _ (fun u hu => T4.out u hu)))))
   refine wpQuiet_nil ?_
   rintro w5 ⟨x, hx⟩
   have hb5 : Below w4.heap.size w4 w5 := by first | (rw [← hx]; exact x.2) | (rw [hx]; exact x.2)
   clear hx x p0 p1 p2 p3 p4 p5 q0 q1 q2 q3 q4 q5 p9 r0 r1 T2 T4
   have H5 : Hid (BxAt w5 w.heap.size (msA m a13 a14 a15 a16 c13 c14 c15 c16) 48 ∧ BxAt w5 g (clC c (.pointer (some ⟨gt, 0, none⟩)) (.slice adc c.cm.length cpc) va) 94) := hid ⟨H4.out.1.keep hb5, H4.out.2.keep hb5⟩
   have HB5 := hid (HB4.out.trans (hb5.mono HB4.out.size))
   have HC5 := hid (HC4.out.keep hb5)
   have HCg : Hid (wa.heap.size ≠ g ∧ w.heap.size ≤ wa.heap.size ∧ wa.heap.size < w5.heap.size ∧ g < w.heap.size ∧ w.heap.size < w5.heap.size) := hid (by have h1 := lt_of_blk HH.out.blk; have h2 := lt_of_blk HC5.out; have h3 := lt_of_blk H5.out.1; have h4 : w.heap.size ≤ wa.heap.size := HB.out.size; omega)
   have x10 := H5.out.1.cell 10 _ rfl
   have x11 := H5.out.1.cell 11 _ rfl
   clear hb5
   go_wp2_with (go_at_call 91; go_must (refine (HRt.out _).mono ?_; rintro e w6 ⟨rfl, hb⟩; have H6 : Hid (BxAt w6 w.heap.size (msA m a13 a14 a15 a16 c13 c14 c15 c16) 48 ∧ BxAt w6 g (clC c (.pointer (some ⟨gt, 0, none⟩)) (.slice adc c.cm.length cpc) va) 94) := hid ⟨H5.out.1.keep hb, H5.out.2.keep hb⟩; have HB6 := hid (HB5.out.trans (hb.mono HB5.out.size)); have HC6 := hid (HC5.out.keep hb); have HZ6 := hid hb.size; clear hb x10 x11))
   have H6 : Hid (BxAt w6.drew w.heap.size (msA m a13 a14 a15 a16 c13 c14 c15 c16) 48 ∧ BxAt w6.drew g (clC c (.pointer (some ⟨gt, 0, none⟩)) (.slice adc c.cm.length cpc) va) 94) := hid ⟨H6.out.1, H6.out.2⟩
   refine wp_region_G (S := fun ww => BxAt ww w.heap.size (msA m a13 a14 a15 a16 c13 c14 c15 c16) 48 ∧ BxAt ww g (clC c (.pointer (some ⟨gt, 0, none⟩)) (.slice adc c.cm.length cpc) va) 94) (ex := [14]) (by kernel_rfl) ?_
   try (change wpAnyG _ _ _ _ _ _ _ _ _ (World.drew _))
   refine wpAnyG_take (i := 0) (v := ?v27) rfl (by kernel_rfl) (fun _ _ _ h => h) (Or.inl ⟨by rfl, ?hy27⟩) H6.out ?rest27
   case hy27 => (intro ww _; go_simp; try with_reducible rfl)
   go_simp
   refine wpAnyG_take (i := 1) (v := ?v28) rfl (by kernel_rfl) (fun _ _ _ h => h) (Or.inl ⟨by rfl, ?hy28⟩) H6.out ?rest28
   case hy28 => (intro ww _; go_simp; try with_reducible rfl)
   go_simp
   refine wpAnyG_take (i := 2) (v := ?v29) rfl (by kernel_rfl) (fun _ _ _ h => h) (Or.inl ⟨by rfl, ?hy29⟩) H6.out ?rest29
   case hy29 => (intro ww _; go_simp; try with_reducible rfl)
   go_simp
   refine wpAnyG_take (i := 3) (v := ?v30) rfl (by kernel_rfl) (fun _ _ _ h => h) (Or.inl ⟨by rfl, ?hy30⟩) H6.out ?rest30
   case hy30 => (intro ww _; go_simp; try with_reducible rfl)
   go_simp
   refine wpAnyG_take (i := 4) (v := ?v31) rfl (by kernel_rfl) (fun _ _ _ h => h) (Or.inl ⟨by rfl, ?hy31⟩) H6.out ?rest31
   case hy31 => (intro ww hS; obtain ⟨hS1, hS2⟩ := hS; have y9 := hS2.cell 9 _ rfl; have x1 := hS1.cell 1 _ rfl; go_simp; try with_reducible rfl)
   go_simp
   refine wpAnyG_take (i := 5) (v := ?v32) rfl (by kernel_rfl) (fun _ _ _ h => h) (Or.inl ⟨by rfl, ?hy32⟩) H6.out ?rest32
   case hy32 => (intro ww _; go_simp; try with_reducible rfl)
   go_simp
   refine wpAnyG_take (i := 6) (v := ?v33) rfl (by kernel_rfl) (fun _ _ _ h => h) (Or.inl ⟨by rfl, ?hy33⟩) H6.out ?rest33
   case hy33 => (intro ww hS; obtain ⟨hS1, hS2⟩ := hS; have y9 := hS2.cell 9 _ rfl; have x1 := hS1.cell 1 _ rfl; go_simp; try with_reducible rfl)
   go_simp
   refine wpAnyG_take (i := 7) (v := ?v34) rfl (by kernel_rfl) (fun _ _ _ h => h) (Or.inl ⟨by rfl, ?hy34⟩) H6.out ?rest34
   case hy34 => (intro ww _; go_simp; try with_reducible rfl)
   go_simp
   refine wpAnyG_take (i := 8) (v := ?v35) rfl (by kernel_rfl) (fun _ _ _ h => h) (Or.inl ⟨by rfl, ?hy35⟩) H6.out ?rest35
   case hy35 => (intro ww _; go_simp; try with_reducible rfl)
   go_simp
   refine wpAnyG_take (i := 9) (v := ?v36) rfl (by kernel_rfl) (fun _ _ _ h => h) (Or.inl ⟨by rfl, ?hy36⟩) H6.out ?rest36
   case hy36 => (intro ww _; go_simp; try with_reducible rfl)
   go_simp
   refine wpAnyG_all (rs := [10]) (by kernel_rfl) (by simp) ?_
   intro i hi
   obtain rfl := List.mem_singleton.1 hi
   clear hi
   refine wpOp_c rfl (by rfl) (fun K hK => ?_)
   go_simp
   obtain ⟨w7, e7⟩ : ∃ w7, w7 = (w6.alloc (.cells #[.int .i64 m.ep, .int .i64 fr, .string (rsT m.rs.1 m.rs.2)] 148)).drew := ⟨_, rfl⟩
   have hb7 : Below w6.heap.size w6 w7 := by rw [e7]; exact ((Below.refl _ _).alloc (Nat.le_refl _) _).drew
   have HX7 : Hid (BxAt w7 w6.heap.size [.int .i64 m.ep, .int .i64 fr, .string (rsT m.rs.1 m.rs.2)] 148) := hid (by rw [e7]; exact heap_alloc_last w6 _)
   have H7 : Hid (BxAt w7 w.heap.size (msA m a13 a14 a15 a16 c13 c14 c15 c16) 48 ∧ BxAt w7 g (clC c (.pointer (some ⟨gt, 0, none⟩)) (.slice adc c.cm.length cpc) va) 94) := hid ⟨(show BxAt w6 w.heap.size (msA m a13 a14 a15 a16 c13 c14 c15 c16) 48 from H6.out.1).keep hb7, (show BxAt w6 g (clC c (.pointer (some ⟨gt, 0, none⟩)) (.slice adc c.cm.length cpc) va) 94 from H6.out.2).keep hb7⟩
   have HC7 := hid (HC6.out.keep hb7)
   have HB7 := hid (HB6.out.trans (hb7.mono HB6.out.size))
   rw [← e7]
   clear e7 hb7
   refine hK _ _ ⟨fun _ => H7.out, ?_⟩
   clear hK K
   go_simp
   refine wpAnyG_all (rs := [11]) (by kernel_rfl) (by simp) ?_
   intro i hi
   obtain rfl := List.mem_singleton.1 hi
   clear hi
   refine wpOp_c rfl (by rfl) (fun K hK => ?_)
   obtain ⟨i0, hi0, hz0, hz1, hz2⟩ := info_parts infoWd
   refine owp_append_at _ _ 91 rfl N 148 i0 (.agg #[.int .i64 0, .int .i64 0, .string ⟨#[]⟩]) 3 32 undWd hi0 hz0 hz1 hz2 rfl (by decide) (.slice adc c.cm.length cpc) c.cm.length (wdC c.cm) rfl (HH.out.keep HB7.out).cm ⟨w6.heap.size, 0, none⟩ 1 1 (wdV (m.ep, fr, rsT m.rs.1 m.rs.2)) rfl rfl (fun j u hu => by rw [Addr.add_lit, Nat.zero_add]; exact cell_at HX7.out j u hu) (by simp [wdV, Value.oneCell']) (by have := HBd.out.1; unfold maxLen; omega) HBd.out.1 (HH.out.keep HB7.out).le ?_
   intro v3 w8 hown hgr hv3
   obtain ⟨ad3, cp3, rfl, _, _⟩ := row_open hown
   have HG := hid (And.intro hgr (And.intro (show w8.ownsRow N 148 3 _ (c.cm.length + 1) (wdC (c.cm ++ [(m.ep, fr, rsT m.rs.1 m.rs.2)])) by rw [wdC_app, wdC_one]; exact hown) hv3))
   have hcmlt : ∀ k, (Value.slice adc c.cm.length cpc).ownBlock = some k → k < w.heap.size := fun k hk => (HH.out.cm.lt k hk).2
   have H8 : Hid (BxAt w8 w.heap.size (msA m a13 a14 a15 a16 c13 c14 c15 c16) 48 ∧ BxAt w8 g (clC c (.pointer (some ⟨gt, 0, none⟩)) (.slice adc c.cm.length cpc) va) 94) := hid ⟨(hgr.block _ (lt_of_blk H7.out.1) (fun e => by have := hcmlt _ e.symm; omega)).trans H7.out.1, (hgr.block g (lt_of_blk H7.out.2) (fun e => HH.out.cg e.symm)).trans H7.out.2⟩
   have HC8 : Hid (BxAt w8 wa.heap.size [.int .i64 z, .slice ad L.length cp] 24) := hid ((hgr.block _ (lt_of_blk HC7.out) (fun e => by have := hcmlt _ e.symm; have := HCg.out.2.1; omega)).trans HC7.out)
   clear hown hgr hv3 hi0 hz0 hz1 hz2 hcmlt
   refine hK _ _ ⟨fun _ => H8.out, ?_⟩
   clear hK K
   go_simp
   refine wpAnyG_take (i := 12) (v := ?v37) rfl (by kernel_rfl) (fun _ _ _ h => h) (Or.inl ⟨by rfl, ?hy37⟩) H8.out ?rest37
   case hy37 => (intro ww _; go_simp; try with_reducible rfl)
   go_simp
   refine wpAnyG_take (i := 13) (v := ?v38) rfl (by kernel_rfl) (fun _ _ _ h => h) (Or.inl ⟨by rfl, ?hy38⟩) H8.out ?rest38
   case hy38 => (intro ww _; go_simp; try with_reducible rfl)
   go_simp
   refine wpAnyG_all (rs := [14]) (by kernel_rfl) (by simp) ?_
   intro i hi
   obtain rfl := List.mem_singleton.1 hi
   clear hi
   refine wpOp_c rfl (by rfl) (fun K hK => ?_)
   refine owp_store1 91 _ _ rfl g 9 (by rfl) (.slice ad3 (c.cm.length + 1) cp3) (by rfl) rfl rfl (clC c (.pointer (some ⟨gt, 0, none⟩)) (.slice adc c.cm.length cpc) va) 94 H8.out.2 (by simp [clC]) (by kernel_rfl) ?_
   intro w9 Hz
   have HM9 := hid (HH.out.growC HB7.out (m.ep, fr, rsT m.rs.1 m.rs.2) HG.out.1 HG.out.2.1 HG.out.2.2 Hz.out.2 Hz.out.1)
   have H9 : Hid (BxAt w9 w.heap.size (msA m a13 a14 a15 a16 c13 c14 c15 c16) 48 ∧ BxAt w9 wa.heap.size [.int .i64 z, .slice ad L.length cp] 24) := hid ⟨(Hz.out.2.block _ (by have := HCg.out.2.2.2.1; omega)).trans H8.out.1, (Hz.out.2.block _ HCg.out.1).trans HC8.out⟩
   clear Hz
   refine hK _ _ ⟨fun h => absurd (by simp) h, ?_⟩
   clear hK K
   go_simp
   refine wpAnyG_done (by kernel_rfl) ?_ _
   go_simp
   have HAl := hid (fun (u : World) (hu : Below w9.heap.size w9 u) => kalike_any (HM9.out.1.keep hu) (by rw [List.length_append]; have := HBd.out.1; unfold maxLen; simp only [List.length_cons, List.length_nil]; omega) m.ep (rsT m.rs.1 m.rs.2))
   have HWk := hid (fun (u : World) => cweak_any (L.length : Int) (by have := HLl.out; omega) u)
   go_wp2_with fail
   have p9 := BxAt.cls H9.out.1 1 (.int .i64 m.ep) rfl
   have r1 := BxAt.cls H9.out.2 1 (.slice ad L.length cp) rfl
   obtain ⟨cn, en⟩ : ∃ cn : Int, cn = (cntW (c.cm ++ [(m.ep, fr, rsT m.rs.1 m.rs.2)]) m.ep (rsT m.rs.1 m.rs.2) : Int) := ⟨_, rfl⟩
   obtain ⟨wk, ewk⟩ : ∃ wk : Int, wk = wekZ (L.length : Int) := ⟨_, rfl⟩
   rw [← en] at HAl
   rw [← ewk] at HWk
   have HKc := hid (And.intro en ewk)
   have hge : decide (cn ≥ wk) = false := by have h9 := hwc; rw [← eLk.out, ← ewk, ← en] at h9; exact decide_eq_false (by omega)
   have hge2 : decide (wk ≤ cn) = false := hge
   clear en ewk hwc
   haveI := Cls.ne w9
   refine wp_region_cls w9 (by kernel_rfl) (by kernel_rfl) ?_
   repeat (go_big_quiet_step ((first
     | (go_at_call 92; exact Cls.of _ (fun u hu => HAl.out u hu))
     | (go_at_call 29; exact Cls.of _ (fun u hu => HWk.out u)))))
   refine wpQuiet_nil ?_
   rintro wX ⟨x, hx⟩
   have hbX : Below w9.heap.size w9 wX := by first | (rw [← hx]; exact x.2) | (rw [hx]; exact x.2)
   clear hx x
   have HX := hid hbX
   clear hbX
   go_wp2
   go_end0
   exact ⟨rfl, rp_grow HM9.out.2.1 HM9.out.2.2 HM9.out.1 HX.out⟩
end
end Go.Proofs.YtoepppkadpjonaaGreat
