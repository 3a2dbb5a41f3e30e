/- The program's client: a reply. -/
import Derived.Test.YtoepppkadpjonaaGreatNb8
import Derived.Test.YtoepppkadpjonaaGreatNb2
import Derived.Test.YtoepppkadpjonaaGreatNb6
namespace Go.Proofs.YtoepppkadpjonaaGreat
set_option maxRecDepth 100000
open Go.RowKit
def repC (fm : List Int) (ls : List Lk) (c : Clt) (fr : Int) (m : Ms) : Clt :=
 if atB ls m.ep && (hasM (atM fm ls m.ep) fr && (sameB m.rq c.op && !hasW c.cm m.ep fr)) then
   if wekZ ((atM fm ls m.ep).length : Int) ≤ (cntW (c.cm ++ [(m.ep, fr, rsT m.rs.1 m.rs.2)]) m.ep (rsT m.rs.1 m.rs.2) : Int) then { c with op := zeroQ, cm := [], ac := c.ac ++ [(c.op, m.rs)] }
   else { c with cm := c.cm ++ [(m.ep, fr, rsT m.rs.1 m.rs.2)] }
 else c
def RpPost (O : Nat → Prop) (N : Nat) (w w' : World) (g : Nat) (vt vc va : Value) (fm : List Int) (ls : List Lk) (c' : Clt) : Prop :=
 ∃ vc' va', ClM O N w' g vt vc' va' fm ls c' ∧ Outs (Cfp O g vc va) w w' ∧ (∀ k, vc'.ownBlock = some k → vc.ownBlock = some k ∨ w.heap.size ≤ k) ∧ ∀ k, va'.ownBlock = some k → va.ownBlock = some k ∨ w.heap.size ≤ k
theorem ints_one {w w' : World} {b : Nat} {a : Option Addr} {l : List Int} (h : IntsIn w a l) (ho : One b w w') (hf : ∀ x, a = some x → x.block ≠ b) : IntsIn w' a l := by
 rcases h with h | ⟨g, off, ha, hg, hc⟩
 · exact .inl h
 · refine .inr ⟨g, off, ha, by rw [ho.size]; exact hg, fun j v hj => ?_⟩
   have := hc j v hj
   have hb := ho.block g (hf _ ha)
   simp only [World.cell?, hb] at this ⊢
   exact this
theorem Outs.of {O : Nat → Prop} {w w' : World} (h : Below w.heap.size w w') : Outs O w w' := ⟨h.os, h.tape, h.output, h.size, fun k hk _ => h.block k hk⟩
section
variable {O P : Nat → Prop} {N g : Nat} {w wb w3 w4 : World} {v v3 vt vc va : Value} {fm : List Int} {ls : List Lk} {c : Clt}
theorem RpPost.same {w' : World} (h : ClM O N w g vt vc va fm ls c) (hb : Below w.heap.size w w') : RpPost O N w w' g vt vc va fm ls c := ⟨vc, va, h.keep hb, Outs.of hb, fun _ hk => .inl hk, fun _ hk => .inl hk⟩
set_option maxHeartbeats 6400000 in
theorem kreply_n1 (h : ClM O N w g vt vc va fm ls c) (hfm : fm.length ≤ 10) (hl : ls.length ≤ 900) (hls : ∀ k, k ∈ ls → k.2.1.length ≤ 10) (hcm : (c.cm.length + 1) * 32 ≤ 140737488355328) (hac : (c.ac.length + 1) * 72 ≤ 140737488355328) (hob : c.op.b < 18446744073709551616) (m : Ms) (a13 a14 a15 a16 : Option Addr) (c13 c14 c15 c16 : Nat) (fr : Int) (hrb : m.rq.b < 18446744073709551616) (hrf : m.rs.2 < 18446744073709551616) (k1 : atB ls m.ep = false) :
   Calls Tryz.prog 49 #[.pointer (some ⟨g, 0, none⟩), .int .i64 fr, .agg (msA m a13 a14 a15 a16 c13 c14 c15 c16).toArray] w fun e w' => e = .returned (.tuple #[]) ∧ RpPost O N w w' g vt vc va fm ls c := by
 obtain ⟨wa, HA, hb, hx⟩ := msA_new m a13 a14 a15 a16 c13 c14 c15 c16 48 w
 have HH := hid h
 obtain ⟨gt, hgt⟩ := h.tr.isptr
 subst hgt
 obtain ⟨z, ez⟩ : ∃ z, z = atZ 0 ls m.ep := ⟨_, rfl⟩
 obtain ⟨L, eL⟩ : ∃ L, L = atM fm ls m.ep := ⟨_, rfl⟩
 have hLl : L.length ≤ 10 := by rw [eL]; exact atM_len fm ls hfm hls m.ep
 have HLl := hid hLl
 have HAt := hid (fun (u : World) (hu : Below w.heap.size w u) => lat_any O _ fm hfm ls hl hls m.ep u (h.keep hu).tr)
 rw [← ez, ← eL, k1] at HAt
 have HHas := hid (fun (u : World) (ad : Option Addr) (cp : Nat) (hI : IntsIn u ad L) => chas_any z ad L.length cp L rfl (by unfold maxLen; omega) fr u hI)
 have HSm := hid (fun (u : World) => dsame_any m.rq c.op hrb hob u)
 have HWd := hid (fun (u : World) (hu : Below w.heap.size w u) => khasWord_any (h.keep hu) (by unfold maxLen; omega) m.ep fr)
 have HRt := hid (fun (u : World) => dresultText_any m.rs.1 m.rs.2 hrf u)
 have H0 : Hid (BxAt wa.drew w.heap.size (msA m a13 a14 a15 a16 c13 c14 c15 c16) 48 ∧ BxAt wa.drew g (clC c (.pointer (some ⟨gt, 0, none⟩)) vc va) 94) := hid ⟨hx, h.blk.keep hb.drew⟩
 have HB := hid hb
 have HBd := hid (And.intro hcm hac)
 have HLe := hid eL
 unfold msA
 simp only [msA] at HA
 replace HA := hid HA
 clear h hb hx hfm hl hls hcm hac hob hrb hrf ez eL hLl
 go_enter Tryz.func49, Tryz.ntmps49
 go_upto_region 1 with fail
 rw [HA.out]
 refine wp_region_G (S := fun ww => BxAt ww w.heap.size (msA m a13 a14 a15 a16 c13 c14 c15 c16) 48 ∧ BxAt ww g (clC c (.pointer (some ⟨gt, 0, none⟩)) vc va) 94) (ex := []) (by kernel_rfl) ?_
 try (change wpAnyG _ _ _ _ _ _ _ _ _ (World.drew _))
 refine wpAnyG_take (i := 0) (v := ?v1) rfl (by kernel_rfl) (fun _ _ _ h => h) (Or.inl ⟨by rfl, ?hy1⟩) H0.out ?rest1
 case hy1 => (intro ww _; go_simp; try with_reducible rfl)
 go_simp
 refine wpAnyG_take (i := 1) (v := ?v2) rfl (by kernel_rfl) (fun _ _ _ h => h) (Or.inl ⟨by rfl, ?hy2⟩) H0.out ?rest2
 case hy2 => (intro ww _; go_simp; try with_reducible rfl)
 go_simp
 refine wpAnyG_take (i := 2) (v := ?v3) rfl (by kernel_rfl) (fun _ _ _ h => h) (Or.inl ⟨by rfl, ?hy3⟩) H0.out ?rest3
 case hy3 => (intro ww _; go_simp; try with_reducible rfl)
 go_simp
 refine wpAnyG_take (i := 3) (v := ?v4) rfl (by kernel_rfl) (fun _ _ _ h => h) (Or.inl ⟨by rfl, ?hy4⟩) H0.out ?rest4
 case hy4 => (intro ww hS; obtain ⟨hS1, hS2⟩ := hS; have y1 := hS2.cell 1 _ rfl; have x1 := hS1.cell 1 _ rfl; go_simp; try with_reducible rfl)
 go_simp
 refine wpAnyG_take (i := 4) (v := ?v5) rfl (by kernel_rfl) (fun _ _ _ h => h) (Or.inl ⟨by rfl, ?hy5⟩) H0.out ?rest5
 case hy5 => (intro ww _; go_simp; try with_reducible rfl)
 go_simp
 refine wpAnyG_take (i := 5) (v := ?v6) rfl (by kernel_rfl) (fun _ _ _ h => h) (Or.inl ⟨by rfl, ?hy6⟩) H0.out ?rest6
 case hy6 => (intro ww hS; obtain ⟨hS1, hS2⟩ := hS; have y1 := hS2.cell 1 _ rfl; have x1 := hS1.cell 1 _ rfl; go_simp; try with_reducible rfl)
 go_simp
 refine wpAnyG_all (rs := [6, 10]) (by kernel_rfl) (by simp) ?_
 intro i hi
 rcases List.mem_cons.1 hi with rfl | hi
 · refine wpOp_c rfl (by rfl) (fun K hK => ?_)
   go_simp
   refine (HAt.out _ HB.out.drew).mono ?_
   rintro e w2 ⟨ad, cp, rfl, hn, hb⟩
   have H2 : Hid (BxAt w2 w.heap.size (msA m a13 a14 a15 a16 c13 c14 c15 c16) 48 ∧ BxAt w2 g (clC c (.pointer (some ⟨gt, 0, none⟩)) vc va) 94) := hid ⟨H0.out.1.keep hb, H0.out.2.keep hb⟩
   have HB2 := hid (HB.out.drew.trans (hb.mono HB.out.size))
   have HI2 := hid hn.ints
   clear hn hb
   refine hK _ _ ⟨fun _ => H2.out, ?_⟩
   clear hK K
   go_simp
   refine wpAnyG_take (i := 7) (v := ?v7) rfl (by kernel_rfl) (fun _ _ _ h => h) (Or.inl ⟨by rfl, ?hy7⟩) H2.out ?rest7
   case hy7 => (intro ww _; go_simp; try with_reducible rfl)
   go_simp
   refine wpAnyG_take (i := 8) (v := ?v8) rfl (by kernel_rfl) (fun _ _ _ h => h) (Or.inl ⟨by rfl, ?hy8⟩) H2.out ?rest8
   case hy8 => (intro ww _; go_simp; try with_reducible rfl)
   go_simp
   refine wpAnyG_take (i := 9) (v := ?v9) rfl (by kernel_rfl) (fun _ _ _ h => h) (Or.inl ⟨by rfl, ?hy9⟩) H2.out ?rest9
   case hy9 => (intro ww _; go_simp; try with_reducible rfl)
   go_simp
   refine wpAnyG_all (rs := [10]) (by kernel_rfl) (by simp) ?_
   intro i hi
   obtain rfl := List.mem_singleton.1 hi
   clear hi
   refine wpOp_c rfl (by rfl) (fun K hK => ?_)
   go_simp
   have hb3 : Below w2.heap.size w2 (w2.alloc (.cells #[.int .i64 0, .slice none 0 0] 24)) := (Below.refl _ _).alloc (Nat.le_refl _) _
   have H3 : Hid (BxAt (w2.alloc (.cells #[.int .i64 0, .slice none 0 0] 24)) w.heap.size (msA m a13 a14 a15 a16 c13 c14 c15 c16) 48 ∧ BxAt (w2.alloc (.cells #[.int .i64 0, .slice none 0 0] 24)) g (clC c (.pointer (some ⟨gt, 0, none⟩)) vc va) 94) := hid ⟨H2.out.1.keep hb3, H2.out.2.keep hb3⟩
   clear hb3
   refine hK _ _ ⟨fun _ => H3.out, ?_⟩
   clear hK K
   go_simp
   refine wpAnyG_all (rs := [11]) (by kernel_rfl) (by simp) ?_
   intro i hi
   obtain rfl := List.mem_singleton.1 hi
   clear hi
   refine wpOp_c rfl (by rfl) (fun K hK => ?_)
   refine owp_store_blk 24 _ _ rfl w2.heap.size 0 (by rfl) #[.int .i64 z, .slice ad L.length cp] (by rfl) [.int .i64 0, .slice none 0 0] 24 (heap_alloc_last w2 _) (by simp) (by kernel_rfl) (by simp [Value.oneCell']) ?_
   intro w4 Hz
   have hb4 : Below w2.heap.size w2 w4 := Hz.out.2.below ((Below.refl _ _).alloc (Nat.le_refl _) _) (Nat.le_refl _)
   have HC4 : Hid (BxAt w4 w2.heap.size [.int .i64 z, .slice ad L.length cp] 24) := hid Hz.out.1
   have H4 : Hid (BxAt w4 w.heap.size (msA m a13 a14 a15 a16 c13 c14 c15 c16) 48 ∧ BxAt w4 g (clC c (.pointer (some ⟨gt, 0, none⟩)) vc va) 94) := hid ⟨H2.out.1.keep hb4, H2.out.2.keep hb4⟩
   have HB4 := hid (HB2.out.trans (hb4.mono HB2.out.size))
   have HI4 := hid (HI2.out.keep hb4 (Nat.le_refl _))
   clear Hz hb4
   refine hK _ _ ⟨fun _ => H4.out, ?_⟩
   clear hK K
   go_simp
   refine wpAnyG_take (i := 12) (v := ?v10) rfl (by kernel_rfl) (fun _ _ _ h => h) (Or.inl ⟨by rfl, ?hy10⟩) H4.out ?rest10
   case hy10 => (intro ww _; go_simp; try with_reducible rfl)
   go_simp
   refine wpAnyG_done (by kernel_rfl) ?_ _
   go_simp
   go_wp2_with fail
   have p0 := BxAt.cls H4.out.1 4 (.int .i64 m.rq.c) rfl
   have p1 := BxAt.cls H4.out.1 5 (.int .i64 m.rq.st) rfl
   have p2 := BxAt.cls H4.out.1 6 (.int .i64 m.rq.k) rfl
   have p3 := BxAt.cls H4.out.1 7 (.string m.rq.key) rfl
   have p4 := BxAt.cls H4.out.1 8 (.float .f64 m.rq.b) rfl
   have p5 := BxAt.cls H4.out.1 9 (.int .i64 m.rq.id) rfl
   have q0 := BxAt.cls H4.out.2 3 (.int .i64 c.op.c) rfl
   have q1 := BxAt.cls H4.out.2 4 (.int .i64 c.op.st) rfl
   have q2 := BxAt.cls H4.out.2 5 (.int .i64 c.op.k) rfl
   have q3 := BxAt.cls H4.out.2 6 (.string c.op.key) rfl
   have q4 := BxAt.cls H4.out.2 7 (.float .f64 c.op.b) rfl
   have q5 := BxAt.cls H4.out.2 8 (.int .i64 c.op.id) rfl
   have p9 := BxAt.cls H4.out.1 1 (.int .i64 m.ep) rfl
   have r0 := BxAt.cls HC4.out 0 (.int .i64 z) rfl
   have r1 := BxAt.cls HC4.out 1 (.slice ad L.length cp) rfl
   have T2 := hid (fun (u : World) (hu : Below w4.heap.size w4 u) => HHas.out u ad cp (HI4.out.keep hu (Nat.le_refl _)))
   have T4 := hid (fun (u : World) (hu : Below w4.heap.size w4 u) => HWd.out u (HB4.out.trans (hu.mono HB4.out.size)))
   haveI := Cls.ne w4
   refine wp_region_cls w4 (by kernel_rfl) (by kernel_rfl) ?_
   repeat (go_big_quiet_step ((first
     | (go_at_call 88; exact Cls.of _ (fun u hu => T2.out u hu))
     | (go_at_call 89; exact Cls.of _ (fun u hu => HSm.out u))
     | (go_at_call 90; exact Cls.of _ (fun u hu => T4.out u hu)))))
   refine wpQuiet_nil ?_
   rintro _ ⟨x, rfl⟩
   go_wp2
   refine bodyPost_ret (results_none rfl _ _ _) rfl ?_
   exact ⟨rfl, RpPost.same HH.out (HB4.out.trans (x.2.mono HB4.out.size))⟩
 · obtain rfl := List.mem_singleton.1 hi
   clear hi
   refine wpOp_c rfl (by rfl) (fun K hK => ?_)
   go_simp
   obtain ⟨w1, e1⟩ : ∃ w1, w1 = (wa.alloc (.cells #[.int .i64 0, .slice none 0 0] 24)).drew := ⟨_, rfl⟩
   have hb1 : Below wa.heap.size wa w1 := by rw [e1]; exact ((Below.refl _ _).alloc (Nat.le_refl _) _).drew
   have HC1 : Hid (BxAt w1 wa.heap.size [.int .i64 0, .slice none 0 0] 24) := hid (by rw [e1]; exact heap_alloc_last wa _)
   have H1 : Hid (BxAt w1 w.heap.size (msA m a13 a14 a15 a16 c13 c14 c15 c16) 48 ∧ BxAt w1 g (clC c (.pointer (some ⟨gt, 0, none⟩)) vc va) 94) := hid ⟨(show BxAt wa w.heap.size (msA m a13 a14 a15 a16 c13 c14 c15 c16) 48 from H0.out.1).keep hb1, (show BxAt wa g (clC c (.pointer (some ⟨gt, 0, none⟩)) vc va) 94 from H0.out.2).keep hb1⟩
   have HB1 := hid (HB.out.trans (hb1.mono HB.out.size))
   rw [← e1]
   clear e1 hb1
   refine hK _ _ ⟨fun _ => H1.out, ?_⟩
   clear hK K
   go_simp
   refine wpAnyG_all (rs := [6]) (by kernel_rfl) (by simp) ?_
   intro i hi
   obtain rfl := List.mem_singleton.1 hi
   clear hi
   refine wpOp_c rfl (by rfl) (fun K hK => ?_)
   go_simp
   refine (HAt.out _ HB1.out).mono ?_
   rintro e w2 ⟨ad, cp, rfl, hn, hb⟩
   have H2 : Hid (BxAt w2 w.heap.size (msA m a13 a14 a15 a16 c13 c14 c15 c16) 48 ∧ BxAt w2 g (clC c (.pointer (some ⟨gt, 0, none⟩)) vc va) 94) := hid ⟨H1.out.1.keep hb, H1.out.2.keep hb⟩
   have HC2 := hid (HC1.out.keep hb)
   have HB2 := hid (HB1.out.trans (hb.mono HB1.out.size))
   have HI2 := hid hn.ints
   have HFar := hid (fun x hx => (hn.far x hx))
   clear hn hb
   refine hK _ _ ⟨fun _ => H2.out, ?_⟩
   clear hK K
   go_simp
   refine wpAnyG_take (i := 7) (v := ?v11) rfl (by kernel_rfl) (fun _ _ _ h => h) (Or.inl ⟨by rfl, ?hy11⟩) H2.out ?rest11
   case hy11 => (intro ww _; go_simp; try with_reducible rfl)
   go_simp
   refine wpAnyG_take (i := 8) (v := ?v12) rfl (by kernel_rfl) (fun _ _ _ h => h) (Or.inl ⟨by rfl, ?hy12⟩) H2.out ?rest12
   case hy12 => (intro ww _; go_simp; try with_reducible rfl)
   go_simp
   refine wpAnyG_take (i := 9) (v := ?v13) rfl (by kernel_rfl) (fun _ _ _ h => h) (Or.inl ⟨by rfl, ?hy13⟩) H2.out ?rest13
   case hy13 => (intro ww _; go_simp; try with_reducible rfl)
   go_simp
   refine wpAnyG_all (rs := [11]) (by kernel_rfl) (by simp) ?_
   intro i hi
   obtain rfl := List.mem_singleton.1 hi
   clear hi
   refine wpOp_c rfl (by rfl) (fun K hK => ?_)
   refine owp_store_blk 24 _ _ rfl wa.heap.size 0 (by rfl) #[.int .i64 z, .slice ad L.length cp] (by rfl) [.int .i64 0, .slice none 0 0] 24 HC2.out (by simp) (by kernel_rfl) (by simp [Value.oneCell']) ?_
   intro w4 Hz
   have HC4 : Hid (BxAt w4 wa.heap.size [.int .i64 z, .slice ad L.length cp] 24) := hid Hz.out.1
   have hlm : w.heap.size < wa.heap.size := lt_of_blk H0.out.1
   have hgm : g < w.heap.size := lt_of_blk HH.out.blk
   have H4 : Hid (BxAt w4 w.heap.size (msA m a13 a14 a15 a16 c13 c14 c15 c16) 48 ∧ BxAt w4 g (clC c (.pointer (some ⟨gt, 0, none⟩)) vc va) 94) := hid ⟨(Hz.out.2.block _ (by omega)).trans H2.out.1, (Hz.out.2.block _ (by omega)).trans H2.out.2⟩
   have HB4 := hid (Hz.out.2.below HB2.out (by omega))
   have HI4 := hid (ints_one HI2.out Hz.out.2 (fun x hx => by have := (HFar.out x hx).1; have := lt_of_blk HC1.out; omega))
   clear Hz
   refine hK _ _ ⟨fun _ => H4.out, ?_⟩
   clear hK K
   go_simp
   refine wpAnyG_take (i := 12) (v := ?v14) rfl (by kernel_rfl) (fun _ _ _ h => h) (Or.inl ⟨by rfl, ?hy14⟩) H4.out ?rest14
   case hy14 => (intro ww _; go_simp; try with_reducible rfl)
   go_simp
   refine wpAnyG_done (by kernel_rfl) ?_ _
   go_simp
   go_wp2_with fail
   have p0 := BxAt.cls H4.out.1 4 (.int .i64 m.rq.c) rfl
   have p1 := BxAt.cls H4.out.1 5 (.int .i64 m.rq.st) rfl
   have p2 := BxAt.cls H4.out.1 6 (.int .i64 m.rq.k) rfl
   have p3 := BxAt.cls H4.out.1 7 (.string m.rq.key) rfl
   have p4 := BxAt.cls H4.out.1 8 (.float .f64 m.rq.b) rfl
   have p5 := BxAt.cls H4.out.1 9 (.int .i64 m.rq.id) rfl
   have q0 := BxAt.cls H4.out.2 3 (.int .i64 c.op.c) rfl
   have q1 := BxAt.cls H4.out.2 4 (.int .i64 c.op.st) rfl
   have q2 := BxAt.cls H4.out.2 5 (.int .i64 c.op.k) rfl
   have q3 := BxAt.cls H4.out.2 6 (.string c.op.key) rfl
   have q4 := BxAt.cls H4.out.2 7 (.float .f64 c.op.b) rfl
   have q5 := BxAt.cls H4.out.2 8 (.int .i64 c.op.id) rfl
   have p9 := BxAt.cls H4.out.1 1 (.int .i64 m.ep) rfl
   have r0 := BxAt.cls HC4.out 0 (.int .i64 z) rfl
   have r1 := BxAt.cls HC4.out 1 (.slice ad L.length cp) rfl
   have T2 := hid (fun (u : World) (hu : Below w4.heap.size w4 u) => HHas.out u ad cp (HI4.out.keep hu (Nat.le_refl _)))
   have T4 := hid (fun (u : World) (hu : Below w4.heap.size w4 u) => HWd.out u (HB4.out.trans (hu.mono HB4.out.size)))
   haveI := Cls.ne w4
   refine wp_region_cls w4 (by kernel_rfl) (by kernel_rfl) ?_
   repeat (go_big_quiet_step ((first
     | (go_at_call 88; exact Cls.of _ (fun u hu => T2.out u hu))
     | (go_at_call 89; exact Cls.of _ (fun u hu => HSm.out u))
     | (go_at_call 90; exact Cls.of _ (fun u hu => T4.out u hu)))))
   refine wpQuiet_nil ?_
   rintro _ ⟨x, rfl⟩
   go_wp2
   refine bodyPost_ret (results_none rfl _ _ _) rfl ?_
   exact ⟨rfl, RpPost.same HH.out (HB4.out.trans (x.2.mono HB4.out.size))⟩
set_option maxHeartbeats 6400000 in
theorem kreply_n2 (h : ClM O N w g vt vc va fm ls c) (hfm : fm.length ≤ 10) (hl : ls.length ≤ 900) (hls : ∀ k, k ∈ ls → k.2.1.length ≤ 10) (hcm : (c.cm.length + 1) * 32 ≤ 140737488355328) (hac : (c.ac.length + 1) * 72 ≤ 140737488355328) (hob : c.op.b < 18446744073709551616) (m : Ms) (a13 a14 a15 a16 : Option Addr) (c13 c14 c15 c16 : Nat) (fr : Int) (hrb : m.rq.b < 18446744073709551616) (hrf : m.rs.2 < 18446744073709551616) (k1 : atB ls m.ep = true) (k2 : hasM (atM fm ls m.ep) fr = false) :
   Calls Tryz.prog 49 #[.pointer (some ⟨g, 0, none⟩), .int .i64 fr, .agg (msA m a13 a14 a15 a16 c13 c14 c15 c16).toArray] w fun e w' => e = .returned (.tuple #[]) ∧ RpPost O N w w' g vt vc va fm ls c := by
 obtain ⟨wa, HA, hb, hx⟩ := msA_new m a13 a14 a15 a16 c13 c14 c15 c16 48 w
 have HH := hid h
 obtain ⟨gt, hgt⟩ := h.tr.isptr
 subst hgt
 obtain ⟨z, ez⟩ : ∃ z, z = atZ 0 ls m.ep := ⟨_, rfl⟩
 obtain ⟨L, eL⟩ : ∃ L, L = atM fm ls m.ep := ⟨_, rfl⟩
 have hLl : L.length ≤ 10 := by rw [eL]; exact atM_len fm ls hfm hls m.ep
 have HLl := hid hLl
 have HAt := hid (fun (u : World) (hu : Below w.heap.size w u) => lat_any O _ fm hfm ls hl hls m.ep u (h.keep hu).tr)
 rw [← ez, ← eL, k1] at HAt
 have HHas := hid (fun (u : World) (ad : Option Addr) (cp : Nat) (hI : IntsIn u ad L) => chas_any z ad L.length cp L rfl (by unfold maxLen; omega) fr u hI)
 have HSm := hid (fun (u : World) => dsame_any m.rq c.op hrb hob u)
 have HWd := hid (fun (u : World) (hu : Below w.heap.size w u) => khasWord_any (h.keep hu) (by unfold maxLen; omega) m.ep fr)
 have HRt := hid (fun (u : World) => dresultText_any m.rs.1 m.rs.2 hrf u)
 have H0 : Hid (BxAt wa.drew w.heap.size (msA m a13 a14 a15 a16 c13 c14 c15 c16) 48 ∧ BxAt wa.drew g (clC c (.pointer (some ⟨gt, 0, none⟩)) vc va) 94) := hid ⟨hx, h.blk.keep hb.drew⟩
 have HB := hid hb
 have HBd := hid (And.intro hcm hac)
 have HLe := hid eL
 unfold msA
 simp only [msA] at HA
 replace HA := hid HA
 rw [eL, k2, ← eL] at HHas
 clear k2
 clear h hb hx hfm hl hls hcm hac hob hrb hrf ez eL hLl
 go_enter Tryz.func49, Tryz.ntmps49
 go_upto_region 1 with fail
 rw [HA.out]
 refine wp_region_G (S := fun ww => BxAt ww w.heap.size (msA m a13 a14 a15 a16 c13 c14 c15 c16) 48 ∧ BxAt ww g (clC c (.pointer (some ⟨gt, 0, none⟩)) vc va) 94) (ex := []) (by kernel_rfl) ?_
 try (change wpAnyG _ _ _ _ _ _ _ _ _ (World.drew _))
 refine wpAnyG_take (i := 0) (v := ?v1) rfl (by kernel_rfl) (fun _ _ _ h => h) (Or.inl ⟨by rfl, ?hy1⟩) H0.out ?rest1
 case hy1 => (intro ww _; go_simp; try with_reducible rfl)
 go_simp
 refine wpAnyG_take (i := 1) (v := ?v2) rfl (by kernel_rfl) (fun _ _ _ h => h) (Or.inl ⟨by rfl, ?hy2⟩) H0.out ?rest2
 case hy2 => (intro ww _; go_simp; try with_reducible rfl)
 go_simp
 refine wpAnyG_take (i := 2) (v := ?v3) rfl (by kernel_rfl) (fun _ _ _ h => h) (Or.inl ⟨by rfl, ?hy3⟩) H0.out ?rest3
 case hy3 => (intro ww _; go_simp; try with_reducible rfl)
 go_simp
 refine wpAnyG_take (i := 3) (v := ?v4) rfl (by kernel_rfl) (fun _ _ _ h => h) (Or.inl ⟨by rfl, ?hy4⟩) H0.out ?rest4
 case hy4 => (intro ww hS; obtain ⟨hS1, hS2⟩ := hS; have y1 := hS2.cell 1 _ rfl; have x1 := hS1.cell 1 _ rfl; go_simp; try with_reducible rfl)
 go_simp
 refine wpAnyG_take (i := 4) (v := ?v5) rfl (by kernel_rfl) (fun _ _ _ h => h) (Or.inl ⟨by rfl, ?hy5⟩) H0.out ?rest5
 case hy5 => (intro ww _; go_simp; try with_reducible rfl)
 go_simp
 refine wpAnyG_take (i := 5) (v := ?v6) rfl (by kernel_rfl) (fun _ _ _ h => h) (Or.inl ⟨by rfl, ?hy6⟩) H0.out ?rest6
 case hy6 => (intro ww hS; obtain ⟨hS1, hS2⟩ := hS; have y1 := hS2.cell 1 _ rfl; have x1 := hS1.cell 1 _ rfl; go_simp; try with_reducible rfl)
 go_simp
 refine wpAnyG_all (rs := [6, 10]) (by kernel_rfl) (by simp) ?_
 intro i hi
 rcases List.mem_cons.1 hi with rfl | hi
 · refine wpOp_c rfl (by rfl) (fun K hK => ?_)
   go_simp
   refine (HAt.out _ HB.out.drew).mono ?_
   rintro e w2 ⟨ad, cp, rfl, hn, hb⟩
   have H2 : Hid (BxAt w2 w.heap.size (msA m a13 a14 a15 a16 c13 c14 c15 c16) 48 ∧ BxAt w2 g (clC c (.pointer (some ⟨gt, 0, none⟩)) vc va) 94) := hid ⟨H0.out.1.keep hb, H0.out.2.keep hb⟩
   have HB2 := hid (HB.out.drew.trans (hb.mono HB.out.size))
   have HI2 := hid hn.ints
   clear hn hb
   refine hK _ _ ⟨fun _ => H2.out, ?_⟩
   clear hK K
   go_simp
   refine wpAnyG_take (i := 7) (v := ?v7) rfl (by kernel_rfl) (fun _ _ _ h => h) (Or.inl ⟨by rfl, ?hy7⟩) H2.out ?rest7
   case hy7 => (intro ww _; go_simp; try with_reducible rfl)
   go_simp
   refine wpAnyG_take (i := 8) (v := ?v8) rfl (by kernel_rfl) (fun _ _ _ h => h) (Or.inl ⟨by rfl, ?hy8⟩) H2.out ?rest8
   case hy8 => (intro ww _; go_simp; try with_reducible rfl)
   go_simp
   refine wpAnyG_take (i := 9) (v := ?v9) rfl (by kernel_rfl) (fun _ _ _ h => h) (Or.inl ⟨by rfl, ?hy9⟩) H2.out ?rest9
   case hy9 => (intro ww _; go_simp; try with_reducible rfl)
   go_simp
   refine wpAnyG_all (rs := [10]) (by kernel_rfl) (by simp) ?_
   intro i hi
   obtain rfl := List.mem_singleton.1 hi
   clear hi
   refine wpOp_c rfl (by rfl) (fun K hK => ?_)
   go_simp
   have hb3 : Below w2.heap.size w2 (w2.alloc (.cells #[.int .i64 0, .slice none 0 0] 24)) := (Below.refl _ _).alloc (Nat.le_refl _) _
   have H3 : Hid (BxAt (w2.alloc (.cells #[.int .i64 0, .slice none 0 0] 24)) w.heap.size (msA m a13 a14 a15 a16 c13 c14 c15 c16) 48 ∧ BxAt (w2.alloc (.cells #[.int .i64 0, .slice none 0 0] 24)) g (clC c (.pointer (some ⟨gt, 0, none⟩)) vc va) 94) := hid ⟨H2.out.1.keep hb3, H2.out.2.keep hb3⟩
   clear hb3
   refine hK _ _ ⟨fun _ => H3.out, ?_⟩
   clear hK K
   go_simp
   refine wpAnyG_all (rs := [11]) (by kernel_rfl) (by simp) ?_
   intro i hi
   obtain rfl := List.mem_singleton.1 hi
   clear hi
   refine wpOp_c rfl (by rfl) (fun K hK => ?_)
   refine owp_store_blk 24 _ _ rfl w2.heap.size 0 (by rfl) #[.int .i64 z, .slice ad L.length cp] (by rfl) [.int .i64 0, .slice none 0 0] 24 (heap_alloc_last w2 _) (by simp) (by kernel_rfl) (by simp [Value.oneCell']) ?_
   intro w4 Hz
   have hb4 : Below w2.heap.size w2 w4 := Hz.out.2.below ((Below.refl _ _).alloc (Nat.le_refl _) _) (Nat.le_refl _)
   have HC4 : Hid (BxAt w4 w2.heap.size [.int .i64 z, .slice ad L.length cp] 24) := hid Hz.out.1
   have H4 : Hid (BxAt w4 w.heap.size (msA m a13 a14 a15 a16 c13 c14 c15 c16) 48 ∧ BxAt w4 g (clC c (.pointer (some ⟨gt, 0, none⟩)) vc va) 94) := hid ⟨H2.out.1.keep hb4, H2.out.2.keep hb4⟩
   have HB4 := hid (HB2.out.trans (hb4.mono HB2.out.size))
   have HI4 := hid (HI2.out.keep hb4 (Nat.le_refl _))
   clear Hz hb4
   refine hK _ _ ⟨fun _ => H4.out, ?_⟩
   clear hK K
   go_simp
   refine wpAnyG_take (i := 12) (v := ?v10) rfl (by kernel_rfl) (fun _ _ _ h => h) (Or.inl ⟨by rfl, ?hy10⟩) H4.out ?rest10
   case hy10 => (intro ww _; go_simp; try with_reducible rfl)
   go_simp
   refine wpAnyG_done (by kernel_rfl) ?_ _
   go_simp
   go_wp2_with fail
   have p0 := BxAt.cls H4.out.1 4 (.int .i64 m.rq.c) rfl
   have p1 := BxAt.cls H4.out.1 5 (.int .i64 m.rq.st) rfl
   have p2 := BxAt.cls H4.out.1 6 (.int .i64 m.rq.k) rfl
   have p3 := BxAt.cls H4.out.1 7 (.string m.rq.key) rfl
   have p4 := BxAt.cls H4.out.1 8 (.float .f64 m.rq.b) rfl
   have p5 := BxAt.cls H4.out.1 9 (.int .i64 m.rq.id) rfl
   have q0 := BxAt.cls H4.out.2 3 (.int .i64 c.op.c) rfl
   have q1 := BxAt.cls H4.out.2 4 (.int .i64 c.op.st) rfl
   have q2 := BxAt.cls H4.out.2 5 (.int .i64 c.op.k) rfl
   have q3 := BxAt.cls H4.out.2 6 (.string c.op.key) rfl
   have q4 := BxAt.cls H4.out.2 7 (.float .f64 c.op.b) rfl
   have q5 := BxAt.cls H4.out.2 8 (.int .i64 c.op.id) rfl
   have p9 := BxAt.cls H4.out.1 1 (.int .i64 m.ep) rfl
   have r0 := BxAt.cls HC4.out 0 (.int .i64 z) rfl
   have r1 := BxAt.cls HC4.out 1 (.slice ad L.length cp) rfl
   have T2 := hid (fun (u : World) (hu : Below w4.heap.size w4 u) => HHas.out u ad cp (HI4.out.keep hu (Nat.le_refl _)))
   have T4 := hid (fun (u : World) (hu : Below w4.heap.size w4 u) => HWd.out u (HB4.out.trans (hu.mono HB4.out.size)))
   haveI := Cls.ne w4
   refine wp_region_cls w4 (by kernel_rfl) (by kernel_rfl) ?_
   repeat (go_big_quiet_step ((first
     | (go_at_call 88; exact Cls.of _ (fun u hu => T2.out u hu))
     | (go_at_call 89; exact Cls.of _ (fun u hu => HSm.out u))
     | (go_at_call 90; exact Cls.of _ (fun u hu => T4.out u hu)))))
   refine wpQuiet_nil ?_
   rintro _ ⟨x, rfl⟩
   go_wp2
   refine bodyPost_ret (results_none rfl _ _ _) rfl ?_
   exact ⟨rfl, RpPost.same HH.out (HB4.out.trans (x.2.mono HB4.out.size))⟩
 · obtain rfl := List.mem_singleton.1 hi
   clear hi
   refine wpOp_c rfl (by rfl) (fun K hK => ?_)
   go_simp
   obtain ⟨w1, e1⟩ : ∃ w1, w1 = (wa.alloc (.cells #[.int .i64 0, .slice none 0 0] 24)).drew := ⟨_, rfl⟩
   have hb1 : Below wa.heap.size wa w1 := by rw [e1]; exact ((Below.refl _ _).alloc (Nat.le_refl _) _).drew
   have HC1 : Hid (BxAt w1 wa.heap.size [.int .i64 0, .slice none 0 0] 24) := hid (by rw [e1]; exact heap_alloc_last wa _)
   have H1 : Hid (BxAt w1 w.heap.size (msA m a13 a14 a15 a16 c13 c14 c15 c16) 48 ∧ BxAt w1 g (clC c (.pointer (some ⟨gt, 0, none⟩)) vc va) 94) := hid ⟨(show BxAt wa w.heap.size (msA m a13 a14 a15 a16 c13 c14 c15 c16) 48 from H0.out.1).keep hb1, (show BxAt wa g (clC c (.pointer (some ⟨gt, 0, none⟩)) vc va) 94 from H0.out.2).keep hb1⟩
   have HB1 := hid (HB.out.trans (hb1.mono HB.out.size))
   rw [← e1]
   clear e1 hb1
   refine hK _ _ ⟨fun _ => H1.out, ?_⟩
   clear hK K
   go_simp
   refine wpAnyG_all (rs := [6]) (by kernel_rfl) (by simp) ?_
   intro i hi
   obtain rfl := List.mem_singleton.1 hi
   clear hi
   refine wpOp_c rfl (by rfl) (fun K hK => ?_)
   go_simp
   refine (HAt.out _ HB1.out).mono ?_
   rintro e w2 ⟨ad, cp, rfl, hn, hb⟩
   have H2 : Hid (BxAt w2 w.heap.size (msA m a13 a14 a15 a16 c13 c14 c15 c16) 48 ∧ BxAt w2 g (clC c (.pointer (some ⟨gt, 0, none⟩)) vc va) 94) := hid ⟨H1.out.1.keep hb, H1.out.2.keep hb⟩
   have HC2 := hid (HC1.out.keep hb)
   have HB2 := hid (HB1.out.trans (hb.mono HB1.out.size))
   have HI2 := hid hn.ints
   have HFar := hid (fun x hx => (hn.far x hx))
   clear hn hb
   refine hK _ _ ⟨fun _ => H2.out, ?_⟩
   clear hK K
   go_simp
   refine wpAnyG_take (i := 7) (v := ?v11) rfl (by kernel_rfl) (fun _ _ _ h => h) (Or.inl ⟨by rfl, ?hy11⟩) H2.out ?rest11
   case hy11 => (intro ww _; go_simp; try with_reducible rfl)
   go_simp
   refine wpAnyG_take (i := 8) (v := ?v12) rfl (by kernel_rfl) (fun _ _ _ h => h) (Or.inl ⟨by rfl, ?hy12⟩) H2.out ?rest12
   case hy12 => (intro ww _; go_simp; try with_reducible rfl)
   go_simp
   refine wpAnyG_take (i := 9) (v := ?v13) rfl (by kernel_rfl) (fun _ _ _ h => h) (Or.inl ⟨by rfl, ?hy13⟩) H2.out ?rest13
   case hy13 => (intro ww _; go_simp; try with_reducible rfl)
   go_simp
   refine wpAnyG_all (rs := [11]) (by kernel_rfl) (by simp) ?_
   intro i hi
   obtain rfl := List.mem_singleton.1 hi
   clear hi
   refine wpOp_c rfl (by rfl) (fun K hK => ?_)
   refine owp_store_blk 24 _ _ rfl wa.heap.size 0 (by rfl) #[.int .i64 z, .slice ad L.length cp] (by rfl) [.int .i64 0, .slice none 0 0] 24 HC2.out (by simp) (by kernel_rfl) (by simp [Value.oneCell']) ?_
   intro w4 Hz
   have HC4 : Hid (BxAt w4 wa.heap.size [.int .i64 z, .slice ad L.length cp] 24) := hid Hz.out.1
   have hlm : w.heap.size < wa.heap.size := lt_of_blk H0.out.1
   have hgm : g < w.heap.size := lt_of_blk HH.out.blk
   have H4 : Hid (BxAt w4 w.heap.size (msA m a13 a14 a15 a16 c13 c14 c15 c16) 48 ∧ BxAt w4 g (clC c (.pointer (some ⟨gt, 0, none⟩)) vc va) 94) := hid ⟨(Hz.out.2.block _ (by omega)).trans H2.out.1, (Hz.out.2.block _ (by omega)).trans H2.out.2⟩
   have HB4 := hid (Hz.out.2.below HB2.out (by omega))
   have HI4 := hid (ints_one HI2.out Hz.out.2 (fun x hx => by have := (HFar.out x hx).1; have := lt_of_blk HC1.out; omega))
   clear Hz
   refine hK _ _ ⟨fun _ => H4.out, ?_⟩
   clear hK K
   go_simp
   refine wpAnyG_take (i := 12) (v := ?v14) rfl (by kernel_rfl) (fun _ _ _ h => h) (Or.inl ⟨by rfl, ?hy14⟩) H4.out ?rest14
   case hy14 => (intro ww _; go_simp; try with_reducible rfl)
   go_simp
   refine wpAnyG_done (by kernel_rfl) ?_ _
   go_simp
   go_wp2_with fail
   have p0 := BxAt.cls H4.out.1 4 (.int .i64 m.rq.c) rfl
   have p1 := BxAt.cls H4.out.1 5 (.int .i64 m.rq.st) rfl
   have p2 := BxAt.cls H4.out.1 6 (.int .i64 m.rq.k) rfl
   have p3 := BxAt.cls H4.out.1 7 (.string m.rq.key) rfl
   have p4 := BxAt.cls H4.out.1 8 (.float .f64 m.rq.b) rfl
   have p5 := BxAt.cls H4.out.1 9 (.int .i64 m.rq.id) rfl
   have q0 := BxAt.cls H4.out.2 3 (.int .i64 c.op.c) rfl
   have q1 := BxAt.cls H4.out.2 4 (.int .i64 c.op.st) rfl
   have q2 := BxAt.cls H4.out.2 5 (.int .i64 c.op.k) rfl
   have q3 := BxAt.cls H4.out.2 6 (.string c.op.key) rfl
   have q4 := BxAt.cls H4.out.2 7 (.float .f64 c.op.b) rfl
   have q5 := BxAt.cls H4.out.2 8 (.int .i64 c.op.id) rfl
   have p9 := BxAt.cls H4.out.1 1 (.int .i64 m.ep) rfl
   have r0 := BxAt.cls HC4.out 0 (.int .i64 z) rfl
   have r1 := BxAt.cls HC4.out 1 (.slice ad L.length cp) rfl
   have T2 := hid (fun (u : World) (hu : Below w4.heap.size w4 u) => HHas.out u ad cp (HI4.out.keep hu (Nat.le_refl _)))
   have T4 := hid (fun (u : World) (hu : Below w4.heap.size w4 u) => HWd.out u (HB4.out.trans (hu.mono HB4.out.size)))
   haveI := Cls.ne w4
   refine wp_region_cls w4 (by kernel_rfl) (by kernel_rfl) ?_
   repeat (go_big_quiet_step ((first
     | (go_at_call 88; exact Cls.of _ (fun u hu => T2.out u hu))
     | (go_at_call 89; exact Cls.of _ (fun u hu => HSm.out u))
     | (go_at_call 90; exact Cls.of _ (fun u hu => T4.out u hu)))))
   refine wpQuiet_nil ?_
   rintro _ ⟨x, rfl⟩
   go_wp2
   refine bodyPost_ret (results_none rfl _ _ _) rfl ?_
   exact ⟨rfl, RpPost.same HH.out (HB4.out.trans (x.2.mono HB4.out.size))⟩
set_option maxHeartbeats 6400000 in
theorem kreply_n3 (h : ClM O N w g vt vc va fm ls c) (hfm : fm.length ≤ 10) (hl : ls.length ≤ 900) (hls : ∀ k, k ∈ ls → k.2.1.length ≤ 10) (hcm : (c.cm.length + 1) * 32 ≤ 140737488355328) (hac : (c.ac.length + 1) * 72 ≤ 140737488355328) (hob : c.op.b < 18446744073709551616) (m : Ms) (a13 a14 a15 a16 : Option Addr) (c13 c14 c15 c16 : Nat) (fr : Int) (hrb : m.rq.b < 18446744073709551616) (hrf : m.rs.2 < 18446744073709551616) (k1 : atB ls m.ep = true) (k2 : hasM (atM fm ls m.ep) fr = true) (k3 : sameB m.rq c.op = false) :
   Calls Tryz.prog 49 #[.pointer (some ⟨g, 0, none⟩), .int .i64 fr, .agg (msA m a13 a14 a15 a16 c13 c14 c15 c16).toArray] w fun e w' => e = .returned (.tuple #[]) ∧ RpPost O N w w' g vt vc va fm ls c := by
 obtain ⟨wa, HA, hb, hx⟩ := msA_new m a13 a14 a15 a16 c13 c14 c15 c16 48 w
 have HH := hid h
 obtain ⟨gt, hgt⟩ := h.tr.isptr
 subst hgt
 obtain ⟨z, ez⟩ : ∃ z, z = atZ 0 ls m.ep := ⟨_, rfl⟩
 obtain ⟨L, eL⟩ : ∃ L, L = atM fm ls m.ep := ⟨_, rfl⟩
 have hLl : L.length ≤ 10 := by rw [eL]; exact atM_len fm ls hfm hls m.ep
 have HLl := hid hLl
 have HAt := hid (fun (u : World) (hu : Below w.heap.size w u) => lat_any O _ fm hfm ls hl hls m.ep u (h.keep hu).tr)
 rw [← ez, ← eL, k1] at HAt
 have HHas := hid (fun (u : World) (ad : Option Addr) (cp : Nat) (hI : IntsIn u ad L) => chas_any z ad L.length cp L rfl (by unfold maxLen; omega) fr u hI)
 have HSm := hid (fun (u : World) => dsame_any m.rq c.op hrb hob u)
 have HWd := hid (fun (u : World) (hu : Below w.heap.size w u) => khasWord_any (h.keep hu) (by unfold maxLen; omega) m.ep fr)
 have HRt := hid (fun (u : World) => dresultText_any m.rs.1 m.rs.2 hrf u)
 have H0 : Hid (BxAt wa.drew w.heap.size (msA m a13 a14 a15 a16 c13 c14 c15 c16) 48 ∧ BxAt wa.drew g (clC c (.pointer (some ⟨gt, 0, none⟩)) vc va) 94) := hid ⟨hx, h.blk.keep hb.drew⟩
 have HB := hid hb
 have HBd := hid (And.intro hcm hac)
 have HLe := hid eL
 unfold msA
 simp only [msA] at HA
 replace HA := hid HA
 rw [eL, k2, ← eL] at HHas
 rw [k3] at HSm
 clear k2 k3
 clear h hb hx hfm hl hls hcm hac hob hrb hrf ez eL hLl
 go_enter Tryz.func49, Tryz.ntmps49
 go_upto_region 1 with fail
 rw [HA.out]
 refine wp_region_G (S := fun ww => BxAt ww w.heap.size (msA m a13 a14 a15 a16 c13 c14 c15 c16) 48 ∧ BxAt ww g (clC c (.pointer (some ⟨gt, 0, none⟩)) vc va) 94) (ex := []) (by kernel_rfl) ?_
 try (change wpAnyG _ _ _ _ _ _ _ _ _ (World.drew _))
 refine wpAnyG_take (i := 0) (v := ?v1) rfl (by kernel_rfl) (fun _ _ _ h => h) (Or.inl ⟨by rfl, ?hy1⟩) H0.out ?rest1
 case hy1 => (intro ww _; go_simp; try with_reducible rfl)
 go_simp
 refine wpAnyG_take (i := 1) (v := ?v2) rfl (by kernel_rfl) (fun _ _ _ h => h) (Or.inl ⟨by rfl, ?hy2⟩) H0.out ?rest2
 case hy2 => (intro ww _; go_simp; try with_reducible rfl)
 go_simp
 refine wpAnyG_take (i := 2) (v := ?v3) rfl (by kernel_rfl) (fun _ _ _ h => h) (Or.inl ⟨by rfl, ?hy3⟩) H0.out ?rest3
 case hy3 => (intro ww _; go_simp; try with_reducible rfl)
 go_simp
 refine wpAnyG_take (i := 3) (v := ?v4) rfl (by kernel_rfl) (fun _ _ _ h => h) (Or.inl ⟨by rfl, ?hy4⟩) H0.out ?rest4
 case hy4 => (intro ww hS; obtain ⟨hS1, hS2⟩ := hS; have y1 := hS2.cell 1 _ rfl; have x1 := hS1.cell 1 _ rfl; go_simp; try with_reducible rfl)
 go_simp
 refine wpAnyG_take (i := 4) (v := ?v5) rfl (by kernel_rfl) (fun _ _ _ h => h) (Or.inl ⟨by rfl, ?hy5⟩) H0.out ?rest5
 case hy5 => (intro ww _; go_simp; try with_reducible rfl)
 go_simp
 refine wpAnyG_take (i := 5) (v := ?v6) rfl (by kernel_rfl) (fun _ _ _ h => h) (Or.inl ⟨by rfl, ?hy6⟩) H0.out ?rest6
 case hy6 => (intro ww hS; obtain ⟨hS1, hS2⟩ := hS; have y1 := hS2.cell 1 _ rfl; have x1 := hS1.cell 1 _ rfl; go_simp; try with_reducible rfl)
 go_simp
 refine wpAnyG_all (rs := [6, 10]) (by kernel_rfl) (by simp) ?_
 intro i hi
 rcases List.mem_cons.1 hi with rfl | hi
 · refine wpOp_c rfl (by rfl) (fun K hK => ?_)
   go_simp
   refine (HAt.out _ HB.out.drew).mono ?_
   rintro e w2 ⟨ad, cp, rfl, hn, hb⟩
   have H2 : Hid (BxAt w2 w.heap.size (msA m a13 a14 a15 a16 c13 c14 c15 c16) 48 ∧ BxAt w2 g (clC c (.pointer (some ⟨gt, 0, none⟩)) vc va) 94) := hid ⟨H0.out.1.keep hb, H0.out.2.keep hb⟩
   have HB2 := hid (HB.out.drew.trans (hb.mono HB.out.size))
   have HI2 := hid hn.ints
   clear hn hb
   refine hK _ _ ⟨fun _ => H2.out, ?_⟩
   clear hK K
   go_simp
   refine wpAnyG_take (i := 7) (v := ?v7) rfl (by kernel_rfl) (fun _ _ _ h => h) (Or.inl ⟨by rfl, ?hy7⟩) H2.out ?rest7
   case hy7 => (intro ww _; go_simp; try with_reducible rfl)
   go_simp
   refine wpAnyG_take (i := 8) (v := ?v8) rfl (by kernel_rfl) (fun _ _ _ h => h) (Or.inl ⟨by rfl, ?hy8⟩) H2.out ?rest8
   case hy8 => (intro ww _; go_simp; try with_reducible rfl)
   go_simp
   refine wpAnyG_take (i := 9) (v := ?v9) rfl (by kernel_rfl) (fun _ _ _ h => h) (Or.inl ⟨by rfl, ?hy9⟩) H2.out ?rest9
   case hy9 => (intro ww _; go_simp; try with_reducible rfl)
   go_simp
   refine wpAnyG_all (rs := [10]) (by kernel_rfl) (by simp) ?_
   intro i hi
   obtain rfl := List.mem_singleton.1 hi
   clear hi
   refine wpOp_c rfl (by rfl) (fun K hK => ?_)
   go_simp
   have hb3 : Below w2.heap.size w2 (w2.alloc (.cells #[.int .i64 0, .slice none 0 0] 24)) := (Below.refl _ _).alloc (Nat.le_refl _) _
   have H3 : Hid (BxAt (w2.alloc (.cells #[.int .i64 0, .slice none 0 0] 24)) w.heap.size (msA m a13 a14 a15 a16 c13 c14 c15 c16) 48 ∧ BxAt (w2.alloc (.cells #[.int .i64 0, .slice none 0 0] 24)) g (clC c (.pointer (some ⟨gt, 0, none⟩)) vc va) 94) := hid ⟨H2.out.1.keep hb3, H2.out.2.keep hb3⟩
   clear hb3
   refine hK _ _ ⟨fun _ => H3.out, ?_⟩
   clear hK K
   go_simp
   refine wpAnyG_all (rs := [11]) (by kernel_rfl) (by simp) ?_
   intro i hi
   obtain rfl := List.mem_singleton.1 hi
   clear hi
   refine wpOp_c rfl (by rfl) (fun K hK => ?_)
   refine owp_store_blk 24 _ _ rfl w2.heap.size 0 (by rfl) #[.int .i64 z, .slice ad L.length cp] (by rfl) [.int .i64 0, .slice none 0 0] 24 (heap_alloc_last w2 _) (by simp) (by kernel_rfl) (by simp [Value.oneCell']) ?_
   intro w4 Hz
   have hb4 : Below w2.heap.size w2 w4 := Hz.out.2.below ((Below.refl _ _).alloc (Nat.le_refl _) _) (Nat.le_refl _)
   have HC4 : Hid (BxAt w4 w2.heap.size [.int .i64 z, .slice ad L.length cp] 24) := hid Hz.out.1
   have H4 : Hid (BxAt w4 w.heap.size (msA m a13 a14 a15 a16 c13 c14 c15 c16) 48 ∧ BxAt w4 g (clC c (.pointer (some ⟨gt, 0, none⟩)) vc va) 94) := hid ⟨H2.out.1.keep hb4, H2.out.2.keep hb4⟩
   have HB4 := hid (HB2.out.trans (hb4.mono HB2.out.size))
   have HI4 := hid (HI2.out.keep hb4 (Nat.le_refl _))
   clear Hz hb4
   refine hK _ _ ⟨fun _ => H4.out, ?_⟩
   clear hK K
   go_simp
   refine wpAnyG_take (i := 12) (v := ?v10) rfl (by kernel_rfl) (fun _ _ _ h => h) (Or.inl ⟨by rfl, ?hy10⟩) H4.out ?rest10
   case hy10 => (intro ww _; go_simp; try with_reducible rfl)
   go_simp
   refine wpAnyG_done (by kernel_rfl) ?_ _
   go_simp
   go_wp2_with fail
   have p0 := BxAt.cls H4.out.1 4 (.int .i64 m.rq.c) rfl
   have p1 := BxAt.cls H4.out.1 5 (.int .i64 m.rq.st) rfl
   have p2 := BxAt.cls H4.out.1 6 (.int .i64 m.rq.k) rfl
   have p3 := BxAt.cls H4.out.1 7 (.string m.rq.key) rfl
   have p4 := BxAt.cls H4.out.1 8 (.float .f64 m.rq.b) rfl
   have p5 := BxAt.cls H4.out.1 9 (.int .i64 m.rq.id) rfl
   have q0 := BxAt.cls H4.out.2 3 (.int .i64 c.op.c) rfl
   have q1 := BxAt.cls H4.out.2 4 (.int .i64 c.op.st) rfl
   have q2 := BxAt.cls H4.out.2 5 (.int .i64 c.op.k) rfl
   have q3 := BxAt.cls H4.out.2 6 (.string c.op.key) rfl
   have q4 := BxAt.cls H4.out.2 7 (.float .f64 c.op.b) rfl
   have q5 := BxAt.cls H4.out.2 8 (.int .i64 c.op.id) rfl
   have p9 := BxAt.cls H4.out.1 1 (.int .i64 m.ep) rfl
   have r0 := BxAt.cls HC4.out 0 (.int .i64 z) rfl
   have r1 := BxAt.cls HC4.out 1 (.slice ad L.length cp) rfl
   have T2 := hid (fun (u : World) (hu : Below w4.heap.size w4 u) => HHas.out u ad cp (HI4.out.keep hu (Nat.le_refl _)))
   have T4 := hid (fun (u : World) (hu : Below w4.heap.size w4 u) => HWd.out u (HB4.out.trans (hu.mono HB4.out.size)))
   haveI := Cls.ne w4
   refine wp_region_cls w4 (by kernel_rfl) (by kernel_rfl) ?_
   repeat (go_big_quiet_step ((first
     | (go_at_call 88; exact Cls.of _ (fun u hu => T2.out u hu))
     | (go_at_call 89; exact Cls.of _ (fun u hu => HSm.out u))
     | (go_at_call 90; exact Cls.of _ (fun u hu => T4.out u hu)))))
   refine wpQuiet_nil ?_
   rintro _ ⟨x, rfl⟩
   go_wp2
   refine bodyPost_ret (results_none rfl _ _ _) rfl ?_
   exact ⟨rfl, RpPost.same HH.out (HB4.out.trans (x.2.mono HB4.out.size))⟩
 · obtain rfl := List.mem_singleton.1 hi
   clear hi
   refine wpOp_c rfl (by rfl) (fun K hK => ?_)
   go_simp
   obtain ⟨w1, e1⟩ : ∃ w1, w1 = (wa.alloc (.cells #[.int .i64 0, .slice none 0 0] 24)).drew := ⟨_, rfl⟩
   have hb1 : Below wa.heap.size wa w1 := by rw [e1]; exact ((Below.refl _ _).alloc (Nat.le_refl _) _).drew
   have HC1 : Hid (BxAt w1 wa.heap.size [.int .i64 0, .slice none 0 0] 24) := hid (by rw [e1]; exact heap_alloc_last wa _)
   have H1 : Hid (BxAt w1 w.heap.size (msA m a13 a14 a15 a16 c13 c14 c15 c16) 48 ∧ BxAt w1 g (clC c (.pointer (some ⟨gt, 0, none⟩)) vc va) 94) := hid ⟨(show BxAt wa w.heap.size (msA m a13 a14 a15 a16 c13 c14 c15 c16) 48 from H0.out.1).keep hb1, (show BxAt wa g (clC c (.pointer (some ⟨gt, 0, none⟩)) vc va) 94 from H0.out.2).keep hb1⟩
   have HB1 := hid (HB.out.trans (hb1.mono HB.out.size))
   rw [← e1]
   clear e1 hb1
   refine hK _ _ ⟨fun _ => H1.out, ?_⟩
   clear hK K
   go_simp
   refine wpAnyG_all (rs := [6]) (by kernel_rfl) (by simp) ?_
   intro i hi
   obtain rfl := List.mem_singleton.1 hi
   clear hi
   refine wpOp_c rfl (by rfl) (fun K hK => ?_)
   go_simp
   refine (HAt.out _ HB1.out).mono ?_
   rintro e w2 ⟨ad, cp, rfl, hn, hb⟩
   have H2 : Hid (BxAt w2 w.heap.size (msA m a13 a14 a15 a16 c13 c14 c15 c16) 48 ∧ BxAt w2 g (clC c (.pointer (some ⟨gt, 0, none⟩)) vc va) 94) := hid ⟨H1.out.1.keep hb, H1.out.2.keep hb⟩
   have HC2 := hid (HC1.out.keep hb)
   have HB2 := hid (HB1.out.trans (hb.mono HB1.out.size))
   have HI2 := hid hn.ints
   have HFar := hid (fun x hx => (hn.far x hx))
   clear hn hb
   refine hK _ _ ⟨fun _ => H2.out, ?_⟩
   clear hK K
   go_simp
   refine wpAnyG_take (i := 7) (v := ?v11) rfl (by kernel_rfl) (fun _ _ _ h => h) (Or.inl ⟨by rfl, ?hy11⟩) H2.out ?rest11
   case hy11 => (intro ww _; go_simp; try with_reducible rfl)
   go_simp
   refine wpAnyG_take (i := 8) (v := ?v12) rfl (by kernel_rfl) (fun _ _ _ h => h) (Or.inl ⟨by rfl, ?hy12⟩) H2.out ?rest12
   case hy12 => (intro ww _; go_simp; try with_reducible rfl)
   go_simp
   refine wpAnyG_take (i := 9) (v := ?v13) rfl (by kernel_rfl) (fun _ _ _ h => h) (Or.inl ⟨by rfl, ?hy13⟩) H2.out ?rest13
   case hy13 => (intro ww _; go_simp; try with_reducible rfl)
   go_simp
   refine wpAnyG_all (rs := [11]) (by kernel_rfl) (by simp) ?_
   intro i hi
   obtain rfl := List.mem_singleton.1 hi
   clear hi
   refine wpOp_c rfl (by rfl) (fun K hK => ?_)
   refine owp_store_blk 24 _ _ rfl wa.heap.size 0 (by rfl) #[.int .i64 z, .slice ad L.length cp] (by rfl) [.int .i64 0, .slice none 0 0] 24 HC2.out (by simp) (by kernel_rfl) (by simp [Value.oneCell']) ?_
   intro w4 Hz
   have HC4 : Hid (BxAt w4 wa.heap.size [.int .i64 z, .slice ad L.length cp] 24) := hid Hz.out.1
   have hlm : w.heap.size < wa.heap.size := lt_of_blk H0.out.1
   have hgm : g < w.heap.size := lt_of_blk HH.out.blk
   have H4 : Hid (BxAt w4 w.heap.size (msA m a13 a14 a15 a16 c13 c14 c15 c16) 48 ∧ BxAt w4 g (clC c (.pointer (some ⟨gt, 0, none⟩)) vc va) 94) := hid ⟨(Hz.out.2.block _ (by omega)).trans H2.out.1, (Hz.out.2.block _ (by omega)).trans H2.out.2⟩
   have HB4 := hid (Hz.out.2.below HB2.out (by omega))
   have HI4 := hid (ints_one HI2.out Hz.out.2 (fun x hx => by have := (HFar.out x hx).1; have := lt_of_blk HC1.out; omega))
   clear Hz
   refine hK _ _ ⟨fun _ => H4.out, ?_⟩
   clear hK K
   go_simp
   refine wpAnyG_take (i := 12) (v := ?v14) rfl (by kernel_rfl) (fun _ _ _ h => h) (Or.inl ⟨by rfl, ?hy14⟩) H4.out ?rest14
   case hy14 => (intro ww _; go_simp; try with_reducible rfl)
   go_simp
   refine wpAnyG_done (by kernel_rfl) ?_ _
   go_simp
   go_wp2_with fail
   have p0 := BxAt.cls H4.out.1 4 (.int .i64 m.rq.c) rfl
   have p1 := BxAt.cls H4.out.1 5 (.int .i64 m.rq.st) rfl
   have p2 := BxAt.cls H4.out.1 6 (.int .i64 m.rq.k) rfl
   have p3 := BxAt.cls H4.out.1 7 (.string m.rq.key) rfl
   have p4 := BxAt.cls H4.out.1 8 (.float .f64 m.rq.b) rfl
   have p5 := BxAt.cls H4.out.1 9 (.int .i64 m.rq.id) rfl
   have q0 := BxAt.cls H4.out.2 3 (.int .i64 c.op.c) rfl
   have q1 := BxAt.cls H4.out.2 4 (.int .i64 c.op.st) rfl
   have q2 := BxAt.cls H4.out.2 5 (.int .i64 c.op.k) rfl
   have q3 := BxAt.cls H4.out.2 6 (.string c.op.key) rfl
   have q4 := BxAt.cls H4.out.2 7 (.float .f64 c.op.b) rfl
   have q5 := BxAt.cls H4.out.2 8 (.int .i64 c.op.id) rfl
   have p9 := BxAt.cls H4.out.1 1 (.int .i64 m.ep) rfl
   have r0 := BxAt.cls HC4.out 0 (.int .i64 z) rfl
   have r1 := BxAt.cls HC4.out 1 (.slice ad L.length cp) rfl
   have T2 := hid (fun (u : World) (hu : Below w4.heap.size w4 u) => HHas.out u ad cp (HI4.out.keep hu (Nat.le_refl _)))
   have T4 := hid (fun (u : World) (hu : Below w4.heap.size w4 u) => HWd.out u (HB4.out.trans (hu.mono HB4.out.size)))
   haveI := Cls.ne w4
   refine wp_region_cls w4 (by kernel_rfl) (by kernel_rfl) ?_
   repeat (go_big_quiet_step ((first
     | (go_at_call 88; exact Cls.of _ (fun u hu => T2.out u hu))
     | (go_at_call 89; exact Cls.of _ (fun u hu => HSm.out u))
     | (go_at_call 90; exact Cls.of _ (fun u hu => T4.out u hu)))))
   refine wpQuiet_nil ?_
   rintro _ ⟨x, rfl⟩
   go_wp2
   refine bodyPost_ret (results_none rfl _ _ _) rfl ?_
   exact ⟨rfl, RpPost.same HH.out (HB4.out.trans (x.2.mono HB4.out.size))⟩
set_option maxHeartbeats 6400000 in
theorem kreply_n4 (h : ClM O N w g vt vc va fm ls c) (hfm : fm.length ≤ 10) (hl : ls.length ≤ 900) (hls : ∀ k, k ∈ ls → k.2.1.length ≤ 10) (hcm : (c.cm.length + 1) * 32 ≤ 140737488355328) (hac : (c.ac.length + 1) * 72 ≤ 140737488355328) (hob : c.op.b < 18446744073709551616) (m : Ms) (a13 a14 a15 a16 : Option Addr) (c13 c14 c15 c16 : Nat) (fr : Int) (hrb : m.rq.b < 18446744073709551616) (hrf : m.rs.2 < 18446744073709551616) (k1 : atB ls m.ep = true) (k2 : hasM (atM fm ls m.ep) fr = true) (k3 : sameB m.rq c.op = true) (k4 : hasW c.cm m.ep fr = true) :
   Calls Tryz.prog 49 #[.pointer (some ⟨g, 0, none⟩), .int .i64 fr, .agg (msA m a13 a14 a15 a16 c13 c14 c15 c16).toArray] w fun e w' => e = .returned (.tuple #[]) ∧ RpPost O N w w' g vt vc va fm ls c := by
 obtain ⟨wa, HA, hb, hx⟩ := msA_new m a13 a14 a15 a16 c13 c14 c15 c16 48 w
 have HH := hid h
 obtain ⟨gt, hgt⟩ := h.tr.isptr
 subst hgt
 obtain ⟨z, ez⟩ : ∃ z, z = atZ 0 ls m.ep := ⟨_, rfl⟩
 obtain ⟨L, eL⟩ : ∃ L, L = atM fm ls m.ep := ⟨_, rfl⟩
 have hLl : L.length ≤ 10 := by rw [eL]; exact atM_len fm ls hfm hls m.ep
 have HLl := hid hLl
 have HAt := hid (fun (u : World) (hu : Below w.heap.size w u) => lat_any O _ fm hfm ls hl hls m.ep u (h.keep hu).tr)
 rw [← ez, ← eL, k1] at HAt
 have HHas := hid (fun (u : World) (ad : Option Addr) (cp : Nat) (hI : IntsIn u ad L) => chas_any z ad L.length cp L rfl (by unfold maxLen; omega) fr u hI)
 have HSm := hid (fun (u : World) => dsame_any m.rq c.op hrb hob u)
 have HWd := hid (fun (u : World) (hu : Below w.heap.size w u) => khasWord_any (h.keep hu) (by unfold maxLen; omega) m.ep fr)
 have HRt := hid (fun (u : World) => dresultText_any m.rs.1 m.rs.2 hrf u)
 have H0 : Hid (BxAt wa.drew w.heap.size (msA m a13 a14 a15 a16 c13 c14 c15 c16) 48 ∧ BxAt wa.drew g (clC c (.pointer (some ⟨gt, 0, none⟩)) vc va) 94) := hid ⟨hx, h.blk.keep hb.drew⟩
 have HB := hid hb
 have HBd := hid (And.intro hcm hac)
 have HLe := hid eL
 unfold msA
 simp only [msA] at HA
 replace HA := hid HA
 rw [eL, k2, ← eL] at HHas
 rw [k3] at HSm
 rw [k4] at HWd
 clear k2 k3 k4
 clear h hb hx hfm hl hls hcm hac hob hrb hrf ez eL hLl
 go_enter Tryz.func49, Tryz.ntmps49
 go_upto_region 1 with fail
 rw [HA.out]
 refine wp_region_G (S := fun ww => BxAt ww w.heap.size (msA m a13 a14 a15 a16 c13 c14 c15 c16) 48 ∧ BxAt ww g (clC c (.pointer (some ⟨gt, 0, none⟩)) vc va) 94) (ex := []) (by kernel_rfl) ?_
 try (change wpAnyG _ _ _ _ _ _ _ _ _ (World.drew _))
 refine wpAnyG_take (i := 0) (v := ?v1) rfl (by kernel_rfl) (fun _ _ _ h => h) (Or.inl ⟨by rfl, ?hy1⟩) H0.out ?rest1
 case hy1 => (intro ww _; go_simp; try with_reducible rfl)
 go_simp
 refine wpAnyG_take (i := 1) (v := ?v2) rfl (by kernel_rfl) (fun _ _ _ h => h) (Or.inl ⟨by rfl, ?hy2⟩) H0.out ?rest2
 case hy2 => (intro ww _; go_simp; try with_reducible rfl)
 go_simp
 refine wpAnyG_take (i := 2) (v := ?v3) rfl (by kernel_rfl) (fun _ _ _ h => h) (Or.inl ⟨by rfl, ?hy3⟩) H0.out ?rest3
 case hy3 => (intro ww _; go_simp; try with_reducible rfl)
 go_simp
 refine wpAnyG_take (i := 3) (v := ?v4) rfl (by kernel_rfl) (fun _ _ _ h => h) (Or.inl ⟨by rfl, ?hy4⟩) H0.out ?rest4
 case hy4 => (intro ww hS; obtain ⟨hS1, hS2⟩ := hS; have y1 := hS2.cell 1 _ rfl; have x1 := hS1.cell 1 _ rfl; go_simp; try with_reducible rfl)
 go_simp
 refine wpAnyG_take (i := 4) (v := ?v5) rfl (by kernel_rfl) (fun _ _ _ h => h) (Or.inl ⟨by rfl, ?hy5⟩) H0.out ?rest5
 case hy5 => (intro ww _; go_simp; try with_reducible rfl)
 go_simp
 refine wpAnyG_take (i := 5) (v := ?v6) rfl (by kernel_rfl) (fun _ _ _ h => h) (Or.inl ⟨by rfl, ?hy6⟩) H0.out ?rest6
 case hy6 => (intro ww hS; obtain ⟨hS1, hS2⟩ := hS; have y1 := hS2.cell 1 _ rfl; have x1 := hS1.cell 1 _ rfl; go_simp; try with_reducible rfl)
 go_simp
 refine wpAnyG_all (rs := [6, 10]) (by kernel_rfl) (by simp) ?_
 intro i hi
 rcases List.mem_cons.1 hi with rfl | hi
 · refine wpOp_c rfl (by rfl) (fun K hK => ?_)
   go_simp
   refine (HAt.out _ HB.out.drew).mono ?_
   rintro e w2 ⟨ad, cp, rfl, hn, hb⟩
   have H2 : Hid (BxAt w2 w.heap.size (msA m a13 a14 a15 a16 c13 c14 c15 c16) 48 ∧ BxAt w2 g (clC c (.pointer (some ⟨gt, 0, none⟩)) vc va) 94) := hid ⟨H0.out.1.keep hb, H0.out.2.keep hb⟩
   have HB2 := hid (HB.out.drew.trans (hb.mono HB.out.size))
   have HI2 := hid hn.ints
   clear hn hb
   refine hK _ _ ⟨fun _ => H2.out, ?_⟩
   clear hK K
   go_simp
   refine wpAnyG_take (i := 7) (v := ?v7) rfl (by kernel_rfl) (fun _ _ _ h => h) (Or.inl ⟨by rfl, ?hy7⟩) H2.out ?rest7
   case hy7 => (intro ww _; go_simp; try with_reducible rfl)
   go_simp
   refine wpAnyG_take (i := 8) (v := ?v8) rfl (by kernel_rfl) (fun _ _ _ h => h) (Or.inl ⟨by rfl, ?hy8⟩) H2.out ?rest8
   case hy8 => (intro ww _; go_simp; try with_reducible rfl)
   go_simp
   refine wpAnyG_take (i := 9) (v := ?v9) rfl (by kernel_rfl) (fun _ _ _ h => h) (Or.inl ⟨by rfl, ?hy9⟩) H2.out ?rest9
   case hy9 => (intro ww _; go_simp; try with_reducible rfl)
   go_simp
   refine wpAnyG_all (rs := [10]) (by kernel_rfl) (by simp) ?_
   intro i hi
   obtain rfl := List.mem_singleton.1 hi
   clear hi
   refine wpOp_c rfl (by rfl) (fun K hK => ?_)
   go_simp
   have hb3 : Below w2.heap.size w2 (w2.alloc (.cells #[.int .i64 0, .slice none 0 0] 24)) := (Below.refl _ _).alloc (Nat.le_refl _) _
   have H3 : Hid (BxAt (w2.alloc (.cells #[.int .i64 0, .slice none 0 0] 24)) w.heap.size (msA m a13 a14 a15 a16 c13 c14 c15 c16) 48 ∧ BxAt (w2.alloc (.cells #[.int .i64 0, .slice none 0 0] 24)) g (clC c (.pointer (some ⟨gt, 0, none⟩)) vc va) 94) := hid ⟨H2.out.1.keep hb3, H2.out.2.keep hb3⟩
   clear hb3
   refine hK _ _ ⟨fun _ => H3.out, ?_⟩
   clear hK K
   go_simp
   refine wpAnyG_all (rs := [11]) (by kernel_rfl) (by simp) ?_
   intro i hi
   obtain rfl := List.mem_singleton.1 hi
   clear hi
   refine wpOp_c rfl (by rfl) (fun K hK => ?_)
   refine owp_store_blk 24 _ _ rfl w2.heap.size 0 (by rfl) #[.int .i64 z, .slice ad L.length cp] (by rfl) [.int .i64 0, .slice none 0 0] 24 (heap_alloc_last w2 _) (by simp) (by kernel_rfl) (by simp [Value.oneCell']) ?_
   intro w4 Hz
   have hb4 : Below w2.heap.size w2 w4 := Hz.out.2.below ((Below.refl _ _).alloc (Nat.le_refl _) _) (Nat.le_refl _)
   have HC4 : Hid (BxAt w4 w2.heap.size [.int .i64 z, .slice ad L.length cp] 24) := hid Hz.out.1
   have H4 : Hid (BxAt w4 w.heap.size (msA m a13 a14 a15 a16 c13 c14 c15 c16) 48 ∧ BxAt w4 g (clC c (.pointer (some ⟨gt, 0, none⟩)) vc va) 94) := hid ⟨H2.out.1.keep hb4, H2.out.2.keep hb4⟩
   have HB4 := hid (HB2.out.trans (hb4.mono HB2.out.size))
   have HI4 := hid (HI2.out.keep hb4 (Nat.le_refl _))
   clear Hz hb4
   refine hK _ _ ⟨fun _ => H4.out, ?_⟩
   clear hK K
   go_simp
   refine wpAnyG_take (i := 12) (v := ?v10) rfl (by kernel_rfl) (fun _ _ _ h => h) (Or.inl ⟨by rfl, ?hy10⟩) H4.out ?rest10
   case hy10 => (intro ww _; go_simp; try with_reducible rfl)
   go_simp
   refine wpAnyG_done (by kernel_rfl) ?_ _
   go_simp
   go_wp2_with fail
   have p0 := BxAt.cls H4.out.1 4 (.int .i64 m.rq.c) rfl
   have p1 := BxAt.cls H4.out.1 5 (.int .i64 m.rq.st) rfl
   have p2 := BxAt.cls H4.out.1 6 (.int .i64 m.rq.k) rfl
   have p3 := BxAt.cls H4.out.1 7 (.string m.rq.key) rfl
   have p4 := BxAt.cls H4.out.1 8 (.float .f64 m.rq.b) rfl
   have p5 := BxAt.cls H4.out.1 9 (.int .i64 m.rq.id) rfl
   have q0 := BxAt.cls H4.out.2 3 (.int .i64 c.op.c) rfl
   have q1 := BxAt.cls H4.out.2 4 (.int .i64 c.op.st) rfl
   have q2 := BxAt.cls H4.out.2 5 (.int .i64 c.op.k) rfl
   have q3 := BxAt.cls H4.out.2 6 (.string c.op.key) rfl
   have q4 := BxAt.cls H4.out.2 7 (.float .f64 c.op.b) rfl
   have q5 := BxAt.cls H4.out.2 8 (.int .i64 c.op.id) rfl
   have p9 := BxAt.cls H4.out.1 1 (.int .i64 m.ep) rfl
   have r0 := BxAt.cls HC4.out 0 (.int .i64 z) rfl
   have r1 := BxAt.cls HC4.out 1 (.slice ad L.length cp) rfl
   have T2 := hid (fun (u : World) (hu : Below w4.heap.size w4 u) => HHas.out u ad cp (HI4.out.keep hu (Nat.le_refl _)))
   have T4 := hid (fun (u : World) (hu : Below w4.heap.size w4 u) => HWd.out u (HB4.out.trans (hu.mono HB4.out.size)))
   haveI := Cls.ne w4
   refine wp_region_cls w4 (by kernel_rfl) (by kernel_rfl) ?_
   repeat (go_big_quiet_step ((first
     | (go_at_call 88; exact Cls.of _ (fun u hu => T2.out u hu))
     | (go_at_call 89; exact Cls.of _ (fun u hu => HSm.out u))
     | (go_at_call 90; exact Cls.of _ (fun u hu => T4.out u hu)))))
   refine wpQuiet_nil ?_
   rintro _ ⟨x, rfl⟩
   go_wp2
   refine bodyPost_ret (results_none rfl _ _ _) rfl ?_
   exact ⟨rfl, RpPost.same HH.out (HB4.out.trans (x.2.mono HB4.out.size))⟩
 · obtain rfl := List.mem_singleton.1 hi
   clear hi
   refine wpOp_c rfl (by rfl) (fun K hK => ?_)
   go_simp
   obtain ⟨w1, e1⟩ : ∃ w1, w1 = (wa.alloc (.cells #[.int .i64 0, .slice none 0 0] 24)).drew := ⟨_, rfl⟩
   have hb1 : Below wa.heap.size wa w1 := by rw [e1]; exact ((Below.refl _ _).alloc (Nat.le_refl _) _).drew
   have HC1 : Hid (BxAt w1 wa.heap.size [.int .i64 0, .slice none 0 0] 24) := hid (by rw [e1]; exact heap_alloc_last wa _)
   have H1 : Hid (BxAt w1 w.heap.size (msA m a13 a14 a15 a16 c13 c14 c15 c16) 48 ∧ BxAt w1 g (clC c (.pointer (some ⟨gt, 0, none⟩)) vc va) 94) := hid ⟨(show BxAt wa w.heap.size (msA m a13 a14 a15 a16 c13 c14 c15 c16) 48 from H0.out.1).keep hb1, (show BxAt wa g (clC c (.pointer (some ⟨gt, 0, none⟩)) vc va) 94 from H0.out.2).keep hb1⟩
   have HB1 := hid (HB.out.trans (hb1.mono HB.out.size))
   rw [← e1]
   clear e1 hb1
   refine hK _ _ ⟨fun _ => H1.out, ?_⟩
   clear hK K
   go_simp
   refine wpAnyG_all (rs := [6]) (by kernel_rfl) (by simp) ?_
   intro i hi
   obtain rfl := List.mem_singleton.1 hi
   clear hi
   refine wpOp_c rfl (by rfl) (fun K hK => ?_)
   go_simp
   refine (HAt.out _ HB1.out).mono ?_
   rintro e w2 ⟨ad, cp, rfl, hn, hb⟩
   have H2 : Hid (BxAt w2 w.heap.size (msA m a13 a14 a15 a16 c13 c14 c15 c16) 48 ∧ BxAt w2 g (clC c (.pointer (some ⟨gt, 0, none⟩)) vc va) 94) := hid ⟨H1.out.1.keep hb, H1.out.2.keep hb⟩
   have HC2 := hid (HC1.out.keep hb)
   have HB2 := hid (HB1.out.trans (hb.mono HB1.out.size))
   have HI2 := hid hn.ints
   have HFar := hid (fun x hx => (hn.far x hx))
   clear hn hb
   refine hK _ _ ⟨fun _ => H2.out, ?_⟩
   clear hK K
   go_simp
   refine wpAnyG_take (i := 7) (v := ?v11) rfl (by kernel_rfl) (fun _ _ _ h => h) (Or.inl ⟨by rfl, ?hy11⟩) H2.out ?rest11
   case hy11 => (intro ww _; go_simp; try with_reducible rfl)
   go_simp
   refine wpAnyG_take (i := 8) (v := ?v12) rfl (by kernel_rfl) (fun _ _ _ h => h) (Or.inl ⟨by rfl, ?hy12⟩) H2.out ?rest12
   case hy12 => (intro ww _; go_simp; try with_reducible rfl)
   go_simp
   refine wpAnyG_take (i := 9) (v := ?v13) rfl (by kernel_rfl) (fun _ _ _ h => h) (Or.inl ⟨by rfl, ?hy13⟩) H2.out ?rest13
   case hy13 => (intro ww _; go_simp; try with_reducible rfl)
   go_simp
   refine wpAnyG_all (rs := [11]) (by kernel_rfl) (by simp) ?_
   intro i hi
   obtain rfl := List.mem_singleton.1 hi
   clear hi
   refine wpOp_c rfl (by rfl) (fun K hK => ?_)
   refine owp_store_blk 24 _ _ rfl wa.heap.size 0 (by rfl) #[.int .i64 z, .slice ad L.length cp] (by rfl) [.int .i64 0, .slice none 0 0] 24 HC2.out (by simp) (by kernel_rfl) (by simp [Value.oneCell']) ?_
   intro w4 Hz
   have HC4 : Hid (BxAt w4 wa.heap.size [.int .i64 z, .slice ad L.length cp] 24) := hid Hz.out.1
   have hlm : w.heap.size < wa.heap.size := lt_of_blk H0.out.1
   have hgm : g < w.heap.size := lt_of_blk HH.out.blk
   have H4 : Hid (BxAt w4 w.heap.size (msA m a13 a14 a15 a16 c13 c14 c15 c16) 48 ∧ BxAt w4 g (clC c (.pointer (some ⟨gt, 0, none⟩)) vc va) 94) := hid ⟨(Hz.out.2.block _ (by omega)).trans H2.out.1, (Hz.out.2.block _ (by omega)).trans H2.out.2⟩
   have HB4 := hid (Hz.out.2.below HB2.out (by omega))
   have HI4 := hid (ints_one HI2.out Hz.out.2 (fun x hx => by have := (HFar.out x hx).1; have := lt_of_blk HC1.out; omega))
   clear Hz
   refine hK _ _ ⟨fun _ => H4.out, ?_⟩
   clear hK K
   go_simp
   refine wpAnyG_take (i := 12) (v := ?v14) rfl (by kernel_rfl) (fun _ _ _ h => h) (Or.inl ⟨by rfl, ?hy14⟩) H4.out ?rest14
   case hy14 => (intro ww _; go_simp; try with_reducible rfl)
   go_simp
   refine wpAnyG_done (by kernel_rfl) ?_ _
   go_simp
   go_wp2_with fail
   have p0 := BxAt.cls H4.out.1 4 (.int .i64 m.rq.c) rfl
   have p1 := BxAt.cls H4.out.1 5 (.int .i64 m.rq.st) rfl
   have p2 := BxAt.cls H4.out.1 6 (.int .i64 m.rq.k) rfl
   have p3 := BxAt.cls H4.out.1 7 (.string m.rq.key) rfl
   have p4 := BxAt.cls H4.out.1 8 (.float .f64 m.rq.b) rfl
   have p5 := BxAt.cls H4.out.1 9 (.int .i64 m.rq.id) rfl
   have q0 := BxAt.cls H4.out.2 3 (.int .i64 c.op.c) rfl
   have q1 := BxAt.cls H4.out.2 4 (.int .i64 c.op.st) rfl
   have q2 := BxAt.cls H4.out.2 5 (.int .i64 c.op.k) rfl
   have q3 := BxAt.cls H4.out.2 6 (.string c.op.key) rfl
   have q4 := BxAt.cls H4.out.2 7 (.float .f64 c.op.b) rfl
   have q5 := BxAt.cls H4.out.2 8 (.int .i64 c.op.id) rfl
   have p9 := BxAt.cls H4.out.1 1 (.int .i64 m.ep) rfl
   have r0 := BxAt.cls HC4.out 0 (.int .i64 z) rfl
   have r1 := BxAt.cls HC4.out 1 (.slice ad L.length cp) rfl
   have T2 := hid (fun (u : World) (hu : Below w4.heap.size w4 u) => HHas.out u ad cp (HI4.out.keep hu (Nat.le_refl _)))
   have T4 := hid (fun (u : World) (hu : Below w4.heap.size w4 u) => HWd.out u (HB4.out.trans (hu.mono HB4.out.size)))
   haveI := Cls.ne w4
   refine wp_region_cls w4 (by kernel_rfl) (by kernel_rfl) ?_
   repeat (go_big_quiet_step ((first
     | (go_at_call 88; exact Cls.of _ (fun u hu => T2.out u hu))
     | (go_at_call 89; exact Cls.of _ (fun u hu => HSm.out u))
     | (go_at_call 90; exact Cls.of _ (fun u hu => T4.out u hu)))))
   refine wpQuiet_nil ?_
   rintro _ ⟨x, rfl⟩
   go_wp2
   refine bodyPost_ret (results_none rfl _ _ _) rfl ?_
   exact ⟨rfl, RpPost.same HH.out (HB4.out.trans (x.2.mono HB4.out.size))⟩
end
end Go.Proofs.YtoepppkadpjonaaGreat
