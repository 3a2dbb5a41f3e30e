/- Texts laid together: KlN KlO KlP KlQ KlR KlS KlT KNil KlU KlV. -/
import Derived.Test.YtoepppkadpjonaaGreatKlKM
import Derived.Deep.DeepCutAuto
import Derived.Test.YtoepppkadpjonaaGreatNb11
import Derived.Test.YtoepppkadpjonaaGreatKlJM
import Derived.Test.YtoepppkadpjonaaGreatNb6
namespace Go.Proofs.YtoepppkadpjonaaGreat
section
set_option maxRecDepth 100000
open Go.RowKit
def rqM (r : Rq) : Ms := ⟨1, 0, 0, 0, r, (0, 0), ⟨#[]⟩, [], [], [], []⟩
def TlPost (w w' : World) (v : Value) (fr : Int) (L : List Int) (m : Ms) (S : List Sg) : Prop := ∃ b R, v = .slice (some ⟨b, 0, none⟩) L.length L.length ∧ w.heap.size ≤ b ∧ BxAt w' b (R.flatMap pkV) 81 ∧ PkTo w w' fr L m S R L.length
section
variable {O P : Nat → Prop} {N g : Nat} {w : World} {v vt vc va : Value} {fm : List Int} {ls : List Lk} {c : Clt}
set_option maxHeartbeats 6400000 in
theorem kaskAnew_any (h : ClM O N w g vt vc va fm ls c) (hid8 : 1 ≤ c.id ∧ c.id ≤ 8) (hfm : fm.length ≤ 10) (hl : ls.length ≤ 900) (hls : ∀ k, k ∈ ls → k.2.1.length ≤ 10) (hob : c.op.b < 18446744073709551616) :
   Calls Tryz.prog 43 #[.pointer (some ⟨g, 0, none⟩)] w fun e w' => ∃ v, e = .returned v ∧ TlPost w w' v (100 + c.id) (atM fm ls (ls.length : Int)) (rqM c.op) [(100 + c.id, rqT c.op)] ∧ Below w.heap.size w w' := by
 have HT := hid (fun (u : World) => dtext_any c.op hob u)
 have HNo := hid (fun (u : World) (hu : Below w.heap.size w u) => knode_any (h.keep hu).blk hid8)
 have HTl := hid (fun (u : World) (hu : Below w.heap.size w u) (sa : Option Addr) (hS : PairsIn u sa [(100 + c.id, rqT c.op)]) => ktell_any (h.keep hu) hid8 hfm hl hls (rqM c.op) [(100 + c.id, rqT c.op)] sa 1 hS (by show 1 * 24 ≤ 140737488355328; omega))
 generalize atM fm ls (ls.length : Int) = L at HTl ⊢
 have HH := hid h.blk
 generalize rqT c.op = t at HT HTl ⊢
 generalize rqE c.op = E at HT
 obtain ⟨A, eA⟩ : ∃ A, A = rqV0 c.op := ⟨_, rfl⟩
 have HA := hid eA
 unfold rqV0 at eA
 rw [← eA] at HT
 clear h hid8 hfm hl hls hob eA
 go_enter Tryz.func43, Tryz.ntmps43
 go_wp2_with (first
   | (refine wl_ldat rfl 41 _ rfl g 3 rfl _ (clC_op HH.out) _ Tryz.underlying41 rfl (by kernel_rfl) A HA.out ?_)
   | (go_at_call 79; go_must (refine (HT.out _).mono ?_; rintro e w1 ⟨rfl, hb⟩; have H1 := hid (And.intro hb (HH.out.keep hb)); clear hb)))
 have HS : Hid (BxAt w1.drew g (clC c vt vc va) 94) := hid H1.out.2
 refine wp_region_G (S := fun ww => BxAt ww g (clC c vt vc va) 94) (ex := []) (by kernel_rfl) ?_
 try (change wpAnyG _ _ _ _ _ _ _ _ _ (World.drew _))
 refine wpAnyG_take (i := 0) (v := ?v1) rfl (by kernel_rfl) (fun _ _ _ h => h) (Or.inl ⟨by rfl, ?hy1⟩) HS.out ?rest1
 case hy1 => (intro ww _; go_simp; try with_reducible rfl)
 go_simp
 refine wpAnyG_take (i := 1) (v := ?v2) rfl (by kernel_rfl) (fun _ _ _ h => h) (Or.inl ⟨by rfl, ?hy2⟩) HS.out ?rest2
 case hy2 => (intro ww _; go_simp; try with_reducible rfl)
 go_simp
 refine wpAnyG_take (i := 2) (v := ?v3) rfl (by kernel_rfl) (fun _ _ _ h => h) (Or.inl ⟨by rfl, ?hy3⟩) HS.out ?rest3
 case hy3 => (intro ww _; go_simp; try with_reducible rfl)
 go_simp
 refine wpAnyG_take (i := 3) (v := ?v4) rfl (by kernel_rfl) (fun _ _ _ h => h) (Or.inl ⟨by rfl, ?hy4⟩) HS.out ?rest4
 case hy4 => (intro ww _; go_simp; try with_reducible rfl)
 go_simp
 refine wpAnyG_take (i := 4) (v := ?v5) rfl (by kernel_rfl) (fun _ _ _ h => h) (Or.inl ⟨by rfl, ?hy5⟩) HS.out ?rest5
 case hy5 => (intro ww hS; have y3 := hS.cell 3 _ rfl; have y4 := hS.cell 4 _ rfl; have y5 := hS.cell 5 _ rfl; have y6 := hS.cell 6 _ rfl; have y7 := hS.cell 7 _ rfl; have y8 := hS.cell 8 _ rfl; go_simp; try with_reducible rfl)
 go_simp
 refine wpAnyG_take (i := 5) (v := ?v6) rfl (by kernel_rfl) (fun _ _ _ h => h) (Or.inl ⟨by rfl, ?hy6⟩) HS.out ?rest6
 case hy6 => (intro ww _; go_simp; try with_reducible rfl)
 go_simp
 refine wpAnyG_take (i := 6) (v := ?v7) rfl (by kernel_rfl) (fun _ _ _ h => h) (Or.inl ⟨by rfl, ?hy7⟩) HS.out ?rest7
 case hy7 => (intro ww _; go_simp; try with_reducible rfl)
 go_simp
 refine wpAnyG_take (i := 8) (v := ?v8) rfl (by kernel_rfl) (fun _ _ _ h => h) (Or.inl ⟨by rfl, ?hy8⟩) HS.out ?rest8
 case hy8 => (intro ww _; go_simp; try with_reducible rfl)
 go_simp
 refine wpAnyG_all (rs := [7]) (by kernel_rfl) (by simp) ?_
 intro i hi
 obtain rfl := List.mem_singleton.1 hi
 clear hi
 refine wpOp_c rfl (by rfl) (fun K hK => ?_)
 go_simp
 refine (HNo.out _ H1.out.1.drew).mono ?_
 rintro e w2 ⟨rfl, hb⟩
 have H2 := hid (And.intro (H1.out.1.drew.trans (hb.mono H1.out.1.drew.size)) (HS.out.keep hb))
 clear hb
 refine hK _ _ ⟨fun _ => H2.out.2, ?_⟩
 clear hK K
 go_simp
 refine wpAnyG_take (i := 9) (v := ?v9) rfl (by kernel_rfl) (fun _ _ _ h => h) (Or.inl ⟨by rfl, ?hy9⟩) H2.out.2 ?rest9
 case hy9 => (intro ww _; go_simp; try with_reducible rfl)
 go_simp
 refine wpAnyG_all (rs := [10]) (by kernel_rfl) (by simp) ?_
 intro i hi
 obtain rfl := List.mem_singleton.1 hi
 clear hi
 refine wpOp_c rfl (by rfl) (fun K hK => ?_)
 go_simp
 obtain ⟨w3, e3⟩ : ∃ w3, w3 = w2.alloc (.cells #[.int .i64 (100 + c.id), .string t] 139) := ⟨_, rfl⟩
 have hb3 : Below w2.heap.size w2 w3 := by rw [e3]; exact (Below.refl _ _).alloc (Nat.le_refl _) _
 have HP3 : Hid (PairsIn w3 (some ⟨w2.heap.size, 0, none⟩) [(100 + c.id, t)]) := hid (by
   rw [e3]
   refine .inr ⟨w2.heap.size, 0, rfl, by simp, fun j q hq => ?_⟩
   match j, hq with
   | 0, hq => cases hq; exact ⟨cell_at (L := [.int .i64 (100 + c.id), .string t]) (heap_alloc_last w2 _) 0 _ rfl, cell_at (L := [.int .i64 (100 + c.id), .string t]) (heap_alloc_last w2 _) 1 _ rfl⟩
   | j + 1, hq => cases hq)
 have H3 := hid (And.intro (H2.out.1.trans (hb3.mono H2.out.1.size)) (H2.out.2.keep hb3))
 rw [← e3]
 clear e3 hb3
 refine hK _ _ ⟨fun _ => H3.out.2, ?_⟩
 clear hK K
 go_simp
 refine wpAnyG_all (rs := [11]) (by kernel_rfl) (by simp) ?_
 intro i hi
 obtain rfl := List.mem_singleton.1 hi
 clear hi
 refine wpOp_c rfl (by rfl) (fun K hK => ?_)
 go_simp
 refine (HTl.out _ H3.out.1 _ HP3.out).mono ?_
 rintro e w4 ⟨b, R, rfl, h1, h2, h3, h4⟩
 have H4 := hid (And.intro (show TlPost w w4 (.slice (some ⟨b, 0, none⟩) L.length L.length) (100 + c.id) L (rqM c.op) [(100 + c.id, t)] from ⟨b, R, rfl, Nat.le_trans H3.out.1.size h1, h2, h3.low H3.out.1.size⟩) (And.intro (H3.out.1.trans (h4.mono H3.out.1.size)) (H3.out.2.keep h4)))
 clear h1 h2 h3 h4
 refine hK _ _ ⟨fun _ => H4.out.2.2, ?_⟩
 clear hK K
 go_simp
 refine wpAnyG_take (i := 12) (v := ?v10) rfl (by kernel_rfl) (fun _ _ _ h => h) (Or.inl ⟨by rfl, ?hy10⟩) H4.out.2.2 ?rest10
 case hy10 => (intro ww _; go_simp; try with_reducible rfl)
 go_simp
 refine wpAnyG_done (by kernel_rfl) ?_ _
 go_simp
 go_wp2
 go_ret
 exact ⟨_, rfl, H4.out.1, H4.out.2.1⟩
end
end
section
set_option maxRecDepth 100000
open Go.RowKit
section
variable {O P : Nat → Prop} {N g : Nat} {w : World} {v vt vc va : Value} {fm : List Int} {ls : List Lk} {c : Clt}
def AskPost (s1 : Int) (O : Nat → Prop) (N : Nat) (w w' : World) (g : Nat) (vt vc va : Value) (fm : List Int) (ls : List Lk) (c : Clt) (q r : Rq) (e : Ending) : Prop :=
 (rdE (rqT q) ≠ 0 ∧ e = .returned (.tuple #[.slice none 0 0, .int .i64 1]) ∧ Below w.heap.size w w') ∨
 (rdE (rqT q) = 0 ∧ nullB c.op = false ∧ e = .returned (.tuple #[.slice none 0 0, .int .i64 18]) ∧ Below w.heap.size w w') ∨
 (rdE (rqT q) = 0 ∧ nullB c.op = true ∧ ∃ v, e = .returned (.tuple #[v, .int .i64 0]) ∧ TlPost w w' v (100 + c.id) (atM fm ls (ls.length : Int)) (rqM r) [(100 + c.id, rqT r)] ∧ ClM O N w' g vt vc va fm ls { c with st := s1, op := r } ∧ Outs (Cfp O g vc va) w w')
theorem ClM.stamp {w' : World} (h : ClM O N w g vt vc va fm ls c) (s1 : Int) (x : Value) (ex : x = .int .i64 s1) (ho : One g w w') (hb : BxAt w' g ((clC c vt vc va).set 2 x) 94) : ClM O N w' g vt vc va fm ls { c with st := s1 } := by
 subst ex
 exact h.put (c' := { c with st := s1 }) rfl rfl ho hb
theorem ClM.asked {w' : World} (h : ClM O N w g vt vc va fm ls c) (r : Rq) {cs : List Value} (ec : cs = [.int .i64 r.c, .int .i64 r.st, .int .i64 r.k, .string r.key, .float .f64 r.b, .int .i64 r.id]) (ho : One g w w') (hb : BxAt w' g (setAt (clC c vt vc va) 3 cs) 94) : ClM O N w' g vt vc va fm ls { c with op := r } := by
 subst ec
 exact h.put (c' := { c with op := r }) rfl rfl ho hb
set_option maxHeartbeats 6400000 in
theorem kask_any (h : ClM O N w g vt vc va fm ls c) (hid8 : 1 ≤ c.id ∧ c.id ≤ 8) (hfm : fm.length ≤ 10) (hl : ls.length ≤ 900) (hls : ∀ k, k ∈ ls → k.2.1.length ≤ 10) (o q r : Rq) (hob : o.b < 18446744073709551616) (s1 : Int) (es : s1 = (IntKind.i64.wrap (c.st + 1))) (eq : q = ⟨c.id, s1, o.k, o.key, o.b, o.id⟩) (er : r = rdR (rqT q)) (hrb : r.b < 18446744073709551616) :
   Calls Tryz.prog 13 #[.pointer (some ⟨g, 0, none⟩), .agg #[.int .i64 o.k, .string o.key, .float .f64 o.b, .int .i64 o.id]] w fun e w' => AskPost s1 O N w w' g vt vc va fm ls c q r e := by
 unfold AskPost
 have HKp := hid (fun (u : World) (hu : Below w.heap.size w u) => h.keep hu)
 obtain ⟨wa, ea⟩ : ∃ wa, wa = w.alloc (.cells #[.int .i64 o.k, .string o.key, .float .f64 o.b, .int .i64 o.id] 39) := ⟨_, rfl⟩
 have hb : Below w.heap.size w wa := by rw [ea]; exact (Below.refl _ _).alloc (Nat.le_refl _) _
 have hx : OpAt wa w.heap.size o := by rw [ea]; exact heap_alloc_last w _
 obtain ⟨G, eG⟩ : ∃ G, G = (rdE (rqT q) == 0) := ⟨_, rfl⟩
 obtain ⟨B, eB⟩ : ∃ B, B = rqV0 r := ⟨_, rfl⟩
 have HRq : Hid (∀ u : World, Calls Tryz.prog 41 #[.agg #[.int .i64 c.id, .int .i64 (IntKind.i64.wrap (c.st + 1)), .int .i64 o.k, .string o.key, .float .f64 o.b, .int .i64 o.id]] u fun e w' => e = .returned (.tuple #[B, .bool G]) ∧ Below u.heap.size u w') := hid (fun u => by
   rw [eB, eG, er, ← es]; subst eq; exact kownRq_any ⟨c.id, s1, o.k, o.key, o.b, o.id⟩ hob u)
 have HOn := hid (fun (u : World) (hu : Below w.heap.size w u) => kisOpen_any (h.keep hu).blk)
 have HAs := hid (fun (u : World) (hu : ClM O N u g vt vc va fm ls { c with st := s1, op := r }) => kaskAnew_any hu hid8 hfm hl hls hrb)
 have HG := hid eG
 obtain ⟨L, eL⟩ : ∃ L, L = atM fm ls (ls.length : Int) := ⟨_, rfl⟩
 rw [← eL] at HAs ⊢
 obtain ⟨E, eE⟩ : ∃ E, E = rdE (rqT q) := ⟨_, rfl⟩
 rw [← eE] at HG ⊢
 have H0 : Hid (OpAt wa.drew w.heap.size o ∧ BxAt wa.drew g (clC c vt vc va) 94) := hid ⟨hx, h.blk.keep hb.drew⟩
 have HSt := hid (es.trans (IntWalk.i64_left (c.st + 1)))
 have HB := hid hb
 have HA := hid ea.symm
 have HH := hid h
 have hgs : Hid (g < w.heap.size) := hid (lt_of_blk h.blk)
 unfold rqV0 at eB
 have HBg := hid eB
 clear h hb hx hfm hl hls ea hid8 eq er hrb hob eG eB eL eE es
 go_enter Tryz.func13, Tryz.ntmps13
 go_upto_region 1 with fail
 rw [HA.out]
 go_upto_region 3 with fail
 go_cut [6, 7] (fun v6 v7 wx => ∃ bq, v6 = .pointer (some ⟨bq, 0, none⟩) ∧ v7 = .bool G ∧ Below w.heap.size w wx ∧ w.heap.size ≤ bq ∧ RqAt wx bq r)
 case first =>
   refine wp_region_G (S := fun ww => OpAt ww w.heap.size o ∧ BxAt ww g (clC c vt vc va) 94) (ex := []) (by kernel_rfl) ?_
   try (change wpAnyG _ _ _ _ _ _ _ _ _ (World.drew _))
   refine wpAnyG_take (i := 0) (v := ?v1) rfl (by kernel_rfl) (fun _ _ _ h => h) (Or.inl ⟨by rfl, ?hy1⟩) H0.out ?rest1
   case hy1 => (intro ww _; go_simp; try with_reducible rfl)
   go_simp
   refine wpAnyG_take (i := 1) (v := ?v2) rfl (by kernel_rfl) (fun _ _ _ h => h) (Or.inl ⟨by rfl, ?hy2⟩) H0.out ?rest2
   case hy2 => (intro ww _; go_simp; try with_reducible rfl)
   go_simp
   refine wpAnyG_take (i := 2) (v := ?v3) rfl (by kernel_rfl) (fun _ _ _ h => h) (Or.inl ⟨by rfl, ?hy3⟩) H0.out ?rest3
   case hy3 => (intro ww _; go_simp; try with_reducible rfl)
   go_simp
   refine wpAnyG_take (i := 3) (v := ?v4) rfl (by kernel_rfl) (fun _ _ _ h => h) (Or.inl ⟨by rfl, ?hy4⟩) H0.out ?rest4
   case hy4 => (intro ww hS; obtain ⟨hS1, hS2⟩ := hS; have y1 := hS2.cell 0 _ rfl; have y2 := hS2.cell 2 _ rfl; go_simp; try with_reducible rfl)
   go_simp
   refine wpAnyG_take (i := 4) (v := ?v5) rfl (by kernel_rfl) (fun _ _ _ h => h) (Or.inl ⟨by rfl, ?hy5⟩) H0.out ?rest5
   case hy5 => (intro ww _; go_simp; try with_reducible rfl)
   go_simp
   refine wpAnyG_take (i := 5) (v := ?v6) rfl (by kernel_rfl) (fun _ _ _ h => h) (Or.inl ⟨by rfl, ?hy6⟩) H0.out ?rest6
   case hy6 => (intro ww _; go_simp; try with_reducible rfl)
   go_simp
   refine wpAnyG_take (i := 6) (v := ?v7) rfl (by kernel_rfl) (fun _ _ _ h => h) (Or.inl ⟨by rfl, ?hy7⟩) H0.out ?rest7
   case hy7 => (intro ww _; go_simp; try with_reducible rfl)
   go_simp
   refine wpAnyG_take (i := 7) (v := ?v8) rfl (by kernel_rfl) (fun _ _ _ h => h) (Or.inl ⟨by rfl, ?hy8⟩) H0.out ?rest8
   case hy8 => (intro ww hS; obtain ⟨hS1, hS2⟩ := hS; have y1 := hS2.cell 0 _ rfl; have y2 := hS2.cell 2 _ rfl; go_simp; try with_reducible rfl)
   go_simp
   refine wpAnyG_take (i := 8) (v := ?v9) rfl (by kernel_rfl) (fun _ _ _ h => h) (Or.inl ⟨by rfl, ?hy9⟩) H0.out ?rest9
   case hy9 => (intro ww _; go_simp; try with_reducible rfl)
   go_simp
   refine wpAnyG_take (i := 9) (v := ?v10) rfl (by kernel_rfl) (fun _ _ _ h => h) (Or.inl ⟨by rfl, ?hy10⟩) H0.out ?rest10
   case hy10 => (intro ww hS; obtain ⟨hS1, hS2⟩ := hS; have y1 := hS1.cells.1; have y2 := hS1.cells.2.1; have y3 := hS1.cells.2.2.1; have y4 := hS1.cells.2.2.2; go_simp; try with_reducible rfl)
   go_simp
   refine wpAnyG_take (i := 10) (v := ?v11) rfl (by kernel_rfl) (fun _ _ _ h => h) (Or.inl ⟨by rfl, ?hy11⟩) H0.out ?rest11
   case hy11 => (intro ww _; go_simp; try with_reducible rfl)
   go_simp
   refine wpAnyG_all (rs := [11, 15]) (by kernel_rfl) (by simp) ?_
   intro i hi
   rcases List.mem_cons.1 hi with rfl | hi
   · refine wpOp_c rfl (by rfl) (fun K hK => ?_)
     go_simp
     refine (HRq.out _).mono ?_
     rintro e w1 ⟨rfl, hb⟩
     have HB1 := hid (HB.out.drew.trans (hb.mono HB.out.drew.size))
     have H1 : Hid (OpAt w1 w.heap.size o ∧ BxAt w1 g (clC c vt vc va) 94) := hid ⟨BxAt.keep (w := wa.drew) H0.out.1 hb, H0.out.2.keep hb⟩
     clear hb
     refine hK _ _ ⟨fun _ => H1.out, ?_⟩
     clear hK K
     go_simp
     refine wpAnyG_take (i := 12) (v := ?v12) rfl (by kernel_rfl) (fun _ _ _ h => h) (Or.inl ⟨by rfl, ?hy12⟩) H1.out ?rest12
     case hy12 => (intro ww _; go_simp; try with_reducible rfl)
     go_simp
     refine wpAnyG_take (i := 13) (v := ?v13) rfl (by kernel_rfl) (fun _ _ _ h => h) (Or.inl ⟨by rfl, ?hy13⟩) H1.out ?rest13
     case hy13 => (intro ww _; go_simp; try with_reducible rfl)
     go_simp
     refine wpAnyG_take (i := 14) (v := ?v14) rfl (by kernel_rfl) (fun _ _ _ h => h) (Or.inl ⟨by rfl, ?hy14⟩) H1.out ?rest14
     case hy14 => (intro ww _; go_simp; try with_reducible rfl)
     go_simp
     refine wpAnyG_all (rs := [15]) (by kernel_rfl) (by simp) ?_
     intro i hi
     obtain rfl := List.mem_singleton.1 hi
     clear hi
     refine wpOp_c rfl (by rfl) (fun K hK => ?_)
     go_simp
     obtain ⟨w2, e1⟩ : ∃ w2, w2 = w1.alloc (.cells #[.int .i64 0, .int .i64 0, .int .i64 0, .string ⟨#[]⟩, .float .f64 0, .int .i64 0] 41) := ⟨_, rfl⟩
     have hb1 : Below w1.heap.size w1 w2 := by rw [e1]; exact (Below.refl _ _).alloc (Nat.le_refl _) _
     have HC2 : Hid (RqAt w2 w1.heap.size zeroQ) := hid (by rw [e1]; exact heap_alloc_last w1 _)
     have H2 : Hid (OpAt w2 w.heap.size o ∧ BxAt w2 g (clC c vt vc va) 94) := hid ⟨BxAt.keep (w := w1) H1.out.1 hb1, BxAt.keep (w := w1) H1.out.2 hb1⟩
     have HB2 := hid (HB1.out.trans (hb1.mono HB1.out.size))
     rw [← e1]
     clear e1 hb1
     refine hK _ _ ⟨fun _ => H2.out, ?_⟩
     clear hK K
     go_simp
     refine wpAnyG_all (rs := [16]) (by kernel_rfl) (by simp) ?_
     intro i hi
     obtain rfl := List.mem_singleton.1 hi
     clear hi
     refine wpOp_c rfl (by rfl) (fun K hK => ?_)
     refine owp_store_blk 41 _ _ rfl w1.heap.size 0 (by rfl) #[.int .i64 r.c, .int .i64 r.st, .int .i64 r.k, .string r.key, .float .f64 r.b, .int .i64 r.id] HBg.out [.int .i64 0, .int .i64 0, .int .i64 0, .string ⟨#[]⟩, .float .f64 0, .int .i64 0] 41 HC2.out (by simp) (by kernel_rfl) (by simp [Value.oneCell']) ?_
     intro w9 Hz
     have hlm : w.heap.size < w1.heap.size := lt_of_blk H1.out.1
     have hgm := hgs.out
     have HC9 : Hid (RqAt w9 w1.heap.size r) := hid Hz.out.1
     have H9 : Hid (OpAt w9 w.heap.size o ∧ BxAt w9 g (clC c vt vc va) 94) := hid ⟨(Hz.out.2.block _ (by omega)).trans H2.out.1, (Hz.out.2.block _ (by omega)).trans H2.out.2⟩
     have HB9 := hid (Hz.out.2.below HB2.out (by omega))
     clear Hz
     refine hK _ _ ⟨fun _ => H9.out, ?_⟩
     clear hK K
     go_simp
     refine wpAnyG_take (i := 17) (v := ?v15) rfl (by kernel_rfl) (fun _ _ _ h => h) (Or.inl ⟨by rfl, ?hy15⟩) H9.out ?rest15
     case hy15 => (intro ww _; go_simp; try with_reducible rfl)
     go_simp
     refine wpAnyG_done (by kernel_rfl) ?_ _
     go_simp
     go_wp2_with fail
     go_meet
     exact ⟨w1.heap.size, rfl, rfl, HB9.out, by omega, HC9.out⟩
   · obtain rfl := List.mem_singleton.1 hi
     clear hi
     refine wpOp_c rfl (by rfl) (fun K hK => ?_)
     go_simp
     obtain ⟨w1, e1⟩ : ∃ w1, w1 = (wa.alloc (.cells #[.int .i64 0, .int .i64 0, .int .i64 0, .string ⟨#[]⟩, .float .f64 0, .int .i64 0] 41)).drew := ⟨_, rfl⟩
     have hb1 : Below wa.heap.size wa w1 := by rw [e1]; exact ((Below.refl _ _).alloc (Nat.le_refl _) _).drew
     have HC1 : Hid (RqAt w1 wa.heap.size zeroQ) := hid (by rw [e1]; exact heap_alloc_last wa _)
     have H1 : Hid (OpAt w1 w.heap.size o ∧ BxAt w1 g (clC c vt vc va) 94) := hid ⟨BxAt.keep (w := wa) H0.out.1 hb1, BxAt.keep (w := wa) H0.out.2 hb1⟩
     have HB1 := hid (HB.out.trans (hb1.mono HB.out.size))
     rw [← e1]
     clear e1 hb1
     refine hK _ _ ⟨fun _ => H1.out, ?_⟩
     clear hK K
     go_simp
     refine wpAnyG_all (rs := [11]) (by kernel_rfl) (by simp) ?_
     intro i hi
     obtain rfl := List.mem_singleton.1 hi
     clear hi
     refine wpOp_c rfl (by rfl) (fun K hK => ?_)
     go_simp
     refine (HRq.out _).mono ?_
     rintro e w2 ⟨rfl, hb⟩
     have HB2 := hid (HB1.out.trans (hb.mono HB1.out.size))
     have H2 : Hid (OpAt w2 w.heap.size o ∧ BxAt w2 g (clC c vt vc va) 94) := hid ⟨BxAt.keep (w := w1) H1.out.1 hb, H1.out.2.keep hb⟩
     have HC2 : Hid (RqAt w2 wa.heap.size zeroQ) := hid (BxAt.keep (w := w1) HC1.out hb)
     clear hb
     refine hK _ _ ⟨fun _ => H2.out, ?_⟩
     clear hK K
     go_simp
     refine wpAnyG_take (i := 12) (v := ?v16) rfl (by kernel_rfl) (fun _ _ _ h => h) (Or.inl ⟨by rfl, ?hy16⟩) H2.out ?rest16
     case hy16 => (intro ww _; go_simp; try with_reducible rfl)
     go_simp
     refine wpAnyG_take (i := 13) (v := ?v17) rfl (by kernel_rfl) (fun _ _ _ h => h) (Or.inl ⟨by rfl, ?hy17⟩) H2.out ?rest17
     case hy17 => (intro ww _; go_simp; try with_reducible rfl)
     go_simp
     refine wpAnyG_take (i := 14) (v := ?v18) rfl (by kernel_rfl) (fun _ _ _ h => h) (Or.inl ⟨by rfl, ?hy18⟩) H2.out ?rest18
     case hy18 => (intro ww _; go_simp; try with_reducible rfl)
     go_simp
     refine wpAnyG_all (rs := [16]) (by kernel_rfl) (by simp) ?_
     intro i hi
     obtain rfl := List.mem_singleton.1 hi
     clear hi
     refine wpOp_c rfl (by rfl) (fun K hK => ?_)
     refine owp_store_blk 41 _ _ rfl wa.heap.size 0 (by rfl) #[.int .i64 r.c, .int .i64 r.st, .int .i64 r.k, .string r.key, .float .f64 r.b, .int .i64 r.id] HBg.out [.int .i64 0, .int .i64 0, .int .i64 0, .string ⟨#[]⟩, .float .f64 0, .int .i64 0] 41 HC2.out (by simp) (by kernel_rfl) (by simp [Value.oneCell']) ?_
     intro w9 Hz
     have hlm : w.heap.size < wa.heap.size := lt_of_blk H0.out.1
     have hgm := hgs.out
     have HC9 : Hid (RqAt w9 wa.heap.size r) := hid Hz.out.1
     have H9 : Hid (OpAt w9 w.heap.size o ∧ BxAt w9 g (clC c vt vc va) 94) := hid ⟨(Hz.out.2.block _ (by omega)).trans H2.out.1, (Hz.out.2.block _ (by omega)).trans H2.out.2⟩
     have HB9 := hid (Hz.out.2.below HB2.out (by omega))
     clear Hz
     refine hK _ _ ⟨fun _ => H9.out, ?_⟩
     clear hK K
     go_simp
     refine wpAnyG_take (i := 17) (v := ?v19) rfl (by kernel_rfl) (fun _ _ _ h => h) (Or.inl ⟨by rfl, ?hy19⟩) H9.out ?rest19
     case hy19 => (intro ww _; go_simp; try with_reducible rfl)
     go_simp
     refine wpAnyG_done (by kernel_rfl) ?_ _
     go_simp
     go_wp2_with fail
     go_meet
     exact ⟨wa.heap.size, rfl, rfl, HB9.out, by omega, HC9.out⟩
 case rest =>
   obtain ⟨bq, rfl, rfl, h1, h2, h3⟩ := hcut
   have HW := hid (And.intro h1 (And.intro h2 h3))
   clear h1 h2 h3
   cases G with
   | false =>
     have hE : E ≠ 0 := by have := HG.out; intro e0; rw [e0] at this; cases this
     have HE := hid hE
     clear hE
     go_wp2
     go_ret2
     exact .inl ⟨HE.out, rfl, HW.out.1⟩
   | true =>
     have hE : E = 0 := by have := HG.out; exact eq_of_beq this.symm
     have HE := hid hE
     clear hE
     cases hn : nullB c.op with
     | false =>
       rw [hn] at HOn
       have HN := hid hn
       clear hn
       go_wp2_with (go_at_call 42; go_must (refine (HOn.out _ HW.out.1).mono ?_; rintro e w1 ⟨rfl, hb⟩; have H1 := hid (HW.out.1.trans (hb.mono HW.out.1.size)); clear hb))
       go_ret2
       exact .inr (.inl ⟨HE.out, HN.out, rfl, H1.out⟩)
     | true =>
       rw [hn] at HOn
       have HN := hid hn
       clear hn
       go_wp2_with (first
         | (go_at_call 43; go_must (refine (HAs.out _ HC3.out.1).mono ?_; rintro e w4 ⟨v4, rfl, h1, h2⟩; have H4 := hid (And.intro h1 h2); clear h1 h2))
         | (have := HC2; refine wl_store_blk rfl 41 _ _ rfl g 3 rfl #[.int .i64 r.c, .int .i64 r.st, .int .i64 r.k, .string r.key, .float .f64 r.b, .int .i64 r.id] HBg.out _ 94 HC2.out.1.blk (by simp [clC]) (by kernel_rfl) (by simp [Value.oneCell']) ?_; go_must (intro w3 Hz; have HC3 := hid (And.intro (HC2.out.1.asked r rfl Hz.out.2 Hz.out.1) (HC2.out.2.1.one Hz.out.2 (.inl rfl))); clear Hz))
         | (have := HC2; refine wl_ldat rfl 41 _ rfl bq 0 rfl [.int .i64 r.c, .int .i64 r.st, .int .i64 r.k, .string r.key, .float .f64 r.b, .int .i64 r.id] (fun j v hv => by rw [Nat.zero_add]; exact cell_at HC2.out.2.2 j v hv) _ Tryz.underlying41 rfl (by kernel_rfl) B HBg.out ?_)
         | (refine wl_store1 rfl 3 _ _ rfl g 2 rfl (.int .i64 (wrap64 (c.st + 1))) rfl rfl rfl _ 94 HC1.out.1.blk (by simp [clC]) (by kernel_rfl) ?_; go_must (intro w2 Hz; have hne : bq ≠ g := (by have := HW.out.2.1; have := hgs.out; omega); have HC2 := hid (And.intro (HC1.out.1.stamp s1 _ (by rw [HSt.out]) Hz.out.2 Hz.out.1) (And.intro (HC1.out.2.1.one Hz.out.2 (.inl rfl)) (show RqAt w2 bq r from (Hz.out.2.block _ hne).trans HC1.out.2.2))); clear Hz hne y2))
         | (go_at_call 42; go_must (refine (HOn.out _ HW.out.1).mono ?_; rintro e w1 ⟨rfl, hb⟩; have h1 := HW.out.1.trans (hb.mono HW.out.1.size); have HC1 : Hid (ClM O N w1 g vt vc va fm ls c ∧ Outs (Cfp O g vc va) w w1 ∧ RqAt w1 bq r) := hid ⟨HKp.out _ h1, Outs.of h1, (hb.block _ (lt_of_blk HW.out.2.2)).trans HW.out.2.2⟩; have y2 := HC1.out.1.blk.cell 2 _ rfl; clear hb h1)))
       go_ret2
       refine .inr (.inr ⟨HE.out, HN.out, _, rfl, ?_, HC3.out.1.keep H4.out.2, ?_⟩)
       · obtain ⟨b, R, rfl, k1, k2, k3⟩ := H4.out.1
         exact ⟨b, R, rfl, Nat.le_trans HC3.out.2.size k1, k2, k3.low HC3.out.2.size⟩
       · exact HC3.out.2.trans (Outs.of (O := fun _ => False) H4.out.2) (fun _ _ hf => hf.elim)
end
end
section
set_option maxRecDepth 100000
open Go.RowKit
def fetE (e : Int) : Ms := ⟨9, e, 0, 0, zeroQ, (0, 0), ⟨#[]⟩, [], [], [], []⟩
def PkRow (w : World) (v : Value) (R : List Pk) : Prop := ∃ ad cap, v = .slice ad R.length cap ∧ ∀ (j : Nat) (u : Value), (R.flatMap pkV)[j]? = some u → ∃ x, ad = some x ∧ w.cell? (x.add j) = some u
theorem pkV_len (x : Pk) : (pkV x).length = 19 := rfl
theorem own_pk {w : World} {B : Nat} {v : Value} {R : List Pk} {n : Nat} (h : w.ownsRow B 81 19 v n (R.flatMap pkV)) (hn : n = R.length) : PkRow w v R := by
 subst hn
 rcases h.2 with ⟨hv, h0⟩ | ⟨g, cap, cur, hv, hB, hh, hr⟩
 · have hR : R = [] := List.eq_nil_of_length_eq_zero h0
   subst hR
   exact ⟨none, 0, hv, fun j u hu => by cases hu⟩
 · subst hv
   exact ⟨_, cap, rfl, fun j u hu => ⟨_, rfl, h.cells (g := g) rfl j u hu⟩⟩
theorem rd_smallK (t : ByteArray) : (rdR t).b < 18446744073709551616 := by
 rw [rdR]
 split
 · decide
 · split
   · rename_i h; exact (told_back h).2.2
   · decide
def PkIs (fr : Int) (L : List Int) (m : Ms) (n : Nat) (R : List Pk) : Prop := R.length = L.length ∧ ∀ i, i < L.length → ∃ a k, R[i]? = some (fr, L.getD i 0, m, .slice a n k)
theorem PkTo.is {w0 w : World} {fr : Int} {L : List Int} {m : Ms} {S : List Sg} {R : List Pk} (h : PkTo w0 w fr L m S R L.length) : PkIs fr L m S.length R := ⟨h.1, fun i hi => by
 obtain ⟨a, k, h1, _⟩ := h.2 i hi
 exact ⟨a, k, h1⟩⟩
theorem PkIs.one {fr : Int} {L : List Int} {m : Ms} {n : Nat} {R : List Pk} (h : PkIs fr L m n R) : ∀ u ∈ R.flatMap pkV, u.oneCell' = true := by
 intro u hu
 obtain ⟨x, hx, hux⟩ := List.mem_flatMap.1 hu
 obtain ⟨i, hi⟩ := List.mem_iff_getElem?.1 hx
 obtain ⟨a, k, h1⟩ := h.2 i (by rw [← h.1]; exact (List.getElem?_eq_some_iff.1 hi).1)
 rw [hi] at h1
 cases h1
 simp [pkV, msC] at hux
 rcases hux with rfl | rfl | rfl | rfl | rfl | rfl | rfl | rfl | rfl | rfl | rfl | rfl | rfl | rfl | rfl | rfl | rfl | rfl | rfl <;> rfl
theorem own_full {w : World} {B b n : Nat} {R : List Pk} (h : BxAt w b (R.flatMap pkV) 81) (hb : B ≤ b) (hn : R.length = n) (hm : n ≤ 10) : w.ownsRow B 81 19 (.slice (some ⟨b, 0, none⟩) n n) n (R.flatMap pkV) := by
 have hl : (R.flatMap pkV).length = n * 19 := by rw [row_len (f := pkV) pkV_len, hn]
 exact ⟨hl, .inr ⟨b, n, _, rfl, hb, h, Nat.le_refl _, by unfold maxLen; omega, by simpa using hl, by show List.take (n * 19) (R.flatMap pkV) = _; rw [← hl, List.take_length]⟩⟩
def TickPost (w w' : World) (fr : Int) (L : List Int) (op : Rq) (ep : Int) (e : Ending) : Prop :=
 ∃ v R1 R2, e = .returned v ∧ PkRow w' v (R1 ++ R2) ∧ (nullB op = true → R1 = []) ∧ (nullB op = false → PkIs fr L (rqM op) 1 R1) ∧ PkIs fr L (fetE ep) 0 R2 ∧ Below w.heap.size w w'
section
variable {O P : Nat → Prop} {N g : Nat} {w : World} {v vt vc va : Value} {fm : List Int} {ls : List Lk} {c : Clt}
theorem ktick_no (g : Nat) (w : World) (now : Int) (hn : now.tmod 4 ≠ 0) : Calls Tryz.prog 19 #[.pointer (some ⟨g, 0, none⟩), .int .i64 now] w fun e w' => e = .returned (.slice none 0 0) ∧ Below w.heap.size w w' := by
 have q1 : (now.tmod 4 != 0) = true := by simpa using hn
 have q2 : (now.tmod 4 == 0) = false := by simpa using hn
 clear hn
 go_enter Tryz.func19, Tryz.ntmps19
 go_wp2
 go_ret
 exact ⟨rfl, Below.refl _ _⟩
theorem ktick_nil (now : Int) (w : World) : Calls Tryz.prog 19 #[.pointer none, .int .i64 now] w fun e w' => e = .returned (.slice none 0 0) ∧ Below w.heap.size w w' := by
 go_enter Tryz.func19, Tryz.ntmps19
 go_wp2
 go_ret
 exact ⟨rfl, Below.refl _ _⟩
set_option maxHeartbeats 6400000 in
theorem ktick_any (h : ClM O N w g vt vc va fm ls c) (hid8 : 1 ≤ c.id ∧ c.id ≤ 8) (hfm : fm.length ≤ 10) (hl : ls.length ≤ 900) (hls : ∀ k, k ∈ ls → k.2.1.length ≤ 10) (hob : c.op.b < 18446744073709551616) (now : Int) (hn : now.tmod 4 = 0) :
   Calls Tryz.prog 19 #[.pointer (some ⟨g, 0, none⟩), .int .i64 now] w fun e w' => TickPost w w' (100 + c.id) (atM fm ls (ls.length : Int)) c.op (ls.length : Int) e := by
 have HO := hid (fun (u : World) (hu : Below w.heap.size w u) => kisOpen_any (h.keep hu).blk)
 have HE := hid (fun (u : World) (hu : Below w.heap.size w u) => kepoch_any (h.keep hu) hl)
 have HA := hid (fun (u : World) (hu : Below w.heap.size w u) => kaskAnew_any (h.keep hu) hid8 hfm hl hls hob)
 have HT := hid (fun (u : World) (hu : Below w.heap.size w u) => ktell_any (h.keep hu) hid8 hfm hl hls (fetE (ls.length : Int)) [] none 0 (.inl rfl) (by show 0 * 24 ≤ 140737488355328; omega))
 have hLl : (atM fm ls (ls.length : Int)).length ≤ 10 := atM_len fm ls hfm hls _
 generalize atM fm ls (ls.length : Int) = L at HA HT hLl ⊢
 have HLl := hid hLl
 obtain ⟨i0, hi0, hz0, hz1, hz2⟩ := info_parts infoPk
 obtain ⟨Af, eA⟩ : ∃ Af, Af = Value.agg (msC (fetE (ls.length : Int)) (.slice none 0 0) (.slice none 0 0) (.slice none 0 0) (.slice none 0 0)).toArray := ⟨_, rfl⟩
 rw [← eA] at HT
 simp only [msC, fetE, zeroQ] at eA
 have HAf := hid eA
 clear h hid8 hfm hl hls hob hLl eA
 cases hp : nullB c.op with
 | true =>
   rw [hp] at HO
   have HP := hid hp
   clear hp
   go_enter Tryz.func19, Tryz.ntmps19
   go_wp2_with (first
     | (at_builtin; refine wpList_append_own _ rfl _ _ 52 rfl w.heap.size 81 i0 _ 19 232 undPk hi0 hz0 hz1 hz2 rfl (by decide) (.slice none 0 0) 0 [] rfl ⟨rfl, .inl ⟨rfl, rfl⟩⟩ ⟨b, 0, none⟩ L.length L.length (R.flatMap pkV) rfl ?qc1 ?qc2 ?qc3 ?qc4 ?qc5 ?qc6 ?_)
     | (go_at_call 54; go_must ((try rw [← HAf.out]); refine (HT.out _ H2.out).mono ?_; rintro e w3 ⟨b, R, rfl, hb, hx, hp, hb3⟩; have H3 := hid (And.intro hb (And.intro hx (And.intro hp hb3))); clear hb hx hp hb3))
     | (go_at_call 30; go_must (refine (HE.out _ H1.out).mono ?_; rintro e w2 ⟨rfl, hb⟩; have H2 := hid (H1.out.trans (hb.mono H1.out.size)); clear hb))
     | (go_at_call 42; go_must (refine (HO.out _ (Below.refl _ _)).mono ?_; rintro e w1 ⟨rfl, hb⟩; have H1 := hid hb; clear hb)))
   case qc1 => rw [row_len (f := pkV) pkV_len, H3.out.2.2.1.1]
   case qc2 =>
     intro j u hj
     rw [Addr.add_lit, Nat.zero_add]
     exact cell_at H3.out.2.1 j u hj
   case qc3 => exact H3.out.2.2.1.is.one
   case qc4 => have := HLl.out; unfold maxLen; omega
   case qc5 => have := HLl.out; omega
   case qc6 => have := H2.out.size; have := H3.out.2.2.2.size; omega
   intro v' w4 hown hgrow hnil
   have hr3 := H2.out.trans (H3.out.2.2.2.mono H2.out.size)
   have hb4 : Below w.heap.size w w4 := hr3.grown hgrow (by have := H2.out.size; have := H3.out.2.2.2.size; omega) (by intro k hk; cases hk)
   have hrow : PkRow w4 v' ([] ++ R) := own_pk (n := 0 + L.length) (by simpa using hown) (by simp [H3.out.2.2.1.1])
   have HF := hid (And.intro hb4 hrow)
   clear hown hgrow hnil hb4 hrow hr3
   go_wp2
   go_ret
   exact ⟨_, [], R, rfl, HF.out.2, (fun _ => rfl), (fun h => by rw [HP.out] at h; cases h), H3.out.2.2.1.is, HF.out.1⟩
 | false =>
   rw [hp] at HO
   have HP := hid hp
   clear hp
   go_enter Tryz.func19, Tryz.ntmps19
   go_wp2_with (first
     | (at_builtin; refine wpList_append_own _ rfl _ _ 52 rfl w.heap.size 81 i0 _ 19 232 undPk hi0 hz0 hz1 hz2 rfl (by decide) (.slice (some ⟨b1, 0, none⟩) L.length L.length) L.length (R1.flatMap pkV) rfl (own_full (HX2.out.keep H3.out.2.2.2) HK.out.1 HK.out.2.2.1 HLl.out) ⟨b, 0, none⟩ L.length L.length (R.flatMap pkV) rfl ?qc1 ?qc2 ?qc3 ?qc4 ?qc5 ?qc6 ?_)
     | (go_at_call 54; go_must ((try rw [← HAf.out]); refine (HT.out _ H2.out).mono ?_; rintro e w3 ⟨b, R, rfl, hb, hx, hp, hb3⟩; have H3 := hid (And.intro hb (And.intro hx (And.intro hp hb3))); clear hb hx hp hb3))
     | (go_at_call 30; go_must (refine (HE.out _ HK.out.2.1).mono ?_; rintro e w2 ⟨rfl, hb⟩; have H2 := hid (HK.out.2.1.trans (hb.mono HK.out.2.1.size)); have HX2 := hid (HX1.out.keep hb); clear hb))
     | (go_at_call 43; go_must (refine (HA.out _ H1.out).mono ?_; rintro e wk ⟨_, rfl, ⟨b1, R1, rfl, hb1, hx1, hp1⟩, hbk⟩; have HX1 := hid hx1; have HK := hid (And.intro (Nat.le_trans H1.out.size hb1) (And.intro (H1.out.trans (hbk.mono H1.out.size)) hp1.is)); clear hx1 hb1 hp1 hbk))
     | (go_at_call 42; go_must (refine (HO.out _ (Below.refl _ _)).mono ?_; rintro e w1 ⟨rfl, hb⟩; have H1 := hid hb; clear hb)))
   case qc1 => rw [row_len (f := pkV) pkV_len, H3.out.2.2.1.1]
   case qc2 =>
     intro j u hj
     rw [Addr.add_lit, Nat.zero_add]
     exact cell_at H3.out.2.1 j u hj
   case qc3 => exact H3.out.2.2.1.is.one
   case qc4 => have := HLl.out; unfold maxLen; omega
   case qc5 => have := HLl.out; omega
   case qc6 => have := H2.out.size; have := H3.out.2.2.2.size; omega
   intro v' w4 hown hgrow hnil
   have hr3 := H2.out.trans (H3.out.2.2.2.mono H2.out.size)
   have hb4 : Below w.heap.size w w4 := hr3.grown hgrow (by have := H2.out.size; have := H3.out.2.2.2.size; omega) (by intro k hk; cases hk; exact HK.out.1)
   have hrow : PkRow w4 v' (R1 ++ R) := own_pk (n := L.length + L.length) (by rw [List.flatMap_append]; exact hown) (by simp [H3.out.2.2.1.1, HK.out.2.2.1])
   have HF := hid (And.intro hb4 hrow)
   clear hown hgrow hnil hb4 hrow hr3
   go_wp2
   go_ret
   exact ⟨_, R1, R, rfl, HF.out.2, (fun h => by rw [HP.out] at h; cases h), (fun _ => HK.out.2.2), H3.out.2.2.1.is, HF.out.1⟩
end
end
section
set_option maxRecDepth 100000
open Go.RowKit
theorem kask_nil (o : Rq) (w : World) : Calls Tryz.prog 13 #[.pointer none, .agg #[.int .i64 o.k, .string o.key, .float .f64 o.b, .int .i64 o.id]] w fun e w' => e = .returned (.tuple #[.slice none 0 0, .int .i64 1]) ∧ Below w.heap.size w w' := by
 have hb : Below w.heap.size w (w.alloc (.cells #[.int .i64 o.k, .string o.key, .float .f64 o.b, .int .i64 o.id] 39)) := (Below.refl _ _).alloc (Nat.le_refl _) _
 have HB := hid hb
 clear hb
 go_enter Tryz.func13, Tryz.ntmps13
 go_wp2
 go_ret2
 exact ⟨rfl, HB.out⟩
set_option maxHeartbeats 1600000 in
theorem khandle_nil (now fr : Int) (m : Ms) (a13 a14 a15 a16 : Option Addr) (c13 c14 c15 c16 : Nat) (w : World) : Calls Tryz.prog 17 #[.pointer none, .int .i64 now, .int .i64 fr, .agg (msA m a13 a14 a15 a16 c13 c14 c15 c16).toArray] w fun e w' => e = .returned (.slice none 0 0) ∧ Below w.heap.size w w' := by
 obtain ⟨wa, HA, hb, _⟩ := msA_new m a13 a14 a15 a16 c13 c14 c15 c16 48 w
 have HB := hid hb
 clear hb
 unfold msA
 simp only [msA] at HA
 replace HA := hid HA
 go_enter Tryz.func17, Tryz.ntmps17
 try simp only [List.append]
 go_upto_region 1 with fail
 rw [HA.out]
 go_wp2
 go_ret
 exact ⟨rfl, HB.out⟩
theorem kepoch_nil (w : World) : Calls Tryz.prog 30 #[.pointer none] w fun e w' => e = .returned (.int .i64 0) ∧ Below w.heap.size w w' := by
 go_enter Tryz.func30, Tryz.ntmps30
 go_wp2
 go_ret
 exact ⟨rfl, Below.refl _ _⟩
theorem kchain_nil (w : World) : Calls Tryz.prog 27 #[.pointer none] w fun e w' => e = .returned (.slice none 0 0) ∧ Below w.heap.size w w' := by
 go_enter Tryz.func27, Tryz.ntmps27
 go_wp2
 go_ret
 exact ⟨rfl, Below.refl _ _⟩
theorem kaccepted_nil (w : World) : Calls Tryz.prog 23 #[.pointer none] w fun e w' => e = .returned (.slice none 0 0) ∧ Below w.heap.size w w' := by
 go_enter Tryz.func23, Tryz.ntmps23
 go_wp2
 go_ret
 exact ⟨rfl, Below.refl _ _⟩
theorem kresults_nil (w : World) : Calls Tryz.prog 25 #[.pointer none] w fun e w' => e = .returned (.slice none 0 0) ∧ Below w.heap.size w w' := by
 go_enter Tryz.func25, Tryz.ntmps25
 go_wp2
 go_ret
 exact ⟨rfl, Below.refl _ _⟩
set_option maxHeartbeats 1600000 in
theorem kopen_nil (w : World) : Calls Tryz.prog 22 #[.pointer none] w fun e w' => e = .returned (.tuple #[rqV0 zeroQ, .bool false]) ∧ Below w.heap.size w w' := by
 have hb0 : Below w.heap.size w (w.alloc (.cells #[.int .i64 0, .int .i64 0, .int .i64 0, .string ⟨#[]⟩, .float .f64 0, .int .i64 0] 41)) := (Below.refl _ _).alloc (Nat.le_refl _) _
 have H0 : Hid (RqAt (w.alloc (.cells #[.int .i64 0, .int .i64 0, .int .i64 0, .string ⟨#[]⟩, .float .f64 0, .int .i64 0] 41)) w.heap.size zeroQ ∧ Below w.heap.size w (w.alloc (.cells #[.int .i64 0, .int .i64 0, .int .i64 0, .string ⟨#[]⟩, .float .f64 0, .int .i64 0] 41))) := hid ⟨heap_alloc_last w _, hb0⟩
 clear hb0
 go_enter Tryz.func22, Tryz.ntmps22
 go_wp2_with (refine wl_store_rq rfl _ _ rfl w.heap.size rfl zeroQ zeroQ rfl H0.out.1 ?_; intro w2 Hz)
 refine ret_pair (s := 2) (s2 := 3) (ad := ⟨w.heap.size, 0, none⟩) rfl rfl (load_rq _ _ zeroQ Hz.out.1) rfl rfl ?_
 exact ⟨rfl, Hz.out.2.below H0.out.2 (Nat.le_refl _)⟩
end
section
open Go.RowKit
structure ClOk (fm : List Int) (ls : List Lk) (c : Clt) : Prop where
 id8 : 1 ≤ c.id ∧ c.id ≤ 8
 rc : rightC 0 fm = true
 ch : chainE 0 fm [] ls = 0
 ob : c.op.b < 18446744073709551616
 oz : nullB c.op = true → c.op = zeroQ
theorem ClOk.l10 {fm : List Int} {ls : List Lk} {c : Clt} (h : ClOk fm ls c) : fm.length ≤ 10 ∧ ls.length ≤ 900 ∧ (∀ k, k ∈ ls → k.2.1.length ≤ 10) ∧ ∀ k, k ∈ ls → k.2.1.length ≤ 10 ∧ k.2.2.length ≤ 16 := by
 have hg := good_of h.ch
 have := hg.len
 exact ⟨(mem_len (rightC_ep h.rc).2).2, by omega, fun k hk => (hg.small k hk).1, hg.small⟩
def ClPost (N : Nat) (P : Nat → Prop) (w w' : World) (v : Value) (fm : List Int) (ls : List Lk) (c : Clt) : Prop := ∃ P', ClAt N P' w' v fm ls c ∧ Outs P w w' ∧ ∀ k, P' k → P k ∨ w.heap.size ≤ k
theorem Outs.wide {O O' : Nat → Prop} {w w' : World} (h : Outs O w w') (hO : ∀ k, O k → O' k) : Outs O' w w' := ⟨h.os, h.tape, h.output, h.size, fun k hk hn => h.block k hk (fun hq => hn (hO k hq))⟩
def askQ (c : Clt) (o : Rq) : Rq := ⟨c.id, IntKind.i64.wrap (c.st + 1), o.k, o.key, o.b, o.id⟩
def askZ (c : Clt) (o : Rq) : Int := if rdE (rqT (askQ c o)) = 0 then (if nullB c.op = true then 0 else 18) else 1
def askC (c : Clt) (o : Rq) : Clt := if askZ c o = 0 then { c with st := IntKind.i64.wrap (c.st + 1), op := rdR (rqT (askQ c o)) } else c
def askN (fm : List Int) (ls : List Lk) (c : Clt) (o : Rq) : Nat := if askZ c o = 0 then (atM fm ls (ls.length : Int)).length else 0
theorem rd_nullK {t : ByteArray} (h : nullB (rdR t) = true) : rdR t = zeroQ := by
 rw [rdR] at h ⊢
 split
 · rfl
 · rename_i h1
   rw [if_neg h1] at h
   split
   · rename_i h2
     rw [if_pos h2] at h
     have h3 := (right_fields (told_back h2).1).1.1
     simp only [nullB, Bool.and_eq_true, decide_eq_true_eq] at h
     omega
   · rfl
theorem rd_askK {q : Rq} (hc : 1 ≤ q.c) (hb : q.b < 18446744073709551616) (h : rdE (rqT q) = 0) : rightB q = true ∧ rdR (rqT q) = normR q ∧ nullB (rdR (rqT q)) = false := by
 have hn : nullB q = false := by
   apply Bool.eq_false_iff.2
   intro h
   simp only [nullB, Bool.and_eq_true, decide_eq_true_eq] at h
   omega
 have hr : rightB q = true := by
   apply Classical.byContradiction
   intro h0
   have h1 : rqT q = ⟨#[]⟩ := by rw [rqT, hn, if_neg (by decide), if_neg h0]
   rw [h1] at h
   exact absurd h (by decide)
 obtain ⟨h1, h2, h3⟩ := read_back hr hb
 have h4 : rdR (rqT q) = normR q := by
   rw [rdR, h3, h1, if_neg (by decide), if_pos rfl, h2]
   rfl
 refine ⟨hr, h4, ?_⟩
 rw [h4]
 apply Bool.eq_false_iff.2
 intro h
 have h5 : (normR q).c = 0 := by simp only [nullB, Bool.and_eq_true, decide_eq_true_eq] at h; omega
 have h6 : (normR q).c = q.c := rfl
 omega
section
variable {N : Nat} {P : Nat → Prop} {w w' : World} {v : Value} {fm : List Int} {ls : List Lk} {c : Clt}
theorem ClAt.same (h : ClAt N P w v fm ls c) (hb : Below w.heap.size w w') : ClPost N P w w' v fm ls c := ⟨P, h.keep hb, Outs.of hb, fun _ hk => .inl hk⟩
theorem ClAt.isptr (h : ClAt N P w v fm ls c) : ∃ g, v = .pointer (some ⟨g, 0, none⟩) := by
 obtain ⟨O, g, vt, vc, va, hv, _⟩ := h
 exact ⟨g, hv⟩
theorem ClPost.then {w1 w2 : World} {P1 : Nat → Prop} {ls' : List Lk} {c' : Clt} (ho : Outs P w w1) (hn : ∀ k, P1 k → P k ∨ w.heap.size ≤ k) (h : ClPost N P1 w1 w2 v fm ls' c') : ClPost N P w w2 v fm ls' c' := by
 obtain ⟨P2, k1, k2, k3⟩ := h
 refine ⟨P2, k1, ho.trans k2 (fun j hj hq => ?_), fun k hk => ?_⟩
 · rcases hn j hq with hq | hq
   · exact hq
   · omega
 · rcases k3 k hk with hq | hq
   · exact hn k hq
   · exact .inr (Nat.le_trans ho.size hq)
theorem kask_at (h : ClAt N P w v fm ls c) (hk : ClOk fm ls c) (o : Rq) (hob : o.b < 18446744073709551616) :
   Calls Tryz.prog 13 #[v, .agg #[.int .i64 o.k, .string o.key, .float .f64 o.b, .int .i64 o.id]] w fun e w' => ∃ a k, e = .returned (.tuple #[.slice a (askN fm ls c o) k, .int .i64 (askZ c o)]) ∧ ClPost N P w w' v fm ls (askC c o) := by
 obtain ⟨O, g, vt, vc, va, rfl, hM, hP⟩ := h
 obtain ⟨h1, h2, h3, _⟩ := hk.l10
 refine (kask_any hM hk.id8 h1 h2 h3 o (askQ c o) (rdR (rqT (askQ c o))) hob _ rfl rfl rfl (rd_smallK _)).mono ?_
 rintro e w' (⟨k1, rfl, hb⟩ | ⟨k1, k2, rfl, hb⟩ | ⟨k1, k2, vv, rfl, ⟨b, R, rfl, _⟩, hM', hO⟩)
 · have hz : askZ c o = 1 := by unfold askZ; rw [if_neg k1]
   unfold askN askC
   rw [hz]
   exact ⟨none, 0, rfl, P, ⟨O, g, vt, vc, va, rfl, hM.keep hb, hP⟩, Outs.of hb, fun _ hk => .inl hk⟩
 · have hz : askZ c o = 18 := by unfold askZ; rw [if_pos k1, if_neg (by rw [k2]; decide)]
   unfold askN askC
   rw [hz]
   exact ⟨none, 0, rfl, P, ⟨O, g, vt, vc, va, rfl, hM.keep hb, hP⟩, Outs.of hb, fun _ hk => .inl hk⟩
 · have hz : askZ c o = 0 := by unfold askZ; rw [if_pos k1, if_pos k2]
   unfold askN askC
   rw [hz]
   exact ⟨_, _, rfl, P, ⟨O, g, vt, vc, va, rfl, hM', hP⟩, hO.wide (fun k hq => (hP k).2 hq), fun _ hk => .inl hk⟩
theorem khandle_at {F : Nat → Prop} (h : ClAt N P w v fm ls c) (hk : ClOk fm ls c) (hcm : (c.cm.length + 1) * 32 ≤ 140737488355328) (hac : (c.ac.length + 1) * 72 ≤ 140737488355328) (m : Ms) (a13 a14 a15 a16 : Option Addr) (c13 c14 c15 c16 : Nat) (now fr : Int) (hB : MsB m) (hL : MsL F w m (.slice a13 m.nx.length c13) (.slice a14 m.sg.length c14) (.slice a15 m.cg.length c15) (.slice a16 m.ln.length c16)) :
   Calls Tryz.prog 17 #[v, .int .i64 now, .int .i64 fr, .agg (msA m a13 a14 a15 a16 c13 c14 c15 c16).toArray] w fun e w' => e = .returned (.slice none 0 0) ∧ ClPost N P w w' v fm (hdlL fm ls m) (hdlC fm ls c fr m) := by
 obtain ⟨O, g, vt, vc, va, rfl, hM, hP⟩ := h
 obtain ⟨h1, h2, h3, _⟩ := hk.l10
 refine (khandle_any hM hk.rc h2 h3 hk.ch hcm hac hk.ob m a13 a14 a15 a16 c13 c14 c15 c16 now fr hB hL).mono ?_
 rintro e w' ⟨rfl, O', vc', va', hM', hO, hn⟩
 refine ⟨rfl, _, ⟨O', g, vt, vc', va', rfl, hM', fun k => Iff.rfl⟩, hO.wide (fun k hq => (hP k).2 hq), fun k hq => ?_⟩
 rcases hn k hq with hq | hq
 · exact .inl ((hP k).2 hq)
 · exact .inr hq
theorem ktick_at (h : ClAt N P w v fm ls c) (hk : ClOk fm ls c) (now : Int) :
   Calls Tryz.prog 19 #[v, .int .i64 now] w fun e w' => ∃ a n k, e = .returned (.slice a n k) ∧ Below w.heap.size w w' := by
 obtain ⟨O, g, vt, vc, va, rfl, hM, hP⟩ := h
 obtain ⟨h1, h2, h3, _⟩ := hk.l10
 by_cases hn : now.tmod 4 = 0
 · refine (ktick_any hM hk.id8 h1 h2 h3 hk.ob now hn).mono ?_
   rintro e w' ⟨vv, R1, R2, rfl, ⟨ad, cap, rfl, _⟩, _, _, _, hb⟩
   exact ⟨_, _, _, rfl, hb⟩
 · refine (ktick_no g w now hn).mono ?_
   rintro e w' ⟨rfl, hb⟩
   exact ⟨_, _, _, rfl, hb⟩
theorem kopen_at (h : ClAt N P w v fm ls c) (hk : ClOk fm ls c) : Calls Tryz.prog 22 #[v] w fun e w' => e = .returned (.tuple #[rqV0 c.op, .bool (!nullB c.op)]) ∧ Below w.heap.size w w' := by
 obtain ⟨O, g, vt, vc, va, rfl, hM, hP⟩ := h
 exact kopen_any hM.blk hk.oz
theorem kaccepted_at (h : ClAt N P w v fm ls c) (hm : c.ac.length * 72 ≤ 140737488355328) : Calls Tryz.prog 23 #[v] w fun e w' => ∃ b, e = .returned (.slice (some ⟨b, 0, none⟩) c.ac.length c.ac.length) ∧ w.heap.size ≤ b ∧ BxAt w' b ((toldE c.ac c.ac.length).flatMap enV) 71 ∧ Below w.heap.size w w' := by
 obtain ⟨O, g, vt, vc, va, rfl, hM, hP⟩ := h
 exact kaccepted_any hM hm
theorem kresults_at (h : ClAt N P w v fm ls c) (hm : c.ac.length * 72 ≤ 140737488355328) : Calls Tryz.prog 25 #[v] w fun e w' => ∃ b, e = .returned (.slice (some ⟨b, 0, none⟩) c.ac.length c.ac.length) ∧ w.heap.size ≤ b ∧ BxAt w' b ((toldR c.ac c.ac.length).flatMap rsV2) 43 ∧ Below w.heap.size w w' := by
 obtain ⟨O, g, vt, vc, va, rfl, hM, hP⟩ := h
 exact kresults_any hM hm
theorem clok_ask (h : ClOk fm ls c) (o : Rq) : ClOk fm ls (askC c o) := by
 unfold askC
 split
 · rename_i hz
   exact ⟨h.id8, h.rc, h.ch, rd_smallK _, fun hn => rd_nullK hn⟩
 · exact h
theorem clok_handle (h : ClOk fm ls c) (fr : Int) (m : Ms) : ClOk fm (hdlL fm ls m) (hdlC fm ls c fr m) := by
 have hch : chainE 0 fm [] (hdlL fm ls m) = 0 := by
   unfold hdlL
   split
   · rename_i hq; exact (take_ok hq.2).1
   · exact h.ch
 unfold hdlC
 split
 · unfold repC
   split
   · split
     · exact ⟨h.id8, h.rc, hch, (by show (0 : Nat) < 18446744073709551616; decide), fun _ => rfl⟩
     · exact ⟨h.id8, h.rc, hch, h.ob, h.oz⟩
   · exact ⟨h.id8, h.rc, hch, h.ob, h.oz⟩
 · exact ⟨h.id8, h.rc, hch, h.ob, h.oz⟩
end
end
section
open Go.RowKit
def kM : ByteArray := ⟨#[107]⟩
def lvQ : Rq := ⟨2, 1, 5, kM, 0, 0⟩
def lvO : Rq := ⟨0, 0, 5, kM, 0, 0⟩
def lvX : Int × Nat := (0, 4619567317775286272)
def lvM : Ms := ⟨8, 0, 0, 0, lvQ, lvX, ⟨#[]⟩, [], [], [], []⟩
def lvF : List Int := [0, 1, 2, 3]
def lv1 : Clt := { c0 2 with st := 1, op := lvQ }
def lv2 : Clt := { lv1 with cm := [(0, 0, rsT 0 4619567317775286272)] }
def lv3 : Clt := ⟨2, 1, zeroQ, [], [(lvQ, lvX)]⟩
theorem lv_q : askQ (c0 2) lvO = lvQ := by
 have h : IntKind.i64.wrap ((0 : Int) + 1) = 1 := by decide
 show (⟨2, IntKind.i64.wrap ((0 : Int) + 1), 5, kM, 0, 0⟩ : Rq) = lvQ
 rw [h]
 rfl
theorem lv_r : rdE (rqT lvQ) = 0 ∧ rdR (rqT lvQ) = lvQ := by
 have hr : rightB lvQ = true := by decide
 have hc : canW lvQ.b = lvQ.b := by decide
 exact rd_right hr hc (by decide)
theorem lv_z : askZ (c0 2) lvO = 0 := by
 unfold askZ
 rw [lv_q, lv_r.1]
 decide
theorem lv_a : askC (c0 2) lvO = lv1 := by
 unfold askC
 rw [lv_z, lv_q, lv_r.2]
 have h : IntKind.i64.wrap ((0 : Int) + 1) = 1 := by decide
 show (⟨2, IntKind.i64.wrap ((0 : Int) + 1), lvQ, [], []⟩ : Clt) = lv1
 rw [h]
 rfl
theorem lv_b : MsB lvM where
 k := ⟨by decide, by decide⟩
 ep := ⟨by decide, by decide⟩
 v := ⟨by decide, by decide⟩
 sl := ⟨by decide, by decide⟩
 rq := ⟨⟨⟨by decide, by decide⟩, ⟨by decide, by decide⟩⟩, ⟨⟨by decide, by decide⟩, ⟨by decide, by decide⟩⟩, by unfold maxLen; decide, by decide⟩
 rc := ⟨by decide, by decide⟩
 rf := by decide
 tx := by unfold maxLen; decide
 nx := ⟨by unfold maxLen; decide, fun x hx => by cases hx⟩
 sg := ⟨by unfold maxLen; decide, fun x hx => by cases hx⟩
 cg := ⟨by unfold maxLen; decide, fun x hx => by cases hx⟩
 ln := ⟨by unfold maxLen; decide, fun x hx => by cases hx⟩
theorem lv_own : ownM lvM = lvM := by
 have hf : fitB lvM = true := by decide
 have hl : (msL lvM).length ≤ 65536 := by decide
 unfold ownM
 rw [(byE_ok hf hl).2, (told_read hf lv_b hl).2]
 have hc : canW lvM.rs.2 = lvM.rs.2 := by decide
 have hc2 : canW lvM.rq.b = lvM.rq.b := by decide
 show (⟨8, 0, 0, 0, normR lvQ, (0, canW 4619567317775286272), ⟨#[]⟩, [], [], [].map nCg, []⟩ : Ms) = lvM
 rw [show canW 4619567317775286272 = 4619567317775286272 from hc, show normR lvQ = lvQ by unfold normR; rw [show canW lvQ.b = lvQ.b from hc2]]
 all_goals rfl
theorem lv_hl : hdlL lvF [] lvM = [] := by
 unfold hdlL
 rw [lv_own, if_neg (by rintro ⟨h, _⟩; exact absurd h (by decide))]
theorem lv_h1 : hdlC lvF [] lv1 0 lvM = lv2 := by
 unfold hdlC
 rw [lv_own, if_pos (show lvM.k = 8 from rfl)]
 unfold repC
 rw [if_pos (by decide)]
 have hk : (cntW (lv1.cm ++ [(lvM.ep, (0 : Int), rsT lvM.rs.1 lvM.rs.2)]) lvM.ep (rsT lvM.rs.1 lvM.rs.2) : Int) = 1 := by
   show (cntW [((0 : Int), (0 : Int), rsT 0 4619567317775286272)] 0 (rsT 0 4619567317775286272) : Int) = 1
   simp [cntW, likeW]
 rw [hk, if_neg (by decide)]
 rfl
theorem lv_h2 : hdlC lvF [] lv2 0 lvM = lv2 := by
 unfold hdlC
 rw [lv_own, if_pos (show lvM.k = 8 from rfl)]
 unfold repC
 rw [if_neg (by decide)]
theorem lv_h3 : hdlC lvF [] lv2 3 lvM = lv3 := by
 unfold hdlC
 rw [lv_own, if_pos (show lvM.k = 8 from rfl)]
 unfold repC
 rw [if_pos (by decide)]
 have hk : (cntW (lv2.cm ++ [(lvM.ep, (3 : Int), rsT lvM.rs.1 lvM.rs.2)]) lvM.ep (rsT lvM.rs.1 lvM.rs.2) : Int) = 2 := by
   show (cntW [((0 : Int), (0 : Int), rsT 0 4619567317775286272), ((0 : Int), (3 : Int), rsT 0 4619567317775286272)] 0 (rsT 0 4619567317775286272) : Int) = 2
   simp [cntW, likeW]
 rw [hk, if_pos (by decide)]
 rfl
end
section
set_option maxRecDepth 100000
open Go.RowKit
theorem one_newK (L : List Value) (T : TypeId) (w : World) : ∃ wa, w.alloc (.cells L.toArray T) = wa ∧ Below w.heap.size w wa ∧ BxAt wa w.heap.size L T := ⟨_, rfl, (Below.refl w.heap.size w).alloc (Nat.le_refl _) _, heap_alloc_last w _⟩
theorem fld_op (c st k : Int) (key : ByteArray) (b : Nat) (id : Int) (w : World) : Sem.run Tryz.prog (Instr.field 41 (.agg #[.int .i64 c, .int .i64 st, .int .i64 k, .string key, .float .f64 b, .int .i64 id]) 2) w = .ok (.agg #[.int .i64 k, .string key, .float .f64 b, .int .i64 id]) w := by kernel_rfl
theorem lv_fl : (FloatKind.f64.format.order 4619567317775286272 4619567317775286272 == some Ordering.eq) = true := by kernel_rfl
theorem ints_four {w : World} {b : Nat} {T : TypeId} (h : BxAt w b [.int .i64 0, .int .i64 1, .int .i64 2, .int .i64 3] T) : IntsIn w (some ⟨b, 0, none⟩) lvF := by
 refine .inr ⟨b, 0, rfl, lt_of_blk h, fun j z hz => ?_⟩
 rw [Nat.zero_add]
 refine h.cell j _ ?_
 match j, hz with
 | 0, hz => cases hz; rfl
 | 1, hz => cases hz; rfl
 | 2, hz => cases hz; rfl
 | 3, hz => cases hz; rfl
 | j + 4, hz => cases hz
theorem kfour_any (w : World) : Calls Tryz.prog 37 #[] w fun e w' => ∃ b, e = .returned (.agg #[.int .i64 0, .slice (some ⟨b, 0, none⟩) 4 4]) ∧ IntsIn w' (some ⟨b, 0, none⟩) lvF ∧ Below w.heap.size w w' := by
 obtain ⟨wa, ha, hb, hz⟩ := one_newK [.int .i64 0, .slice none 0 0] 24 w
 obtain ⟨wb, hb', hbb, hx⟩ := one_newK [.int .i64 0, .int .i64 1, .int .i64 2, .int .i64 3] 3 wa
 have HA := hid ha
 have HB := hid hb'
 have H0 := hid (And.intro (hb.trans (hbb.mono hb.size)) (And.intro (hz.keep hbb) (And.intro hx (lt_of_blk hz))))
 clear ha hb hz hb' hbb hx
 go_enter Tryz.func37, Tryz.ntmps37
 go_upto_region 1 with fail
 rw [HA.out]
 go_wp2_with (first
   | (rw [HB.out]; refine wl_store_blk rfl 24 _ _ rfl w.heap.size 0 rfl #[.int .i64 0, .slice (some ⟨wa.heap.size, 0, none⟩) 4 4] rfl [.int .i64 0, .slice none 0 0] 24 H0.out.2.1 (by simp) (by kernel_rfl) (by simp [Value.oneCell']) ?_; go_must (intro w4 Hz; have H4 := Hz; clear Hz)))
 refine ret_cell1 (s := 0) (ad := ⟨w.heap.size, 0, none⟩) rfl rfl (load_whole (L := [.int .i64 0, .slice (some ⟨wa.heap.size, 0, none⟩) 4 4]) H4.out.1 _ Tryz.underlying24 rfl (by kernel_rfl)) rfl ?_
 exact ⟨_, rfl, ints_four ((H4.out.2.block _ (by have := H0.out.2.2.2; omega)).trans H0.out.2.2.1), H4.out.2.below H0.out.1 (Nat.le_refl _)⟩
theorem kget_any (st : Int) (w : World) : Calls Tryz.prog 38 #[.int .i64 st] w fun e w' => e = .returned (.agg #[.int .i64 2, .int .i64 st, .int .i64 5, .string ⟨#[107]⟩, .float .f64 0, .int .i64 0]) ∧ Below w.heap.size w w' := by
 obtain ⟨wa, ha, hb, hz⟩ := one_newK [.int .i64 0, .int .i64 0, .int .i64 0, .string ⟨#[]⟩, .float .f64 0, .int .i64 0] 41 w
 have HA := hid ha
 have H0 := hid (And.intro hb hz)
 clear ha hb hz
 go_enter Tryz.func38, Tryz.ntmps38
 go_upto_region 1 with fail
 rw [HA.out]
 go_wp2_with (refine wl_store_blk rfl 41 _ _ rfl w.heap.size 0 rfl #[.int .i64 2, .int .i64 st, .int .i64 5, .string ⟨#[107]⟩, .float .f64 0, .int .i64 0] rfl [.int .i64 0, .int .i64 0, .int .i64 0, .string ⟨#[]⟩, .float .f64 0, .int .i64 0] 41 H0.out.2 (by simp) (by kernel_rfl) (by simp [Value.oneCell']) ?_; go_must (intro w4 Hz; have H4 := Hz; clear Hz))
 refine ret_cell1 (s := 2) (ad := ⟨w.heap.size, 0, none⟩) rfl rfl (load_whole (L := [.int .i64 2, .int .i64 st, .int .i64 5, .string ⟨#[107]⟩, .float .f64 0, .int .i64 0]) H4.out.1 _ Tryz.underlying41 rfl (by kernel_rfl)) rfl ?_
 exact ⟨rfl, H4.out.2.below H0.out.1 (Nat.le_refl _)⟩
theorem lv_ok0 : ClOk lvF [] (c0 2) := ⟨by decide, by decide, by rfl, by decide, fun _ => rfl⟩
theorem lv_ok1 : ClOk lvF [] lv1 := ⟨by decide, by decide, by rfl, by decide, fun h => absurd h (by decide)⟩
theorem lv_ok2 : ClOk lvF [] lv2 := ⟨by decide, by decide, by rfl, by decide, fun h => absurd h (by decide)⟩
theorem lv_ml (F : Nat → Prop) (w : World) : MsL F w lvM (.slice none lvM.nx.length 0) (.slice none lvM.sg.length 0) (.slice none lvM.cg.length 0) (.slice none lvM.ln.length 0) := ⟨.nil _ _ _, .nil _ _ _, .nil _ _ _, .nil _ _ _⟩
theorem ClM.older {O : Nat → Prop} {N N' g : Nat} {w : World} {vt vc va : Value} {fm : List Int} {ls : List Lk} {c : Clt} (h : ClM O N w g vt vc va fm ls c) (hn : N' ≤ N) : ClM O N' w g vt vc va fm ls c :=
 ⟨h.blk, h.tr, ⟨h.cm.1, h.cm.2.imp id (fun ⟨a, b, d, e1, e2, e3⟩ => ⟨a, b, d, e1, Nat.le_trans hn e2, e3⟩)⟩, ⟨h.ac.1, h.ac.2.imp id (fun ⟨a, b, d, e1, e2, e3⟩ => ⟨a, b, d, e1, Nat.le_trans hn e2, e3⟩)⟩, Nat.le_trans hn h.gN, fun k hk => Nat.le_trans hn (h.oN k hk), Nat.le_trans hn h.le, h.gO, h.cg, h.ag, h.cO, h.aO, h.ca⟩
def LvAt (w0 w : World) (v : Value) (c : Clt) : Prop := ∃ P, ClAt w0.heap.size P w v lvF [] c ∧ Below w0.heap.size w0 w
theorem LvAt.old {w0 wf w : World} {v : Value} {c : Clt} {P : Nat → Prop} (h : ClAt wf.heap.size P w v lvF [] c) (hb : Below wf.heap.size wf w) (h0 : Below w0.heap.size w0 wf) : LvAt w0 w v c := by
 obtain ⟨O, g, vt, vc, va, hv, hM, hP⟩ := h
 exact ⟨P, ⟨O, g, vt, vc, va, hv, hM.older h0.size, hP⟩, h0.trans (hb.mono h0.size)⟩
theorem LvAt.same {w0 w w' : World} {v : Value} {c : Clt} (h : LvAt w0 w v c) (hb : Below w.heap.size w w') : LvAt w0 w' v c := by
 obtain ⟨P, h1, h2⟩ := h
 exact ⟨P, h1.keep hb, h2.trans (hb.mono h2.size)⟩
theorem LvAt.post {w0 w w' : World} {v : Value} {c c' : Clt} {P : Nat → Prop} (h1 : ClAt w0.heap.size P w v lvF [] c) (h2 : Below w0.heap.size w0 w) (h : ClPost w0.heap.size P w w' v lvF [] c') : LvAt w0 w' v c' := by
 obtain ⟨P', k1, k2, _⟩ := h
 exact ⟨P', k1, h2.trans (k2.below h2.size (fun k hk => h1.low k hk))⟩
theorem lv_ask (w0 w : World) (v : Value) (h : LvAt w0 w v (c0 2)) : Calls Tryz.prog 13 #[v, .agg #[.int .i64 5, .string ⟨#[107]⟩, .float .f64 0, .int .i64 0]] w fun e w' => ∃ a k, e = .returned (.tuple #[.slice a 4 k, .int .i64 0]) ∧ LvAt w0 w' v lv1 := by
 obtain ⟨P, h1, h2⟩ := h
 refine (kask_at h1 lv_ok0 lvO (by decide)).mono ?_
 rintro e w' ⟨a, k, rfl, hp⟩
 rw [lv_z]
 have hn : askN lvF [] (c0 2) lvO = 4 := by unfold askN; rw [lv_z]; rfl
 rw [hn]
 rw [lv_a] at hp
 exact ⟨a, k, rfl, LvAt.post h1 h2 hp⟩
def LvB (w0 w : World) (v : Value) (c : Clt) (mb : Nat) : Prop := ∃ P, ClAt w0.heap.size P w v lvF [] c ∧ Below w0.heap.size w0 w ∧ BxAt w mb (msA lvM none none none none 0 0 0 0) 48 ∧ ¬ P mb
theorem LvB.at {w0 w : World} {v : Value} {c : Clt} {mb : Nat} (h : LvB w0 w v c mb) : LvAt w0 w v c := by
 obtain ⟨P, h1, h2, _⟩ := h
 exact ⟨P, h1, h2⟩
theorem LvB.box {w0 w : World} {v : Value} {c : Clt} {mb : Nat} (h : LvB w0 w v c mb) : BxAt w mb (msA lvM none none none none 0 0 0 0) 48 := by
 obtain ⟨P, h1, h2, h3, _⟩ := h
 exact h3
theorem LvAt.box {w0 w w' : World} {v : Value} {c : Clt} (h : LvAt w0 w v c) (hb : Below w.heap.size w w') (hx : BxAt w' w.heap.size (msA lvM none none none none 0 0 0 0) 48) : LvB w0 w' v c w.heap.size := by
 obtain ⟨P, h1, h2⟩ := h
 exact ⟨P, h1.keep hb, h2.trans (hb.mono h2.size), hx, fun hq => Nat.lt_irrefl _ (h1.lt _ hq)⟩
theorem lv_hear (w0 w : World) (v : Value) (c c' : Clt) (fr now : Int) (mb : Nat) (h : LvB w0 w v c mb) (hk : ClOk lvF [] c) (hl : c.cm.length ≤ 2 ∧ c.ac.length ≤ 2) (hc : hdlC lvF [] c fr lvM = c') : Calls Tryz.prog 17 #[v, .int .i64 now, .int .i64 fr, .agg (msA lvM none none none none 0 0 0 0).toArray] w fun e w' => e = .returned (.slice none 0 0) ∧ LvB w0 w' v c' mb := by
 obtain ⟨P, h1, h2, h3, h4⟩ := h
 refine (khandle_at (F := fun _ => True) h1 hk (by omega) (by omega) lvM none none none none 0 0 0 0 now fr lv_b (lv_ml _ _)).mono ?_
 rintro e w' ⟨rfl, P', k1, k2, k3⟩
 rw [lv_hl, hc] at k1
 refine ⟨rfl, P', k1, h2.trans (k2.below h2.size (fun k hk => h1.low k hk)), (k2.block mb (lt_of_blk h3) h4).trans h3, fun hq => ?_⟩
 rcases k3 mb hq with hq | hq
 · exact h4 hq
 · have := lt_of_blk h3; omega
theorem lv_open (w0 w : World) (v : Value) (mb : Nat) (h : LvB w0 w v lv2 mb) : Calls Tryz.prog 22 #[v] w fun e w' => e = .returned (.tuple #[rqV0 lvQ, .bool true]) ∧ Below w.heap.size w w' ∧ LvB w0 w' v lv2 mb := by
 obtain ⟨P, h1, h2, h3, h4⟩ := h
 refine (kopen_at h1 lv_ok2).mono ?_
 rintro e w' ⟨rfl, hb⟩
 exact ⟨rfl, hb, P, h1.keep hb, h2.trans (hb.mono h2.size), h3.keep hb, h4⟩
theorem LvB.same {w0 w w' : World} {v : Value} {c : Clt} {mb : Nat} (h : LvB w0 w v c mb) (hb : Below w.heap.size w w') : LvB w0 w' v c mb := by
 obtain ⟨P, h1, h2, h3, h4⟩ := h
 exact ⟨P, h1.keep hb, h2.trans (hb.mono h2.size), h3.keep hb, h4⟩
theorem lv_acc (w0 w : World) (v : Value) (h : LvAt w0 w v lv3) : Calls Tryz.prog 23 #[v] w fun e w' => ∃ b, e = .returned (.slice (some ⟨b, 0, none⟩) 1 1) ∧ LvAt w0 w' v lv3 := by
 obtain ⟨P, h1, h2⟩ := h
 refine (kaccepted_at h1 (by show 1 * 72 ≤ 140737488355328; omega)).mono ?_
 rintro e w' ⟨b, rfl, _, _, hb⟩
 exact ⟨b, rfl, LvAt.same ⟨P, h1, h2⟩ hb⟩
theorem lv_res (w0 w : World) (v : Value) (h : LvAt w0 w v lv3) : Calls Tryz.prog 25 #[v] w fun e w' => ∃ b, e = .returned (.slice (some ⟨b, 0, none⟩) 1 1) ∧ w'.cell? ⟨b, 1, none⟩ = some (.float .f64 4619567317775286272) ∧ Below w0.heap.size w0 w' := by
 obtain ⟨P, h1, h2⟩ := h
 refine (kresults_at h1 (by show 1 * 72 ≤ 140737488355328; omega)).mono ?_
 rintro e w' ⟨b, rfl, _, hx, hb⟩
 exact ⟨b, rfl, hx.cell 1 _ rfl, h2.trans (hb.mono h2.size)⟩
set_option maxHeartbeats 6400000 in
theorem klives_any (w : World) : Calls Tryz.prog 9 #[] w fun e w' => e = .returned (.bool true) ∧ Below w.heap.size w w' := by
 obtain ⟨A, eA⟩ : ∃ A, A = Value.agg (msA lvM none none none none 0 0 0 0).toArray := ⟨_, rfl⟩
 have HAg := hid eA
 have HN := hid (fun (u : World) (b : Nat) (hI : IntsIn u (some ⟨b, 0, none⟩) lvF) => knew_any 2 0 (some ⟨b, 0, none⟩) 4 4 lvF rfl (by unfold maxLen; omega) u hI)
 clear eA
 go_enter Tryz.func9, Tryz.ntmps9
 go_wp2_with (first
   | (have := HC6; go_at_call 25; go_must (refine (lv_res w _ _ HC6.out).mono ?_; rintro e w9 ⟨b9, rfl, hx, hb⟩; have H9 := hid hb; have yR := hx; clear hx hb))
   | (have := HC5; go_at_call 23; go_must (refine (lv_acc w _ _ HC5.out.at).mono ?_; rintro e w8 ⟨b8, rfl, h⟩; have HC6 := hid h; clear h))
   | (have := HQ; go_at_call 17; go_must (rw [HAg.out]; refine (lv_hear w _ _ lv2 lv3 3 1 _ HQ.out lv_ok2 (by decide) lv_h3).mono ?_; rintro e w7 ⟨rfl, h⟩; have HC5 := hid h; clear h))
   | (have := HQ; refine wl_loadB rfl 48 _ rfl w3.heap.size 0 rfl (msA lvM none none none none 0 0 0 0) 48 HQ.out.box _ Tryz.underlying48 rfl (by kernel_rfl) A HAg.out rfl ?_)
   | (have := HO4; refine wl_store_blk rfl 41 _ _ rfl w6.heap.size 0 rfl #[.int .i64 2, .int .i64 1, .int .i64 5, .string kM, .float .f64 0, .int .i64 0] rfl [.int .i64 0, .int .i64 0, .int .i64 0, .string ⟨#[]⟩, .float .f64 0, .int .i64 0] 41 (heap_alloc_last w6 _) (by simp) (by kernel_rfl) (by simp [Value.oneCell']) ?_; go_must (intro wq Hz; have HQ := hid (HO4.out.same (Hz.out.2.below ((Below.refl _ _).alloc (Nat.le_refl _) _) (Nat.le_refl _))); clear Hz))
   | (have := HC4; go_at_call 22; go_must (refine (lv_open w _ _ _ HC4.out).mono ?_; rintro e w6 ⟨rfl, _, h⟩; have HO4 := hid h; clear h))
   | (have := HC3; go_at_call 17; go_must (rw [HAg.out]; refine (lv_hear w _ _ lv2 lv2 0 1 _ HC3.out lv_ok2 (by decide) lv_h2).mono ?_; rintro e w5 ⟨rfl, h⟩; have HC4 := hid h; clear h))
   | (have := HC3; refine wl_loadB rfl 48 _ rfl w3.heap.size 0 rfl (msA lvM none none none none 0 0 0 0) 48 HC3.out.box _ Tryz.underlying48 rfl (by kernel_rfl) A HAg.out rfl ?_)
   | (have := HM; go_at_call 17; go_must (rw [HAg.out]; refine (lv_hear w _ _ lv1 lv2 0 1 _ HM.out lv_ok1 (by decide) lv_h1).mono ?_; rintro e w4 ⟨rfl, h⟩; have HC3 := hid h; clear h))
   | (have := HM; refine wl_loadB rfl 48 _ rfl w3.heap.size 0 rfl (msA lvM none none none none 0 0 0 0) 48 HM.out.box _ Tryz.underlying48 rfl (by kernel_rfl) A HAg.out rfl ?_)
   | (have := HG2; refine wl_store_blk rfl 48 _ _ rfl w3.heap.size 0 rfl (msA lvM none none none none 0 0 0 0).toArray rfl [.int .i64 0, .int .i64 0, .int .i64 0, .int .i64 0, .int .i64 0, .int .i64 0, .int .i64 0, .string ⟨#[]⟩, .float .f64 0, .int .i64 0, .int .i64 0, .float .f64 0, .string ⟨#[]⟩, .slice none 0 0, .slice none 0 0, .slice none 0 0, .slice none 0 0] 48 (heap_alloc_last w3 _) (by simp [msA]) (by kernel_rfl) (by simp [msA, Value.oneCell']) ?_; go_must (intro wm Hz; have HM := hid (HG2.out.box (Hz.out.2.below ((Below.refl _ _).alloc (Nat.le_refl _) _) (Nat.le_refl _)) Hz.out.1); clear Hz))
   | (have := HC2; go_at_call 38; go_must (refine (kget_any _ _).mono ?_; rintro e w3 ⟨rfl, hb⟩; have HG2 := hid (HC2.out.same hb); clear hb))
   | (have := HG1; go_at_call 13; go_must (refine (lv_ask w _ _ HG1.out).mono ?_; rintro e w2 ⟨a2, k2, rfl, h⟩; have HC2 := hid h; clear h))
   | (have := HC1; go_at_call 38; go_must (refine (kget_any _ _).mono ?_; rintro e wg ⟨rfl, hb⟩; have HG1 := hid (HC1.out.same hb); clear hb))
   | (have := HF; go_at_call 10; go_must (refine (HN.out _ _ HF.out.1).mono ?_; rintro e w1 ⟨hb, h1, _⟩; obtain ⟨v, P, rfl, hA⟩ := h1 ⟨⟨by decide, by decide⟩, by decide, by trivial⟩; obtain ⟨g, rfl⟩ := hA.isptr; have HC1 : Hid (LvAt w w1 (.pointer (some ⟨g, 0, none⟩)) (c0 2)) := hid (LvAt.old hA hb HF.out.2); clear hA hb h1))
   | rw [fld_op]
   | (go_at_call 37; go_must (refine (kfour_any _).mono ?_; rintro e wf ⟨bf, rfl, hi, hb⟩; have HF := hid (And.intro hi hb); clear hi hb)))
 go_ret
 refine ⟨?_, H9.out⟩
 show Ending.returned (Value.bool (FloatKind.f64.format.order 4619567317775286272 4619567317775286272 == some Ordering.eq)) = _
 rw [lv_fl]
end
section
set_option maxRecDepth 100000
open Go.RowKit
theorem sub_cellK {w : World} {b : Nat} {L : List Value} {T : TypeId} (h : BxAt w b L T) (o : Nat) (M : List Value) (hM : (L.drop o).take M.length = M) (j : Nat) (v : Value) (hv : M[j]? = some v) : w.cell? ⟨b, o + j, none⟩ = some v := by
 refine h.cell _ _ ?_
 have hj := (List.getElem?_eq_some_iff.1 hv).1
 rw [← hM, List.getElem?_take_of_lt hj, List.getElem?_drop] at hv
 exact hv
set_option maxHeartbeats 6400000 in
theorem knilLaw_any (s : Cs) (a13 a14 a15 a16 : Option Addr) (c13 c14 c15 c16 : Nat) (w : World) : Calls Tryz.prog 8 #[.agg (csC s (.slice a13 s.m.nx.length c13) (.slice a14 s.m.sg.length c14) (.slice a15 s.m.cg.length c15) (.slice a16 s.m.ln.length c16)).toArray] w fun e w' => e = .returned (.bool true) ∧ Below w.heap.size w w' := by
 obtain ⟨wa, ha, hb, hx⟩ := one_newK (csC s (.slice a13 s.m.nx.length c13) (.slice a14 s.m.sg.length c14) (.slice a15 s.m.cg.length c15) (.slice a16 s.m.ln.length c16)) 50 w
 obtain ⟨A, eA⟩ : ∃ A, A = csC s (.slice a13 s.m.nx.length c13) (.slice a14 s.m.sg.length c14) (.slice a15 s.m.cg.length c15) (.slice a16 s.m.ln.length c16) := ⟨_, rfl⟩
 rw [← eA] at ha ⊢
 have HA := hid ha
 have HBx := hid (fun (u : World) (hu : Below wa.heap.size wa u) => hx.keep hu)
 have HB0 := hid hb
 obtain ⟨Am, em⟩ : ∃ Am, Am = Value.agg (msA s.m a13 a14 a15 a16 c13 c14 c15 c16).toArray := ⟨_, rfl⟩
 have HAm := hid em
 obtain ⟨Aq, eq⟩ : ∃ Aq, Aq = Value.agg #[.int .i64 s.q.c, .int .i64 s.q.st, .int .i64 s.q.k, .string s.q.key, .int .u64 (s.q.b : Int), .int .i64 s.q.id] := ⟨_, rfl⟩
 have HAq := hid eq
 clear ha hb hx eA em eq
 go_enter Tryz.func8, Tryz.ntmps8
 go_upto_region 1 with fail
 rw [HA.out]
 go_wp2_with (first
   | (have := H8; go_at_call 25; go_must (refine (kresults_nil _).mono ?_; rintro e w11 ⟨rfl, hb⟩; have H11 := hid (H10.out.trans (hb.mono H10.out.size)); clear hb))
   | (have := H8; go_at_call 23; go_must (refine (kaccepted_nil _).mono ?_; rintro e w10 ⟨rfl, hb⟩; have H10 := hid (H9.out.trans (hb.mono H9.out.size)); clear hb))
   | (have := H7; go_at_call 27; go_must (refine (kchain_nil _).mono ?_; rintro e w9 ⟨rfl, hb⟩; have H9 := hid (H8.out.trans (hb.mono H8.out.size)); clear hb))
   | (have := H7; go_at_call 30; go_must (refine (kepoch_nil _).mono ?_; rintro e w8 ⟨rfl, hb⟩; have H8 := hid (H7.out.trans (hb.mono H7.out.size)); clear hb))
   | (have := H6; go_at_call 19; go_must (refine (ktick_nil _ _).mono ?_; rintro e w7 ⟨rfl, hb⟩; have H7 := hid (H6.out.trans (hb.mono H6.out.size)); clear hb))
   | (have := H5; go_at_call 17; go_must (rw [HAm.out]; refine (khandle_nil _ _ s.m a13 a14 a15 a16 c13 c14 c15 c16 _).mono ?_; rintro e w6 ⟨rfl, hb⟩; have H6 := hid (H5.out.trans (hb.mono H5.out.size)); have yn := (HBx.out _ H6.out).cell 1 _ rfl; clear hb))
   | (have := H5; refine wl_ldat rfl 48 _ rfl w.heap.size 9 rfl (msA s.m a13 a14 a15 a16 c13 c14 c15 c16) (fun j v hv => sub_cellK (HBx.out _ H5.out) 9 _ (by rfl) j v hv) _ Tryz.underlying48 rfl (by kernel_rfl) Am HAm.out ?_)
   | (have := H4; refine wl_store_blk rfl 41 _ _ rfl w4.heap.size 0 rfl #[.int .i64 0, .int .i64 0, .int .i64 0, .string ⟨#[]⟩, .float .f64 0, .int .i64 0] rfl [.int .i64 0, .int .i64 0, .int .i64 0, .string ⟨#[]⟩, .float .f64 0, .int .i64 0] 41 (heap_alloc_last w4 _) (by simp) (by kernel_rfl) (by simp [Value.oneCell']) ?_; go_must (intro w5 Hz; have H5 : Hid (Below wa.heap.size wa w5) := hid (Hz.out.2.below (H4.out.alloc H4.out.size _) H4.out.size); have yk := (HBx.out _ H5.out).cell 1 _ rfl; have yf := (HBx.out _ H5.out).cell 2 _ rfl; clear Hz))
   | (have := H3; go_at_call 22; go_must (refine (kopen_nil _).mono ?_; rintro e w4 ⟨rfl, hb⟩; have H4 := hid (H3.out.trans (hb.mono H3.out.size)); clear hb))
   | (have := H2; go_at_call 13; go_must (refine (kask_nil s.q _).mono ?_; rintro e w3 ⟨rfl, hb⟩; have H3 := hid (H2.out.trans (hb.mono H2.out.size)); clear hb))
   | rw [fld_op]
   | (have := H1; go_at_call 14; go_must (rw [HAq.out]; refine (drequest_any s.q _).mono ?_; rintro e w2 ⟨rfl, hb⟩; have H2 := hid (H1.out.trans (hb.mono H1.out.size)); clear hb))
   | (have := H1; refine wl_ldat rfl 36 _ rfl w.heap.size 3 rfl [.int .i64 s.q.c, .int .i64 s.q.st, .int .i64 s.q.k, .string s.q.key, .int .u64 (s.q.b : Int), .int .i64 s.q.id] (fun j v hv => sub_cellK (HBx.out _ H1.out) 3 _ (by rfl) j v hv) _ Tryz.underlying36 rfl (by kernel_rfl) Aq HAq.out ?_)
   | (go_at_call 9; go_must (refine (klives_any _).mono ?_; rintro e w1 ⟨rfl, hb⟩; have H1 := hid hb; clear hb)))
 go_ret
 exact ⟨rfl, HB0.out.trans (H11.out.mono HB0.out.size)⟩
end
section
set_option maxRecDepth 100000
open Go.RowKit
def kd3 (k : Int) : Int := (k % 18446744073709551616) % 3
theorem kd3_is (k : Int) : kd3 k = 0 ∨ kd3 k = 1 ∨ kd3 k = 2 := by unfold kd3; omega
set_option maxHeartbeats 1600000 in
theorem kkind_any (s : Cs) (v13 v14 v15 v16 : Value) (w : World) : Calls Tryz.prog 12 #[.agg (csC s v13 v14 v15 v16).toArray] w fun e w' => e = .returned (.int .i64 (kd3 s.k)) ∧ Below w.heap.size w w' := by
 obtain ⟨wa, ha, hb, hx⟩ := one_newK (csC s v13 v14 v15 v16) 50 w
 obtain ⟨A, eA⟩ : ∃ A, A = csC s v13 v14 v15 v16 := ⟨_, rfl⟩
 have y0 := hx.cell 0 _ rfl
 rw [← eA] at ha ⊢
 have HA := hid ha
 have HB := hid hb
 clear ha hb hx eA
 go_enter Tryz.func12, Tryz.ntmps12
 go_upto_region 1 with fail
 rw [HA.out]
 go_wp2
 go_ret
 refine ⟨?_, HB.out⟩
 have h1 : IntKind.u64.wrap s.k = s.k % 18446744073709551616 := IntKind.wrap_u64 s.k
 have h2 : (s.k % 18446744073709551616).tmod 3 = kd3 s.k := by unfold kd3; rw [Int.tmod_eq_emod_of_nonneg (by omega)]
 have h3 : wrap64 (kd3 s.k) = kd3 s.k := IntWalk.wrap64_in _ (by unfold kd3; omega)
 show Ending.returned (.int .i64 (wrap64 ((IntKind.u64.wrap s.k).tmod 3))) = _
 rw [h1, h2, h3]
def doL (fm : List Int) (ls : List Lk) (s : Cs) : List Lk := if kd3 s.k = 1 then hdlL fm ls s.m else ls
def doC (fm : List Int) (ls : List Lk) (c : Clt) (s : Cs) : Clt := if kd3 s.k = 0 then askC c s.q else if kd3 s.k = 1 then hdlC fm ls c s.fr s.m else c
section
variable {N : Nat} {P : Nat → Prop} {w w' : World} {v : Value} {fm : List Int} {ls : List Lk} {c : Clt}
set_option maxHeartbeats 6400000 in
theorem kdoes_0 {F : Nat → Prop} (h : ClAt N P w v fm ls c) (hk : ClOk fm ls c) (hcm : (c.cm.length + 1) * 32 ≤ 140737488355328) (hac : (c.ac.length + 1) * 72 ≤ 140737488355328) (s : Cs) (hR : csR s) (a13 a14 a15 a16 : Option Addr) (c13 c14 c15 c16 : Nat) (hL : MsL F w s.m (.slice a13 s.m.nx.length c13) (.slice a14 s.m.sg.length c14) (.slice a15 s.m.cg.length c15) (.slice a16 s.m.ln.length c16)) (hkd : kd3 s.k = 0) :
   Calls Tryz.prog 24 #[v, .agg (csC s (.slice a13 s.m.nx.length c13) (.slice a14 s.m.sg.length c14) (.slice a15 s.m.cg.length c15) (.slice a16 s.m.ln.length c16)).toArray] w fun e w' => e = .returned (.tuple #[]) ∧ ClPost N P w w' v fm (doL fm ls s) (doC fm ls c s) := by
 obtain ⟨g, rfl⟩ := h.isptr
 obtain ⟨wa, ha, hb, hx⟩ := one_newK (csC s (.slice a13 s.m.nx.length c13) (.slice a14 s.m.sg.length c14) (.slice a15 s.m.cg.length c15) (.slice a16 s.m.ln.length c16)) 50 w
 obtain ⟨A, eA⟩ : ∃ A, A = csC s (.slice a13 s.m.nx.length c13) (.slice a14 s.m.sg.length c14) (.slice a15 s.m.cg.length c15) (.slice a16 s.m.ln.length c16) := ⟨_, rfl⟩
 have HKd := hid (fun (u : World) => kkind_any s (.slice a13 s.m.nx.length c13) (.slice a14 s.m.sg.length c14) (.slice a15 s.m.cg.length c15) (.slice a16 s.m.ln.length c16) u)
 rw [hkd, ← eA] at HKd
 rw [← eA] at ha ⊢
 have HA := hid ha
 have HB := hid hb
 have HBx := hid (fun (u : World) (hu : Below wa.heap.size wa u) => hx.keep hu)
 have HAg := hid eA
 have HC := hid (fun (u : World) (hu : Below w.heap.size w u) => h.keep hu)
 have HO := hid (And.intro hk (And.intro hcm (And.intro hac hR)))
 have HL := hid (fun (u : World) (hu : Below w.heap.size w u) => hL.under hu)
 obtain ⟨Am, em⟩ : ∃ Am, Am = Value.agg (msA s.m a13 a14 a15 a16 c13 c14 c15 c16).toArray := ⟨_, rfl⟩
 have HAm := hid em
 obtain ⟨Aq, eq⟩ : ∃ Aq, Aq = Value.agg #[.int .i64 s.q.c, .int .i64 s.q.st, .int .i64 s.q.k, .string s.q.key, .int .u64 (s.q.b : Int), .int .i64 s.q.id] := ⟨_, rfl⟩
 have HAq := hid eq
 have hdo : doL fm ls s = ls ∧ doC fm ls c s = askC c s.q := by unfold doL doC; rw [hkd]; exact ⟨rfl, rfl⟩
 rw [hdo.1, hdo.2]
 clear ha hb hx eA h hk hcm hac hR hL em eq hkd hdo
 go_enter Tryz.func24, Tryz.ntmps24
 go_upto_region 1 with fail
 rw [HA.out]
 go_wp2_with (first
   | (have := H2; go_at_call 13; go_must (refine (kask_at (HC.out _ (HB.out.trans (H2.out.mono HB.out.size))) HO.out.1 s.q HO.out.2.2.2.1.2.2.2).mono ?_; rintro e w3 ⟨a3, k3, rfl, hp⟩; have H3 := hid hp; clear hp))
   | rw [fld_op]
   | (have := H1; go_at_call 14; go_must (rw [HAq.out]; refine (drequest_any s.q _).mono ?_; rintro e w2 ⟨rfl, hb⟩; have H2 := hid (H1.out.trans (hb.mono H1.out.size)); clear hb))
   | (have := H1; refine wl_ldat rfl 36 _ rfl w.heap.size 3 rfl [.int .i64 s.q.c, .int .i64 s.q.st, .int .i64 s.q.k, .string s.q.key, .int .u64 (s.q.b : Int), .int .i64 s.q.id] (fun j v hv => sub_cellK (HBx.out _ H1.out) 3 _ (by rfl) j v hv) _ Tryz.underlying36 rfl (by kernel_rfl) Aq HAq.out ?_)
   | (refine wl_loadB rfl 50 _ rfl w.heap.size 0 rfl (csC s (.slice a13 s.m.nx.length c13) (.slice a14 s.m.sg.length c14) (.slice a15 s.m.cg.length c15) (.slice a16 s.m.ln.length c16)) 50 (HBx.out _ (Below.refl _ _)) _ Tryz.underlying50 rfl (by kernel_rfl) (.agg A.toArray) (by rw [HAg.out]) rfl ?_)
   | (go_at_call 12; go_must (refine (HKd.out _).mono ?_; rintro e w1 ⟨rfl, hb⟩; have H1 := hid hb; have yn := (HBx.out _ H1.out).cell 1 _ rfl; have yf := (HBx.out _ H1.out).cell 2 _ rfl; clear hb)))
 go_end0
 exact ⟨rfl, ClPost.then (Outs.of (HB.out.trans (H2.out.mono HB.out.size))) (fun _ hk => .inl hk) H3.out⟩
set_option maxHeartbeats 6400000 in
theorem kdoes_1 {F : Nat → Prop} (h : ClAt N P w v fm ls c) (hk : ClOk fm ls c) (hcm : (c.cm.length + 1) * 32 ≤ 140737488355328) (hac : (c.ac.length + 1) * 72 ≤ 140737488355328) (s : Cs) (hR : csR s) (a13 a14 a15 a16 : Option Addr) (c13 c14 c15 c16 : Nat) (hL : MsL F w s.m (.slice a13 s.m.nx.length c13) (.slice a14 s.m.sg.length c14) (.slice a15 s.m.cg.length c15) (.slice a16 s.m.ln.length c16)) (hkd : kd3 s.k = 1) :
   Calls Tryz.prog 24 #[v, .agg (csC s (.slice a13 s.m.nx.length c13) (.slice a14 s.m.sg.length c14) (.slice a15 s.m.cg.length c15) (.slice a16 s.m.ln.length c16)).toArray] w fun e w' => e = .returned (.tuple #[]) ∧ ClPost N P w w' v fm (doL fm ls s) (doC fm ls c s) := by
 obtain ⟨g, rfl⟩ := h.isptr
 obtain ⟨wa, ha, hb, hx⟩ := one_newK (csC s (.slice a13 s.m.nx.length c13) (.slice a14 s.m.sg.length c14) (.slice a15 s.m.cg.length c15) (.slice a16 s.m.ln.length c16)) 50 w
 obtain ⟨A, eA⟩ : ∃ A, A = csC s (.slice a13 s.m.nx.length c13) (.slice a14 s.m.sg.length c14) (.slice a15 s.m.cg.length c15) (.slice a16 s.m.ln.length c16) := ⟨_, rfl⟩
 have HKd := hid (fun (u : World) => kkind_any s (.slice a13 s.m.nx.length c13) (.slice a14 s.m.sg.length c14) (.slice a15 s.m.cg.length c15) (.slice a16 s.m.ln.length c16) u)
 rw [hkd, ← eA] at HKd
 rw [← eA] at ha ⊢
 have HA := hid ha
 have HB := hid hb
 have HBx := hid (fun (u : World) (hu : Below wa.heap.size wa u) => hx.keep hu)
 have HAg := hid eA
 have HC := hid (fun (u : World) (hu : Below w.heap.size w u) => h.keep hu)
 have HO := hid (And.intro hk (And.intro hcm (And.intro hac hR)))
 have HL := hid (fun (u : World) (hu : Below w.heap.size w u) => hL.under hu)
 obtain ⟨Am, em⟩ : ∃ Am, Am = Value.agg (msA s.m a13 a14 a15 a16 c13 c14 c15 c16).toArray := ⟨_, rfl⟩
 have HAm := hid em
 obtain ⟨Aq, eq⟩ : ∃ Aq, Aq = Value.agg #[.int .i64 s.q.c, .int .i64 s.q.st, .int .i64 s.q.k, .string s.q.key, .int .u64 (s.q.b : Int), .int .i64 s.q.id] := ⟨_, rfl⟩
 have HAq := hid eq
 have hdo : doL fm ls s = hdlL fm ls s.m ∧ doC fm ls c s = hdlC fm ls c s.fr s.m := by unfold doL doC; rw [hkd]; exact ⟨rfl, rfl⟩
 rw [hdo.1, hdo.2]
 clear ha hb hx eA h hk hcm hac hR hL em eq hkd hdo
 go_enter Tryz.func24, Tryz.ntmps24
 go_upto_region 1 with fail
 rw [HA.out]
 go_wp2_with (first
   | (have := H1; go_at_call 17; go_must (rw [HAm.out]; refine (khandle_at (HC.out _ (HB.out.trans (H1.out.mono HB.out.size))) HO.out.1 HO.out.2.1 HO.out.2.2.1 s.m a13 a14 a15 a16 c13 c14 c15 c16 s.now s.fr HO.out.2.2.2.2.1 (HL.out _ (HB.out.trans (H1.out.mono HB.out.size)))).mono ?_; rintro e w3 ⟨rfl, hp⟩; have H3 := hid hp; clear hp))
   | (have := H1; refine wl_ldat rfl 48 _ rfl w.heap.size 9 rfl (msA s.m a13 a14 a15 a16 c13 c14 c15 c16) (fun j v hv => sub_cellK (HBx.out _ H1.out) 9 _ (by rfl) j v hv) _ Tryz.underlying48 rfl (by kernel_rfl) Am HAm.out ?_)
   | (refine wl_loadB rfl 50 _ rfl w.heap.size 0 rfl (csC s (.slice a13 s.m.nx.length c13) (.slice a14 s.m.sg.length c14) (.slice a15 s.m.cg.length c15) (.slice a16 s.m.ln.length c16)) 50 (HBx.out _ (Below.refl _ _)) _ Tryz.underlying50 rfl (by kernel_rfl) (.agg A.toArray) (by rw [HAg.out]) rfl ?_)
   | (go_at_call 12; go_must (refine (HKd.out _).mono ?_; rintro e w1 ⟨rfl, hb⟩; have H1 := hid hb; have yn := (HBx.out _ H1.out).cell 1 _ rfl; have yf := (HBx.out _ H1.out).cell 2 _ rfl; clear hb)))
 go_end0
 exact ⟨rfl, ClPost.then (Outs.of (HB.out.trans (H1.out.mono HB.out.size))) (fun _ hk => .inl hk) H3.out⟩
set_option maxHeartbeats 6400000 in
theorem kdoes_2 {F : Nat → Prop} (h : ClAt N P w v fm ls c) (hk : ClOk fm ls c) (hcm : (c.cm.length + 1) * 32 ≤ 140737488355328) (hac : (c.ac.length + 1) * 72 ≤ 140737488355328) (s : Cs) (hR : csR s) (a13 a14 a15 a16 : Option Addr) (c13 c14 c15 c16 : Nat) (hL : MsL F w s.m (.slice a13 s.m.nx.length c13) (.slice a14 s.m.sg.length c14) (.slice a15 s.m.cg.length c15) (.slice a16 s.m.ln.length c16)) (hkd : kd3 s.k = 2) :
   Calls Tryz.prog 24 #[v, .agg (csC s (.slice a13 s.m.nx.length c13) (.slice a14 s.m.sg.length c14) (.slice a15 s.m.cg.length c15) (.slice a16 s.m.ln.length c16)).toArray] w fun e w' => e = .returned (.tuple #[]) ∧ ClPost N P w w' v fm (doL fm ls s) (doC fm ls c s) := by
 obtain ⟨g, rfl⟩ := h.isptr
 obtain ⟨wa, ha, hb, hx⟩ := one_newK (csC s (.slice a13 s.m.nx.length c13) (.slice a14 s.m.sg.length c14) (.slice a15 s.m.cg.length c15) (.slice a16 s.m.ln.length c16)) 50 w
 obtain ⟨A, eA⟩ : ∃ A, A = csC s (.slice a13 s.m.nx.length c13) (.slice a14 s.m.sg.length c14) (.slice a15 s.m.cg.length c15) (.slice a16 s.m.ln.length c16) := ⟨_, rfl⟩
 have HKd := hid (fun (u : World) => kkind_any s (.slice a13 s.m.nx.length c13) (.slice a14 s.m.sg.length c14) (.slice a15 s.m.cg.length c15) (.slice a16 s.m.ln.length c16) u)
 rw [hkd, ← eA] at HKd
 rw [← eA] at ha ⊢
 have HA := hid ha
 have HB := hid hb
 have HBx := hid (fun (u : World) (hu : Below wa.heap.size wa u) => hx.keep hu)
 have HAg := hid eA
 have HC := hid (fun (u : World) (hu : Below w.heap.size w u) => h.keep hu)
 have HO := hid (And.intro hk (And.intro hcm (And.intro hac hR)))
 have HL := hid (fun (u : World) (hu : Below w.heap.size w u) => hL.under hu)
 obtain ⟨Am, em⟩ : ∃ Am, Am = Value.agg (msA s.m a13 a14 a15 a16 c13 c14 c15 c16).toArray := ⟨_, rfl⟩
 have HAm := hid em
 obtain ⟨Aq, eq⟩ : ∃ Aq, Aq = Value.agg #[.int .i64 s.q.c, .int .i64 s.q.st, .int .i64 s.q.k, .string s.q.key, .int .u64 (s.q.b : Int), .int .i64 s.q.id] := ⟨_, rfl⟩
 have HAq := hid eq
 have hdo : doL fm ls s = ls ∧ doC fm ls c s = c := by unfold doL doC; rw [hkd]; exact ⟨rfl, rfl⟩
 rw [hdo.1, hdo.2]
 clear ha hb hx eA h hk hcm hac hR hL em eq hkd hdo
 go_enter Tryz.func24, Tryz.ntmps24
 go_upto_region 1 with fail
 rw [HA.out]
 go_wp2_with (first
   | (have := H1; go_at_call 19; go_must (refine (ktick_at (HC.out _ (HB.out.trans (H1.out.mono HB.out.size))) HO.out.1 s.now).mono ?_; rintro e w3 ⟨a3, n3, k3, rfl, hb⟩; have H3 := hid hb; clear hb))
   | (refine wl_loadB rfl 50 _ rfl w.heap.size 0 rfl (csC s (.slice a13 s.m.nx.length c13) (.slice a14 s.m.sg.length c14) (.slice a15 s.m.cg.length c15) (.slice a16 s.m.ln.length c16)) 50 (HBx.out _ (Below.refl _ _)) _ Tryz.underlying50 rfl (by kernel_rfl) (.agg A.toArray) (by rw [HAg.out]) rfl ?_)
   | (go_at_call 12; go_must (refine (HKd.out _).mono ?_; rintro e w1 ⟨rfl, hb⟩; have H1 := hid hb; have yn := (HBx.out _ H1.out).cell 1 _ rfl; have yf := (HBx.out _ H1.out).cell 2 _ rfl; clear hb)))
 go_end0
 exact ⟨rfl, (HC.out _ (Below.refl _ _)).same ((HB.out.trans (H1.out.mono HB.out.size)).trans (H3.out.mono (HB.out.trans (H1.out.mono HB.out.size)).size))⟩
theorem kdoes_at {F : Nat → Prop} (h : ClAt N P w v fm ls c) (hk : ClOk fm ls c) (hcm : (c.cm.length + 1) * 32 ≤ 140737488355328) (hac : (c.ac.length + 1) * 72 ≤ 140737488355328) (s : Cs) (hR : csR s) (a13 a14 a15 a16 : Option Addr) (c13 c14 c15 c16 : Nat) (hL : MsL F w s.m (.slice a13 s.m.nx.length c13) (.slice a14 s.m.sg.length c14) (.slice a15 s.m.cg.length c15) (.slice a16 s.m.ln.length c16)) :
   Calls Tryz.prog 24 #[v, .agg (csC s (.slice a13 s.m.nx.length c13) (.slice a14 s.m.sg.length c14) (.slice a15 s.m.cg.length c15) (.slice a16 s.m.ln.length c16)).toArray] w fun e w' => e = .returned (.tuple #[]) ∧ ClPost N P w w' v fm (doL fm ls s) (doC fm ls c s) := by
 rcases kd3_is s.k with hq | hq | hq
 · exact kdoes_0 h hk hcm hac s hR _ _ _ _ _ _ _ _ hL hq
 · exact kdoes_1 h hk hcm hac s hR _ _ _ _ _ _ _ _ hL hq
 · exact kdoes_2 h hk hcm hac s hR _ _ _ _ _ _ _ _ hL hq
theorem clok_do (h : ClOk fm ls c) (s : Cs) : ClOk fm (doL fm ls s) (doC fm ls c s) := by
 unfold doL doC
 rcases kd3_is s.k with hq | hq | hq
 · rw [if_neg (by omega), if_pos hq]
   exact clok_ask h s.q
 · rw [if_pos hq, if_neg (by omega), if_pos hq]
   exact clok_handle h s.fr s.m
 · rw [if_neg (by omega), if_neg (by omega), if_neg (by omega)]
   exact h
end
end
section
open Go.RowKit
theorem own_kind {m : Ms} {k : Int} (h : (ownM m).k = k) (hk : k ≠ 0) : fitB (ownM m) = true := by
 unfold ownM rdMs at h ⊢
 split
 · rename_i hs
   rw [if_pos hs] at h
   exact absurd h.symm hk
 · rename_i hs
   rw [if_neg hs] at h
   cases hp : pWhole (byT m) with
   | none =>
     rw [hp] at h
     exact absurd h.symm hk
   | some n => exact (whole_back hp).1
theorem own_rep {m : Ms} (h : (ownM m).k = 8) : rightB (ownM m).rq = true := by
 have hf := own_kind h (by decide)
 unfold fitB at hf
 simp only [Bool.and_eq_true] at hf
 have hk := hf.2.2
 unfold kindB at hk
 rw [h] at hk
 rw [if_neg (by decide), if_neg (by decide), if_neg (by decide), if_neg (by decide), if_neg (by decide), if_neg (by decide), if_neg (by decide), if_pos rfl] at hk
 simp only [Bool.and_eq_true] at hk
 exact hk.2.1
theorem right_same {r : Rq} (hr : rightB r = true) : sameB r zeroQ = false := by
 apply Bool.eq_false_iff.2
 intro h
 simp only [sameB, Bool.and_eq_true, decide_eq_true_eq] at h
 have h1 := h.2
 have hn : nullB r = false := by
   apply Bool.eq_false_iff.2
   intro h
   have h3 := (right_fields hr).1.1
   simp only [nullB, Bool.and_eq_true, decide_eq_true_eq] at h
   omega
 rw [rqT, if_neg (by rw [hn]; decide), if_pos hr, rqT, if_pos (by decide)] at h1
 have h2 := congrArg (fun t : ByteArray => t.data.toList) h1
 simp only [rqL] at h2
 have h3 : be 1 1 = [1] := by decide
 rw [h3] at h2
 simp at h2
structure OnInv (id n : Int) (c : Clt) : Prop where
 ci : c.id = id
 st : c.st = n
 n0 : 0 ≤ n ∧ n ≤ 1048576
 al : ∀ (k : Nat) (x : An), c.ac[k]? = some x → x.1.st = (k : Int) + 1 ∧ x.1.c = id
 nul : nullB c.op = true → (c.ac.length : Int) = n
 opn : nullB c.op = false → (c.ac.length : Int) + 1 = n ∧ c.op.st = n ∧ c.op.c = id
theorem on_zero (id : Int) : OnInv id 0 (c0 id) := ⟨rfl, rfl, by decide, (fun k x hx => by cases hx), (fun _ => rfl), (fun h => by cases h)⟩
theorem on_ask {fm : List Int} {ls : List Lk} {id n : Int} {c : Clt} (h : OnInv id n c) (hk : ClOk fm ls c) (o : Rq) (hob : o.b < 18446744073709551616) (hz : askZ c o = 0) : nullB c.op = true ∧ OnInv id (n + 1) (askC c o) ∧ nullB (askC c o).op = false ∧ (askC c o).op.st = n + 1 ∧ (askC c o).op.c = id := by
 have hw : IntKind.i64.wrap (c.st + 1) = n + 1 := by
   rw [h.st, IntWalk.i64_left]
   have := h.n0
   exact IntWalk.wrap64_in _ (by omega)
 have hz2 := hz
 unfold askZ at hz
 split at hz
 · rename_i h1
   split at hz
   · rename_i h2
     have hqc : (askQ c o).c = c.id := rfl
     obtain ⟨hr, hn, hnn⟩ := rd_askK (q := askQ c o) (by rw [hqc]; exact hk.id8.1) hob h1
     have hst : (askQ c o).st = n + 1 := hw
     have hf := (right_fields hr).2.1
     have hc : askC c o = { c with st := n + 1, op := normR (askQ c o) } := by unfold askC; rw [if_pos hz2, hn, hw]
     rw [hc]
     have hnn2 : nullB (normR (askQ c o)) = false := by rw [← hn]; exact hnn
     refine ⟨h2, ⟨h.ci, rfl, ⟨by have := h.n0; omega, by rw [← hst]; exact hf.2⟩, h.al, fun h9 => ?_, fun _ => ⟨?_, hst, h.ci⟩⟩, hnn2, hst, h.ci⟩
     · have h9 : nullB (normR (askQ c o)) = true := h9
       rw [hnn2] at h9
       cases h9
     · have := h.nul h2
       show (c.ac.length : Int) + 1 = n + 1
       omega
   · exact absurd hz (by decide)
 · exact absurd hz (by decide)
theorem ask_no {c : Clt} {o : Rq} (hz : askZ c o ≠ 0) : askC c o = c := by unfold askC; rw [if_neg hz]
theorem on_handle {fm : List Int} {ls : List Lk} {id n : Int} {c : Clt} (h : OnInv id n c) (hk : ClOk fm ls c) (fr : Int) (m : Ms) : OnInv id n (hdlC fm ls c fr m) := by
 unfold hdlC
 split
 · rename_i h8
   unfold repC
   split
   · rename_i hq
     simp only [Bool.and_eq_true] at hq
     have hop : nullB c.op = false := by
       apply Bool.eq_false_iff.2
       intro h9
       have h7 := hq.2.2.1
       rw [hk.oz h9, right_same (own_rep h8)] at h7
       cases h7
     obtain ⟨h1, h2, h3⟩ := h.opn hop
     split
     · refine ⟨h.ci, h.st, h.n0, fun k x hx => ?_, fun _ => ?_, fun h9 => by have h9 : nullB zeroQ = false := h9; exact absurd h9 (by decide)⟩
       · have hx : (c.ac ++ [(c.op, (ownM m).rs)])[k]? = some x := hx
         rcases Nat.lt_or_ge k c.ac.length with hl | hl
         · rw [List.getElem?_append_left hl] at hx
           exact h.al k x hx
         · have hk2 := (List.getElem?_eq_some_iff.1 hx).1
           have hk3 : k = c.ac.length := by simp at hk2; omega
           subst hk3
           rw [List.getElem?_append_right (Nat.le_refl _), Nat.sub_self] at hx
           cases hx
           exact ⟨by rw [h2, ← h1], h3⟩
       · show ((c.ac ++ [(c.op, (ownM m).rs)]).length : Int) = n
         rw [List.length_append]
         simp
         omega
     · exact ⟨h.ci, h.st, h.n0, h.al, h.nul, h.opn⟩
   · exact h
 · exact h
theorem on_do {fm : List Int} {ls : List Lk} {id n : Int} {c : Clt} (h : OnInv id n c) (hk : ClOk fm ls c) (s : Cs) (hs : kd3 s.k ≠ 0) : OnInv id n (doC fm ls c s) := by
 unfold doC
 rw [if_neg hs]
 split
 · exact on_handle h hk s.fr s.m
 · exact h
theorem ask_len {c : Clt} (o : Rq) : (askC c o).cm = c.cm ∧ (askC c o).ac = c.ac := by
 unfold askC
 split <;> exact ⟨rfl, rfl⟩
theorem do_len {fm : List Int} {ls : List Lk} {c : Clt} (s : Cs) : (doC fm ls c s).cm.length ≤ c.cm.length + 1 ∧ (doC fm ls c s).ac.length ≤ c.ac.length + 1 := by
 unfold doC
 split
 · rw [(ask_len s.q).1, (ask_len s.q).2]; omega
 · split
   · unfold hdlC
     split
     · unfold repC
       split
       · split <;> simp
       · omega
     · omega
   · omega
structure OnSt (w0 w : World) (N : Nat) (v : Value) (fm : List Int) (id n : Int) (j : Nat) (P : Nat → Prop) (ls : List Lk) (c : Clt) : Prop where
 at_ : ClAt N P w v fm ls c
 low : w0.heap.size ≤ N
 bel : Below w0.heap.size w0 w
 ok : ClOk fm ls c
 inv : OnInv id n c
 len : c.cm.length ≤ j ∧ c.ac.length ≤ j
theorem OnSt.keep {w0 w w' : World} {N : Nat} {v : Value} {fm : List Int} {id n : Int} {j : Nat} {P : Nat → Prop} {ls : List Lk} {c : Clt} (h : OnSt w0 w N v fm id n j P ls c) (hb : Below w.heap.size w w') : OnSt w0 w' N v fm id n j P ls c := ⟨h.at_.keep hb, h.low, h.bel.trans (hb.mono h.bel.size), h.ok, h.inv, h.len⟩
theorem ClPost.bel {N : Nat} {P : Nat → Prop} {w0 w w' : World} {v : Value} {fm : List Int} {ls ls' : List Lk} {c c' : Clt} (h : ClPost N P w w' v fm ls' c') (ha : ClAt N P w v fm ls c) (hl : w0.heap.size ≤ N) (hb : Below w0.heap.size w0 w) : ∃ P', ClAt N P' w' v fm ls' c' ∧ Below w0.heap.size w0 w' := by
 obtain ⟨P', k1, k2, _⟩ := h
 exact ⟨P', k1, hb.trans (k2.below hb.size (fun k hk => Nat.le_trans hl (ha.low k hk)))⟩
theorem OnSt.asked {w0 w w' : World} {N : Nat} {v : Value} {fm : List Int} {id n : Int} {j : Nat} {P : Nat → Prop} {ls : List Lk} {c : Clt} (h : OnSt w0 w N v fm id n j P ls c) (o : Rq) (hob : o.b < 18446744073709551616) (hz : askZ c o = 0) (hp : ClPost N P w w' v fm ls (askC c o)) : ∃ P', OnSt w0 w' N v fm id (n + 1) (j + 1) P' ls (askC c o) := by
 obtain ⟨P', k1, k2⟩ := hp.bel h.at_ h.low h.bel
 have h1 := on_ask h.inv h.ok o hob hz
 exact ⟨P', k1, h.low, k2, clok_ask h.ok o, h1.2.1, by rw [(ask_len o).1, (ask_len o).2]; have := h.len; omega⟩
theorem OnSt.notasked {w0 w w' : World} {N : Nat} {v : Value} {fm : List Int} {id n : Int} {j : Nat} {P : Nat → Prop} {ls : List Lk} {c : Clt} (h : OnSt w0 w N v fm id n j P ls c) (o : Rq) (hz : askZ c o ≠ 0) (hp : ClPost N P w w' v fm ls (askC c o)) : ∃ P', OnSt w0 w' N v fm id n (j + 1) P' ls c := by
 obtain ⟨P', k1, k2⟩ := hp.bel h.at_ h.low h.bel
 rw [ask_no hz] at k1
 exact ⟨P', k1, h.low, k2, h.ok, h.inv, by have := h.len; omega⟩
theorem OnSt.did {w0 w w' : World} {N : Nat} {v : Value} {fm : List Int} {id n : Int} {j : Nat} {P : Nat → Prop} {ls : List Lk} {c : Clt} (h : OnSt w0 w N v fm id n j P ls c) (s : Cs) (hs : kd3 s.k ≠ 0) (hp : ClPost N P w w' v fm (doL fm ls s) (doC fm ls c s)) : ∃ P' ls' c', OnSt w0 w' N v fm id n (j + 1) P' ls' c' := by
 obtain ⟨P', k1, k2⟩ := hp.bel h.at_ h.low h.bel
 exact ⟨P', _, _, k1, h.low, k2, clok_do h.ok s, on_do h.inv h.ok s hs, by have h1 := do_len (fm := fm) (ls := ls) (c := c) s; have := h.len; omega⟩
end
end Go.Proofs.YtoepppkadpjonaaGreat
