/- The program's client: a message to each member. -/
import Derived.Test.YtoepppkadpjonaaGreatKlJM
import Derived.Test.YtoepppkadpjonaaGreatNb11
import Derived.Test.YtoepppkadpjonaaGreatNb1
import Derived.Deep.DeepCutAuto
namespace Go.Proofs.YtoepppkadpjonaaGreat
set_option maxRecDepth 100000
open Go.RowKit
abbrev Pk := Int × Int × Ms × Value
def pkV (x : Pk) : List Value := .int .i64 x.1 :: .int .i64 x.2.1 :: msC x.2.2.1 (.slice none 0 0) x.2.2.2 (.slice none 0 0) (.slice none 0 0)
theorem infoPk : (Tryz.prog.info? 81).map (fun i => (i.zero, i.size, i.bytes)) = some (some (.agg #[.int .i64 0, .int .i64 0, .int .i64 0, .int .i64 0, .int .i64 0, .int .i64 0, .int .i64 0, .int .i64 0, .int .i64 0, .string ⟨#[]⟩, .float .f64 0, .int .i64 0, .int .i64 0, .float .f64 0, .string ⟨#[]⟩, .slice none 0 0, .slice none 0 0, .slice none 0 0, .slice none 0 0]), 19, 232) := by kernel_rfl
theorem undPk : Tryz.prog.underlying 52 = some (.slice 81) := by kernel_rfl
def pk0 : Pk := (0, 0, zeroM, .slice none 0 0)
def PkTo (w0 w : World) (fr : Int) (L : List Int) (m : Ms) (S : List Sg) (R : List Pk) (j : Nat) : Prop := R.length = L.length ∧ ∀ i, i < j → ∃ a k, R[i]? = some (fr, L.getD i 0, m, .slice a S.length k) ∧ PairsIn w a S ∧ ∀ x, a = some x → w0.heap.size < x.block
theorem PkTo.low {w0 w1 w : World} {fr : Int} {L : List Int} {m : Ms} {S : List Sg} {R : List Pk} {j : Nat} (h : PkTo w1 w fr L m S R j) (hs : w0.heap.size ≤ w1.heap.size) : PkTo w0 w fr L m S R j := ⟨h.1, fun i hi => by
 obtain ⟨a, k, h1, h2, h3⟩ := h.2 i hi
 exact ⟨a, k, h1, h2, fun x hx => Nat.lt_of_le_of_lt hs (h3 x hx)⟩⟩
theorem pairs_one {w w' : World} {b : Nat} {a : Option Addr} {l : List Sg} (h : PairsIn w a l) (ho : One b w w') (hf : ∀ x, a = some x → x.block ≠ b) : PairsIn w' a l := by
 rcases h with h | ⟨g, off, ha, hg, hc⟩
 · exact .inl h
 · refine .inr ⟨g, off, ha, by rw [ho.size]; exact hg, fun j v hj => ?_⟩
   have := hc j v hj
   have hb := ho.block g (hf _ ha)
   simp only [World.cell?, hb] at this ⊢
   exact this
theorem PkTo.keep {w0 w w' : World} {fr : Int} {L : List Int} {m : Ms} {S : List Sg} {R : List Pk} {j : Nat} (h : PkTo w0 w fr L m S R j) (hb : Below w.heap.size w w') : PkTo w0 w' fr L m S R j := ⟨h.1, fun i hi => by
 obtain ⟨a, k, h1, h2, h3⟩ := h.2 i hi
 exact ⟨a, k, h1, h2.keep hb (Nat.le_refl _), h3⟩⟩
section
variable {O P : Nat → Prop} {N g : Nat} {w : World} {v vt vc va : Value} {fm : List Int} {ls : List Lk} {c : Clt}
set_option maxHeartbeats 6400000 in
theorem ktell_any (h : ClM O N w g vt vc va fm ls c) (hid8 : 1 ≤ c.id ∧ c.id ≤ 8) (hfm : fm.length ≤ 10) (hl : ls.length ≤ 900) (hls : ∀ k, k ∈ ls → k.2.1.length ≤ 10) (m : Ms) (S : List Sg) (sa : Option Addr) (ks : Nat) (hS : PairsIn w sa S) (hSl : S.length * 24 ≤ 140737488355328) :
   Calls Tryz.prog 54 #[.pointer (some ⟨g, 0, none⟩), .agg (msC m (.slice none 0 0) (.slice none 0 0) (.slice none 0 0) (.slice none 0 0)).toArray, .slice sa S.length ks] w fun e w' => ∃ b R, e = .returned (.slice (some ⟨b, 0, none⟩) (atM fm ls (ls.length : Int)).length (atM fm ls (ls.length : Int)).length) ∧ w.heap.size ≤ b ∧ BxAt w' b (R.flatMap pkV) 81 ∧ PkTo w w' (100 + c.id) (atM fm ls (ls.length : Int)) m S R (atM fm ls (ls.length : Int)).length ∧ Below w.heap.size w w' := by
 have HH := hid h
 obtain ⟨gt, hgt⟩ := h.tr.isptr
 subst hgt
 obtain ⟨wa, ea⟩ : ∃ wa, wa = w.alloc (.cells (msC m (.slice none 0 0) (.slice none 0 0) (.slice none 0 0) (.slice none 0 0)).toArray 48) := ⟨_, rfl⟩
 have hb : Below w.heap.size w wa := by rw [ea]; exact (Below.refl _ _).alloc (Nat.le_refl _) _
 have hx : BxAt wa w.heap.size (msC m (.slice none 0 0) (.slice none 0 0) (.slice none 0 0) (.slice none 0 0)) 48 := by rw [ea]; exact heap_alloc_last w _
 obtain ⟨z, ez⟩ : ∃ z, z = atZ 0 ls (ls.length : Int) := ⟨_, rfl⟩
 obtain ⟨L, eL⟩ : ∃ L, L = atM fm ls (ls.length : Int) := ⟨_, rfl⟩
 have hLl : L.length ≤ 10 := by rw [eL]; exact atM_len fm ls hfm hls _
 have HLl := hid hLl
 have HEp := hid (fun (u : World) (hu : Below w.heap.size w u) => lepoch_any O _ fm ls hl u (h.keep hu).tr)
 have HAt := hid (fun (u : World) (hu : Below w.heap.size w u) => lat_any O _ fm hfm ls hl hls (ls.length : Int) u (h.keep hu).tr)
 rw [← ez, ← eL] at HAt
 rw [← eL]
 generalize atB ls (ls.length : Int) = B1 at HAt
 have HCl := hid (fun (u : World) (hu : Below w.heap.size w u) => cloneSigs_any sa S.length ks S rfl hSl u (hS.keep hu (Nat.le_refl _)))
 have HNo := hid (fun (u : World) (hu : Below w.heap.size w u) => knode_any (h.keep hu).blk hid8)
 have H0 : Hid (BxAt wa.drew w.heap.size (msC m (.slice none 0 0) (.slice none 0 0) (.slice none 0 0) (.slice none 0 0)) 48 ∧ BxAt wa.drew g (clC c (.pointer (some ⟨gt, 0, none⟩)) vc va) 94) := hid ⟨hx, h.blk.keep hb.drew⟩
 have HB := hid hb
 have HA := hid ea.symm
 clear h hb hx hfm hl hls hS hSl ez eL ea hLl hid8
 unfold msC at HA ⊢
 go_enter Tryz.func54, Tryz.ntmps54
 try simp only [List.append]
 go_upto_region 1 with fail
 rw [HA.out]
 go_cut [7] (fun v7 wx => ∃ bq ad cp, v7 = .pointer (some ⟨bq, 0, none⟩) ∧ Below w.heap.size w wx ∧ BxAt wx w.heap.size (msC m (.slice none 0 0) (.slice none 0 0) (.slice none 0 0) (.slice none 0 0)) 48 ∧ BxAt wx bq [.int .i64 z, .slice ad L.length cp] 24 ∧ IntsIn wx ad L ∧ w.heap.size < bq ∧ ∀ x, ad = some x → w.heap.size < x.block)
 case first =>
   refine wp_region_G (S := fun ww => BxAt ww w.heap.size (msC m (.slice none 0 0) (.slice none 0 0) (.slice none 0 0) (.slice none 0 0)) 48 ∧ BxAt ww g (clC c (.pointer (some ⟨gt, 0, none⟩)) vc va) 94) (ex := []) (by kernel_rfl) ?_
   try (change wpAnyG _ _ _ _ _ _ _ _ _ (World.drew _))
   refine wpAnyG_take (i := 0) (v := ?v1) rfl (by kernel_rfl) (fun _ _ _ h => h) (Or.inl ⟨by rfl, ?hy1⟩) H0.out ?rest1
   case hy1 => (intro ww _; go_simp; try with_reducible rfl)
   go_simp
   refine wpAnyG_take (i := 1) (v := ?v2) rfl (by kernel_rfl) (fun _ _ _ h => h) (Or.inl ⟨by rfl, ?hy2⟩) H0.out ?rest2
   case hy2 => (intro ww _; go_simp; try with_reducible rfl)
   go_simp
   refine wpAnyG_take (i := 2) (v := ?v3) rfl (by kernel_rfl) (fun _ _ _ h => h) (Or.inl ⟨by rfl, ?hy3⟩) H0.out ?rest3
   case hy3 => (intro ww _; go_simp; try with_reducible rfl)
   go_simp
   refine wpAnyG_take (i := 3) (v := ?v4) rfl (by kernel_rfl) (fun _ _ _ h => h) (Or.inl ⟨by rfl, ?hy4⟩) H0.out ?rest4
   case hy4 => (intro ww hS; obtain ⟨hS1, hS2⟩ := hS; have y1 := hS2.cell 1 _ rfl; go_simp; try with_reducible rfl)
   go_simp
   refine wpAnyG_take (i := 4) (v := ?v5) rfl (by kernel_rfl) (fun _ _ _ h => h) (Or.inl ⟨by rfl, ?hy5⟩) H0.out ?rest5
   case hy5 => (intro ww _; go_simp; try with_reducible rfl)
   go_simp
   refine wpAnyG_take (i := 5) (v := ?v6) rfl (by kernel_rfl) (fun _ _ _ h => h) (Or.inl ⟨by rfl, ?hy6⟩) H0.out ?rest6
   case hy6 => (intro ww _; go_simp; try with_reducible rfl)
   go_simp
   refine wpAnyG_take (i := 6) (v := ?v7) rfl (by kernel_rfl) (fun _ _ _ h => h) (Or.inl ⟨by rfl, ?hy7⟩) H0.out ?rest7
   case hy7 => (intro ww _; go_simp; try with_reducible rfl)
   go_simp
   refine wpAnyG_take (i := 7) (v := ?v8) rfl (by kernel_rfl) (fun _ _ _ h => h) (Or.inl ⟨by rfl, ?hy8⟩) H0.out ?rest8
   case hy8 => (intro ww hS; obtain ⟨hS1, hS2⟩ := hS; have y1 := hS2.cell 1 _ rfl; go_simp; try with_reducible rfl)
   go_simp
   refine wpAnyG_all (rs := [8, 13]) (by kernel_rfl) (by simp) ?_
   intro i hi
   rcases List.mem_cons.1 hi with rfl | hi
   · refine wpOp_c rfl (by rfl) (fun K hK => ?_)
     go_simp
     refine (HEp.out _ HB.out.drew).mono ?_
     rintro e w1 ⟨rfl, hb⟩
     have HB1 := hid (HB.out.drew.trans (hb.mono HB.out.drew.size))
     have H1 : Hid (BxAt w1 w.heap.size (msC m (.slice none 0 0) (.slice none 0 0) (.slice none 0 0) (.slice none 0 0)) 48 ∧ BxAt w1 g (clC c (.pointer (some ⟨gt, 0, none⟩)) vc va) 94) := hid ⟨H0.out.1.keep hb, H0.out.2.keep hb⟩
     clear hb
     refine hK _ _ ⟨fun _ => H1.out, ?_⟩
     clear hK K
     go_simp
     refine wpAnyG_all (rs := [9, 13]) (by kernel_rfl) (by simp) ?_
     intro i hi
     rcases List.mem_cons.1 hi with rfl | hi
     · refine wpOp_c rfl (by rfl) (fun K hK => ?_)
       go_simp
       refine (HAt.out _ HB1.out).mono ?_
       rintro e w2 ⟨ad, cp, rfl, hn, hb⟩
       have HB2 := hid (HB1.out.trans (hb.mono HB1.out.size))
       have HI2 := hid hn.ints
       have HFar := hid (fun x hx => (hn.far x hx))
       have H2 : Hid (BxAt w2 w.heap.size (msC m (.slice none 0 0) (.slice none 0 0) (.slice none 0 0) (.slice none 0 0)) 48 ∧ BxAt w2 g (clC c (.pointer (some ⟨gt, 0, none⟩)) vc va) 94) := hid ⟨H1.out.1.keep hb, H1.out.2.keep hb⟩
       clear hb hn
       refine hK _ _ ⟨fun _ => H2.out, ?_⟩
       clear hK K
       go_simp
       refine wpAnyG_take (i := 10) (v := ?v9) rfl (by kernel_rfl) (fun _ _ _ h => h) (Or.inl ⟨by rfl, ?hy9⟩) H2.out ?rest9
       case hy9 => (intro ww _; go_simp; try with_reducible rfl)
       go_simp
       refine wpAnyG_take (i := 11) (v := ?v10) rfl (by kernel_rfl) (fun _ _ _ h => h) (Or.inl ⟨by rfl, ?hy10⟩) H2.out ?rest10
       case hy10 => (intro ww _; go_simp; try with_reducible rfl)
       go_simp
       refine wpAnyG_take (i := 12) (v := ?v11) rfl (by kernel_rfl) (fun _ _ _ h => h) (Or.inl ⟨by rfl, ?hy11⟩) H2.out ?rest11
       case hy11 => (intro ww _; go_simp; try with_reducible rfl)
       go_simp
       refine wpAnyG_all (rs := [13]) (by kernel_rfl) (by simp) ?_
       intro i hi
       obtain rfl := List.mem_singleton.1 hi
       clear hi
       refine wpOp_c rfl (by rfl) (fun K hK => ?_)
       go_simp
       obtain ⟨w3, e1⟩ : ∃ w3, w3 = w2.alloc (.cells #[.int .i64 0, .slice none 0 0] 24) := ⟨_, rfl⟩
       have hb1 : Below w2.heap.size w2 w3 := by rw [e1]; exact (Below.refl _ _).alloc (Nat.le_refl _) _
       have HC3 : Hid (BxAt w3 w2.heap.size [.int .i64 0, .slice none 0 0] 24) := hid (by rw [e1]; exact heap_alloc_last w2 _)
       have H3 : Hid (BxAt w3 w.heap.size (msC m (.slice none 0 0) (.slice none 0 0) (.slice none 0 0) (.slice none 0 0)) 48 ∧ BxAt w3 g (clC c (.pointer (some ⟨gt, 0, none⟩)) vc va) 94) := hid ⟨BxAt.keep (w := w2) H2.out.1 hb1, BxAt.keep (w := w2) H2.out.2 hb1⟩
       have HB3 := hid (HB2.out.trans (hb1.mono HB2.out.size))
       have HI3 := hid (HI2.out.keep hb1 (Nat.le_refl _))
       have HFr := hid (fun x (hx : ad = some x) => (HFar.out x hx).2.lt)
       rw [← e1]
       clear e1 hb1
       refine hK _ _ ⟨fun _ => H3.out, ?_⟩
       clear hK K
       go_simp
       refine wpAnyG_all (rs := [14]) (by kernel_rfl) (by simp) ?_
       intro i hi
       obtain rfl := List.mem_singleton.1 hi
       clear hi
       refine wpOp_c rfl (by rfl) (fun K hK => ?_)
       refine owp_store_blk 24 _ _ rfl w2.heap.size 0 (by rfl) #[.int .i64 z, .slice ad L.length cp] (by rfl) [.int .i64 0, .slice none 0 0] 24 HC3.out (by simp) (by kernel_rfl) (by simp [Value.oneCell']) ?_
       intro w9 Hz
       have hlm : w.heap.size < w2.heap.size := lt_of_blk H2.out.1
       have hgm : g < w.heap.size := lt_of_blk HH.out.blk
       have HC9 : Hid (BxAt w9 w2.heap.size [.int .i64 z, .slice ad L.length cp] 24) := hid Hz.out.1
       have H9 : Hid (BxAt w9 w.heap.size (msC m (.slice none 0 0) (.slice none 0 0) (.slice none 0 0) (.slice none 0 0)) 48 ∧ BxAt w9 g (clC c (.pointer (some ⟨gt, 0, none⟩)) vc va) 94) := hid ⟨(Hz.out.2.block _ (by omega)).trans H3.out.1, (Hz.out.2.block _ (by omega)).trans H3.out.2⟩
       have HB9 := hid (Hz.out.2.below HB3.out (by omega))
       have HI9 := hid (ints_one HI3.out Hz.out.2 (fun x hx => by have := HFr.out x hx; omega))
       clear Hz
       refine hK _ _ ⟨fun _ => H9.out, ?_⟩
       clear hK K
       go_simp
       refine wpAnyG_take (i := 15) (v := ?v12) rfl (by kernel_rfl) (fun _ _ _ h => h) (Or.inl ⟨by rfl, ?hy12⟩) H9.out ?rest12
       case hy12 => (intro ww _; go_simp; try with_reducible rfl)
       go_simp
       refine wpAnyG_done (by kernel_rfl) ?_ _
       go_simp
       go_wp2_with fail
       go_meet
       exact ⟨w2.heap.size, ad, cp, rfl, HB9.out, H9.out.1, HC9.out, HI9.out, by omega, fun x hx => by have h1 := (HFar.out x hx).1; have h2 := lt_of_blk H1.out.1; omega⟩
     · obtain rfl := List.mem_singleton.1 hi
       clear hi
       refine wpOp_c rfl (by rfl) (fun K hK => ?_)
       go_simp
       obtain ⟨w2, e1⟩ : ∃ w2, w2 = w1.alloc (.cells #[.int .i64 0, .slice none 0 0] 24) := ⟨_, rfl⟩
       have hb1 : Below w1.heap.size w1 w2 := by rw [e1]; exact (Below.refl _ _).alloc (Nat.le_refl _) _
       have HC2 : Hid (BxAt w2 w1.heap.size [.int .i64 0, .slice none 0 0] 24) := hid (by rw [e1]; exact heap_alloc_last w1 _)
       have H2 : Hid (BxAt w2 w.heap.size (msC m (.slice none 0 0) (.slice none 0 0) (.slice none 0 0) (.slice none 0 0)) 48 ∧ BxAt w2 g (clC c (.pointer (some ⟨gt, 0, none⟩)) vc va) 94) := hid ⟨BxAt.keep (w := w1) H1.out.1 hb1, BxAt.keep (w := w1) H1.out.2 hb1⟩
       have HB2 := hid (HB1.out.trans (hb1.mono HB1.out.size))
       skip
       rw [← e1]
       clear e1 hb1
       refine hK _ _ ⟨fun _ => H2.out, ?_⟩
       clear hK K
       go_simp
       refine wpAnyG_all (rs := [9]) (by kernel_rfl) (by simp) ?_
       intro i hi
       obtain rfl := List.mem_singleton.1 hi
       clear hi
       refine wpOp_c rfl (by rfl) (fun K hK => ?_)
       go_simp
       refine (HAt.out _ HB2.out).mono ?_
       rintro e w3 ⟨ad, cp, rfl, hn, hb⟩
       have HB3 := hid (HB2.out.trans (hb.mono HB2.out.size))
       have HI3 := hid hn.ints
       have HFar := hid (fun x hx => (hn.far x hx))
       have H3 : Hid (BxAt w3 w.heap.size (msC m (.slice none 0 0) (.slice none 0 0) (.slice none 0 0) (.slice none 0 0)) 48 ∧ BxAt w3 g (clC c (.pointer (some ⟨gt, 0, none⟩)) vc va) 94) := hid ⟨H2.out.1.keep hb, H2.out.2.keep hb⟩
       have HC3 := hid (HC2.out.keep hb)
       clear hb hn
       refine hK _ _ ⟨fun _ => H3.out, ?_⟩
       clear hK K
       go_simp
       refine wpAnyG_take (i := 10) (v := ?v13) rfl (by kernel_rfl) (fun _ _ _ h => h) (Or.inl ⟨by rfl, ?hy13⟩) H3.out ?rest13
       case hy13 => (intro ww _; go_simp; try with_reducible rfl)
       go_simp
       refine wpAnyG_take (i := 11) (v := ?v14) rfl (by kernel_rfl) (fun _ _ _ h => h) (Or.inl ⟨by rfl, ?hy14⟩) H3.out ?rest14
       case hy14 => (intro ww _; go_simp; try with_reducible rfl)
       go_simp
       refine wpAnyG_take (i := 12) (v := ?v15) rfl (by kernel_rfl) (fun _ _ _ h => h) (Or.inl ⟨by rfl, ?hy15⟩) H3.out ?rest15
       case hy15 => (intro ww _; go_simp; try with_reducible rfl)
       go_simp
       refine wpAnyG_all (rs := [14]) (by kernel_rfl) (by simp) ?_
       intro i hi
       obtain rfl := List.mem_singleton.1 hi
       clear hi
       refine wpOp_c rfl (by rfl) (fun K hK => ?_)
       refine owp_store_blk 24 _ _ rfl w1.heap.size 0 (by rfl) #[.int .i64 z, .slice ad L.length cp] (by rfl) [.int .i64 0, .slice none 0 0] 24 HC3.out (by simp) (by kernel_rfl) (by simp [Value.oneCell']) ?_
       intro w9 Hz
       have hlm : w.heap.size < w1.heap.size := lt_of_blk H1.out.1
       have hgm : g < w.heap.size := lt_of_blk HH.out.blk
       have HC9 : Hid (BxAt w9 w1.heap.size [.int .i64 z, .slice ad L.length cp] 24) := hid Hz.out.1
       have H9 : Hid (BxAt w9 w.heap.size (msC m (.slice none 0 0) (.slice none 0 0) (.slice none 0 0) (.slice none 0 0)) 48 ∧ BxAt w9 g (clC c (.pointer (some ⟨gt, 0, none⟩)) vc va) 94) := hid ⟨(Hz.out.2.block _ (by omega)).trans H3.out.1, (Hz.out.2.block _ (by omega)).trans H3.out.2⟩
       have HB9 := hid (Hz.out.2.below HB3.out (by omega))
       have HI9 := hid (ints_one HI3.out Hz.out.2 (fun x hx => by have := (HFar.out x hx).1; have := lt_of_blk HC2.out; omega))
       clear Hz
       refine hK _ _ ⟨fun _ => H9.out, ?_⟩
       clear hK K
       go_simp
       refine wpAnyG_take (i := 15) (v := ?v16) rfl (by kernel_rfl) (fun _ _ _ h => h) (Or.inl ⟨by rfl, ?hy16⟩) H9.out ?rest16
       case hy16 => (intro ww _; go_simp; try with_reducible rfl)
       go_simp
       refine wpAnyG_done (by kernel_rfl) ?_ _
       go_simp
       go_wp2_with fail
       go_meet
       exact ⟨w1.heap.size, ad, cp, rfl, HB9.out, H9.out.1, HC9.out, HI9.out, by omega, fun x hx => by have h1 := (HFar.out x hx).1; have h2 := lt_of_blk H2.out.1; omega⟩
   · obtain rfl := List.mem_singleton.1 hi
     clear hi
     refine wpOp_c rfl (by rfl) (fun K hK => ?_)
     go_simp
     obtain ⟨w1, e1⟩ : ∃ w1, w1 = (wa.alloc (.cells #[.int .i64 0, .slice none 0 0] 24)).drew := ⟨_, rfl⟩
     have hb1 : Below wa.heap.size wa w1 := by rw [e1]; exact ((Below.refl _ _).alloc (Nat.le_refl _) _).drew
     have HC1 : Hid (BxAt w1 wa.heap.size [.int .i64 0, .slice none 0 0] 24) := hid (by rw [e1]; exact heap_alloc_last wa _)
     have H1 : Hid (BxAt w1 w.heap.size (msC m (.slice none 0 0) (.slice none 0 0) (.slice none 0 0) (.slice none 0 0)) 48 ∧ BxAt w1 g (clC c (.pointer (some ⟨gt, 0, none⟩)) vc va) 94) := hid ⟨BxAt.keep (w := wa) H0.out.1 hb1, BxAt.keep (w := wa) H0.out.2 hb1⟩
     have HB1 := hid (HB.out.trans (hb1.mono HB.out.size))
     skip
     rw [← e1]
     clear e1 hb1
     refine hK _ _ ⟨fun _ => H1.out, ?_⟩
     clear hK K
     go_simp
     refine wpAnyG_all (rs := [8]) (by kernel_rfl) (by simp) ?_
     intro i hi
     obtain rfl := List.mem_singleton.1 hi
     clear hi
     refine wpOp_c rfl (by rfl) (fun K hK => ?_)
     go_simp
     refine (HEp.out _ HB1.out).mono ?_
     rintro e w2 ⟨rfl, hb⟩
     have HB2 := hid (HB1.out.trans (hb.mono HB1.out.size))
     have H2 : Hid (BxAt w2 w.heap.size (msC m (.slice none 0 0) (.slice none 0 0) (.slice none 0 0) (.slice none 0 0)) 48 ∧ BxAt w2 g (clC c (.pointer (some ⟨gt, 0, none⟩)) vc va) 94) := hid ⟨H1.out.1.keep hb, H1.out.2.keep hb⟩
     have HC2 := hid (HC1.out.keep hb)
     have HZ2 := hid hb.size
     clear hb
     refine hK _ _ ⟨fun _ => H2.out, ?_⟩
     clear hK K
     go_simp
     refine wpAnyG_all (rs := [9]) (by kernel_rfl) (by simp) ?_
     intro i hi
     obtain rfl := List.mem_singleton.1 hi
     clear hi
     refine wpOp_c rfl (by rfl) (fun K hK => ?_)
     go_simp
     refine (HAt.out _ HB2.out).mono ?_
     rintro e w3 ⟨ad, cp, rfl, hn, hb⟩
     have HB3 := hid (HB2.out.trans (hb.mono HB2.out.size))
     have HI3 := hid hn.ints
     have HFar := hid (fun x hx => (hn.far x hx))
     have H3 : Hid (BxAt w3 w.heap.size (msC m (.slice none 0 0) (.slice none 0 0) (.slice none 0 0) (.slice none 0 0)) 48 ∧ BxAt w3 g (clC c (.pointer (some ⟨gt, 0, none⟩)) vc va) 94) := hid ⟨H2.out.1.keep hb, H2.out.2.keep hb⟩
     have HC3 := hid (HC2.out.keep hb)
     clear hb hn
     refine hK _ _ ⟨fun _ => H3.out, ?_⟩
     clear hK K
     go_simp
     refine wpAnyG_take (i := 10) (v := ?v17) rfl (by kernel_rfl) (fun _ _ _ h => h) (Or.inl ⟨by rfl, ?hy17⟩) H3.out ?rest17
     case hy17 => (intro ww _; go_simp; try with_reducible rfl)
     go_simp
     refine wpAnyG_take (i := 11) (v := ?v18) rfl (by kernel_rfl) (fun _ _ _ h => h) (Or.inl ⟨by rfl, ?hy18⟩) H3.out ?rest18
     case hy18 => (intro ww _; go_simp; try with_reducible rfl)
     go_simp
     refine wpAnyG_take (i := 12) (v := ?v19) rfl (by kernel_rfl) (fun _ _ _ h => h) (Or.inl ⟨by rfl, ?hy19⟩) H3.out ?rest19
     case hy19 => (intro ww _; go_simp; try with_reducible rfl)
     go_simp
     refine wpAnyG_all (rs := [14]) (by kernel_rfl) (by simp) ?_
     intro i hi
     obtain rfl := List.mem_singleton.1 hi
     clear hi
     refine wpOp_c rfl (by rfl) (fun K hK => ?_)
     refine owp_store_blk 24 _ _ rfl wa.heap.size 0 (by rfl) #[.int .i64 z, .slice ad L.length cp] (by rfl) [.int .i64 0, .slice none 0 0] 24 HC3.out (by simp) (by kernel_rfl) (by simp [Value.oneCell']) ?_
     intro w9 Hz
     have hlm : w.heap.size < wa.heap.size := lt_of_blk H0.out.1
     have hgm : g < w.heap.size := lt_of_blk HH.out.blk
     have HC9 : Hid (BxAt w9 wa.heap.size [.int .i64 z, .slice ad L.length cp] 24) := hid Hz.out.1
     have H9 : Hid (BxAt w9 w.heap.size (msC m (.slice none 0 0) (.slice none 0 0) (.slice none 0 0) (.slice none 0 0)) 48 ∧ BxAt w9 g (clC c (.pointer (some ⟨gt, 0, none⟩)) vc va) 94) := hid ⟨(Hz.out.2.block _ (by omega)).trans H3.out.1, (Hz.out.2.block _ (by omega)).trans H3.out.2⟩
     have HB9 := hid (Hz.out.2.below HB3.out (by omega))
     have HI9 := hid (ints_one HI3.out Hz.out.2 (fun x hx => by have := (HFar.out x hx).1; have := lt_of_blk HC2.out; omega))
     clear Hz
     refine hK _ _ ⟨fun _ => H9.out, ?_⟩
     clear hK K
     go_simp
     refine wpAnyG_take (i := 15) (v := ?v20) rfl (by kernel_rfl) (fun _ _ _ h => h) (Or.inl ⟨by rfl, ?hy20⟩) H9.out ?rest20
     case hy20 => (intro ww _; go_simp; try with_reducible rfl)
     go_simp
     refine wpAnyG_done (by kernel_rfl) ?_ _
     go_simp
     go_wp2_with fail
     go_meet
     exact ⟨wa.heap.size, ad, cp, rfl, HB9.out, H9.out.1, HC9.out, HI9.out, by omega, fun x hx => by have h1 := (HFar.out x hx).1; have h2 := lt_of_blk H2.out.1; omega⟩
 case rest =>
   obtain ⟨bq, ad, cp, rfl, h1, h2, h3, h4, h5, h6⟩ := hcut
   have HW := hid (And.intro h1 (And.intro h2 (And.intro h3 (And.intro h4 (And.intro h5 h6)))))
   have y1 := h3.cell 1 _ rfl
   clear h1 h2 h3 h4 h5 h6
   obtain ⟨i0, hi0, hz0, hz1, hz2⟩ := info_parts infoPk
   have HI := hid (And.intro hi0 (And.intro hz0 (And.intro hz1 hz2)))
   have hLI : (L.length : Int) ≤ 10 := by have := HLl.out; omega
   have hL0 : (0 : Int) ≤ (L.length : Int) := Int.natCast_nonneg _
   clear hi0 hz0 hz1 hz2
   go_wp2_with (refine wpList_make_full _ rfl _ _ 52 rfl 0 81 i0 (.agg #[.int .i64 0, .int .i64 0, .int .i64 0, .int .i64 0, .int .i64 0, .int .i64 0, .int .i64 0, .int .i64 0, .int .i64 0, .string ⟨#[]⟩, .float .f64 0, .int .i64 0, .int .i64 0, .float .f64 0, .string ⟨#[]⟩, .slice none 0 0, .slice none 0 0, .slice none 0 0, .slice none 0 0]) 19 undPk HI.out.1 HI.out.2.1 HI.out.2.2.1 .i64 .i64 _ _ L.length rfl rfl rfl rfl (by rw [HI.out.2.2.2]; have := HLl.out; omega) (by have := HLl.out; unfold maxLen; omega) (Nat.zero_le _) ?_; intro w3 hown hgrow; go_must (have H3 : Hid (BxAt w3 wc.heap.size ((List.replicate L.length pk0).flatMap pkV) 81 ∧ Below wc.heap.size wc w3) := hid (by
         refine ⟨?_, ⟨hgrow.os, hgrow.tape, hgrow.output, hgrow.size, fun k hk => hgrow.block k hk (by simp)⟩⟩
         rcases hown.2 with ⟨hv, _⟩ | ⟨g, cap, cur, hv, _, hh, _, _, hcs, htk⟩
         · cases hv
         · cases hv
           rw [List.take_of_length_le (by rw [Array.length_toList]; omega)] at htk
           show w3.heap[_]? = _
           rw [hh]
           congr 2
           rw [← Array.toList_inj, htk]
           exact made_rows (f := pkV) (by decide) (fun _ => rfl) #[.int .i64 0, .int .i64 0, .int .i64 0, .int .i64 0, .int .i64 0, .int .i64 0, .int .i64 0, .int .i64 0, .int .i64 0, .string ⟨#[]⟩, .float .f64 0, .int .i64 0, .int .i64 0, .float .f64 0, .string ⟨#[]⟩, .slice none 0 0, .slice none 0 0, .slice none 0 0, .slice none 0 0] pk0 rfl L.length)); have y1 := (HW.out.2.2.1.keep H3.out.2).cell 1 _ rfl; clear hown hgrow)
   clear y1
   go_loopw [32] (fun i wr => ∃ (j : Nat) (R : List Pk) (vs : Value), j ≤ L.length ∧ i = .int .i64 (j : Int) ∧ Below w.heap.size w wr ∧ BxAt wr w.heap.size (msC m (.slice none 0 0) vs (.slice none 0 0) (.slice none 0 0)) 48 ∧ BxAt wr wc.heap.size (R.flatMap pkV) 81 ∧ PkTo wc wr (100 + c.id) L m S R j ∧ IntsIn wr ad L ∧ wc.heap.size < wr.heap.size)
     (fun i _ => ((L.length : Int) - intOf i).toNat)
   case atStart => exact ⟨0, _, _, Nat.zero_le _, rfl, HW.out.1.trans (H3.out.2.mono HW.out.1.size), HW.out.2.1.keep H3.out.2, H3.out.1, ⟨by rw [List.length_replicate], fun i hi => by omega⟩, HW.out.2.2.2.1.keep H3.out.2 (Nat.le_refl _), lt_of_blk H3.out.1⟩
   case round =>
     obtain ⟨j, R, vs, hj, rfl, hb, hm, hp, hR, hI, hz⟩ := hrel
     have HQ := hid (And.intro hb (And.intro hm (And.intro hp (And.intro hR (And.intro hI hz)))))
     clear hb hm hp hR hI hz
     have hj0 : (0 : Int) ≤ (j : Int) := Int.natCast_nonneg _
     by_cases hjn : j = L.length
     · have hj1 : ¬ ((j : Int) < (L.length : Int)) := by omega
       have HR := HQ.out.2.2.2.1
       rw [hjn] at HR
       have HRf := hid HR
       clear HR hj hjn
       go_wp2
       go_ret
       exact ⟨wc.heap.size, rfl, HW.out.1.size, R, HQ.out.2.2.1, HRf.out.low HW.out.1.size, HQ.out.1⟩
     · have hj1 : (j : Int) < (L.length : Int) := by omega
       have hjl : j < L.length := by omega
       obtain ⟨gi, off, rfl, hgi, hci⟩ : ∃ gi off, ad = some ⟨gi, off, none⟩ ∧ gi < wr.heap.size ∧ wr.cell? ⟨gi, off + j, none⟩ = some (.int .i64 (L.getD j 0)) := by
         rcases HQ.out.2.2.2.2.1 with h0 | ⟨gi, off, h1, h2, h3⟩
         · rw [h0] at hjl; cases hjl
         · exact ⟨gi, off, h1, h2, h3 j _ (by simp [hjl])⟩
       obtain ⟨tq, etq⟩ : ∃ tq, tq = L.getD j 0 := ⟨_, rfl⟩
       rw [← etq] at hci
       have HTq := hid etq
       clear etq
       have HJ := hid (And.intro hj hjn)
       have HGi := hid hgi
       clear hj hjn hgi
       go_wp2_with (first
         | (go_at_call 107; go_must (refine (HCl.out _ HQ.out.1).mono ?_; rintro e w5 ⟨a1, k1, rfl, hn, hb⟩; have H5 := hid (And.intro (HQ.out.1.trans (hb.mono HQ.out.1.size)) (And.intro (HQ.out.2.1.keep hb) (And.intro (HQ.out.2.2.1.keep hb) (And.intro (HQ.out.2.2.2.1.keep hb) (And.intro (HQ.out.2.2.2.2.1.keep hb (Nat.le_refl _)) (And.intro hn hb.size)))))); clear hb hn hci))
         | (have := H5; refine wl_store1 rfl 44 _ _ rfl w.heap.size 14 rfl (.slice a1 S.length k1) rfl rfl rfl _ 48 H5.out.2.1 (by simp [msC]) (by kernel_rfl) ?_; go_must (intro w6 Hz; have H6 : Hid (Below w.heap.size w w6 ∧ (BxAt w6 w.heap.size (msC m (.slice none 0 0) (.slice a1 S.length k1) (.slice none 0 0) (.slice none 0 0)) 48 ∧ BxAt w6 wc.heap.size (R.flatMap pkV) 81 ∧ BxAt w6 g (clC c (.pointer (some ⟨gt, 0, none⟩)) vc va) 94) ∧ One w.heap.size w5 w6) := hid ⟨Hz.out.2.below H5.out.1 (Nat.le_refl _), ⟨Hz.out.1, (Hz.out.2.block _ (by have := HW.out.2.2.2.2.1; have := lt_of_blk HW.out.2.2.1; omega)).trans H5.out.2.2.1, (Hz.out.2.block _ (by have := lt_of_blk HH.out.blk; omega)).trans (HH.out.keep H5.out.1).blk⟩, Hz.out.2⟩; clear Hz)))
       have HS : Hid (BxAt w6.drew w.heap.size (msC m (.slice none 0 0) (.slice a1 S.length k1) (.slice none 0 0) (.slice none 0 0)) 48 ∧ BxAt w6.drew wc.heap.size (R.flatMap pkV) 81 ∧ BxAt w6.drew g (clC c (.pointer (some ⟨gt, 0, none⟩)) vc va) 94) := hid H6.out.2.1
       have HLn : Hid (R.length = L.length) := hid HQ.out.2.2.2.1.1
       have HSt : Hid (setAt (R.flatMap pkV) (j * 19) (pkV (100 + c.id, tq, m, .slice a1 S.length k1)) = ((R.set j (100 + c.id, tq, m, .slice a1 S.length k1)).flatMap pkV)) := hid (row_set (f := pkV) (k := 19) (fun _ => rfl) (by have := HLn.out; have := HJ.out; omega) _)
       have HRl : Hid ((R.flatMap pkV).length = L.length * 19) := hid (by rw [row_len (f := pkV) (k := 19) (fun _ => rfl), HLn.out])
       refine wp_region_G (S := fun ww => BxAt ww w.heap.size (msC m (.slice none 0 0) (.slice a1 S.length k1) (.slice none 0 0) (.slice none 0 0)) 48 ∧ BxAt ww wc.heap.size (R.flatMap pkV) 81 ∧ BxAt ww g (clC c (.pointer (some ⟨gt, 0, none⟩)) vc va) 94) (ex := [8]) (by kernel_rfl) ?_
       try (change wpAnyG _ _ _ _ _ _ _ _ _ (World.drew _))
       refine wpAnyG_take (i := 0) (v := ?v201) rfl (by kernel_rfl) (fun _ _ _ h => h) (Or.inl ⟨by rfl, ?hy201⟩) HS.out ?rest201
       case hy201 => (intro ww _; go_simp; try with_reducible rfl)
       go_simp
       refine wpAnyG_take (i := 1) (v := ?v202) rfl (by kernel_rfl) (fun _ _ _ h => h) (Or.inl ⟨by rfl, ?hy202⟩) HS.out ?rest202
       case hy202 => (intro ww _; go_simp; try with_reducible rfl)
       go_simp
       refine wpAnyG_take (i := 2) (v := ?v203) rfl (by kernel_rfl) (fun _ _ _ h => h) (Or.inl ⟨by rfl, ?hy203⟩) HS.out ?rest203
       case hy203 => (intro ww _; go_simp; try with_reducible rfl)
       go_simp
       refine wpAnyG_take (i := 4) (v := ?v204) rfl (by kernel_rfl) (fun _ _ _ h => h) (Or.inl ⟨by rfl, ?hy204⟩) HS.out ?rest204
       case hy204 => (intro ww _; go_simp; try with_reducible rfl)
       go_simp
       refine wpAnyG_take (i := 5) (v := ?v205) rfl (by kernel_rfl) (fun _ _ _ h => h) (Or.inl ⟨by rfl, ?hy205⟩) HS.out ?rest205
       case hy205 => (intro ww hS; obtain ⟨hS1, hS2, hS3⟩ := hS; have y0 := hS1.cell 0 _ rfl; have y1 := hS1.cell 1 _ rfl; have y2 := hS1.cell 2 _ rfl; have y3 := hS1.cell 3 _ rfl; have y4 := hS1.cell 4 _ rfl; have y5 := hS1.cell 5 _ rfl; have y6 := hS1.cell 6 _ rfl; have y7 := hS1.cell 7 _ rfl; have y8 := hS1.cell 8 _ rfl; have y9 := hS1.cell 9 _ rfl; have y10 := hS1.cell 10 _ rfl; have y11 := hS1.cell 11 _ rfl; have y12 := hS1.cell 12 _ rfl; have y13 := hS1.cell 13 _ rfl; have y14 := hS1.cell 14 _ rfl; have y15 := hS1.cell 15 _ rfl; have y16 := hS1.cell 16 _ rfl; go_simp; try with_reducible rfl)
       go_simp
       refine wpAnyG_all (rs := [3]) (by kernel_rfl) (by simp) ?_
       intro i hi
       obtain rfl := List.mem_singleton.1 hi
       clear hi
       refine wpOp_c rfl (by rfl) (fun K hK => ?_)
       go_simp
       refine (HNo.out _ H6.out.1.drew).mono ?_
       rintro e w7 ⟨rfl, hb⟩
       have H7 : Hid ((BxAt w7 w.heap.size (msC m (.slice none 0 0) (.slice a1 S.length k1) (.slice none 0 0) (.slice none 0 0)) 48 ∧ BxAt w7 wc.heap.size (R.flatMap pkV) 81 ∧ BxAt w7 g (clC c (.pointer (some ⟨gt, 0, none⟩)) vc va) 94) ∧ Below w.heap.size w w7 ∧ Below w6.heap.size w6 w7) := hid ⟨⟨HS.out.1.keep hb, HS.out.2.1.keep hb, HS.out.2.2.keep hb⟩, H6.out.1.drew.trans (hb.mono H6.out.1.drew.size), (Below.refl _ _).drew.trans hb⟩
       clear hb
       refine hK _ _ ⟨fun _ => H7.out.1, ?_⟩
       clear hK K
       go_simp
       refine wpAnyG_take (i := 6) (v := ?v206) rfl (by kernel_rfl) (fun _ _ _ h => h) (Or.inl ⟨by rfl, ?hy206⟩) H7.out.1 ?rest206
       case hy206 => (intro ww _; go_simp; try with_reducible rfl)
       go_simp
       refine wpAnyG_take (i := 7) (v := ?v207) rfl (by kernel_rfl) (fun _ _ _ h => h) (Or.inl ⟨by rfl, ?hy207⟩) H7.out.1 ?rest207
       case hy207 => (intro ww _; go_simp; try with_reducible rfl)
       go_simp
       refine wpAnyG_all (rs := [8]) (by kernel_rfl) (by simp) ?_
       intro i hi
       obtain rfl := List.mem_singleton.1 hi
       clear hi
       refine wpOp_c rfl (by rfl) (fun K hK => ?_)
       refine owp_store_blk 81 _ _ rfl wc.heap.size (j * 19) (by rfl) (pkV (100 + c.id, tq, m, .slice a1 S.length k1)).toArray (by rfl) _ 81 H7.out.1.2.1 (by rw [HRl.out]; have := HJ.out; show j * 19 + 19 ≤ L.length * 19; omega) (by kernel_rfl) (by simp [pkV, msC, Value.oneCell']) ?_
       intro w8 Hz
       have H8 : Hid (One wc.heap.size w7 w8 ∧ BxAt w8 wc.heap.size ((R.set j (100 + c.id, tq, m, .slice a1 S.length k1)).flatMap pkV) 81) := hid ⟨Hz.out.2, by have h9 := Hz.out.1; rw [List.toList_toArray, HSt.out] at h9; exact h9⟩
       clear Hz
       refine hK _ _ ⟨fun h => absurd (by simp) h, ?_⟩
       clear hK K
       go_simp
       refine wpAnyG_done (by kernel_rfl) ?_ _
       go_simp
       go_wp2
       go_roundw
       case rel =>
         have hw5 := H5.out
         have hone6 := H6.out.2.2
         have hb7 := H7.out.2.2
         have ho8 := H8.out.1
         have hwc : w.heap.size ≤ wc.heap.size := HW.out.1.size
         have hmlt : w.heap.size < wc.heap.size := by have := HW.out.2.2.2.2.1; have := lt_of_blk HW.out.2.2.1; omega
         refine ⟨j + 1, R.set j (100 + c.id, tq, m, .slice a1 S.length k1), .slice a1 S.length k1, by have := HJ.out; omega, by go_num, ho8.below H7.out.2.1 hwc, (ho8.block _ (by omega)).trans H7.out.1.1, H8.out.2, ⟨by rw [List.length_set]; exact HLn.out, fun i hi => ?_⟩, ?_, by rw [ho8.size]; have := hb7.size; have := hone6.size; have := hw5.2.2.2.2.2.2; have := HQ.out.2.2.2.2.2; omega⟩
         · by_cases hij : i = j
           · subst hij
             refine ⟨a1, k1, by rw [List.getElem?_set_self (by have := HLn.out; have := HJ.out; omega), HTq.out], ?_, fun x hx => Nat.lt_of_lt_of_le HQ.out.2.2.2.2.2 (hw5.2.2.2.2.2.1.far x hx).1⟩
             have q5 := hw5.2.2.2.2.2.1
             refine pairs_one (PairsIn.keep (pairs_one q5.pairs hone6 (fun x hx => ?_)) hb7 (Nat.le_refl _)) ho8 (fun x hx => ?_)
             · have := (q5.far x hx).1; have := HQ.out.2.2.2.2.2; omega
             · have := (q5.far x hx).1; have := HQ.out.2.2.2.2.2; omega
           · obtain ⟨a2, k2, g1, g2, g3⟩ := hw5.2.2.2.1.2 i (by omega)
             refine ⟨a2, k2, by rw [List.getElem?_set_ne (by omega)]; exact g1, pairs_one (PairsIn.keep (pairs_one g2 hone6 (fun x hx => by have := g3 x hx; omega)) hb7 (Nat.le_refl _)) ho8 (fun x hx => by have := g3 x hx; omega), g3⟩
         · have hgw : gi < wc.heap.size := by
             rcases HW.out.2.2.2.1 with h0 | ⟨g9, o9, e9, h9, _⟩
             · have := HJ.out; rw [h0] at this; simp only [List.length_nil] at this; omega
             · cases e9; exact h9
           have hgm := HW.out.2.2.2.2.2 _ rfl
           simp only at hgm
           exact ints_one (IntsIn.keep (ints_one hw5.2.2.2.2.1 hone6 (fun x hx => by cases hx; show gi ≠ _; omega)) hb7 (Nat.le_refl _)) ho8 (fun x hx => by cases hx; show gi ≠ _; omega)
       case measure => simp [intOf]; omega
end
end Go.Proofs.YtoepppkadpjonaaGreat
