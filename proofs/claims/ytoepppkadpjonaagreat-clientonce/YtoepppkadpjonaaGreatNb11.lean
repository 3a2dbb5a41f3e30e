/- Texts laid together: KlL DsI. -/
import Derived.Test.YtoepppkadpjonaaGreatNb8
import Derived.Test.YtoepppkadpjonaaGreatNb6
import Derived.Deep.RegionLaw
namespace Go.Proofs.YtoepppkadpjonaaGreat
section
set_option maxRecDepth 100000
open Go.RowKit
theorem made_rows {α : Type} {f : α → List Value} {k : Nat} (hk : 0 < k) (hf : ∀ x, (f x).length = k) (z : Array Value) (x0 : α) (hz : z.toList = f x0) (n : Nat) : (madeCells z (n * k)).toList = (List.replicate n x0).flatMap f := by
 have hzs : z.size = k := by rw [← Array.length_toList, hz, hf]
 apply List.ext_getElem?
 intro i
 by_cases hi : i < n * k
 · have h1 : i / k < n := Nat.div_lt_of_lt_mul (by rwa [Nat.mul_comm])
   have hm := Nat.mod_lt i hk
   have h2 := row_at hf (G := List.replicate n x0) (i := i / k) (x := x0) (by simp [h1]) (i % k) hm
   rw [Nat.mul_comm (i / k) k, Nat.div_add_mod] at h2
   rw [h2, ← hz]
   simp [madeCells, hi, hzs, hm]
 · rw [List.getElem?_eq_none (by rw [Array.length_toList, size_madeCells]; omega), List.getElem?_eq_none (by rw [row_len hf, List.length_replicate]; omega)]
def enV (x : Int × Rq) : List Value := [.int .i64 x.1, .int .i64 x.2.c, .int .i64 x.2.st, .int .i64 x.2.k, .string x.2.key, .float .f64 x.2.b, .int .i64 x.2.id]
def rsV2 (x : Int × Nat) : List Value := [.int .i64 x.1, .float .f64 x.2]
def an0 : An := (zeroQ, (0, 0))
def toldE (l : List An) (j : Nat) : List (Int × Rq) := ((List.range j).map fun i => (((i : Nat) : Int) + 1, (l.getD i an0).1)) ++ List.replicate (l.length - j) (0, zeroQ)
def toldR (l : List An) (j : Nat) : List (Int × Nat) := ((List.range j).map fun i => (l.getD i an0).2) ++ List.replicate (l.length - j) (0, 0)
theorem told_set {α : Type} (F : Nat → α) (x0 : α) (n j : Nat) (hj : j < n) : ((List.range j).map F ++ List.replicate (n - j) x0).set j (F j) = (List.range (j + 1)).map F ++ List.replicate (n - (j + 1)) x0 := by
 rw [List.set_append_right _ _ (by simp), List.length_map, List.length_range, Nat.sub_self, show n - j = (n - (j + 1)) + 1 by omega, List.replicate_succ, List.set_cons_zero, List.range_succ, List.map_append, List.append_assoc]
 rfl
theorem infoEn : (Tryz.prog.info? 71).map (fun i => (i.zero, i.size, i.bytes)) = some (some (.agg #[.int .i64 0, .int .i64 0, .int .i64 0, .int .i64 0, .string ⟨#[]⟩, .float .f64 0, .int .i64 0]), 7, 64) := by kernel_rfl
theorem undEn : Tryz.prog.underlying 64 = some (.slice 71) := by kernel_rfl
theorem infoRs : (Tryz.prog.info? 43).map (fun i => (i.zero, i.size, i.bytes)) = some (some (.agg #[.int .i64 0, .float .f64 0]), 2, 16) := by kernel_rfl
theorem undRs : Tryz.prog.underlying 67 = some (.slice 43) := by kernel_rfl
section
variable {O P : Nat → Prop} {N g : Nat} {w : World} {v vt vc va : Value} {fm : List Int} {ls : List Lk} {c : Clt}
set_option maxHeartbeats 6400000 in
theorem kresults_any (h : ClM O N w g vt vc va fm ls c) (hm : c.ac.length * 72 ≤ 140737488355328) : Calls Tryz.prog 25 #[.pointer (some ⟨g, 0, none⟩)] w fun e w' => ∃ b, e = .returned (.slice (some ⟨b, 0, none⟩) c.ac.length c.ac.length) ∧ w.heap.size ≤ b ∧ BxAt w' b ((toldR c.ac c.ac.length).flatMap rsV2) 43 ∧ Below w.heap.size w w' := by
 have y10 := h.blk.cell 10 _ rfl
 have hlt := lt_of_blk h.blk
 obtain ⟨ad, cap, rfl, _, hc⟩ := row_open h.ac
 have HC := hid hc
 have HBk := hid (And.intro h.blk hlt)
 obtain ⟨n, en⟩ : ∃ n, n = c.ac.length := ⟨_, rfl⟩
 have hnI : (n : Int) ≤ 9223372036854775807 := by omega
 have hn0 : (0 : Int) ≤ (n : Int) := Int.natCast_nonneg _
 have HM := hid (show n * 72 ≤ 140737488355328 by rw [en]; exact hm)
 have HN := hid en
 rw [← en] at y10 ⊢
 obtain ⟨i0, hi0, hz0, hz1, hz2⟩ := info_parts infoRs
 have HI := hid (And.intro hi0 (And.intro hz0 (And.intro hz1 hz2)))
 clear hc h en hm hlt hi0 hz0 hz1 hz2
 go_enter Tryz.func25, Tryz.ntmps25
 go_wp2_with (refine wpList_make_full _ rfl _ _ 67 rfl 0 43 i0 (.agg #[.int .i64 0, .float .f64 0]) 2 undRs HI.out.1 HI.out.2.1 HI.out.2.2.1 .i64 .i64 _ _ n rfl rfl rfl rfl (by rw [HI.out.2.2.2]; have := HM.out; omega) (by have := HM.out; unfold maxLen; omega) (Nat.zero_le _) ?_; intro w3 hown hgrow; go_must (have H3 : Hid (BxAt w3 w.heap.size ((toldR c.ac 0).flatMap rsV2) 43 ∧ Below w.heap.size w w3) := hid (by
       refine ⟨?_, ⟨hgrow.os, hgrow.tape, hgrow.output, hgrow.size, fun k hk => hgrow.block k hk (by simp)⟩⟩
       rcases hown.2 with ⟨hv, _⟩ | ⟨g, cap, cur, hv, _, hh, _, _, hcs, htk⟩
       · cases hv
       · cases hv
         rw [List.take_of_length_le (by rw [Array.length_toList]; omega)] at htk
         show w3.heap[_]? = _
         rw [hh]
         congr 2
         rw [← Array.toList_inj, htk]
         show (madeCells #[.int .i64 0, .float .f64 0] (n * 2)).toList = _
         rw [made_rows (f := rsV2) (by decide) (fun _ => rfl) #[.int .i64 0, .float .f64 0] (0, 0) rfl n, toldR, ← HN.out]
         simp)); have y10 := (HBk.out.1.keep H3.out.2).cell 10 _ rfl; rw [← HN.out] at y10; clear hown hgrow)
 clear y10
 go_loopw [19] (fun i wr => ∃ j : Nat, j ≤ n ∧ i = .int .i64 (j : Int) ∧ Below w.heap.size w wr ∧ BxAt wr w.heap.size ((toldR c.ac j).flatMap rsV2) 43)
   (fun i _ => ((n : Int) - intOf i).toNat)
 case atStart => exact ⟨0, Nat.zero_le _, rfl, H3.out.2, H3.out.1⟩
 case round =>
   obtain ⟨j, hj, rfl, hbel, hbx⟩ := hrel
   have HB := hid hbel
   have HX := hid hbx
   clear hbel hbx
   have hj0 : (0 : Int) ≤ (j : Int) := Int.natCast_nonneg _
   by_cases hjn : j = n
   · have hj1 : ¬ ((j : Int) < (n : Int)) := by omega
     have HX2 := HX.out
     rw [hjn] at HX2
     have HXf := hid HX2
     clear hj hjn HX2
     go_wp2
     go_ret
     exact ⟨w.heap.size, rfl, Nat.le_refl _, HXf.out, HB.out⟩
   · have hj1 : (j : Int) < (n : Int) := by omega
     have hjl : j < c.ac.length := by have := HN.out; omega
     obtain ⟨x, hx⟩ : ∃ x, c.ac[j]? = some x := ⟨_, List.getElem?_eq_getElem hjl⟩
     have hxd : c.ac.getD j an0 = x := by rw [List.getD_eq_getElem?_getD, hx]; rfl
     obtain ⟨r, rfl, hr, hcs⟩ := HC.out (by omega)
     have HF := hid (fun (q : Nat) (u : Value) (hq : (anV x)[q]? = some u) => (HB.out.cell (p := ⟨r, j * 8 + q, none⟩) hr).trans (hcs _ _ (anC_at c.ac j x hx q u hq)))
     have HS : Hid (setAt ((toldR c.ac j).flatMap rsV2) (j * 2) (rsV2 x.2) = ((toldR c.ac (j + 1)).flatMap rsV2)) := hid (by
       rw [row_set (f := rsV2) (k := 2) (fun _ => rfl) (by rw [toldR, List.length_append, List.length_map, List.length_range, List.length_replicate]; omega), toldR, toldR, ← told_set _ _ _ j hjl, hxd])
     have HLn : Hid (((toldR c.ac j).flatMap rsV2).length = n * 2) := hid (by rw [row_len (f := rsV2) (k := 2) (fun _ => rfl), toldR, List.length_append, List.length_map, List.length_range, List.length_replicate, ← HN.out]; congr 1; omega)
     have HJ := hid (And.intro hj hjn)
     obtain ⟨A, eA⟩ : ∃ A, A = Value.agg (anV x).toArray := ⟨_, rfl⟩
     have HA := hid eA
     obtain ⟨B, eB⟩ : ∃ B, B = Value.agg #[.int .i64 x.2.1, .float .f64 x.2.2] := ⟨_, rfl⟩
     have HBv := hid eB
     clear hj hjn hjl hx hxd hcs hr eA eB
     go_wp2_with (first
       | (have := H5; refine wl_store_blk rfl 43 _ _ rfl w.heap.size (j * 2) (by rfl) (rsV2 x.2).toArray (by rw [HBv.out]; rfl) _ 43 H5.out.2.2 (by rw [HLn.out]; have := HJ.out; show j * 2 + 2 ≤ n * 2; omega) (by kernel_rfl) (by simp [rsV2, Value.oneCell']) ?_; go_must (intro w6 Hz; have H6 : Hid (Below w.heap.size w w6 ∧ BxAt w6 w.heap.size ((toldR c.ac (j + 1)).flatMap rsV2) 43) := hid ⟨Hz.out.2.below H5.out.1 (Nat.le_refl _), by have h9 := Hz.out.1; rw [List.toList_toArray, HS.out] at h9; exact h9⟩; clear Hz))
       | (have := H5; refine wl_ldat rfl 43 _ rfl wr.heap.size 6 rfl [.int .i64 x.2.1, .float .f64 x.2.2] (fun q u hq => cell_at (L := anV x) H5.out.2.1 (6 + q) u (by first | exact hq | (match q, hq with | 0, hq => exact hq | 1, hq => exact hq | q + 2, hq => cases hq) | (match q, hq with | 0, hq => exact hq | 1, hq => exact hq | 2, hq => exact hq | 3, hq => exact hq | 4, hq => exact hq | 5, hq => exact hq | q + 6, hq => cases hq))) _ Tryz.underlying43 rfl (by kernel_rfl) B HBv.out ?_)
       | (refine wl_store_blk rfl 118 _ _ rfl wr.heap.size 0 rfl (anV x).toArray HA.out [.int .i64 0, .int .i64 0, .int .i64 0, .string ⟨#[]⟩, .float .f64 0, .int .i64 0, .int .i64 0, .float .f64 0] 118 (heap_alloc_last wr _) (by simp [anV]) (by kernel_rfl) (by simp [anV, Value.oneCell']) ?_; go_must (intro w5 Hz; have hb5 : Below wr.heap.size wr w5 := Hz.out.2.below ((Below.refl _ _).alloc (Nat.le_refl _) _) (Nat.le_refl _); have H5 : Hid (Below w.heap.size w w5 ∧ w5.heap[wr.heap.size]? = some (.cells (anV x).toArray 118 (0, 0)) ∧ BxAt w5 w.heap.size ((toldR c.ac j).flatMap rsV2) 43) := hid ⟨HB.out.trans (hb5.mono HB.out.size), Hz.out.1, HX.out.keep hb5⟩; clear Hz hb5))
       | (refine wl_ldat rfl 118 _ rfl r (j * 8) rfl (anV x) HF.out _ Tryz.underlying118 rfl (by kernel_rfl) A HA.out ?_))
     go_roundw
     case rel => exact ⟨j + 1, by have := HJ.out; omega, by go_num, H6.out.1, H6.out.2⟩
     case measure => simp [intOf]; omega
set_option maxHeartbeats 6400000 in
theorem kaccepted_any (h : ClM O N w g vt vc va fm ls c) (hm : c.ac.length * 72 ≤ 140737488355328) : Calls Tryz.prog 23 #[.pointer (some ⟨g, 0, none⟩)] w fun e w' => ∃ b, e = .returned (.slice (some ⟨b, 0, none⟩) c.ac.length c.ac.length) ∧ w.heap.size ≤ b ∧ BxAt w' b ((toldE c.ac c.ac.length).flatMap enV) 71 ∧ Below w.heap.size w w' := by
 have y10 := h.blk.cell 10 _ rfl
 have hlt := lt_of_blk h.blk
 obtain ⟨ad, cap, rfl, _, hc⟩ := row_open h.ac
 have HC := hid hc
 have HBk := hid (And.intro h.blk hlt)
 obtain ⟨n, en⟩ : ∃ n, n = c.ac.length := ⟨_, rfl⟩
 have hnI : (n : Int) ≤ 9223372036854775807 := by omega
 have hn0 : (0 : Int) ≤ (n : Int) := Int.natCast_nonneg _
 have HM := hid (show n * 72 ≤ 140737488355328 by rw [en]; exact hm)
 have HN := hid en
 rw [← en] at y10 ⊢
 obtain ⟨i0, hi0, hz0, hz1, hz2⟩ := info_parts infoEn
 have HI := hid (And.intro hi0 (And.intro hz0 (And.intro hz1 hz2)))
 clear hc h en hm hlt hi0 hz0 hz1 hz2
 go_enter Tryz.func23, Tryz.ntmps23
 go_wp2_with (refine wpList_make_full _ rfl _ _ 64 rfl 0 71 i0 (.agg #[.int .i64 0, .int .i64 0, .int .i64 0, .int .i64 0, .string ⟨#[]⟩, .float .f64 0, .int .i64 0]) 7 undEn HI.out.1 HI.out.2.1 HI.out.2.2.1 .i64 .i64 _ _ n rfl rfl rfl rfl (by rw [HI.out.2.2.2]; have := HM.out; omega) (by have := HM.out; unfold maxLen; omega) (Nat.zero_le _) ?_; intro w3 hown hgrow; go_must (have H3 : Hid (BxAt w3 w.heap.size ((toldE c.ac 0).flatMap enV) 71 ∧ Below w.heap.size w w3) := hid (by
       refine ⟨?_, ⟨hgrow.os, hgrow.tape, hgrow.output, hgrow.size, fun k hk => hgrow.block k hk (by simp)⟩⟩
       rcases hown.2 with ⟨hv, _⟩ | ⟨g, cap, cur, hv, _, hh, _, _, hcs, htk⟩
       · cases hv
       · cases hv
         rw [List.take_of_length_le (by rw [Array.length_toList]; omega)] at htk
         show w3.heap[_]? = _
         rw [hh]
         congr 2
         rw [← Array.toList_inj, htk]
         show (madeCells #[.int .i64 0, .int .i64 0, .int .i64 0, .int .i64 0, .string ⟨#[]⟩, .float .f64 0, .int .i64 0] (n * 7)).toList = _
         rw [made_rows (f := enV) (by decide) (fun _ => rfl) #[.int .i64 0, .int .i64 0, .int .i64 0, .int .i64 0, .string ⟨#[]⟩, .float .f64 0, .int .i64 0] (0, zeroQ) rfl n, toldE, ← HN.out]
         simp)); have y10 := (HBk.out.1.keep H3.out.2).cell 10 _ rfl; rw [← HN.out] at y10; clear hown hgrow)
 clear y10
 go_loopw [19] (fun i wr => ∃ j : Nat, j ≤ n ∧ i = .int .i64 (j : Int) ∧ Below w.heap.size w wr ∧ BxAt wr w.heap.size ((toldE c.ac j).flatMap enV) 71)
   (fun i _ => ((n : Int) - intOf i).toNat)
 case atStart => exact ⟨0, Nat.zero_le _, rfl, H3.out.2, H3.out.1⟩
 case round =>
   obtain ⟨j, hj, rfl, hbel, hbx⟩ := hrel
   have HB := hid hbel
   have HX := hid hbx
   clear hbel hbx
   have hj0 : (0 : Int) ≤ (j : Int) := Int.natCast_nonneg _
   by_cases hjn : j = n
   · have hj1 : ¬ ((j : Int) < (n : Int)) := by omega
     have HX2 := HX.out
     rw [hjn] at HX2
     have HXf := hid HX2
     clear hj hjn HX2
     go_wp2
     go_ret
     exact ⟨w.heap.size, rfl, Nat.le_refl _, HXf.out, HB.out⟩
   · have hj1 : (j : Int) < (n : Int) := by omega
     have hjl : j < c.ac.length := by have := HN.out; omega
     obtain ⟨x, hx⟩ : ∃ x, c.ac[j]? = some x := ⟨_, List.getElem?_eq_getElem hjl⟩
     have hxd : c.ac.getD j an0 = x := by rw [List.getD_eq_getElem?_getD, hx]; rfl
     obtain ⟨r, rfl, hr, hcs⟩ := HC.out (by omega)
     have HF := hid (fun (q : Nat) (u : Value) (hq : (anV x)[q]? = some u) => (HB.out.cell (p := ⟨r, j * 8 + q, none⟩) hr).trans (hcs _ _ (anC_at c.ac j x hx q u hq)))
     have HS : Hid (setAt ((toldE c.ac j).flatMap enV) (j * 7) (enV ((j : Int) + 1, x.1)) = ((toldE c.ac (j + 1)).flatMap enV)) := hid (by
       rw [row_set (f := enV) (k := 7) (fun _ => rfl) (by rw [toldE, List.length_append, List.length_map, List.length_range, List.length_replicate]; omega), toldE, toldE, ← told_set _ _ _ j hjl, hxd])
     have HLn : Hid (((toldE c.ac j).flatMap enV).length = n * 7) := hid (by rw [row_len (f := enV) (k := 7) (fun _ => rfl), toldE, List.length_append, List.length_map, List.length_range, List.length_replicate, ← HN.out]; congr 1; omega)
     have HJ := hid (And.intro hj hjn)
     obtain ⟨A, eA⟩ : ∃ A, A = Value.agg (anV x).toArray := ⟨_, rfl⟩
     have HA := hid eA
     have hw1 : IntKind.i64.wrap ((j : Int) + 1) = (j : Int) + 1 := wrap_l2 (by omega) (by omega)
     clear hj hjn hjl hx hxd hcs hr eA
     go_wp2_with (first
       | (have := H5; refine wl_store_blk rfl 71 _ _ rfl w.heap.size (j * 7) (by rfl) (enV ((j : Int) + 1, x.1)).toArray rfl _ 71 H5.out.2.2 (by rw [HLn.out]; have := HJ.out; show j * 7 + 7 ≤ n * 7; omega) (by kernel_rfl) (by simp [enV, Value.oneCell']) ?_; go_must (intro w6 Hz; have H6 : Hid (Below w.heap.size w w6 ∧ BxAt w6 w.heap.size ((toldE c.ac (j + 1)).flatMap enV) 71) := hid ⟨Hz.out.2.below H5.out.1 (Nat.le_refl _), by have h9 := Hz.out.1; rw [List.toList_toArray, HS.out] at h9; exact h9⟩; clear Hz))
       | (have := H5; refine wl_ldat rfl 41 _ rfl wr.heap.size 0 rfl [.int .i64 x.1.c, .int .i64 x.1.st, .int .i64 x.1.k, .string x.1.key, .float .f64 x.1.b, .int .i64 x.1.id] (fun q u hq => cell_at (L := anV x) H5.out.2.1 (0 + q) u (by first | exact hq | (match q, hq with | 0, hq => exact hq | 1, hq => exact hq | q + 2, hq => cases hq) | (match q, hq with | 0, hq => exact hq | 1, hq => exact hq | 2, hq => exact hq | 3, hq => exact hq | 4, hq => exact hq | 5, hq => exact hq | q + 6, hq => cases hq))) _ Tryz.underlying41 rfl (by kernel_rfl) (.agg #[.int .i64 x.1.c, .int .i64 x.1.st, .int .i64 x.1.k, .string x.1.key, .float .f64 x.1.b, .int .i64 x.1.id]) rfl ?_)
       | (refine wl_store_blk rfl 118 _ _ rfl wr.heap.size 0 rfl (anV x).toArray HA.out [.int .i64 0, .int .i64 0, .int .i64 0, .string ⟨#[]⟩, .float .f64 0, .int .i64 0, .int .i64 0, .float .f64 0] 118 (heap_alloc_last wr _) (by simp [anV]) (by kernel_rfl) (by simp [anV, Value.oneCell']) ?_; go_must (intro w5 Hz; have hb5 : Below wr.heap.size wr w5 := Hz.out.2.below ((Below.refl _ _).alloc (Nat.le_refl _) _) (Nat.le_refl _); have H5 : Hid (Below w.heap.size w w5 ∧ w5.heap[wr.heap.size]? = some (.cells (anV x).toArray 118 (0, 0)) ∧ BxAt w5 w.heap.size ((toldE c.ac j).flatMap enV) 71) := hid ⟨HB.out.trans (hb5.mono HB.out.size), Hz.out.1, HX.out.keep hb5⟩; clear Hz hb5))
       | (refine wl_ldat rfl 118 _ rfl r (j * 8) rfl (anV x) HF.out _ Tryz.underlying118 rfl (by kernel_rfl) A HA.out ?_))
     go_roundw
     case rel => exact ⟨j + 1, by have := HJ.out; omega, by go_num, H6.out.1, H6.out.2⟩
     case measure => simp [intOf]; omega
end
end
section
set_option maxRecDepth 100000
open Go.RowKit
section
variable {P : Program} {ops : Array Oper} {o : Oper} {a : Act} {w : World} {Q : Exit → Act → World → Prop} {K : Act → World → Prop}
theorem ret_oneD {f : Func} {a : Act} {w : World} {Q : Ending → World → Prop} {s : Nat} {t : TypeId} {ad : Addr} {v : Value} (hr : f.results = #[.cell s t]) (hs : a.tmps.getD s undef = .pointer (some ad)) (hl : (loadVar t ad).run Tryz.prog w = .ok v w) (hd : a.defers = [])
   (h : Q (.returned v) w) : bodyPost Tryz.prog f Q .ret a w := by
 refine bodyPost_ret (v := v) ?_ hd h
 have h1 : a.tmps.getD s undef = .pointer (some ad) := hs
 simp [results, hr, -Array.getD_eq_getD_getElem?, h1, asAddr, hl]
theorem wpOp_d {i : Nat} (hi : ops[i]? = some o) (hw : Region.wanted o (yielded ops a.tmps) = true) (h : ∀ K' : Act → World → Prop, (∀ a w, K a w → K' a w) → o.wp P a w K' Q) : wpOp P ops Q i K a w := by
 unfold Go.wpOp
 simp only [hi, hw, if_true]
 exact .inl (h _ (fun _ _ h => h))
theorem owp_store_rq (p x : Operand) (ho : o.op = .store 41 p x) (b : Nat) (hp : a.eval p = .pointer (some ⟨b, 0, none⟩)) (r0 r : Rq) (hx : a.eval x = .agg #[.int .i64 r.c, .int .i64 r.st, .int .i64 r.k, .string r.key, .float .f64 r.b, .int .i64 r.id]) (hR : RqAt w b r0)
   (h : ∀ w', Hid (RqAt w' b r ∧ One b w w') → K (a.put o.dst undef) w') : o.wp Tryz.prog a w K Q :=
 wp_store_mid (P := Tryz.prog) 41 p x ho b 0 #[.int .i64 r.c, .int .i64 r.st, .int .i64 r.k, .string r.key, .float .f64 r.b, .int .i64 r.id] hp hx (rq_there hR) (by kernel_rfl) (by simp [Value.oneCell']) (h _ ⟨rq_all hR, one_cells b _ 0 w⟩)
end
def AkAt (w : World) (b : Nat) (a : Rq) : Prop := w.heap[b]? = some (.cells #[.int .i64 a.c, .int .i64 a.st, .int .i64 a.k, .string a.key, .int .u64 (a.b : Int), .int .i64 a.id] 36 (0, 0))
theorem AkAt.cells {w : World} {b : Nat} {a : Rq} (h : AkAt w b a) : (w.cell? ⟨b, 0, none⟩ = some (.int .i64 a.c) ∧ w.cell? ⟨b, 1, none⟩ = some (.int .i64 a.st)) ∧ w.cell? ⟨b, 2, none⟩ = some (.int .i64 a.k) ∧ w.cell? ⟨b, 3, none⟩ = some (.string a.key) ∧ w.cell? ⟨b, 4, none⟩ = some (.int .u64 (a.b : Int)) ∧ w.cell? ⟨b, 5, none⟩ = some (.int .i64 a.id) :=
 ⟨⟨cell_at h 0 _ rfl, cell_at h 1 _ rfl⟩, cell_at h 2 _ rfl, cell_at h 3 _ rfl, cell_at h 4 _ rfl, cell_at h 5 _ rfl⟩
theorem AkAt.keep {w w' : World} {b : Nat} {a : Rq} (h : AkAt w b a) (hb : Below w.heap.size w w') : AkAt w' b a := (hb.block b (lt_of_blk h)).trans h
set_option maxHeartbeats 3200000 in
theorem drequest_any (a : Rq) (w : World) : Calls Tryz.prog 14 #[.agg #[.int .i64 a.c, .int .i64 a.st, .int .i64 a.k, .string a.key, .int .u64 (a.b : Int), .int .i64 a.id]] w fun e w' => e = .returned (.agg #[.int .i64 a.c, .int .i64 a.st, .int .i64 a.k, .string a.key, .float .f64 a.b, .int .i64 a.id]) ∧ Below w.heap.size w w' := by
 have H0 : Hid (AkAt ((w.alloc (.cells #[.int .i64 a.c, .int .i64 a.st, .int .i64 a.k, .string a.key, .int .u64 (a.b : Int), .int .i64 a.id] 36)).alloc (.cells #[.int .i64 0, .int .i64 0, .int .i64 0, .string ⟨#[]⟩, .float .f64 0, .int .i64 0] 41)) w.heap.size a ∧ RqAt ((w.alloc (.cells #[.int .i64 a.c, .int .i64 a.st, .int .i64 a.k, .string a.key, .int .u64 (a.b : Int), .int .i64 a.id] 36)).alloc (.cells #[.int .i64 0, .int .i64 0, .int .i64 0, .string ⟨#[]⟩, .float .f64 0, .int .i64 0] 41)) (w.heap.size + 1) zeroQ ∧ Below w.heap.size w ((w.alloc (.cells #[.int .i64 a.c, .int .i64 a.st, .int .i64 a.k, .string a.key, .int .u64 (a.b : Int), .int .i64 a.id] 36)).alloc (.cells #[.int .i64 0, .int .i64 0, .int .i64 0, .string ⟨#[]⟩, .float .f64 0, .int .i64 0] 41))) := hid
   ⟨(Below.heap_alloc _ _ _ (by simp)).trans (heap_alloc_last w _), snd_alloc w _ _, ((Below.refl _ _).alloc (Nat.le_refl _) _).alloc (by simp) _⟩
 go_enter Tryz.func14, Tryz.ntmps14
 go_wp2
 obtain ⟨w1, ew⟩ : ∃ w1, w1 = (w.alloc (.cells #[.int .i64 a.c, .int .i64 a.st, .int .i64 a.k, .string a.key, .int .u64 (a.b : Int), .int .i64 a.id] 36)).alloc (.cells #[.int .i64 0, .int .i64 0, .int .i64 0, .string ⟨#[]⟩, .float .f64 0, .int .i64 0] 41) := ⟨_, rfl⟩
 rw [← ew] at H0 ⊢
 clear ew
 have H1 : Hid (AkAt w1.drew w.heap.size a ∧ RqAt w1.drew (w.heap.size + 1) zeroQ ∧ Below w.heap.size w w1.drew) := hid ⟨H0.out.1.keep (Below.refl _ _).drew, H0.out.2.1.keep (Below.refl _ _).drew, H0.out.2.2.drew⟩
 have HS := hid H1.out.1
 refine wp_region_held (S := fun ww => AkAt ww w.heap.size a) (by kernel_rfl) ?_
 try (change wpAnyH _ _ _ _ _ _ _ _ (World.drew _))
 refine wpAnyH_take (i := 0) (v := ?v1) rfl (by kernel_rfl) (by kernel_rfl) (by kernel_rfl) (fun _ _ _ h => h) (Or.inl ⟨by rfl, ?hy1⟩) HS.out ?rest1
 case hy1 => (intro ww _; go_simp; try with_reducible rfl)
 go_simp
 refine wpAnyH_take (i := 1) (v := ?v2) rfl (by kernel_rfl) (by kernel_rfl) (by kernel_rfl) (fun _ _ _ h => h) (Or.inl ⟨by rfl, ?hy2⟩) HS.out ?rest2
 case hy2 => (intro ww hS; obtain ⟨⟨y0, y1⟩, y2, y3, y4, y5⟩ := hS.cells; go_simp; try with_reducible rfl)
 go_simp
 refine wpAnyH_take (i := 2) (v := ?v3) rfl (by kernel_rfl) (by kernel_rfl) (by kernel_rfl) (fun _ _ _ h => h) (Or.inl ⟨by rfl, ?hy3⟩) HS.out ?rest3
 case hy3 => (intro ww _; go_simp; try with_reducible rfl)
 go_simp
 refine wpAnyH_take (i := 3) (v := ?v4) rfl (by kernel_rfl) (by kernel_rfl) (by kernel_rfl) (fun _ _ _ h => h) (Or.inl ⟨by rfl, ?hy4⟩) HS.out ?rest4
 case hy4 => (intro ww hS; obtain ⟨⟨y0, y1⟩, y2, y3, y4, y5⟩ := hS.cells; go_simp; try with_reducible rfl)
 go_simp
 refine wpAnyH_take (i := 4) (v := ?v5) rfl (by kernel_rfl) (by kernel_rfl) (by kernel_rfl) (fun _ _ _ h => h) (Or.inl ⟨by rfl, ?hy5⟩) HS.out ?rest5
 case hy5 => (intro ww _; go_simp; try with_reducible rfl)
 go_simp
 refine wpAnyH_take (i := 5) (v := ?v6) rfl (by kernel_rfl) (by kernel_rfl) (by kernel_rfl) (fun _ _ _ h => h) (Or.inl ⟨by rfl, ?hy6⟩) HS.out ?rest6
 case hy6 => (intro ww hS; obtain ⟨⟨y0, y1⟩, y2, y3, y4, y5⟩ := hS.cells; go_simp; try with_reducible rfl)
 go_simp
 refine wpAnyH_take (i := 6) (v := ?v7) rfl (by kernel_rfl) (by kernel_rfl) (by kernel_rfl) (fun _ _ _ h => h) (Or.inl ⟨by rfl, ?hy7⟩) HS.out ?rest7
 case hy7 => (intro ww _; go_simp; try with_reducible rfl)
 go_simp
 refine wpAnyH_take (i := 7) (v := ?v8) rfl (by kernel_rfl) (by kernel_rfl) (by kernel_rfl) (fun _ _ _ h => h) (Or.inl ⟨by rfl, ?hy8⟩) HS.out ?rest8
 case hy8 => (intro ww hS; obtain ⟨⟨y0, y1⟩, y2, y3, y4, y5⟩ := hS.cells; go_simp; try with_reducible rfl)
 go_simp
 refine wpAnyH_take (i := 8) (v := ?v9) rfl (by kernel_rfl) (by kernel_rfl) (by kernel_rfl) (fun _ _ _ h => h) (Or.inl ⟨by rfl, ?hy9⟩) HS.out ?rest9
 case hy9 => (intro ww _; go_simp; try with_reducible rfl)
 go_simp
 refine wpAnyH_take (i := 9) (v := ?v10) rfl (by kernel_rfl) (by kernel_rfl) (by kernel_rfl) (fun _ _ _ h => h) (Or.inl ⟨by rfl, ?hy10⟩) HS.out ?rest10
 case hy10 => (intro ww hS; obtain ⟨⟨y0, y1⟩, y2, y3, y4, y5⟩ := hS.cells; go_simp; try with_reducible rfl)
 go_simp
 refine wpAnyH_take (i := 11) (v := ?v11) rfl (by kernel_rfl) (by kernel_rfl) (by kernel_rfl) (fun _ _ _ h => h) (Or.inl ⟨by rfl, ?hy11⟩) HS.out ?rest11
 case hy11 => (intro ww _; go_simp; try with_reducible rfl)
 go_simp
 refine wpAnyH_take (i := 12) (v := ?v12) rfl (by kernel_rfl) (by kernel_rfl) (by kernel_rfl) (fun _ _ _ h => h) (Or.inl ⟨by rfl, ?hy12⟩) HS.out ?rest12
 case hy12 => (intro ww hS; obtain ⟨⟨y0, y1⟩, y2, y3, y4, y5⟩ := hS.cells; go_simp; try with_reducible rfl)
 go_simp
 refine wpAnyH_all (rs := [10]) (by kernel_rfl) (by simp) ?_
 intro i hi
 obtain rfl := List.mem_singleton.1 hi
 clear hi
 refine wpOp_d rfl (by rfl) (fun K hK => ?_)
 go_simp
 rw [ff_run]
 go_simp
 refine hK _ _ ⟨HS.out, ?_⟩
 clear hK K
 go_simp
 refine wpAnyH_take (i := 13) (v := ?v13) rfl (by kernel_rfl) (by kernel_rfl) (by kernel_rfl) (fun _ _ _ h => h) (Or.inl ⟨by rfl, ?hy13⟩) HS.out ?rest13
 case hy13 => (intro ww _; go_simp; try with_reducible rfl)
 go_simp
 refine wpAnyH_take (i := 14) (v := ?v14) rfl (by kernel_rfl) (by kernel_rfl) (by kernel_rfl) (fun _ _ _ h => h) (Or.inl ⟨by rfl, ?hy14⟩) HS.out ?rest14
 case hy14 => (intro ww _; go_simp; try with_reducible rfl)
 go_simp
 refine wpAnyH_all (rs := [15]) (by kernel_rfl) (by simp) ?_
 intro i hi
 obtain rfl := List.mem_singleton.1 hi
 clear hi
 refine wpOp_d rfl (by rfl) (fun K hK => ?_)
 refine owp_store_rq _ _ rfl (w.heap.size + 1) rfl zeroQ a rfl H1.out.2.1 ?_
 intro wz Hz
 refine hK _ _ ⟨(Hz.out.2.block _ (by omega)).trans H1.out.1, ?_⟩
 clear hK K
 go_simp
 refine wpAnyH_done (by kernel_rfl) ?_ _
 go_simp
 go_wp2
 refine ret_oneD (s := 2) (ad := ⟨w.heap.size + 1, 0, none⟩) rfl rfl (load_rq _ _ a Hz.out.1) rfl ?_
 exact ⟨rfl, Hz.out.2.below H1.out.2.2 (by omega)⟩
end
end Go.Proofs.YtoepppkadpjonaaGreat
