/- Texts laid together: TrG TrH OpB. -/
import Derived.Test.YtpholamobedkhaaMg12
/- The law's own proof that links live: three of four. -/
namespace Go.Proofs.Ytpholamobedkhaa
open Go.RowKit

theorem pairs_blkL {w : World} {g : Nat} {ps : List (Int × ByteArray)} {T : TypeId} {fr : Nat × Nat} (h : w.heap[g]? = some (.cells (pC ps).toArray T fr)) : PairsIn w (some ⟨g, 0, none⟩) ps :=
  .inr ⟨g, 0, rfl, lt_of_blk h, fun j p hj => ⟨by rw [Nat.zero_add]; exact cell_at h _ _ (pC_get ps j p hj).1, by rw [Nat.zero_add]; exact cell_at h _ _ (pC_get ps j p hj).2⟩⟩
theorem ints_blkL {w : World} {g : Nat} {zs : List Int} {T : TypeId} {fr : Nat × Nat} (h : w.heap[g]? = some (.cells (zs.map (Value.int .i64)).toArray T fr)) : IntsIn w (some ⟨g, 0, none⟩) zs :=
  .inr ⟨g, 0, rfl, lt_of_blk h, fun j z hj => by rw [Nat.zero_add]; exact cell_at h _ _ (by rw [List.getElem?_map, hj]; rfl)⟩
def fourL : List Int := [0, 1, 2, 3]
def fiveL : List Int := [0, 1, 2, 3, 4]
def sigsL (T : ByteArray) : List (Int × ByteArray) := [(0, T), (1, T), (3, T)]
theorem lives_add : addE 0 fourL [] (1, fiveL, sigsL (textC 1 fiveL)) = 0 := by decide
theorem lives_none : validE 0 fourL 1 fiveL [] = 15 := by decide
set_option maxRecDepth 100000 in
set_option maxHeartbeats 3200000 in
theorem jfour_any (w : World) : Calls Try.prog 27 #[] w fun r w' => ∃ g, r = .returned (.agg #[.int .i64 0, .slice (some ⟨g, 0, none⟩) 4 4]) ∧ IntsIn w' (some ⟨g, 0, none⟩) fourL ∧ w.heap.size ≤ g ∧ Below w.heap.size w w' := by
  go_enter Try.func27, Try.ntmps27
  go_wp2
  refine ret_one (s := 0) (ad := ⟨w.heap.size, 0, none⟩) rfl rfl (load_conf _ _ (.int .i64 0) (.slice (some ⟨w.heap.size + 1, 0, none⟩) 4 4) (cell_two (T := 24) (fr := (0, 0)) ((heap_alloc_old _ _ (by simp)).trans (heap_alloc_last w _))).1 (cell_two (T := 24) (fr := (0, 0)) ((heap_alloc_old _ _ (by simp)).trans (heap_alloc_last w _))).2) rfl ?_
  exact ⟨w.heap.size + 1, rfl, ints_blkL (T := 3) (fr := (0, 0)) (snd_alloc w _ _), by omega, ((Below.refl w.heap.size w).alloc (Nat.le_refl _) _).alloc (by simp) _⟩
set_option maxRecDepth 100000 in
set_option maxHeartbeats 6400000 in
theorem jlives_any (w : World) : Calls Try.prog 9 #[] w fun r w' => r = .returned (.bool true) ∧ Below w.heap.size w w' := by
  have h0 : ((w.alloc (.cells #[.int .i64 0, .int .i64 1, .int .i64 2, .int .i64 3, .int .i64 4] 3)).alloc (.cells #[.int .i64 1, .slice (some ⟨w.heap.size, 0, none⟩) 5 5] 24)).heap[w.heap.size]? = some (.cells (fiveL.map (Value.int .i64)).toArray 3 (0, 0)) := by
    rw [heap_alloc_old _ _ (by simp)]
    exact heap_alloc_last _ _
  have h1 : ((w.alloc (.cells #[.int .i64 0, .int .i64 1, .int .i64 2, .int .i64 3, .int .i64 4] 3)).alloc (.cells #[.int .i64 1, .slice (some ⟨w.heap.size, 0, none⟩) 5 5] 24)).heap[w.heap.size + 1]? = some (.cells #[.int .i64 1, .slice (some ⟨w.heap.size, 0, none⟩) 5 5] 24 (0, 0)) := snd_alloc w _ _
  have HA : Hid (Below w.heap.size w ((w.alloc (.cells #[.int .i64 0, .int .i64 1, .int .i64 2, .int .i64 3, .int .i64 4] 3)).alloc (.cells #[.int .i64 1, .slice (some ⟨w.heap.size, 0, none⟩) 5 5] 24))) := hid (((Below.refl w.heap.size w).alloc (Nat.le_refl _) _).alloc (by simp) _)
  have H0 := hid (And.intro h0 h1)
  have HTx := hid (vtext_any 1 (some ⟨w.heap.size, 0, none⟩) 5 5 fiveL rfl (by decide) _ (ints_blkL h0))
  have HE1 := hid lives_add
  rw [show textE 1 fiveL = 0 by decide] at HTx
  generalize textC 1 fiveL = T at HTx HE1
  clear h0 h1
  go_enter Try.func9, Try.ntmps9
  go_wp2_with (first
    | (go_at_call 26; refine HTx.out.mono ?_; rintro r w1 ⟨rfl, hb1⟩
       have H1 := hid (And.intro ((hb1.block _ (lt_of_blk H0.out.1)).trans H0.out.1) (And.intro ((hb1.block _ (lt_of_blk H0.out.2)).trans H0.out.2) (HA.out.trans (hb1.mono HA.out.size))))
       clear hb1
       have x0 := (cell_two H1.out.2.1).1
       have x1 := (cell_two H1.out.2.1).2)
    | (go_at_call 27; refine (jfour_any _).mono ?_; rintro r w4 ⟨g4, rfl, hi4, hg4, hb4⟩; have H4 := hid (And.intro hi4 hb4); clear hi4 hg4 hb4)
    | (go_at_call 12; refine (lnew_any 0 _ 4 4 fourL rfl (by decide) _ H4.out.1).mono ?_; rintro r w5 ⟨hb5, h5, _⟩; obtain ⟨v5, O5, rfl, ht5, hO5⟩ := h5 ⟨by decide, rfl⟩; obtain ⟨gt, rfl⟩ := ht5.isptr; have H5 := hid (And.intro hb5 (And.intro ht5 hO5)); clear hb5 h5 ht5 hO5))
  obtain ⟨W, eW⟩ : ∃ W, W = ((w1.alloc (.cells #[.int .i64 0, .string T, .int .i64 1, .string T, .int .i64 3, .string T] 62)).alloc (.cells #[.int .i64 1, .slice (some ⟨w.heap.size, 0, none⟩) 5 5, .slice (some ⟨w1.heap.size, 0, none⟩) 3 3] 27)) := ⟨_, rfl⟩
  rw [← eW] at H4
  have hs : W.heap.size = w1.heap.size + 2 := by rw [eW]; simp
  have hb : Below w1.heap.size w1 W := by rw [eW]; exact ((Below.refl w1.heap.size w1).alloc (Nat.le_refl _) _).alloc (by simp) _
  have hk0 := (hb.block _ (lt_of_blk H1.out.1)).trans H1.out.1
  have hk1 := (hb.block _ (lt_of_blk H1.out.2.1)).trans H1.out.2.1
  have hk2 : W.heap[w1.heap.size]? = some (.cells (pC (sigsL T)).toArray 62 (0, 0)) := by
    rw [eW, heap_alloc_old _ _ (by simp)]
    exact heap_alloc_last _ _
  have hk3 : W.heap[w1.heap.size + 1]? = some (.cells #[.int .i64 1, .slice (some ⟨w.heap.size, 0, none⟩) 5 5, .slice (some ⟨w1.heap.size, 0, none⟩) 3 3] 27 (0, 0)) := by rw [eW]; exact snd_alloc w1 _ _
  have HW : Hid (∀ u, Below W.heap.size W u → (u.cell? ⟨w.heap.size + 1, 0, none⟩ = some (.int .i64 1) ∧ u.cell? ⟨w.heap.size + 1, 1, none⟩ = some (.slice (some ⟨w.heap.size, 0, none⟩) 5 5)) ∧ u.cell? ⟨w1.heap.size + 1, 0, none⟩ = some (.int .i64 1) ∧ u.cell? ⟨w1.heap.size + 1, 1, none⟩ = some (.slice (some ⟨w.heap.size, 0, none⟩) 5 5) ∧ u.cell? ⟨w1.heap.size + 1, 2, none⟩ = some (.slice (some ⟨w1.heap.size, 0, none⟩) 3 3)) := hid (fun u hu => ⟨cell_two ((hu.block _ (lt_of_blk hk1)).trans hk1), cell_three ((hu.block _ (lt_of_blk hk3)).trans hk3)⟩)
  have HWd : Hid (∀ u, Below W.heap.size W u → IntsIn u (some ⟨w.heap.size, 0, none⟩) fiveL ∧ PairsIn u (some ⟨w1.heap.size, 0, none⟩) (sigsL T)) := hid (fun u hu => ⟨ints_blkL ((hu.block _ (lt_of_blk hk0)).trans hk0), pairs_blkL ((hu.block _ (lt_of_blk hk2)).trans hk2)⟩)
  have HBw : Hid (Below w.heap.size w W) := hid (H1.out.2.2.trans (hb.mono H1.out.2.2.size))
  have HS : Hid (Below W.heap.size W w5.drew) := hid (H4.out.2.trans (H5.out.1.mono H4.out.2.size)).drew
  have H5d : Hid (TrAt O5 w5.drew (.pointer (some ⟨gt, 0, none⟩)) fourL [] ∧ ∀ k, O5 k → W.heap.size ≤ k) := hid ⟨H5.out.2.1.under (Below.refl _ _).drew, fun k hk => Nat.le_trans H4.out.2.size (H5.out.2.2 k hk)⟩
  have HNn := hid lives_none
  clear hs hb hk0 hk1 hk2 hk3 eW x0 x1 HTx H0 HA H1 H4 H5
  refine wp_region_held (S := fun ww => Below W.heap.size W ww) (by kernel_rfl) ?_
  try (change wpAnyH _ _ _ _ _ _ _ _ (World.drew _))
  refine wpAnyH_take (i := 0) (v := ?v1) rfl (by kernel_rfl) (by kernel_rfl) (by kernel_rfl) (fun _ _ _ h => h) (Or.inl ⟨by rfl, ?hy1⟩) HS.out ?rest1
  case hy1 => (intro ww _; go_simp; try with_reducible rfl)
  go_simp
  refine wpAnyH_take (i := 1) (v := ?v2) rfl (by kernel_rfl) (by kernel_rfl) (by kernel_rfl) (fun _ _ _ h => h) (Or.inl ⟨by rfl, ?hy2⟩) HS.out ?rest2
  case hy2 => (intro ww _; go_simp; try with_reducible rfl)
  go_simp
  refine wpAnyH_take (i := 2) (v := ?v3) rfl (by kernel_rfl) (by kernel_rfl) (by kernel_rfl) (fun _ _ _ h => h) (Or.inl ⟨by rfl, ?hy3⟩) HS.out ?rest3
  case hy3 => (intro ww _; go_simp; try with_reducible rfl)
  go_simp
  refine wpAnyH_take (i := 3) (v := ?v4) rfl (by kernel_rfl) (by kernel_rfl) (by kernel_rfl) (fun _ _ _ h => h) (Or.inl ⟨by rfl, ?hy4⟩) HS.out ?rest4
  case hy4 => (intro ww _; go_simp; try with_reducible rfl)
  go_simp
  refine wpAnyH_take (i := 4) (v := ?v5) rfl (by kernel_rfl) (by kernel_rfl) (by kernel_rfl) (fun _ _ _ h => h) (Or.inl ⟨by rfl, ?hy5⟩) HS.out ?rest5
  case hy5 => (intro ww _; go_simp; try with_reducible rfl)
  go_simp
  refine wpAnyH_take (i := 5) (v := ?v6) rfl (by kernel_rfl) (by kernel_rfl) (by kernel_rfl) (fun _ _ _ h => h) (Or.inl ⟨by rfl, ?hy6⟩) HS.out ?rest6
  case hy6 => (intro ww _; go_simp; try with_reducible rfl)
  go_simp
  refine wpAnyH_take (i := 6) (v := ?v7) rfl (by kernel_rfl) (by kernel_rfl) (by kernel_rfl) (fun _ _ _ h => h) (Or.inl ⟨by rfl, ?hy7⟩) HS.out ?rest7
  case hy7 => (intro ww _; go_simp; try with_reducible rfl)
  go_simp
  refine wpAnyH_take (i := 7) (v := ?v8) rfl (by kernel_rfl) (by kernel_rfl) (by kernel_rfl) (fun _ _ _ h => h) (Or.inl ⟨by rfl, ?hy8⟩) HS.out ?rest8
  case hy8 => (intro ww _; go_simp; try with_reducible rfl)
  go_simp
  refine wpAnyH_take (i := 8) (v := ?v9) rfl (by kernel_rfl) (by kernel_rfl) (by kernel_rfl) (fun _ _ _ h => h) (Or.inl ⟨by rfl, ?hy9⟩) HS.out ?rest9
  case hy9 => (intro ww hS; obtain ⟨⟨y0, y1⟩, y2, y3, y4⟩ := HW.out ww hS; go_simp; try with_reducible rfl)
  go_simp
  refine wpAnyH_all (rs := [9]) (by kernel_rfl) (by simp) ?_
  intro i hi
  obtain rfl := List.mem_singleton.1 hi
  clear hi
  refine wpOp_k rfl (by rfl) (fun K hK => ?_)
  go_simp
  have hadd := ladd_any O5 _ fourL (by decide) [] rfl 1 _ 5 5 fiveL rfl (by decide) _ 3 3 (sigsL T) rfl (by decide : 3 ≤ maxLen) _ H5d.out.1 (HWd.out _ HS.out).1 (HWd.out _ HS.out).2
  rw [HE1.out] at hadd
  refine hadd.mono ?_
  clear hadd
  rintro r w6 ⟨rfl, ho6, O6, ht6, _⟩
  have H6 : Hid (TrAt O6 w6 (.pointer (some ⟨gt, 0, none⟩)) fourL [(1, fiveL, sigsL T)] ∧ Below W.heap.size W w6) := hid ⟨ht6, HS.out.trans (ho6.below HS.out.size H5d.out.2)⟩
  clear ho6 ht6 HS
  have HS := hid H6.out.2
  refine hK _ _ ⟨HS.out, ?_⟩
  clear hK K
  go_simp
  refine wpAnyH_take (i := 10) (v := ?v10) rfl (by kernel_rfl) (by kernel_rfl) (by kernel_rfl) (fun _ _ _ h => h) (Or.inl ⟨by rfl, ?hy10⟩) HS.out ?rest10
  case hy10 => (intro ww _; go_simp; try with_reducible rfl)
  go_simp
  refine wpAnyH_take (i := 11) (v := ?v11) rfl (by kernel_rfl) (by kernel_rfl) (by kernel_rfl) (fun _ _ _ h => h) (Or.inl ⟨by rfl, ?hy11⟩) HS.out ?rest11
  case hy11 => (intro ww _; go_simp; try with_reducible rfl)
  go_simp
  refine wpAnyH_take (i := 12) (v := ?v12) rfl (by kernel_rfl) (by kernel_rfl) (by kernel_rfl) (fun _ _ _ h => h) (Or.inl ⟨by rfl, ?hy12⟩) HS.out ?rest12
  case hy12 => (intro ww _; go_simp; try with_reducible rfl)
  go_simp
  refine wpAnyH_take (i := 13) (v := ?v13) rfl (by kernel_rfl) (by kernel_rfl) (by kernel_rfl) (fun _ _ _ h => h) (Or.inl ⟨by rfl, ?hy13⟩) HS.out ?rest13
  case hy13 => (intro ww _; go_simp; try with_reducible rfl)
  go_simp
  refine wpAnyH_all (rs := [14]) (by kernel_rfl) (by simp) ?_
  intro i hi
  obtain rfl := List.mem_singleton.1 hi
  clear hi
  refine wpOp_k rfl (by rfl) (fun K hK => ?_)
  go_simp
  refine (lepoch_any O6 _ fourL [(1, fiveL, sigsL T)] (by rw [List.length_singleton]; omega) _ H6.out.1).mono ?_
  rintro r w7 ⟨rfl, hb7⟩
  have H7 := hid (HS.out.trans (hb7.mono HS.out.size))
  clear hb7 HS
  have HS := hid H7.out
  refine hK _ _ ⟨HS.out, ?_⟩
  clear hK K
  go_simp
  refine wpAnyH_take (i := 15) (v := ?v14) rfl (by kernel_rfl) (by kernel_rfl) (by kernel_rfl) (fun _ _ _ h => h) (Or.inl ⟨by rfl, ?hy14⟩) HS.out ?rest14
  case hy14 => (intro ww _; go_simp; try with_reducible rfl)
  go_simp
  refine wpAnyH_take (i := 16) (v := ?v15) rfl (by kernel_rfl) (by kernel_rfl) (by kernel_rfl) (fun _ _ _ h => h) (Or.inl ⟨by rfl, ?hy15⟩) HS.out ?rest15
  case hy15 => (intro ww _; go_simp; try with_reducible rfl)
  go_simp
  refine wpAnyH_take (i := 17) (v := ?v16) rfl (by kernel_rfl) (by kernel_rfl) (by kernel_rfl) (fun _ _ _ h => h) (Or.inl ⟨by rfl, ?hy16⟩) HS.out ?rest16
  case hy16 => (intro ww _; go_simp; try with_reducible rfl)
  go_simp
  refine wpAnyH_take (i := 19) (v := ?v17) rfl (by kernel_rfl) (by kernel_rfl) (by kernel_rfl) (fun _ _ _ h => h) (Or.inl ⟨by rfl, ?hy17⟩) HS.out ?rest17
  case hy17 => (intro ww hS; obtain ⟨⟨y0, y1⟩, y2, y3, y4⟩ := HW.out ww hS; go_simp; try with_reducible rfl)
  go_simp
  refine wpAnyH_take (i := 20) (v := ?v18) rfl (by kernel_rfl) (by kernel_rfl) (by kernel_rfl) (fun _ _ _ h => h) (Or.inl ⟨by rfl, ?hy18⟩) HS.out ?rest18
  case hy18 => (intro ww _; go_simp; try with_reducible rfl)
  go_simp
  refine wpAnyH_all (rs := [18]) (by kernel_rfl) (by simp) ?_
  intro i hi
  obtain rfl := List.mem_singleton.1 hi
  clear hi
  refine wpOp_k rfl (by rfl) (fun K hK => ?_)
  go_simp
  refine (jfour_any _).mono ?_
  rintro r w8 ⟨g8, rfl, hi8, _, hb8⟩
  have H8 := hid (And.intro hi8 (HS.out.trans (hb8.mono HS.out.size)))
  clear hb8 HS hi8
  have HS := hid H8.out.2
  refine hK _ _ ⟨HS.out, ?_⟩
  clear hK K
  go_simp
  refine wpAnyH_all (rs := [21]) (by kernel_rfl) (by simp) ?_
  intro i hi
  obtain rfl := List.mem_singleton.1 hi
  clear hi
  refine wpOp_k rfl (by rfl) (fun K hK => ?_)
  go_simp
  have hval := lvalid_any 0 _ 4 4 fourL rfl (by decide) 1 _ 5 5 fiveL rfl (by decide) none 0 0 [] rfl (Nat.zero_le _) _ H8.out.1 (HWd.out _ HS.out).1 (.inl rfl)
  rw [HNn.out] at hval
  refine hval.mono ?_
  clear hval
  rintro r w9 ⟨rfl, hb9⟩
  have H9 := hid (HS.out.trans (hb9.mono HS.out.size))
  clear hb9 HS
  have HS := hid H9.out
  refine hK _ _ ⟨HS.out, ?_⟩
  clear hK K
  go_simp
  refine wpAnyH_take (i := 22) (v := ?v19) rfl (by kernel_rfl) (by kernel_rfl) (by kernel_rfl) (fun _ _ _ h => h) (Or.inl ⟨by rfl, ?hy19⟩) HS.out ?rest19
  case hy19 => (intro ww _; go_simp; try with_reducible rfl)
  go_simp
  refine wpAnyH_take (i := 23) (v := ?v20) rfl (by kernel_rfl) (by kernel_rfl) (by kernel_rfl) (fun _ _ _ h => h) (Or.inl ⟨by rfl, ?hy20⟩) HS.out ?rest20
  case hy20 => (intro ww _; go_simp; try with_reducible rfl)
  go_simp
  refine wpAnyH_take (i := 24) (v := ?v21) rfl (by kernel_rfl) (by kernel_rfl) (by kernel_rfl) (fun _ _ _ h => h) (Or.inl ⟨by rfl, ?hy21⟩) HS.out ?rest21
  case hy21 => (intro ww _; go_simp; try with_reducible rfl)
  go_simp
  refine wpAnyH_done (by kernel_rfl) ?_ _
  go_simp
  go_wp2
  go_ret
  exact ⟨rfl, HBw.out.trans (HS.out.mono HBw.out.size)⟩
end Go.Proofs.Ytpholamobedkhaa

/- The program's tracker and the document's beside each other. -/
namespace Go.Proofs.Ytpholamobedkhaa
open Go.RowKit

theorem MtAt.stay {B : Nat} {F : Nat → Prop} {w w' : World} {b : Nat} {ep : Int} {fa : Option Addr} {fc : Nat} {fm : List Int} {vl : Value} {ls : List Lk} (h : MtAt B F w b ep fa fc fm vl ls) (hs : w.heap.size ≤ w'.heap.size) (hb : w'.heap[b]? = w.heap[b]?) (hF : ∀ k, k < w.heap.size → F k → w'.heap[k]? = w.heap[k]?) (hr : ∀ g, vl.ownBlock = some g → w'.heap[g]? = w.heap[g]?) : MtAt B F w' b ep fa fc fm vl ls := by
  have hR := (ints_reads (cap := fc) h.fst h.fF).keep (w' := w') hs hF
  obtain ⟨ad, cap, he, hi, _⟩ := reads_ints hR
  cases he
  exact ⟨hb.trans h.blk, hi, h.fF, h.own.keep hs hF hr, h.bF, h.bv, fun k hk => Nat.lt_of_lt_of_le (h.flt k hk) hs⟩
/-- Both at once: apart from each other and from what was there. -/
structure PlSt (w0 w : World) (O : Nat → Prop) (v : Value) (F : Nat → Prop) (b : Nat) (fa : Option Addr) (fc : Nat) (fm : List Int) (vl : Value) (ls : List Lk) : Prop where
  tr : TrAt O w v fm ls
  md : MtAt w0.heap.size F w b 0 fa fc fm vl ls
  bel : Below w0.heap.size w0 w
  oN : ∀ k, O k → w0.heap.size ≤ k
  bN : w0.heap.size ≤ b
  ob : ¬ O b
  ov : ∀ g, vl.ownBlock = some g → ¬ O g
  oF : ∀ k, F k → ¬ O k
theorem PlSt.keep {w0 w w' : World} {O : Nat → Prop} {v : Value} {F : Nat → Prop} {b : Nat} {fa : Option Addr} {fc : Nat} {fm : List Int} {vl : Value} {ls : List Lk} (h : PlSt w0 w O v F b fa fc fm vl ls) (hb : Below w.heap.size w w') : PlSt w0 w' O v F b fa fc fm vl ls :=
  ⟨h.tr.under hb, h.md.keep hb, h.bel.trans (hb.mono h.bel.size), h.oN, h.bN, h.ob, h.ov, h.oF⟩
/-- Half a step: the program's tracker was called. -/
structure PlMid (w0 w : World) (O : Nat → Prop) (v : Value) (F : Nat → Prop) (b : Nat) (fa : Option Addr) (fc : Nat) (fm : List Int) (vl : Value) (ls ls' : List Lk) : Prop where
  tr : TrAt O w v fm ls'
  md : MtAt w0.heap.size F w b 0 fa fc fm vl ls
  bel : Below w0.heap.size w0 w
  oN : ∀ k, O k → w0.heap.size ≤ k
  bN : w0.heap.size ≤ b
  ob : ¬ O b
  ov : ∀ g, vl.ownBlock = some g → ¬ O g
  oF : ∀ k, F k → ¬ O k
theorem PlSt.half {w0 w w' : World} {O O' : Nat → Prop} {v : Value} {F : Nat → Prop} {b : Nat} {fa : Option Addr} {fc : Nat} {fm : List Int} {vl : Value} {ls ls' : List Lk} (h : PlSt w0 w O v F b fa fc fm vl ls) (ho : Outs O w w') (ht : TrAt O' w' v fm ls') (hO : ∀ k, O' k → O k ∨ w.heap.size ≤ k) : PlMid w0 w' O' v F b fa fc fm vl ls ls' := by
  have hb := lt_of_blk h.md.blk
  refine ⟨ht, h.md.stay ho.size (ho.block b hb h.ob) (fun k hk hF => ho.block k hk (h.oF k hF)) (fun g hg => ho.block g (h.md.own.lt g hg).2 (h.ov g hg)), h.bel.trans (ho.below h.bel.size h.oN), fun k hk => ?_, h.bN, fun hq => ?_, fun g hg hq => ?_, fun k hF hq => ?_⟩
  · rcases hO k hk with hq | hq
    · exact h.oN k hq
    · exact Nat.le_trans h.bel.size hq
  · rcases hO b hq with hq | hq
    · exact h.ob hq
    · omega
  · rcases hO g hq with hq | hq
    · exact h.ov g hg hq
    · have := (h.md.own.lt g hg).2; omega
  · rcases hO k hq with hq | hq
    · exact h.oF k hF hq
    · have := h.md.flt k hF; omega
theorem PlMid.whole {w0 w w' : World} {O : Nat → Prop} {v : Value} {F F' : Nat → Prop} {b : Nat} {fa : Option Addr} {fc : Nat} {fm : List Int} {vl vl' : Value} {ls ls' : List Lk} (h : PlMid w0 w O v F b fa fc fm vl ls ls') (hk : Kept b vl.ownBlock w w') (hm : MtAt w0.heap.size F' w' b 0 fa fc fm vl' ls') (hF : ∀ k, F' k → F k ∨ w.heap.size ≤ k) (hv : vl'.ownBlock = vl.ownBlock ∨ ∃ g, vl'.ownBlock = some g ∧ w.heap.size ≤ g) : PlSt w0 w' O v F' b fa fc fm vl' ls' := by
  refine ⟨h.tr.keep hk.size (fun k hlt hO => hk.block k hlt (fun e => h.ob (e ▸ hO)) (fun e => h.ov k e.symm hO)), hm, h.bel.trans (hk.below h.bel.size h.bN (fun g hg => (h.md.own.lt g hg).1)), h.oN, h.bN, h.ob, fun g hg hO => ?_, fun k hF' hO => ?_⟩
  · have := h.tr.lt g hO
    rcases hv with e | ⟨g', e, hg'⟩
    · exact h.ov g (e ▸ hg) hO
    · rw [hg] at e; cases e; omega
  · have := h.tr.lt k hO
    rcases hF k hF' with hq | hq
    · exact h.oF k hq hO
    · omega
/-- A script's items. -/
abbrev Cl := Bool × List Lk
def dOps (os : List Cl) : List (List Dat) := os.map fun o => [.b o.1, .l 3 (dLks o.2)]
theorem dOps_len (os : List Cl) : (dOps os).length = os.length := List.length_map ..
theorem ops_form {G : Nat → Prop} {w : World} {v : Value} {os : List Cl} (h : Reads G w v (.l 2 (dOps os))) : ∃ ad cap, v = .slice ad os.length cap := by
  obtain ⟨ad, cap, hv⟩ := h.form
  rw [dOps_len] at hv
  exact ⟨ad, cap, hv⟩
theorem ops_at {G : Nat → Prop} {w : World} {v : Value} {os : List Cl} (h : Reads G w v (.l 2 (dOps os))) (j : Nat) (o : Cl) (hj : os[j]? = some o) :
    ∃ g off cap u, v = .slice (some ⟨g, off, none⟩) os.length cap ∧ g < w.heap.size ∧ w.cell? ⟨g, off + j * 2, none⟩ = some (.bool o.1) ∧ w.cell? ⟨g, off + j * 2 + 1, none⟩ = some u ∧ Reads G w u (.l 3 (dLks o.2)) := by
  obtain ⟨g, off, cap, hv, _, hg, _, hc⟩ := h.at j [.b o.1, .l 3 (dLks o.2)] (by rw [dOps, List.getElem?_map, hj]; rfl)
  obtain ⟨u0, h0, r0⟩ := hc 0 (.b o.1) rfl
  obtain ⟨u1, h1, r1⟩ := hc 1 (.l 3 (dLks o.2)) rfl
  rw [dOps_len] at hv
  exact ⟨g, off, cap, u1, hv, hg, by rw [r0.bool] at h0; exact h0, h1, r1⟩
theorem ops_room {w : World} {g off n cap : Nat} {os : List Cl} {j : Nat} {o : Cl} {u : Value} (h : Caps w (.slice (some ⟨g, off, none⟩) n cap) (.l 2 (dOps os))) (hj : os[j]? = some o) (hu : w.cell? ⟨g, off + j * 2 + 1, none⟩ = some u) : ∀ ad n c, u = .slice ad n c → n ≤ c :=
  (h.at (j := j) (q := 1) (e := [.b o.1, .l 3 (dLks o.2)]) (d := .l 3 (dLks o.2)) (by rw [dOps, List.getElem?_map, hj]; rfl) rfl hu).room
end Go.Proofs.Ytpholamobedkhaa

/- Arguments of the laws of lineage, opened: a configuration, a link, chains, scripts. No walk here. -/
namespace Go.Proofs.Ytpholamobedkhaa
open Go.ChangeShapes Go.WideShapes Go.ChangeAt Go.RowKit

def shInts : Sh := .l 8 1 .i
def shSig : Sh := .st (.c .i (.c .s .u))
def shSigs : Sh := .l 24 2 shSig
def shConf : Sh := .st (.c .i (.c shInts .u))
def shLink : Sh := .st (.c shConf (.c shSigs .u))
def shLinks : Sh := .l 56 3 shLink
def shOp : Sh := .st (.c .b (.c shLinks .u))
def shOps : Sh := .l 32 2 shOp
theorem of_ints : shInts.Of Try.prog (.inl 22) := ⟨_, Try.underlying22, by kernel_rfl, by kernel_rfl, rfl, by decide, Try.underlying3⟩
theorem of_sig : shSig.Of Try.prog (.inl 62) := ⟨_, Try.underlying62, by kernel_rfl, ⟨_, _, rfl, rfl, by kernel_rfl, Try.underlying3, ⟨_, _, rfl, rfl, by kernel_rfl, Try.underlying9, rfl⟩⟩⟩
theorem of_sigs : shSigs.Of Try.prog (.inl 25) := ⟨_, Try.underlying25, by kernel_rfl, by kernel_rfl, rfl, by decide, of_sig⟩
theorem of_conf : shConf.Of Try.prog (.inl 24) := ⟨_, Try.underlying24, by kernel_rfl, ⟨_, _, rfl, rfl, by kernel_rfl, Try.underlying3, ⟨_, _, rfl, rfl, by kernel_rfl, of_ints, rfl⟩⟩⟩
theorem of_link : shLink.Of Try.prog (.inl 27) := ⟨_, Try.underlying27, by kernel_rfl, ⟨_, _, rfl, rfl, by kernel_rfl, of_conf, ⟨_, _, rfl, rfl, by kernel_rfl, of_sigs, rfl⟩⟩⟩
theorem of_links : shLinks.Of Try.prog (.inl 40) := ⟨_, Try.underlying40, by kernel_rfl, by kernel_rfl, rfl, by decide, of_link⟩
theorem of_op : shOp.Of Try.prog (.inl 42) := ⟨_, Try.underlying42, by kernel_rfl, ⟨_, _, rfl, rfl, by kernel_rfl, Try.underlying4, ⟨_, _, rfl, rfl, by kernel_rfl, of_links, rfl⟩⟩⟩
theorem of_ops : shOps.Of Try.prog (.inl 32) := ⟨_, Try.underlying32, by kernel_rfl, by kernel_rfl, rfl, by decide, of_op⟩
theorem fits_map {α : Type} {f : α → List Dat} {Q : α → Prop} : ∀ (es : List (List Dat)), (∀ d, d ∈ es → ∃ x, d = f x ∧ Q x) → ∃ xs : List α, es = xs.map f ∧ ∀ x, x ∈ xs → Q x
  | [], _ => ⟨[], rfl, fun x h => by cases h⟩
  | e :: es, h => by
    obtain ⟨x, rfl, hx⟩ := h e (List.mem_cons_self ..)
    obtain ⟨xs, rfl, hxs⟩ := fits_map es (fun d hd => h d (List.mem_cons_of_mem _ hd))
    refine ⟨x :: xs, rfl, fun y hy => ?_⟩
    rcases List.mem_cons.1 hy with rfl | hy
    · exact hx
    · exact hxs y hy
section
variable {S : Prop} {U : Nat}
theorem fits_ints {ds : List Dat} (h : Fits S U shInts ds) : ∃ xs : List Int, ds = [dInts xs] ∧ xs.length ≤ maxLen ∧ (S → xs.length * 8 ≤ 140737488351232) := by
  obtain ⟨es, rfl, h1, h2, _, h3⟩ := h
  obtain ⟨xs, rfl, _⟩ := fits_map (f := fun x : Int => [Dat.i x]) (Q := fun _ => True) es (fun d hd => by obtain ⟨x, hx, _⟩ := h3 d hd; exact ⟨x, hx, trivial⟩)
  rw [List.length_map] at h1 h2
  exact ⟨xs, rfl, h1, h2⟩
theorem fits_sig {ds : List Dat} (h : Fits S U shSig ds) : ∃ p : Int × ByteArray, ds = [.i p.1, .s p.2] := by
  obtain ⟨d1, d2, rfl, ⟨x, rfl, _⟩, d3, d4, rfl, ⟨y, rfl, _⟩, rfl⟩ := h
  exact ⟨(x, y), rfl⟩
theorem fits_sigs {ds : List Dat} (h : Fits S U shSigs ds) : ∃ ps : List (Int × ByteArray), ds = [dPairs ps] ∧ ps.length ≤ maxLen ∧ (S → ps.length * 24 ≤ 140737488351232) := by
  obtain ⟨es, rfl, h1, h2, _, h3⟩ := h
  obtain ⟨ps, rfl, _⟩ := fits_map (f := fun p : Int × ByteArray => [Dat.i p.1, Dat.s p.2]) (Q := fun _ => True) es (fun d hd => by obtain ⟨x, hx⟩ := fits_sig (h3 d hd); exact ⟨x, hx, trivial⟩)
  rw [List.length_map] at h1 h2
  exact ⟨ps, rfl, h1, h2⟩
theorem fits_conf {ds : List Dat} (h : Fits S U shConf ds) : ∃ (e : Int) (xs : List Int), ds = [.i e, dInts xs] ∧ xs.length ≤ maxLen ∧ (S → xs.length * 8 ≤ 140737488351232) := by
  obtain ⟨d1, d2, rfl, ⟨x, rfl, _⟩, d3, d4, rfl, h3, rfl⟩ := h
  obtain ⟨xs, rfl, h4, h5⟩ := fits_ints h3
  exact ⟨x, xs, rfl, h4, h5⟩
/-- The bounds of a link's lists. -/
def lkB (k : Lk) : Prop := k.2.1.length ≤ maxLen ∧ k.2.2.length ≤ maxLen
def lkR (k : Lk) : Prop := k.2.1.length * 8 ≤ 140737488351232 ∧ k.2.2.length * 24 ≤ 140737488351232
theorem fits_link {ds : List Dat} (h : Fits S U shLink ds) : ∃ k : Lk, ds = dLk k ∧ lkB k ∧ (S → lkR k) := by
  obtain ⟨d1, d2, rfl, h1, d3, d4, rfl, h3, rfl⟩ := h
  obtain ⟨e, xs, rfl, h4, h5⟩ := fits_conf h1
  obtain ⟨ps, rfl, h6, h7⟩ := fits_sigs h3
  exact ⟨(e, xs, ps), rfl, ⟨h4, h6⟩, fun s => ⟨h5 s, h7 s⟩⟩
theorem fits_links {ds : List Dat} (h : Fits S U shLinks ds) : ∃ ls : List Lk, ds = [.l 3 (dLks ls)] ∧ ls.length ≤ maxLen ∧ (∀ k, k ∈ ls → lkB k) ∧ (S → ls.length * 56 ≤ 140737488351232 ∧ ∀ k, k ∈ ls → lkR k) := by
  obtain ⟨es, rfl, h1, h2, _, h3⟩ := h
  obtain ⟨ls, rfl, h4⟩ := fits_map (f := dLk) (Q := fun k => lkB k ∧ (S → lkR k)) es (fun d hd => fits_link (h3 d hd))
  rw [List.length_map] at h1 h2
  exact ⟨ls, rfl, h1, fun k hk => (h4 k hk).1, fun s => ⟨h2 s, fun k hk => (h4 k hk).2 s⟩⟩
theorem fits_op {ds : List Dat} (h : Fits S U shOp ds) : ∃ o : Cl, ds = [.b o.1, .l 3 (dLks o.2)] ∧ o.2.length ≤ maxLen ∧ ∀ k, k ∈ o.2 → lkB k := by
  obtain ⟨d1, d2, rfl, ⟨x, rfl⟩, d3, d4, rfl, h3, rfl⟩ := h
  obtain ⟨ls, rfl, h4, h5, _⟩ := fits_links h3
  exact ⟨(x, ls), rfl, h4, h5⟩
theorem fits_ops {ds : List Dat} (h : Fits S U shOps ds) : ∃ os : List Cl, ds = [.l 2 (dOps os)] ∧ os.length ≤ maxLen ∧ ∀ o, o ∈ os → o.2.length ≤ maxLen ∧ ∀ k, k ∈ o.2 → lkB k := by
  obtain ⟨es, rfl, h1, h2, _, h3⟩ := h
  obtain ⟨os, rfl, h4⟩ := fits_map (f := fun o : Cl => [Dat.b o.1, Dat.l 3 (dLks o.2)]) (Q := fun o => o.2.length ≤ maxLen ∧ ∀ k, k ∈ o.2 → lkB k) es (fun d hd => fits_op (h3 d hd))
  rw [List.length_map] at h1
  exact ⟨os, rfl, h1, h4⟩
end
section
variable {H : Type} {enc : TypeId × Value → H} {W : World} {fuel : Nat} {x : DataW H × List MemPlace}
theorem open_conf {c0 c1 : Value} (h : DataW.trod enc Try.prog W 0 (fun _ => true) true fuel 24 [c0, c1] = some x) :
    ∃ (e : Int) (ad : Option Addr) (cap : Nat) (xs : List Int), c0 = .int .i64 e ∧ c1 = .slice ad xs.length cap ∧ xs.length ≤ maxLen ∧ IntsIn W ad xs ∧ ((∀ m ∈ x.1.weights Try.prog 24, m ≤ reachBytes) → xs.length * 8 ≤ 140737488351232) := by
  obtain ⟨ds, hf, hc⟩ := (opens_all Try.prog shConf).1 _ _ _ _ of_conf h
  obtain ⟨e, xs, rfl, h1, h2⟩ := fits_conf hf
  obtain ⟨u0, e0, r0, _⟩ := hc 0 _ rfl
  obtain ⟨u1, e1, r1, _⟩ := hc 1 _ rfl
  cases e0
  cases e1
  obtain ⟨ad, cap, hv, hi, _⟩ := reads_ints r1
  exact ⟨e, ad, cap, xs, r0.int, hv, h1, hi, h2⟩
theorem open_link {c0 c1 c2 : Value} (h : DataW.trod enc Try.prog W 0 (fun _ => true) true fuel 27 [c0, c1, c2] = some x) :
    ∃ (e : Int) (ad : Option Addr) (cap : Nat) (xs : List Int) (b : Option Addr) (cp : Nat) (ss : List (Int × ByteArray)), c0 = .int .i64 e ∧ c1 = .slice ad xs.length cap ∧ c2 = .slice b ss.length cp ∧ xs.length ≤ maxLen ∧ IntsIn W ad xs ∧ ss.length ≤ maxLen ∧ PairsIn W b ss := by
  obtain ⟨ds, hf, hc⟩ := (opens_all Try.prog shLink).1 _ _ _ _ of_link h
  obtain ⟨k, rfl, h1, h2⟩ := fits_link hf
  obtain ⟨u0, e0, r0, _⟩ := hc 0 (.i k.1) rfl
  obtain ⟨u1, e1, r1, _⟩ := hc 1 (dInts k.2.1) rfl
  obtain ⟨u2, e2, r2, _⟩ := hc 2 (dPairs k.2.2) rfl
  cases e0
  cases e1
  cases e2
  obtain ⟨ad, cap, hv, hi, _⟩ := reads_ints r1
  obtain ⟨b, cp, hv2, hp, _⟩ := reads_pairs r2
  exact ⟨k.1, ad, cap, k.2.1, b, cp, k.2.2, r0.int, hv, hv2, h1.1, hi, h1.2, hp⟩
theorem open_links {c : Value} (h : DataW.trod enc Try.prog W 0 (fun _ => true) true fuel 40 [c] = some x) :
    ∃ ls : List Lk, Reads (fun _ => True) W c (.l 3 (dLks ls)) ∧ Caps W c (.l 3 (dLks ls)) ∧ ls.length ≤ maxLen ∧ (∀ k, k ∈ ls → lkB k) ∧ ((∀ m ∈ x.1.weights Try.prog 40, m ≤ reachBytes) → ls.length * 56 ≤ 140737488351232 ∧ ∀ k, k ∈ ls → lkR k) := by
  obtain ⟨ds, hf, hc⟩ := (opens_all Try.prog shLinks).1 _ _ _ _ of_links h
  obtain ⟨ls, rfl, h1, h2, h3⟩ := fits_links hf
  obtain ⟨u0, e0, r0, p0⟩ := hc 0 _ rfl
  cases e0
  exact ⟨ls, r0, p0, h1, h2, h3⟩
theorem open_ops {c : Value} (h : DataW.trod enc Try.prog W 0 (fun _ => true) true fuel 32 [c] = some x) :
    ∃ os : List Cl, Reads (fun _ => True) W c (.l 2 (dOps os)) ∧ Caps W c (.l 2 (dOps os)) ∧ os.length ≤ maxLen ∧ (∀ o, o ∈ os → ∀ k, k ∈ o.2 → k.2.1.length ≤ maxLen ∧ k.2.2.length ≤ maxLen) ∧ (∀ o, o ∈ os → o.2.length ≤ maxLen) := by
  obtain ⟨ds, hf, hc⟩ := (opens_all Try.prog shOps).1 _ _ _ _ of_ops h
  obtain ⟨os, rfl, h1, h2⟩ := fits_ops hf
  obtain ⟨u0, e0, r0, p0⟩ := hc 0 _ rfl
  cases e0
  exact ⟨os, r0, p0, h1, fun o ho k hk => (h2 o ho).2 k hk, fun o ho => (h2 o ho).1⟩
end
end Go.Proofs.Ytpholamobedkhaa
