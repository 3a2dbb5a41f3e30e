/- The law: nothing is shared. -/
import Derived.Test.YtpholamobedkhaaTrKM
import Derived.Deep.DeepCutAuto
namespace Go.Proofs.Ytpholamobedkhaa
open Go.RowKit

/-- One's own copy of the first configuration, in the variable at b5. -/
structure OwA (w0 w : World) (ep : Int) (va : Value) (b5 : Nat) (a5 : Option Addr) (n c5 : Nat) (l : List Int) : Prop where
  fst : CfAt w w0.heap.size ep va
  own : CfAt w b5 ep (.slice a5 n c5)
  new : NewI (w0.heap.size + 1) w a5 l
  ap : ∀ x, a5 = some x → x.block ≠ b5
  b5N : w0.heap.size < b5
  bel : Below w0.heap.size w0 w
theorem OwA.keep {w0 w w' : World} {ep : Int} {va : Value} {b5 : Nat} {a5 : Option Addr} {n c5 : Nat} {l : List Int} (h : OwA w0 w ep va b5 a5 n c5 l) (hb : Below w.heap.size w w') : OwA w0 w' ep va b5 a5 n c5 l :=
  ⟨h.fst.keep hb, h.own.keep hb, h.new.keep hb, h.ap, h.b5N, h.bel.trans (hb.mono h.bel.size)⟩
/-- The tracker, the first configuration, the arguments. -/
structure Base (w0 : World) (O : Nat → Prop) (v : Value) (l : List Int) (L : List Lk) (va : Value) (w : World) : Prop where
  tr : TrAt O w v l L
  fst : CfAt w w0.heap.size 0 va
  bel : Below w0.heap.size w0 w
  oN : ∀ k, O k → w0.heap.size < k
theorem Base.keep {w0 : World} {O : Nat → Prop} {v : Value} {l : List Int} {L : List Lk} {va : Value} {w w' : World} (h : Base w0 O v l L va w) (hb : Below w.heap.size w w') : Base w0 O v l L va w' :=
  ⟨h.tr.under hb, h.fst.keep hb, h.bel.trans (hb.mono h.bel.size), h.oN⟩
theorem Base.spo {w0 : World} {O : Nat → Prop} {v : Value} {l : List Int} {L : List Lk} {va : Value} {w w' : World} {Z : Nat → Prop} (h : Base w0 O v l L va w) (hs : Spo Z w w') (hO : ∀ k, Z k → ¬ O k) (hN : ∀ k, Z k → w0.heap.size < k) : Base w0 O v l L va w' :=
  ⟨h.tr.keep hs.out.size (fun k hk hq => hs.out.block k hk (fun hz => hO k hz hq)), (hs.out.block _ (lt_of_blk h.fst) (fun hz => Nat.lt_irrefl _ (hN _ hz))).trans h.fst, h.bel.trans (hs.out.below h.bel.size (fun k hz => Nat.le_of_lt (hN k hz))), h.oN⟩
theorem Base.step {w0 : World} {O O' : Nat → Prop} {v : Value} {l : List Int} {L L' : List Lk} {va : Value} {w w' : World} (h : Base w0 O v l L va w) (ho : Outs O w w') (ht : TrAt O' w' v l L') (hO : ∀ k, O' k → O k ∨ w.heap.size ≤ k) : Base w0 O' v l L' va w' :=
  ⟨ht, (ho.block _ (lt_of_blk h.fst) (fun hz => Nat.lt_irrefl _ (h.oN _ hz))).trans h.fst, h.bel.trans (ho.below h.bel.size (fun k hz => Nat.le_of_lt (h.oN k hz))), fun k hk => by
    rcases hO k hk with hq | hq
    · exact h.oN k hq
    · exact Nat.lt_of_lt_of_le (lt_of_blk h.fst) hq⟩
theorem spo_cell {Z : Nat → Prop} {w w' : World} (hs : Spo Z w w') {g o : Nat} (hg : g < w.heap.size) (hz : ¬ Z g) : w'.cell? ⟨g, o, none⟩ = w.cell? ⟨g, o, none⟩ := World.cell?_of_block (a := ⟨g, o, none⟩) (hs.out.block g hg hz)
theorem MnSt.grown {C : Nat} {w4 w w2 : World} {F F' : Nat → Prop} {v v2 : Value} {ls ls2 : List Lk} (h : MnSt C w4 w F v ls) (hO : OwnD 27 3 C F' w2 v2 (dLks ls2)) (hg : w.grownBy w2 v.ownBlock) (hF' : ∀ k, F' k → C ≤ k ∧ Free w k) (hsep : ∀ j, v.ownBlock = some j → ¬ F' j) : MnSt C w4 w2 F' v2 ls2 :=
  ⟨hO, fun k hk => ⟨(hF' k hk).1, (hF' k hk).2.keep (hg.block k (hF' k hk).2.lt (fun e => hsep k e.symm hk))⟩, h.bel.grown hg h.le (fun k hk => (h.own.lt k hk).1), Nat.le_trans h.le hg.size⟩
set_option maxRecDepth 100000 in
set_option maxHeartbeats 12800000 in
theorem lown_any (ep : Int) (a : Option Addr) (n cap : Nat) (l : List Int) (hn : l.length = n) (hm : n ≤ maxLen) (hr8 : n * 8 ≤ 140737488351232) (Gs : Nat → Prop) (sv : Value) (ls : List Lk) (hll : ls.length ≤ maxLen) (hlb : ∀ k, k ∈ ls → k.2.1.length ≤ maxLen ∧ k.2.2.length ≤ maxLen) (hlr : ls.length * 56 ≤ 140737488351232 ∧ ∀ k, k ∈ ls → k.2.1.length * 8 ≤ 140737488351232 ∧ k.2.2.length * 24 ≤ 140737488351232) (w : World) (hI : IntsIn w a l) (hS : Reads Gs w sv (.l 3 (dLks ls))) (_hCp : Caps w sv (.l 3 (dLks ls))) :
    Calls Try.prog 7 #[.agg #[.int .i64 ep, .slice a n cap], sv] w fun r w' => r = .returned (.bool true) ∧ Below w.heap.size w w' := by
  obtain ⟨sa, sc, hv⟩ := lks_form hS
  subst hv
  have hl2 : (ls.length : Int) ≤ 9223372036854775807 := by unfold maxLen at hll; omega
  have hn2 : (n : Int) ≤ 9223372036854775807 := by omega
  have hn0 : (0 : Int) ≤ (n : Int) := Int.natCast_nonneg _
  have H0 : Hid (Below w.heap.size w (w.alloc (.cells #[.int .i64 ep, .slice a n cap] 24)) ∧ CfAt (w.alloc (.cells #[.int .i64 ep, .slice a n cap] 24)) w.heap.size ep (.slice a n cap)) := hid ⟨(Below.refl _ _).alloc (Nat.le_refl _) _, heap_alloc_last w _⟩
  have HI := hid (And.intro hI (And.intro hn (And.intro hm hr8)))
  have HC := hid (And.intro hS (And.intro hlb (And.intro hlr hll)))
  clear hI hn hm hS hlb hlr hll _hCp hr8
  go_enter Try.func7, Try.ntmps7
  go_upto_region 3 with (go_at_call 9; refine (jlives_any _).mono ?_; rintro r w1 ⟨rfl, hb1⟩; have H1 : Hid (Below w.heap.size w w1 ∧ CfAt w1 w.heap.size ep (.slice a n cap)) := hid ⟨H0.out.1.trans (hb1.mono H0.out.1.size), H0.out.2.keep hb1⟩; clear hb1)
  go_cut [5] (fun v5 wx => ∃ (b5 : Nat) (a5 : Option Addr) (c5 : Nat), v5 = .pointer (some ⟨b5, 0, none⟩) ∧ OwA w wx ep (.slice a n cap) b5 a5 n c5 l)
  case first =>
    have H1d : Hid (CfAt w1.drew w.heap.size ep (.slice a n cap) ∧ Below w.heap.size w w1.drew) := hid ⟨H1.out.2, H1.out.1.drew⟩
    have HS := hid H1d.out.1
    refine wp_region_held (S := fun ww => CfAt ww w.heap.size ep (.slice a n cap)) (by kernel_rfl) ?_
    try (change wpAnyH _ _ _ _ _ _ _ _ (World.drew _))
    refine wpAnyH_take (i := 0) (v := ?v1) rfl (by kernel_rfl) (by kernel_rfl) (by kernel_rfl) (fun _ _ _ h => h) (Or.inl ⟨by rfl, ?hy1⟩) HS.out ?rest1
    case hy1 => (intro ww _; go_simp; try with_reducible rfl)
    go_simp
    refine wpAnyH_take (i := 1) (v := ?v2) rfl (by kernel_rfl) (by kernel_rfl) (by kernel_rfl) (fun _ _ _ h => h) (Or.inl ⟨by rfl, ?hy2⟩) HS.out ?rest2
    case hy2 => (intro ww hS; obtain ⟨y0, y1⟩ := hS.cells; go_simp; try with_reducible rfl)
    go_simp
    refine wpAnyH_take (i := 2) (v := ?v3) rfl (by kernel_rfl) (by kernel_rfl) (by kernel_rfl) (fun _ _ _ h => h) (Or.inl ⟨by rfl, ?hy3⟩) HS.out ?rest3
    case hy3 => (intro ww _; go_simp; try with_reducible rfl)
    go_simp
    refine wpAnyH_take (i := 3) (v := ?v4) rfl (by kernel_rfl) (by kernel_rfl) (by kernel_rfl) (fun _ _ _ h => h) (Or.inl ⟨by rfl, ?hy4⟩) HS.out ?rest4
    case hy4 => (intro ww hS; obtain ⟨y0, y1⟩ := hS.cells; go_simp; try with_reducible rfl)
    go_simp
    refine wpAnyH_all (rs := [4, 6]) (by kernel_rfl) (by simp) ?_
    intro i hi
    rcases List.mem_cons.1 hi with rfl | hi
    · clear hi
      refine wpOp_k rfl (by rfl) (fun K hK => ?_)
      refine owp_ownI _ _ rfl (by rfl) a n cap l (by rfl) HI.out.2.1 (HI.out.1.keep H1d.out.2 (Nat.le_refl _)) (by have := HI.out.2.2.2; omega) ?_
      intro v4 w4 H4
      obtain ⟨a4, c4, hv4, hN4⟩ := H4.out.new
      rw [HI.out.2.1] at hv4
      subst hv4
      have H4n := hid hN4
      clear hN4
      refine hK _ _ ⟨?_, ?_⟩
      · exact (CfAt.keep (w := w1.drew) H1d.out.1 H4.out.bel)
      clear hK K
      go_simp
      refine wpAnyH_take (i := 5) (v := ?v5) rfl (by kernel_rfl) (by kernel_rfl) (by kernel_rfl) (fun _ _ _ h => h) (Or.inl ⟨by rfl, ?hy5⟩) ((H1d.out.1).keep H4.out.bel) ?rest5
      case hy5 => (intro ww _; go_simp; try with_reducible rfl)
      go_simp
      refine wpAnyH_all (rs := [6]) (by kernel_rfl) (by simp) ?_
      intro i hi
      obtain rfl := List.mem_singleton.1 hi
      clear hi
      refine wpOp_k rfl (by rfl) (fun K hK => ?_)
      go_simp
      have hA6 := (Below.refl w4.heap.size w4).alloc (Nat.le_refl _) (.cells #[.int .i64 0, .slice none 0 0] 24)
      have H6 : Hid (CfAt (w4.alloc (.cells #[.int .i64 0, .slice none 0 0] 24)) w.heap.size ep (.slice a n cap) ∧ Below w.heap.size w (w4.alloc (.cells #[.int .i64 0, .slice none 0 0] 24)) ∧ NewI (w.heap.size + 1) (w4.alloc (.cells #[.int .i64 0, .slice none 0 0] 24)) a4 l ∧ (w4.alloc (.cells #[.int .i64 0, .slice none 0 0] 24)).heap[w4.heap.size]? = some (.cells #[.int .i64 0, .slice none 0 0] 24 (0, 0)) ∧ (∀ x, a4 = some x → x.block < w4.heap.size) ∧ w.heap.size < w4.heap.size) := hid (by
        have h1 := (H1d.out.1).keep H4.out.bel
        have h2 := H1d.out.2.trans (H4.out.bel.mono H1d.out.2.size)
        exact ⟨h1.keep hA6, h2.trans (hA6.mono h2.size), (H4n.out.low (lt_of_blk H1d.out.1)).keep hA6, heap_alloc_last w4 _, fun x hx => (H4n.out.far x hx).2.lt, lt_of_blk h1⟩)
      clear hA6
      obtain ⟨w6, e6⟩ : ∃ w6, w6 = w4.alloc (.cells #[.int .i64 0, .slice none 0 0] 24) := ⟨_, rfl⟩
      rw [← e6] at H6 ⊢
      clear e6
      refine hK _ _ ⟨H6.out.1, ?_⟩
      clear hK K
      go_simp
      refine wpAnyH_all (rs := [7]) (by kernel_rfl) (by simp) ?_
      intro i hi
      obtain rfl := List.mem_singleton.1 hi
      clear hi
      refine wpOp_k rfl (by rfl) (fun K hK => ?_)
      have r0 := (cell_two H6.out.2.2.2.1).1
      have r1 := (cell_two H6.out.2.2.2.1).2
      have f0 := free_at H6.out.2.2.2.1 0
      have f1 := free_at H6.out.2.2.2.1 1
      go_simp
      refine hK _ _ ⟨(Below.heap_setCell _ _ _ _ (by have := H6.out.2.2.2.2.2; simp; omega)).trans ((Below.heap_setCell _ _ _ _ (by have := H6.out.2.2.2.2.2; simp; omega)).trans H6.out.1), ?_⟩
      clear hK K r0 r1 f0 f1
      go_simp
      refine wpAnyH_done (by kernel_rfl) ?_ _
      go_simp
      go_wp2_with fail
      go_meet
      refine ⟨w4.heap.size, a4, c4, rfl, ⟨(Below.heap_setCell _ _ _ _ (by have := H6.out.2.2.2.2.2; simp; omega)).trans ((Below.heap_setCell _ _ _ _ (by have := H6.out.2.2.2.2.2; simp; omega)).trans H6.out.1), res_put2 H6.out.2.2.2.1, H6.out.2.2.1.far_keep (by simp [World.setCell]) (fun x hx => ?_), fun x hx => ?_, by have := H6.out.2.2.2.2.2; omega, (H6.out.2.1.setCell (p := ⟨w4.heap.size, 0, none⟩) (by have := H6.out.2.2.2.2.2; simp; omega) _).setCell (p := ⟨w4.heap.size, 1, none⟩) (by have := H6.out.2.2.2.2.2; simp; omega) _⟩⟩
      · have h1 := H6.out.2.2.2.2.1 x hx
        refine (Below.heap_setCell _ _ _ _ ?_).trans (Below.heap_setCell _ _ _ _ ?_) <;> (show x.block ≠ w4.heap.size; omega)
      · have h1 := H6.out.2.2.2.2.1 x hx
        omega
    · skip
      obtain rfl := List.mem_singleton.1 hi
      clear hi
      refine wpOp_k rfl (by rfl) (fun K hK => ?_)
      go_simp
      obtain ⟨w5, e5⟩ : ∃ w5, w5 = (w1.alloc (.cells #[.int .i64 0, .slice none 0 0] 24)).drew := ⟨_, rfl⟩
      have H5 : Hid (CfAt w5 w.heap.size ep (.slice a n cap) ∧ Below w.heap.size w w5 ∧ w5.heap[w1.heap.size]? = some (.cells #[.int .i64 0, .slice none 0 0] 24 (0, 0)) ∧ w1.heap.size < w5.heap.size ∧ w.heap.size < w1.heap.size) := hid (by
        have hA5 : Below w1.heap.size w1 (w1.alloc (.cells #[.int .i64 0, .slice none 0 0] 24)).drew := ((Below.refl w1.heap.size w1).alloc (Nat.le_refl _) _).drew
        rw [e5]
        exact ⟨H1.out.2.keep hA5, H1.out.1.trans (hA5.mono H1.out.1.size), heap_alloc_last w1 _, by simp, lt_of_blk H1.out.2⟩)
      rw [← e5]
      clear e5
      refine hK _ _ ⟨H5.out.1, ?_⟩
      clear hK K
      go_simp
      refine wpAnyH_all (rs := [4]) (by kernel_rfl) (by simp) ?_
      intro i hi
      obtain rfl := List.mem_singleton.1 hi
      clear hi
      refine wpOp_k rfl (by rfl) (fun K hK => ?_)
      refine owp_ownI _ _ rfl (by rfl) a n cap l (by rfl) HI.out.2.1 (HI.out.1.keep H5.out.2.1 (Nat.le_refl _)) (by have := HI.out.2.2.2; omega) ?_
      intro v4 w4 H4
      obtain ⟨a4, c4, hv4, hN4⟩ := H4.out.new
      rw [HI.out.2.1] at hv4
      subst hv4
      have H4n := hid hN4
      clear hN4
      refine hK _ _ ⟨?_, ?_⟩
      · exact (CfAt.keep (w := w5) H5.out.1 H4.out.bel)
      clear hK K
      go_simp
      refine wpAnyH_take (i := 5) (v := ?v6) rfl (by kernel_rfl) (by kernel_rfl) (by kernel_rfl) (fun _ _ _ h => h) (Or.inl ⟨by rfl, ?hy6⟩) (H5.out.1.keep H4.out.bel) ?rest6
      case hy6 => (intro ww _; go_simp; try with_reducible rfl)
      go_simp
      have H6 : Hid (CfAt w4 w.heap.size ep (.slice a n cap) ∧ Below w.heap.size w w4 ∧ NewI (w.heap.size + 1) w4 a4 l ∧ w4.heap[w1.heap.size]? = some (.cells #[.int .i64 0, .slice none 0 0] 24 (0, 0)) ∧ (∀ x, a4 = some x → w1.heap.size < x.block) ∧ w.heap.size < w1.heap.size) := hid (by
        have h2 := H5.out.2.1.trans (H4.out.bel.mono H5.out.2.1.size)
        have h3 := H5.out.2.2.2
        exact ⟨H5.out.1.keep H4.out.bel, h2, H4n.out.low (by omega), (H4.out.bel.block _ h3.1).trans H5.out.2.2.1, fun x hx => by have := (H4n.out.far x hx).1; omega, h3.2⟩)
      refine wpAnyH_all (rs := [7]) (by kernel_rfl) (by simp) ?_
      intro i hi
      obtain rfl := List.mem_singleton.1 hi
      clear hi
      refine wpOp_k rfl (by rfl) (fun K hK => ?_)
      have r0 := (cell_two H6.out.2.2.2.1).1
      have r1 := (cell_two H6.out.2.2.2.1).2
      have f0 := free_at H6.out.2.2.2.1 0
      have f1 := free_at H6.out.2.2.2.1 1
      go_simp
      refine hK _ _ ⟨(Below.heap_setCell _ _ _ _ (by have := H6.out.2.2.2.2.2; simp; omega)).trans ((Below.heap_setCell _ _ _ _ (by have := H6.out.2.2.2.2.2; simp; omega)).trans H6.out.1), ?_⟩
      clear hK K r0 r1 f0 f1
      go_simp
      refine wpAnyH_done (by kernel_rfl) ?_ _
      go_simp
      go_wp2_with fail
      go_meet
      refine ⟨w1.heap.size, a4, c4, rfl, ⟨(Below.heap_setCell _ _ _ _ (by have := H6.out.2.2.2.2.2; simp; omega)).trans ((Below.heap_setCell _ _ _ _ (by have := H6.out.2.2.2.2.2; simp; omega)).trans H6.out.1), res_put2 H6.out.2.2.2.1, H6.out.2.2.1.far_keep (by simp [World.setCell]) (fun x hx => ?_), fun x hx => ?_, by have := H6.out.2.2.2.2.2; omega, (H6.out.2.1.setCell (p := ⟨w1.heap.size, 0, none⟩) (by have := H6.out.2.2.2.2.2; simp; omega) _).setCell (p := ⟨w1.heap.size, 1, none⟩) (by have := H6.out.2.2.2.2.2; simp; omega) _⟩⟩
      · have h1 := H6.out.2.2.2.2.1 x hx
        refine (Below.heap_setCell _ _ _ _ ?_).trans (Below.heap_setCell _ _ _ _ ?_) <;> (show x.block ≠ w1.heap.size; omega)
      · have h1 := H6.out.2.2.2.2.1 x hx
        omega
  case rest =>
    obtain ⟨b5, a5, c5, rfl, hA⟩ := hcut
    have HA := hid hA
    have y0 := hA.own.cells.1
    have y1 := hA.own.cells.2
    clear hA
    by_cases hr : rightC ep l = true ∧ ep = 0
    · obtain ⟨hr, rfl⟩ := hr
      have HR := hid hr
      have hl10 : n ≤ 10 := by rw [← HI.out.2.1]; exact (mem_len (right_mem hr).2).2
      have HL10 := hid hl10
      clear hr hl10
      go_wp2_with (go_at_call 12; refine (lnew_any 0 a5 n c5 l HI.out.2.1 HI.out.2.2.1 _ HA.out.new.ints).mono ?_; rintro r w4 ⟨hb4, h4, _⟩; obtain ⟨v, O, rfl, ht4, hO4⟩ := h4 ⟨HR.out, rfl⟩; obtain ⟨gt, rfl⟩ := ht4.isptr
                   have H4 := hid (And.intro ht4 (And.intro (HA.out.keep hb4) hO4))
                   clear hb4 h4 ht4 hO4)
      clear y0 y1
      have HB4 : Hid (Base w O (.pointer (some ⟨gt, 0, none⟩)) l [] (.slice a n cap) w4) := hid ⟨H4.out.1, H4.out.2.1.fst, H4.out.2.1.bel, fun k hk => Nat.lt_of_lt_of_le (lt_of_blk HA.out.fst) (H4.out.2.2 k hk)⟩
      go_loopw [8, 9] (fun v8 i wr => ∃ (j : Nat) (F : Nat → Prop), j ≤ ls.length ∧ i = .int .i64 (j : Int) ∧ MnSt w4.heap.size w4 wr F v8 (ls.take j))
        (fun _ i _ => ((ls.length : Int) - intOf i).toNat)
      case atStart => exact ⟨0, fun _ => False, by omega, rfl, ⟨OwnD.nil _ _ _ _ _, fun k hk => hk.elim, Below.refl _ _, Nat.le_refl _⟩⟩
      case round =>
        obtain ⟨j, F, hj, rfl, hM⟩ := hrel
        by_cases hjn : j = ls.length
        · have hj1 : ¬ ((j : Int) < (ls.length : Int)) := by omega
          rw [hjn, List.take_length] at hM
          clear hj
          obtain ⟨a8, c8, hv8⟩ := hM.own.form
          rw [dLks_len] at hv8
          subst hv8
          have HM := hid hM
          have HBr := hid (HB4.out.keep hM.bel)
          clear hM hjn
          rename World => wm
          obtain ⟨E, eE⟩ : ∃ E, E = takeE 0 l [] ls := ⟨_, rfl⟩
          obtain ⟨L, eL⟩ : ∃ L, L = if E = 0 then ls else [] := ⟨_, rfl⟩
          have HTk : Hid (Calls Try.prog 21 #[.pointer (some ⟨gt, 0, none⟩), .slice a8 ls.length c8] wm fun r w' => r = .returned (.int .i64 E) ∧ Outs O wm w' ∧ ∃ O', TrAt O' w' (.pointer (some ⟨gt, 0, none⟩)) l L ∧ ∀ k, O' k → O k ∨ wm.heap.size ≤ k) := hid (by
            rw [eL, eE]
            exact ltake_any O _ l HR.out [] rfl _ _ ls HC.out.2.1 HC.out.2.2.2 HM.out.room wm HBr.out.tr HM.out.own.reads)
          have HE : Hid ((E = 0 → L = ls) ∧ (E ≠ 0 → L = []) ∧ chainE 0 l [] L = 0) := hid (by
            by_cases h0 : E = 0
            · rw [if_pos h0] at eL
              exact ⟨fun _ => eL, fun h => absurd h0 h, by rw [eL]; exact (take_ok (ls := []) (eE.symm.trans h0)).1⟩
            · rw [if_neg h0] at eL
              exact ⟨fun h => absurd h h0, fun _ => eL, by rw [eL]; rfl⟩)
          have HGd := hid (good_of HE.out.2.2)
          have hLl : (L.length : Int) ≤ 60 := by have := HGd.out.len; omega
          have hLl0 : (0 : Int) ≤ (L.length : Int) := Int.natCast_nonneg _
          clear eE eL
          go_wp2_with (first
            | (go_at_call 21; refine HTk.out.mono ?_; rintro r w6 ⟨rfl, ho6, O6, ht6, hO6⟩
               have H6 : Hid (Base w O6 (.pointer (some ⟨gt, 0, none⟩)) l L (.slice a n cap) w6 ∧ OwnD 27 3 w4.heap.size F w6 (.slice a8 ls.length c8) (dLks ls) ∧ OwA w w6 0 (.slice a n cap) b5 a5 n c5 l ∧ (∀ k, F k → w4.heap.size ≤ k ∧ Free w6 k ∧ k < wm.heap.size) ∧ (∀ k, O6 k → O k ∨ wm.heap.size ≤ k)) := hid (by
                 have hlt : ∀ k, O k → k < w4.heap.size := fun k hk => H4.out.1.lt k hk
                 have hA4 := H4.out.2.1
                 have hAm := hA4.keep HM.out.bel
                 have hbO : ¬ O b5 := fun hq => by have := H4.out.2.2 _ hq; have := lt_of_blk HA.out.own; omega
                 have haO : ∀ x, a5 = some x → ¬ O x.block := fun x hx hq => by have := H4.out.2.2 _ hq; have := (HA.out.new.far x hx).2.lt; omega
                 have hB6 := HBr.out.step ho6 ht6 hO6
                 refine ⟨hB6, HM.out.own.apart ho6 (fun k hk => (HM.out.far k hk).1) hlt, ⟨hB6.fst, (ho6.block _ (lt_of_blk hAm.own) hbO).trans hAm.own, hAm.new.far_keep ho6.size (fun x hx => ho6.block _ (hAm.new.far x hx).2.lt (haO x hx)), hAm.ap, hAm.b5N, hB6.bel⟩, fun k hk => ⟨(HM.out.far k hk).1, (HM.out.far k hk).2.keep (ho6.block k (HM.out.far k hk).2.lt (fun hq => by have := hlt k hq; have := (HM.out.far k hk).1; omega)), (HM.out.far k hk).2.lt⟩, hO6⟩)
               clear ho6 ht6 hO6)
            | (go_at_call 19; refine (wsames_eq _ _ _ _ ls HC.out.2.2.2 HC.out.2.1 _ H6.out.2.1.reads (HC.out.1.under H6.out.1.bel (Nat.le_refl _))).mono ?_; rintro r w7 ⟨rfl, hb7⟩
               have H7 : Hid (Base w O6 (.pointer (some ⟨gt, 0, none⟩)) l L (.slice a n cap) w7 ∧ OwnD 27 3 w4.heap.size F w7 (.slice a8 ls.length c8) (dLks ls) ∧ OwA w w7 0 (.slice a n cap) b5 a5 n c5 l ∧ (∀ k, F k → Free w7 k)) := hid ⟨H6.out.1.keep hb7, H6.out.2.1.under hb7 (Nat.le_refl _), H6.out.2.2.1.keep hb7, fun k hk => (H6.out.2.2.2.1 k hk).2.1.keep (hb7.block k (H6.out.2.2.2.1 k hk).2.1.lt)⟩
               clear hb7
               have y0 := H7.out.2.2.1.own.cells.1
               have y1 := H7.out.2.2.1.own.cells.2
               have z0 := H7.out.1.fst.cells.1
               have z1 := H7.out.1.fst.cells.2)
            | (go_at_call 20; refine (vsame_eq 0 a5 a n c5 cap l HI.out.2.1 HI.out.2.2.1 _ H7.out.2.2.1.new.ints (HI.out.1.keep H7.out.1.bel (Nat.le_refl _))).mono ?_; rintro r w8 ⟨rfl, hb8⟩
               have H8 : Hid (Base w O6 (.pointer (some ⟨gt, 0, none⟩)) l L (.slice a n cap) w8 ∧ OwnD 27 3 w4.heap.size F w8 (.slice a8 ls.length c8) (dLks ls) ∧ OwA w w8 0 (.slice a n cap) b5 a5 n c5 l ∧ (∀ k, F k → Free w8 k)) := hid ⟨H7.out.1.keep hb8, H7.out.2.1.under hb8 (Nat.le_refl _), H7.out.2.2.1.keep hb8, fun k hk => (H7.out.2.2.2 k hk).keep (hb8.block k (H7.out.2.2.2 k hk).lt)⟩
               clear hb8 y0 y1 z0 z1))
          obtain ⟨Z, eZ⟩ : ∃ Z : Nat → Prop, Z = fun k => (∃ x, a5 = some x ∧ x.block = k) ∨ F k := ⟨_, rfl⟩
          have HZ : Hid ((∀ k, Z k → ¬ O6 k) ∧ (∀ k, Z k → w.heap.size < k) ∧ ¬ Z b5 ∧ (∀ g, (Value.slice a8 ls.length c8).ownBlock = some g → ¬ Z g) ∧ (∀ k, Z k → k < w8.heap.size) ∧ Wri Z w8 a5 n 1 ∧ (∀ k, F k → Z k)) := hid (by
            subst eZ
            have hA8 := H8.out.2.2.1
            have ha4 : ∀ x, a5 = some x → x.block < wc.heap.size := fun x hx => (HA.out.new.far x hx).2.lt
            have hwc : wc.heap.size ≤ w4.heap.size := by
              have h1 := H4.out.2.2 gt (by obtain ⟨g, B, F, vl, hv, _, hO⟩ := H4.out.1; cases hv; exact (hO gt).2 (.inl rfl))
              have h2 := H4.out.1.lt gt (by obtain ⟨g, B, F, vl, hv, _, hO⟩ := H4.out.1; cases hv; exact (hO gt).2 (.inl rfl))
              omega
            have hwm : w4.heap.size ≤ wm.heap.size := HM.out.le
            refine ⟨?_, ?_, ?_, ?_, ?_, ?_, fun k hk => .inr hk⟩
            · rintro k (⟨x, hx, rfl⟩ | hk) hq
              · have h1 := ha4 x hx
                rcases H6.out.2.2.2.2 _ hq with h2 | h2
                · have := H4.out.2.2 _ h2; omega
                · omega
              · have h1 := H6.out.2.2.2.1 k hk
                rcases H6.out.2.2.2.2 _ hq with h2 | h2
                · have := H4.out.1.lt _ h2; omega
                · omega
            · rintro k (⟨x, hx, rfl⟩ | hk)
              · have := (hA8.new.far x hx).1; omega
              · have h1 := H6.out.2.2.2.1 k hk; have := lt_of_blk HA.out.fst; omega
            · rintro (⟨x, hx, he⟩ | hk)
              · exact hA8.ap x hx he
              · have h1 := H6.out.2.2.2.1 _ hk; have := lt_of_blk HA.out.own; omega
            · rintro g hg (⟨x, hx, rfl⟩ | hk)
              · have h1 := (H8.out.2.1.lt _ hg).1; have := ha4 x hx; omega
              · exact H8.out.2.1.sep g hg hk
            · rintro k (⟨x, hx, rfl⟩ | hk)
              · exact (hA8.new.far x hx).2.lt
              · exact (H8.out.2.2.2 k hk).lt
            · have h1 := hA8.new.wri
              rw [HI.out.2.1] at h1
              exact h1.mono (fun k hk => .inl hk))
          clear eZ
          go_loopw [10] (fun i wr => ∃ j : Nat, j ≤ n ∧ i = .int .i64 (j : Int) ∧ Spo Z w8 wr)
            (fun i _ => ((n : Int) - intOf i).toNat)
          case atStart => exact ⟨0, by omega, rfl, Spo.refl _ _⟩
          case round =>
            obtain ⟨p, hp, rfl, hSp⟩ := hrel
            have z1 : wr.cell? ⟨b5, 1, none⟩ = some (.slice a5 n c5) := (spo_cell hSp (lt_of_blk H8.out.2.2.1.own) HZ.out.2.2.1).trans H8.out.2.2.1.own.cells.2
            have HSp := hid hSp
            clear hSp
            by_cases hpn : p = n
            · have hp1 : ¬ ((p : Int) < (n : Int)) := by omega
              clear hp hpn
              go_wp2
              go_loopw [11] (fun i wr => ∃ j : Nat, j ≤ ls.length ∧ i = .int .i64 (j : Int) ∧ Spo Z w8 wr)
                (fun i _ => ((ls.length : Int) - intOf i).toNat)
              case atStart => exact ⟨0, by omega, rfl, HSp.out⟩
              case round =>
                obtain ⟨q, hq, rfl, hSq⟩ := hrel
                have HSq := hid hSq
                clear hSq z1
                by_cases hqn : q = ls.length
                · have hq1 : ¬ ((q : Int) < (ls.length : Int)) := by omega
                  have HB9 := hid (H8.out.1.spo HSq.out HZ.out.1 HZ.out.2.1)
                  clear hq hqn
                  rename World => w9
                  go_wp2_with (go_at_call 17; refine (lchainO_any O6 _ l L (by omega) (fun k hk => HGd.out.small k hk) _ HB9.out.tr).mono ?_; rintro r w10 ⟨v10, F10, rfl, ho10, hF10, hb10⟩
                               have H10 := hid (And.intro (HB9.out.keep hb10) (And.intro ho10 hF10))
                               clear ho10 hF10 hb10
                               obtain ⟨a10, c10, hv10⟩ := H10.out.2.1.form
                               rw [dLks_len] at hv10
                               subst hv10)
                  have HZ10 : Hid ((∀ k, F10 k → ¬ O6 k) ∧ (∀ k, F10 k → w.heap.size < k) ∧ (∀ k, F10 k → k < w10.heap.size)) := hid ⟨fun k hk hq => by have := HB9.out.tr.lt k hq; have := (H10.out.2.2 k hk).1; omega, fun k hk => by have := (H10.out.2.2 k hk).1; have := lt_of_blk HB9.out.fst; omega, fun k hk => (H10.out.2.2 k hk).2.lt⟩
                  go_loopw [13] (fun i wr => ∃ j : Nat, j ≤ L.length ∧ i = .int .i64 (j : Int) ∧ Spo F10 w10 wr)
                    (fun i _ => ((L.length : Int) - intOf i).toNat)
                  case atStart => exact ⟨0, by omega, rfl, Spo.refl _ _⟩
                  case round =>
                    obtain ⟨s, hs, rfl, hSs⟩ := hrel
                    have HSs := hid hSs
                    clear hSs
                    by_cases hsn : s = L.length
                    · have hs1 : ¬ ((s : Int) < (L.length : Int)) := by omega
                      have HB11 := hid (H10.out.1.spo HSs.out HZ10.out.1 HZ10.out.2.1)
                      clear hs hsn
                      rename World => w11
                      have HAt : Hid (∀ u, Base w O6 (.pointer (some ⟨gt, 0, none⟩)) l L (.slice a n cap) u → Calls Try.prog 24 #[.pointer (some ⟨gt, 0, none⟩), .int .i64 0] u fun r w' => ∃ ad cap, r = .returned (.tuple #[.agg #[.int .i64 0, .slice ad n cap], .bool true]) ∧ NewI u.heap.size w' ad l ∧ Below u.heap.size u w') := hid (fun u hu => by
                        have := lat_any O6 (.pointer (some ⟨gt, 0, none⟩)) l (by rw [HI.out.2.1]; exact HL10.out) L (by omega) (fun k hk => (HGd.out.small k hk).1) 0 u hu.tr
                        rw [show atZ 0 L 0 = 0 by rw [atZ, if_pos rfl], show atM l L 0 = l by rw [atM, if_pos rfl], show atB L 0 = true by rw [atB, decide_eq_true (by omega)], HI.out.2.1] at this
                        exact this)
                      go_wp2_with (first
                        | (go_at_call 24; refine (HAt.out _ HB11.out).mono ?_; rintro r w12 ⟨a12, c12, rfl, hN12, hb12⟩
                           have hA12 := (Below.refl w12.heap.size w12).alloc (Nat.le_refl _) (.cells #[.int .i64 0, .slice a12 n c12] 24)
                           have H12 : Hid (Base w O6 (.pointer (some ⟨gt, 0, none⟩)) l L (.slice a n cap) (w12.alloc (.cells #[.int .i64 0, .slice a12 n c12] 24)) ∧ NewI w11.heap.size (w12.alloc (.cells #[.int .i64 0, .slice a12 n c12] 24)) a12 l ∧ CfAt (w12.alloc (.cells #[.int .i64 0, .slice a12 n c12] 24)) w12.heap.size 0 (.slice a12 n c12) ∧ (∀ x, a12 = some x → x.block < w12.heap.size)) := hid ⟨(HB11.out.keep hb12).keep hA12, hN12.keep hA12, heap_alloc_last w12 _, fun x hx => (hN12.far x hx).2.lt⟩
                           clear hN12 hb12 hA12
                           have z0 := H12.out.1.fst.cells.1
                           have z1 := H12.out.1.fst.cells.2)
                        | (go_at_call 20; refine (vsame_eq 0 a12 a n c12 cap l HI.out.2.1 HI.out.2.2.1 _ H12.out.2.1.ints (HI.out.1.keep H12.out.1.bel (Nat.le_refl _))).mono ?_; rintro r w13 ⟨rfl, hb13⟩
                           have H13 := hid (And.intro (H12.out.1.keep hb13) (And.intro (H12.out.2.1.keep hb13) (H12.out.2.2.1.keep hb13)))
                           clear hb13 z0 z1))
                      obtain ⟨Y, eY⟩ : ∃ Y : Nat → Prop, Y = fun k => ∃ x, a12 = some x ∧ x.block = k := ⟨_, rfl⟩
                      have HY : Hid ((∀ k, Y k → ¬ O6 k) ∧ (∀ k, Y k → w.heap.size < k) ∧ ¬ Y w12.heap.size ∧ (∀ k, Y k → k < w13.heap.size) ∧ Wri Y w13 a12 n 1) := hid (by
                        subst eY
                        refine ⟨?_, ?_, ?_, ?_, ?_⟩
                        · rintro k ⟨x, hx, rfl⟩ hq
                          have := (H13.out.2.1.far x hx).1; have := HB11.out.tr.lt _ hq; omega
                        · rintro k ⟨x, hx, rfl⟩
                          have := (H13.out.2.1.far x hx).1; have := lt_of_blk HB11.out.fst; omega
                        · rintro ⟨x, hx, he⟩
                          have := H12.out.2.2.2 x hx; omega
                        · rintro k ⟨x, hx, rfl⟩
                          exact (H13.out.2.1.far x hx).2.lt
                        · have := H13.out.2.1.wri
                          rw [HI.out.2.1] at this
                          exact this)
                      clear eY
                      go_loopw [16] (fun i wr => ∃ j : Nat, j ≤ n ∧ i = .int .i64 (j : Int) ∧ Spo Y w13 wr)
                        (fun i _ => ((n : Int) - intOf i).toNat)
                      case atStart => exact ⟨0, by omega, rfl, Spo.refl _ _⟩
                      case round =>
                        obtain ⟨t, ht, rfl, hSt⟩ := hrel
                        have z1 : wr.cell? ⟨w12.heap.size, 1, none⟩ = some (.slice a12 n c12) := (spo_cell hSt (lt_of_blk H13.out.2.2) HY.out.2.2.1).trans H13.out.2.2.cells.2
                        have HSt := hid hSt
                        clear hSt
                        by_cases htn : t = n
                        · have ht1 : ¬ ((t : Int) < (n : Int)) := by omega
                          have HB14 := hid (H13.out.1.spo HSt.out HY.out.1 HY.out.2.1)
                          clear ht htn
                          rename World => w14
                          by_cases hE0 : E = 0
                          · have hEb : (E != 0) = false := by simp [hE0]
                            have HLs := hid (HE.out.1 hE0)
                            clear hE0
                            go_wp2_with (first
                              | (go_at_call 24; refine (HAt.out _ HB14.out).mono ?_; rintro r w15 ⟨a15, c15, rfl, hN15, hb15⟩; have hA15 := (Below.refl w15.heap.size w15).alloc (Nat.le_refl _) (.cells #[.int .i64 0, .slice a15 n c15] 24); have H15 : Hid (Base w O6 (.pointer (some ⟨gt, 0, none⟩)) l L (.slice a n cap) (w15.alloc (.cells #[.int .i64 0, .slice a15 n c15] 24)) ∧ IntsIn (w15.alloc (.cells #[.int .i64 0, .slice a15 n c15] 24)) a15 l) := hid ⟨(HB14.out.keep hb15).keep hA15, (hN15.keep hA15).ints⟩; clear hN15 hb15 hA15; have z0 := H15.out.1.fst.cells.1; have z1 := H15.out.1.fst.cells.2)
                              | (go_at_call 20; refine (vsame_eq 0 a15 a n c15 cap l HI.out.2.1 HI.out.2.2.1 _ H15.out.2 (HI.out.1.keep H15.out.1.bel (Nat.le_refl _))).mono ?_; rintro r w16 ⟨rfl, hb16⟩; have H16 := hid (H15.out.1.keep hb16); clear hb16)
                              | (go_at_call 17; refine (lchainO_any O6 _ l L (by omega) (fun k hk => HGd.out.small k hk) _ H16.out.tr).mono ?_; rintro r w17 ⟨v17, F17, rfl, ho17, _, hb17⟩
                                 have H17 := hid (And.intro (H16.out.keep hb17) ho17)
                                 clear ho17 hb17
                                 obtain ⟨a17, c17, hv17⟩ := H17.out.2.form
                                 rw [dLks_len] at hv17
                                 subst hv17)
                              | (go_at_call 19; refine (wsames_eq _ _ _ _ ls HC.out.2.2.2 HC.out.2.1 _ (by have := H17.out.2.reads; rw [HLs.out] at this ⊢; exact this) (HC.out.1.under H17.out.1.bel (Nat.le_refl _))).mono ?_; rintro r w18 ⟨rfl, hb18⟩
                                 have H18 := hid (H17.out.1.keep hb18)
                                 clear hb18))
                            go_ret
                            exact ⟨rfl, H18.out.bel⟩
                          · have hEb : (E != 0) = true := by simpa using hE0
                            have HLs := hid (HE.out.2.1 hE0)
                            clear hE0
                            have hLz : (L.length : Int) = 0 := by rw [HLs.out]; rfl
                            have HLz := hid hLz
                            clear hLz
                            go_wp2_with (first
                              | (go_at_call 24; refine (HAt.out _ HB14.out).mono ?_; rintro r w15 ⟨a15, c15, rfl, hN15, hb15⟩; have hA15 := (Below.refl w15.heap.size w15).alloc (Nat.le_refl _) (.cells #[.int .i64 0, .slice a15 n c15] 24); have H15 : Hid (Base w O6 (.pointer (some ⟨gt, 0, none⟩)) l L (.slice a n cap) (w15.alloc (.cells #[.int .i64 0, .slice a15 n c15] 24)) ∧ IntsIn (w15.alloc (.cells #[.int .i64 0, .slice a15 n c15] 24)) a15 l) := hid ⟨(HB14.out.keep hb15).keep hA15, (hN15.keep hA15).ints⟩; clear hN15 hb15 hA15; have z0 := H15.out.1.fst.cells.1; have z1 := H15.out.1.fst.cells.2)
                              | (go_at_call 20; refine (vsame_eq 0 a15 a n c15 cap l HI.out.2.1 HI.out.2.2.1 _ H15.out.2 (HI.out.1.keep H15.out.1.bel (Nat.le_refl _))).mono ?_; rintro r w16 ⟨rfl, hb16⟩; have H16 := hid (H15.out.1.keep hb16); clear hb16)
                              | (go_at_call 18; have hep := lepoch_any O6 (.pointer (some ⟨gt, 0, none⟩)) l L (by omega) _ H16.out.tr; rw [HLz.out] at hep; refine hep.mono ?_; rintro r w17 ⟨rfl, hb17⟩
                                 have H17 := hid (H16.out.keep hb17)
                                 clear hb17 hep))
                            go_ret
                            exact ⟨rfl, H17.out.bel⟩
                        · have ht1 : (t : Int) < (n : Int) := by omega
                          have ht0 : (0 : Int) ≤ (t : Int) := Int.natCast_nonneg _
                          obtain ⟨g, off, u0, ha, hg, x0, f0⟩ := (HY.out.2.2.2.2.keep HSt.out).at t (by omega) 0 (by decide)
                          rw [Nat.add_zero, Nat.mul_one] at x0
                          rw [ha] at z1
                          have f1 := f0 (off + t)
                          have HG := hid hg
                          have HJ := hid (And.intro ht htn)
                          clear hg f0 ht htn
                          go_wp2
                          go_roundw
                          case rel => exact ⟨t + 1, by have := HJ.out; omega, rfl, HSt.out.set HG.out _ _⟩
                          case measure => have := HJ.out; simp [intOf]; omega
                    · have hs1 : (s : Int) < (L.length : Int) := by omega
                      have hs0 : (0 : Int) ≤ (s : Int) := Int.natCast_nonneg _
                      obtain ⟨k, hk⟩ : ∃ k, L[s]? = some k := ⟨_, List.getElem?_eq_getElem (by omega)⟩
                      obtain ⟨g, cp, a1, c1, a2, c2, hv, hob, hg, x0, x1, x2, hw1, hw2⟩ := H10.out.2.1.link (fun q hq => (H10.out.2.2 q hq).2) s k hk
                      cases hv
                      have hz := H10.out.2.1.sep g hob
                      have y0 := (spo_cell (o := s * 3) HSs.out hg hz).trans x0
                      have y1 := (spo_cell (o := s * 3 + 1) HSs.out hg hz).trans x1
                      have y2 := (spo_cell (o := s * 3 + 2) HSs.out hg hz).trans x2
                      have hsm := HGd.out.small k (List.mem_of_getElem? hk)
                      have HSl := hid (jspoil_any F10 k.1 a1 _ c1 a2 _ c2 (by have := hsm.1; unfold maxLen; omega) (by have := hsm.2; unfold maxLen; omega) wr (fun q hq => Nat.lt_of_lt_of_le (HZ10.out.2.2 q hq) HSs.out.out.size) (hw1.keep HSs.out) (hw2.keep HSs.out))
                      have HJ := hid (And.intro hs hsn)
                      clear x0 x1 x2 hw1 hw2 hk hz hob hg hsm hs hsn
                      go_wp2_with (go_at_call 23; refine HSl.out.mono ?_; rintro r w5 ⟨rfl, hs5⟩; have H5 := hid (HSs.out.trans hs5); clear hs5)
                      go_roundw
                      case rel => exact ⟨s + 1, by have := HJ.out; omega, rfl, H5.out⟩
                      case measure => have := HJ.out; simp [intOf]; omega
                · have hq1 : (q : Int) < (ls.length : Int) := by omega
                  have hq0 : (0 : Int) ≤ (q : Int) := Int.natCast_nonneg _
                  obtain ⟨k, hk⟩ : ∃ k, ls[q]? = some k := ⟨_, List.getElem?_eq_getElem (by omega)⟩
                  obtain ⟨g, cp, a1, c1, a2, c2, hv, hob, hg, x0, x1, x2, hw1, hw2⟩ := H8.out.2.1.link H8.out.2.2.2 q k hk
                  cases hv
                  have hz := HZ.out.2.2.2.1 g hob
                  have y0 := (spo_cell (o := q * 3) HSq.out hg hz).trans x0
                  have y1 := (spo_cell (o := q * 3 + 1) HSq.out hg hz).trans x1
                  have y2 := (spo_cell (o := q * 3 + 2) HSq.out hg hz).trans x2
                  have hsm := HC.out.2.1 k (List.mem_of_getElem? hk)
                  have HSl := hid (jspoil_any Z k.1 a1 _ c1 a2 _ c2 hsm.1 hsm.2 wr (fun r hr => Nat.lt_of_lt_of_le (HZ.out.2.2.2.2.1 r hr) HSq.out.out.size) ((hw1.mono HZ.out.2.2.2.2.2.2).keep HSq.out) ((hw2.mono HZ.out.2.2.2.2.2.2).keep HSq.out))
                  have HJ := hid (And.intro hq hqn)
                  clear x0 x1 x2 hw1 hw2 hk hz hob hg hsm hq hqn
                  go_wp2_with (go_at_call 23; refine HSl.out.mono ?_; rintro r w5 ⟨rfl, hs5⟩; have H5 := hid (HSq.out.trans hs5); clear hs5)
                  go_roundw
                  case rel => exact ⟨q + 1, by have := HJ.out; omega, rfl, H5.out⟩
                  case measure => have := HJ.out; simp [intOf]; omega
            · have hp1 : (p : Int) < (n : Int) := by omega
              have hp0 : (0 : Int) ≤ (p : Int) := Int.natCast_nonneg _
              obtain ⟨g, off, u0, ha, hg, x0, f0⟩ := (HZ.out.2.2.2.2.2.1.keep HSp.out).at p (by omega) 0 (by decide)
              rw [Nat.add_zero, Nat.mul_one] at x0
              rw [ha] at z1
              have f1 := f0 (off + p)
              have HG := hid hg
              have HJ := hid (And.intro hp hpn)
              clear hg f0 hp hpn
              go_wp2
              go_roundw
              case rel => exact ⟨p + 1, by have := HJ.out; omega, rfl, HSp.out.set HG.out _ _⟩
              case measure => have := HJ.out; simp [intOf]; omega
        · have hj1 : (j : Int) < (ls.length : Int) := by omega
          have hj0 : (0 : Int) ≤ (j : Int) := Int.natCast_nonneg _
          obtain ⟨k, hk⟩ : ∃ k, ls[j]? = some k := ⟨_, List.getElem?_eq_getElem (by omega)⟩
          obtain ⟨g, off, _, a1, c1, a2, c2, hv, hg, k0, k1, k2, hi1, hp1⟩ := lks_at HC.out.1 j k hk
          cases hv
          have hbr := HB4.out.bel.trans (hM.bel.mono HB4.out.bel.size)
          have x0 := (hbr.cell (p := ⟨g, _, none⟩) hg).trans k0
          have x1 := (hbr.cell (p := ⟨g, _, none⟩) hg).trans k1
          have x2 := (hbr.cell (p := ⟨g, _, none⟩) hg).trans k2
          obtain ⟨a8, c8, hv8⟩ := hM.own.form
          rw [dLks_len] at hv8
          have hlt : (ls.take j).length = j := by rw [List.length_take]; omega
          rw [hlt] at hv8
          subst hv8
          have HM := hid hM
          have HIk := hid (And.intro (hi1.keep hbr (Nat.le_refl _)) (hp1.keep hbr (Nat.le_refl _)))
          have HB := hid (HC.out.2.2.1.2 k (List.mem_of_getElem? hk))
          have HJ := hid (And.intro hj (And.intro hjn (And.intro hlt (by
            obtain ⟨h1, h2⟩ := List.getElem?_eq_some_iff.1 hk
            rw [List.take_succ_eq_append_getElem h1, h2] : ls.take (j + 1) = ls.take j ++ [k]))))
          clear k0 k1 k2 hi1 hp1 hbr hM hk hg hj hjn hlt
          go_wp2_with (first
            | (go_at_call 22; refine (wcopiedN_any k.1 a1 _ c1 k.2.1 rfl (by have := HB.out.1; omega) a2 _ c2 k.2.2 rfl (by have := HB.out.2; omega) _ HIk.out.1 HIk.out.2).mono ?_; rintro r w5 ⟨b1, d1, b2, d2, rfl, hN1, hN2, hb5⟩
               have hA6 := (Below.refl w5.heap.size w5).alloc (Nat.le_refl _) (.cells #[.int .i64 k.1, .slice b1 k.2.1.length d1, .slice b2 k.2.2.length d2] 27)
               have H6 : Hid (MnSt w4.heap.size w4 (w5.alloc (.cells #[.int .i64 k.1, .slice b1 k.2.1.length d1, .slice b2 k.2.2.length d2] 27)) F (.slice a8 j c8) (ls.take j) ∧ LnAt (w5.alloc (.cells #[.int .i64 k.1, .slice b1 k.2.1.length d1, .slice b2 k.2.2.length d2] 27)) w5.heap.size k.1 (.slice b1 k.2.1.length d1) (.slice b2 k.2.2.length d2) ∧ NewI wr.heap.size (w5.alloc (.cells #[.int .i64 k.1, .slice b1 k.2.1.length d1, .slice b2 k.2.2.length d2] 27)) b1 k.2.1 ∧ NewT wr.heap.size (w5.alloc (.cells #[.int .i64 k.1, .slice b1 k.2.1.length d1, .slice b2 k.2.2.length d2] 27)) b2 k.2.2 ∧ wr.heap.size ≤ w5.heap.size) := hid ⟨(HM.out.keep hb5).keep hA6, heap_alloc_last w5 _, hN1.keep hA6, hN2.keep hA6, hb5.size⟩
               have HF : Hid ((∀ q, (F q ∨ twoF b1 b2 q) → w4.heap.size ≤ q ∧ Free (w5.alloc (.cells #[.int .i64 k.1, .slice b1 k.2.1.length d1, .slice b2 k.2.2.length d2] 27)) q) ∧ ∀ q, (Value.slice a8 j c8).ownBlock = some q → ¬ (F q ∨ twoF b1 b2 q)) := hid (by
                 have hle := HM.out.le
                 refine ⟨?_, ?_⟩
                 · rintro q (hq | ⟨x, hx, rfl⟩ | ⟨x, hx, rfl⟩)
                   · exact H6.out.1.far q hq
                   · exact ⟨Nat.le_trans hle (H6.out.2.2.1.far x hx).1, (H6.out.2.2.1.far x hx).2⟩
                   · exact ⟨Nat.le_trans hle (H6.out.2.2.2.1.far x hx).1, (H6.out.2.2.2.1.far x hx).2⟩
                 · rintro q hq (h1 | ⟨x, hx, rfl⟩ | ⟨x, hx, rfl⟩)
                   · exact HM.out.own.sep q hq h1
                   · have := (HM.out.own.lt _ hq).2; have := (H6.out.2.2.1.far x hx).1; omega
                   · have := (HM.out.own.lt _ hq).2; have := (H6.out.2.2.2.1.far x hx).1; omega)
               clear hN1 hN2 hb5 hA6)
            | (at_builtin; refine wl_add_link rfl _ _ rfl w4.heap.size F (fun q => F q ∨ twoF b1 b2 q) (.slice a8 j c8) (ls.take j) (by rfl) H6.out.1.own H6.out.1.le w5.heap.size (by rfl) k (.slice b1 k.2.1.length d1) (.slice b2 k.2.2.length d2) H6.out.2.1.cells.1 H6.out.2.1.cells.2.1 H6.out.2.1.cells.2.2 rfl rfl (ints_reads H6.out.2.2.1.ints (fun x hx _ => .inr (.inl ⟨x, hx, rfl⟩))) (pairs_reads H6.out.2.2.2.1.pairs (fun x hx _ => .inr (.inr ⟨x, hx, rfl⟩))) (fun q _ hq => .inl hq) HF.out.2 (fun q hq => (HF.out.1 q hq).2.lt) (by have := HC.out.2.2.1.1; have := HJ.out; omega) ?_
               intro v7 w7 H7
               obtain ⟨a7, c7, hv7⟩ := H7.out.1.form
               subst hv7))
          go_roundw
          case rel => exact ⟨j + 1, fun q => F q ∨ twoF b1 b2 q, by have := HJ.out; omega, rfl, by rw [HJ.out.2.2.2]; exact H6.out.1.grown H7.out.1 H7.out.2.1 HF.out.1 HF.out.2⟩
          case measure => have := HJ.out; simp [intOf]; omega
    · have HR := hid hr
      clear hr
      go_wp2_with (go_at_call 12; refine (lnew_any ep a5 n c5 l HI.out.2.1 HI.out.2.2.1 _ HA.out.new.ints).mono ?_; rintro r w4 ⟨hb4, _, h4⟩; have h4r := h4 HR.out; subst h4r
                   have H4 := hid (HA.out.bel.trans (hb4.mono HA.out.bel.size))
                   clear hb4 h4)
      go_ret
      exact ⟨rfl, H4.out⟩
end Go.Proofs.Ytpholamobedkhaa
