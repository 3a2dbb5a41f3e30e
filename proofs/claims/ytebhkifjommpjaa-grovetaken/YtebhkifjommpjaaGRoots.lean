/- GroveRoots: the walk. -/
import Derived.Test.YtebhkifjommpjaaGrJ
import Derived.OrdersHeld
namespace Go.Proofs.Ytebhkifjommpjaa
open Go.RowKit

/-- A plant in block b. -/
def PlAt (w : World) (b : Nat) (s : ByteArray) (h : Int) : Prop := w.heap[b]? = some (.cells #[.string s, .int .i64 h] 23 (0, 0))
theorem PlAt.lt {w : World} {b : Nat} {s : ByteArray} {h : Int} (hS : PlAt w b s h) : b < w.heap.size := lt_of_blk hS
theorem PlAt.keep {w w' : World} {b : Nat} {s : ByteArray} {h : Int} (hS : PlAt w b s h) (hb : Below w.heap.size w w') : PlAt w' b s h := (hb.block b hS.lt).trans hS
theorem PlAt.but {w w' : World} {b c : Nat} {s : ByteArray} {h : Int} (hS : PlAt w b s h) (hb : But c w w') (hne : b ≠ c) : PlAt w' b s h := (hb.block b hS.lt hne).trans hS
theorem PlAt.c0 {w : World} {b : Nat} {s : ByteArray} {h : Int} (hS : PlAt w b s h) : w.cell? ⟨b, 0, none⟩ = some (.string s) := cell_at (L := [.string s, .int .i64 h]) hS 0 _ rfl
theorem PlAt.c1 {w : World} {b : Nat} {s : ByteArray} {h : Int} (hS : PlAt w b s h) : w.cell? ⟨b, 1, none⟩ = some (.int .i64 h) := cell_at (L := [.string s, .int .i64 h]) hS 1 _ rfl
theorem PlAt.new (w : World) (s : ByteArray) (h : Int) : PlAt (w.alloc (.cells #[.string s, .int .i64 h] 23)) w.heap.size s h := heap_alloc_last w _
theorem right_at (h r : Int) (hr : rightE h = r) (w : World) : Calls Try.prog 13 #[.int .i64 h] w fun e w' => e = .returned (.int .i64 r) ∧ w' = w := by
  rw [← hr]
  exact hright_any h w
set_option maxRecDepth 100000 in
set_option maxHeartbeats 3200000 in
theorem groveRoots_walk (s : ByteArray) (h : Int) (w : World) :
    Calls Try.prog 3 #[.agg #[.string s, .int .i64 h]] w fun e w' => e = .returned (.bool true) ∧ Below w.heap.size w w' := by
  by_cases hl : s.size ≤ 4096
  · have HS := hid (decide_eq_true hl)
    by_cases hh : 0 ≤ h ∧ h ≤ 5
    · obtain ⟨k, rfl⟩ : ∃ k : Nat, h = (k : Int) := ⟨h.toNat, by omega⟩
      have hk : k ≤ 5 := by omega
      have HE := hid (rightE_yes hh.1 hh.2)
      obtain ⟨T, eT⟩ : ∃ T, T = rootS s k := ⟨_, rfl⟩
      have HG : Hid (∀ u : World, Calls Try.prog 11 #[.string s, .int .i64 (k : Int)] u fun e w' => e = .returned (.tuple #[.string T, .int .i64 0]) ∧ Below u.heap.size u w') := hid (fun u => by rw [eT]; exact groot_yes s (by omega) k hk u)
      have HN := hid (gnew_yes s k hk)
      have HLv : Hid (∀ u : World, Calls Try.prog 15 #[.string s, .int .i64 (k : Int)] u fun e w' => ∃ v, e = .returned v ∧ OwnedS u.heap.size u w' v (leafL s k)) := hid (fun u => hleaves_le s (by omega) k hk u)
      have HRt : Hid (∀ (u : World) (a : Option Addr) (cap : Nat), StrsIn u a (leafL s k) → Calls Try.prog 14 #[.slice a (leafL s k).length cap, .int .i64 (k : Int)] u fun e w' => e = .returned (.string T) ∧ Below u.heap.size u w') := hid (fun u a cap hS => by rw [eT]; exact hroot_le a cap s k hk _ (leafL_len s k) u hS)
      have HR : Hid (∀ (u : World) (b : Nat), SgAt u b s k 0 → Calls Try.prog 16 #[.pointer (some ⟨b, 0, none⟩)] u fun e w' => e = .returned (.string T) ∧ Below u.heap.size u w') := hid (fun u b hS => by rw [eT]; exact sroot_le b s (by omega) k 0 hk u hS)
      obtain ⟨L, eL⟩ : ∃ L, L = leafL s k := ⟨_, rfl⟩
      rw [← eL] at HLv HRt
      clear hl hh hk eT eL
      go_enter Try.func3, Try.ntmps3
      go_wp2_with (first
        | (go_at_call 9; refine (glives_any _).mono ?_; rintro e w1 ⟨rfl, hb1⟩; have H1 := hid (And.intro ((PlAt.new w s (k : Int)).keep hb1) (((Below.refl w.heap.size w).alloc (Nat.le_refl _) _).trans (hb1.mono (by simp)))); clear hb1; have c0 := H1.out.1.c0; have c1 := H1.out.1.c1)
        | (go_at_call 10; refine (gshort_any _ _ (by exact HS.out) _).mono ?_; rintro e wx ⟨rfl, rfl⟩)
        | (go_at_call 11; refine (HG.out _).mono ?_; rintro e w2 ⟨rfl, hb2⟩; have H2 := hid (And.intro (H1.out.1.keep hb2) (H1.out.2.trans (hb2.mono H1.out.2.size))); clear hb2; have c20 := H2.out.1.c0; have c21 := H2.out.1.c1)
        | (go_at_call 12; refine (HN.out _).mono ?_; rintro e w3 ⟨rfl, hs3, hb3⟩; have H3 := hid (And.intro (H2.out.1.keep hb3) (And.intro (H2.out.2.trans (hb3.mono H2.out.2.size)) hs3)); clear hb3 hs3; have c30 := H3.out.1.c0; have c31 := H3.out.1.c1)
        | (go_at_call 13; refine (right_at _ _ (by exact HE.out) _).mono ?_; rintro e wx ⟨rfl, rfl⟩))
      rename World => w3
      have HD0 : Hid (∀ v : World, Below w3.heap.size w3 v → v.cell? ⟨w.heap.size, 0, none⟩ = some (.string s)) := hid (fun v hv => (H3.out.1.keep hv).c0)
      have HD1 : Hid (∀ v : World, Below w3.heap.size w3 v → v.cell? ⟨w.heap.size, 1, none⟩ = some (.int .i64 (k : Int))) := hid (fun v hv => (H3.out.1.keep hv).c1)
      have HSW := hid (show Below w3.heap.size w3 w3.drew from (Below.refl _ _).drew)
      refine wp_region_held (S := fun v => Below w3.heap.size w3 v) (by kernel_rfl) ?_
      try (change wpAnyH _ _ _ _ _ _ _ _ (World.drew _))
      refine wpAnyH_take (i := 0) (v := ?v1) rfl (by kernel_rfl) (by kernel_rfl) (by kernel_rfl) (fun _ _ _ h => h) (Or.inl ⟨by rfl, ?hy1⟩) HSW.out ?rest1
      case hy1 => (intro ww _; go_simp; try with_reducible rfl)
      go_simp
      refine wpAnyH_take (i := 1) (v := ?v2) rfl (by kernel_rfl) (by kernel_rfl) (by kernel_rfl) (fun _ _ _ h => h) (Or.inl ⟨by rfl, ?hy2⟩) HSW.out ?rest2
      case hy2 => (intro ww hS; have z0 := HD0.out ww hS; go_simp; try with_reducible rfl)
      go_simp
      refine wpAnyH_take (i := 2) (v := ?v3) rfl (by kernel_rfl) (by kernel_rfl) (by kernel_rfl) (fun _ _ _ h => h) (Or.inl ⟨by rfl, ?hy3⟩) HSW.out ?rest3
      case hy3 => (intro ww _; go_simp; try with_reducible rfl)
      go_simp
      refine wpAnyH_take (i := 3) (v := ?v4) rfl (by kernel_rfl) (by kernel_rfl) (by kernel_rfl) (fun _ _ _ h => h) (Or.inl ⟨by rfl, ?hy4⟩) HSW.out ?rest4
      case hy4 => (intro ww hS; have z0 := HD1.out ww hS; go_simp; try with_reducible rfl)
      go_simp
      refine wpAnyH_take (i := 5) (v := ?v5) rfl (by kernel_rfl) (by kernel_rfl) (by kernel_rfl) (fun _ _ _ h => h) (Or.inl ⟨by rfl, ?hy5⟩) HSW.out ?rest5
      case hy5 => (intro ww _; go_simp; try with_reducible rfl)
      go_simp
      refine wpAnyH_take (i := 6) (v := ?v6) rfl (by kernel_rfl) (by kernel_rfl) (by kernel_rfl) (fun _ _ _ h => h) (Or.inl ⟨by rfl, ?hy6⟩) HSW.out ?rest6
      case hy6 => (intro ww hS; have z0 := HD1.out ww hS; go_simp; try with_reducible rfl)
      go_simp
      refine wpAnyH_all (rs := [4]) (by kernel_rfl) (by simp) ?_
      intro i hi
      obtain rfl := List.mem_singleton.1 hi
      clear hi
      refine wpOp_k rfl rfl (fun K hK => ?_)
      go_simp
      refine Calls.mono (HLv.out _) ?_
      rintro e w4 ⟨v4, rfl, ho4⟩
      obtain ⟨a4, cap4, rfl, hs4⟩ := ho4.strs
      have H4 := hid (show Below w3.heap.size w3 w4 from HSW.out.trans (ho4.bel.mono (Nat.le_refl _)))
      have HS4 := hid hs4
      clear ho4 hs4
      refine hK _ _ ⟨H4.out, ?_⟩
      clear hK K
      go_simp
      refine wpAnyH_all (rs := [7]) (by kernel_rfl) (by simp) ?_
      intro i hi
      obtain rfl := List.mem_singleton.1 hi
      clear hi
      refine wpOp_k rfl rfl (fun K hK => ?_)
      go_simp
      refine Calls.mono (HRt.out _ _ _ HS4.out) ?_
      rintro e w5 ⟨rfl, hb5⟩
      have H5 := hid (show Below w3.heap.size w3 w5 from H4.out.trans (hb5.mono H4.out.size))
      clear hb5
      refine hK _ _ ⟨H5.out, ?_⟩
      clear hK K
      go_simp
      refine wpAnyH_take (i := 8) (v := ?v7) rfl (by kernel_rfl) (by kernel_rfl) (by kernel_rfl) (fun _ _ _ h => h) (Or.inl ⟨by rfl, ?hy7⟩) H5.out ?rest7
      case hy7 => (intro ww _; go_simp; try with_reducible rfl)
      go_simp
      refine wpAnyH_done (by kernel_rfl) ?_ _
      go_simp
      go_wp2_with (go_at_call 16; refine (HR.out _ _ (by exact H3.out.2.2.keep H5.out)).mono ?_; rintro e w6 ⟨rfl, hb6⟩; have H6 := hid (H5.out.trans (hb6.mono H5.out.size)); clear hb6)
      go_ret
      exact ⟨rfl, H3.out.2.1.trans (H6.out.mono H3.out.2.1.size)⟩
    · have HB := hid (rightB_no hh)
      have HE := hid (rightE_no hh)
      clear hl hh
      go_enter Try.func3, Try.ntmps3
      go_wp2_with (first
        | (go_at_call 9; refine (glives_any _).mono ?_; rintro e w1 ⟨rfl, hb1⟩; have H1 := hid (And.intro ((PlAt.new w s h).keep hb1) (((Below.refl w.heap.size w).alloc (Nat.le_refl _) _).trans (hb1.mono (by simp)))); clear hb1; have c0 := H1.out.1.c0; have c1 := H1.out.1.c1)
        | (go_at_call 10; refine (gshort_any _ _ (by exact HS.out) _).mono ?_; rintro e wx ⟨rfl, rfl⟩)
        | (go_at_call 11; refine (groot_no _ _ (by exact HB.out) _).mono ?_; rintro e wx ⟨rfl, rfl⟩)
        | (go_at_call 12; refine (gnew_no _ _ (by exact HB.out) _).mono ?_; rintro e wx ⟨rfl, rfl⟩)
        | (go_at_call 13; refine (right_at _ _ (by exact HE.out) _).mono ?_; rintro e wx ⟨rfl, rfl⟩))
      go_ret
      exact ⟨rfl, H1.out.2⟩
  · have HS := hid (decide_eq_false hl)
    clear hl
    go_enter Try.func3, Try.ntmps3
    go_wp2_with (first
      | (go_at_call 9; have := H1; refine (glives_any _).mono ?_; rintro e w2 ⟨rfl, hb2⟩; have H2 := hid (H1.out.2.trans (hb2.mono H1.out.2.size)); clear hb2)
      | (go_at_call 9; refine (glives_any _).mono ?_; rintro e w1 ⟨rfl, hb1⟩; have H1 := hid (And.intro ((PlAt.new w s h).keep hb1) (((Below.refl w.heap.size w).alloc (Nat.le_refl _) _).trans (hb1.mono (by simp)))); clear hb1; have c0 := H1.out.1.c0)
      | (go_at_call 10; refine (gshort_any _ _ (by exact HS.out) _).mono ?_; rintro e wx ⟨rfl, rfl⟩))
    go_ret
    exact ⟨rfl, H2.out⟩
end Go.Proofs.Ytebhkifjommpjaa
