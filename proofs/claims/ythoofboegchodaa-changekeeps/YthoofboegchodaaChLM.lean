/- The laws' beginning: one of three has a certificate of the third slot. -/
import Derived.Test.YthoofboegchodaaChLbM
import Derived.Deep.DeepCutAuto
namespace Go.Proofs.Ythoofboegchodaa
open Go.RowKit

theorem sig0_any (a : Int) (u : World) : Calls Try.prog 25 #[.int .i64 0, .agg #[.int .i64 a, .int .i64 1, .slice none 0 0, .int .i64 0, .string ⟨#[]⟩]] u fun e w' => e = .returned (.agg #[.int .i64 a, .int .i64 1, .slice none 0 0, .int .i64 a, .string (chT 0 (a, 1, [], sg0))]) ∧ Below u.heap.size u w' :=
  usigned_any (F := fun _ => True) 0 (a, 1, [], sg0) none 0 0 (Nat.zero_le _) (fun x hx => by cases hx) u (.nil none 0 9)
theorem lvY_R : ctR lvY := by
  refine ⟨⟨⟨by decide, by decide⟩, by decide, by decide⟩, ⟨⟨⟨by decide, by decide⟩, by decide, by decide⟩, ⟨⟨by decide, by decide⟩, by decide, by decide⟩, by decide, by decide⟩, by decide, ?_⟩
  intro p hp
  have hs : lvP.size ≤ maxLen := by decide
  rcases List.mem_cons.1 hp with rfl | hp
  · exact ⟨⟨by decide, by decide⟩, hs⟩
  rcases List.mem_cons.1 hp with rfl | hp
  · exact ⟨⟨by decide, by decide⟩, hs⟩
  rcases List.mem_cons.1 hp with rfl | hp
  · exact ⟨⟨by decide, by decide⟩, hs⟩
  · cases hp
theorem sig1_any (gy : Nat) (u : World) (h : Reads (fun _ => True) u (.slice (some ⟨gy, 0, none⟩) 1 1) (dCts lv1.2.2.1)) : Calls Try.prog 25 #[.int .i64 0, .agg #[.int .i64 1, .int .i64 1, .slice (some ⟨gy, 0, none⟩) 1 1, .int .i64 0, .string ⟨#[]⟩]] u fun e w' => e = .returned (.agg #[.int .i64 1, .int .i64 1, .slice (some ⟨gy, 0, none⟩) 1 1, .int .i64 1, .string (chT 0 lv1)]) ∧ Below u.heap.size u w' :=
  usigned_any (F := fun _ => True) 0 lv1 (some ⟨gy, 0, none⟩) 1 1 (by decide) (fun x hx => by rw [List.mem_singleton.1 hx]; exact lvY_R) u h
theorem chT_size (e : Int) (c : Cg) : (chT e c).size ≤ 65535 := by
  rw [chT]
  split
  · rename_i h
    rw [mk_size]
    exact (chE_ok h).2
  · decide
theorem lv_R (a : Int) (ys : List Ct) (ha : iR a) (hl : ys.length ≤ maxLen) (hy : ∀ y, y ∈ ys → ctR y) : cgR (sgnd 0 (a, 1, ys, sg0)) :=
  ⟨⟨ha, by show (-9223372036854775808 : Int) ≤ 1; decide, by show (1 : Int) ≤ 9223372036854775807; decide⟩, ⟨hl, hy⟩, ha, Nat.le_trans (chT_size _ _) (by decide)⟩
theorem lvL_R : ∀ x, x ∈ lvL → cgR x := by
  intro x hx
  rcases List.mem_cons.1 hx with rfl | hx
  · exact lv_R 0 [] ⟨by decide, by decide⟩ (Nat.zero_le _) (fun y hy => by cases hy)
  rcases List.mem_cons.1 hx with rfl | hx
  · exact lv_R 1 [lvY] ⟨by decide, by decide⟩ (by decide) (fun y hy => by rw [List.mem_singleton.1 hy]; exact lvY_R)
  rcases List.mem_cons.1 hx with rfl | hx
  · exact lv_R 3 [] ⟨by decide, by decide⟩ (Nat.zero_le _) (fun y hy => by cases hy)
  · cases hx
/-- The list of three. -/
structure LvA (w0 wx : World) (gl : Nat) : Prop where
  rd : Reads (fun k => k < wx.heap.size) wx (.slice (some ⟨gl, 0, none⟩) 3 3) (dCgs lvL)
  rq : RqAt wx w0.heap.size lvQ
  bel : Below w0.heap.size w0 wx
  row : ∃ gy, BxAt wx gl [.int .i64 0, .int .i64 1, .slice none 0 0, .int .i64 0, .string (chT 0 (0, 1, [], sg0)), .int .i64 1, .int .i64 1, .slice (some ⟨gy, 0, none⟩) 1 1, .int .i64 1, .string (chT 0 lv1), .int .i64 3, .int .i64 1, .slice none 0 0, .int .i64 3, .string (chT 0 (3, 1, [], sg0))] 26 ∧ Reads (fun _ => True) wx (.slice (some ⟨gy, 0, none⟩) 1 1) (dCts lv1.2.2.1)
theorem ints_three (w : World) : IntsIn (w.alloc (.cells #[.int .i64 0, .int .i64 1, .int .i64 3] 3)) (some ⟨w.heap.size, 0, none⟩) [0, 1, 3] := by
  refine .inr ⟨w.heap.size, 0, rfl, by simp, fun j z hz => ?_⟩
  rw [Nat.zero_add]
  refine cell_at (L := [.int .i64 0, .int .i64 1, .int .i64 3]) (heap_alloc_last w _) j _ ?_
  match j, hz with
  | 0, hz => cases hz; rfl
  | 1, hz => cases hz; rfl
  | 2, hz => cases hz; rfl
  | j + 3, hz => simp at hz
theorem sg_row (a b c : Cg) (va vb vc : Value) : [(sgnd 0 a, va), (sgnd 0 b, vb), (sgnd 0 c, vc)].flatMap cgF = [.int .i64 a.1, .int .i64 a.2.1, va, .int .i64 a.1, .string (chT 0 a), .int .i64 b.1, .int .i64 b.2.1, vb, .int .i64 b.1, .string (chT 0 b), .int .i64 c.1, .int .i64 c.2.1, vc, .int .i64 c.1, .string (chT 0 c)] := rfl
theorem lv_made {w u v : World} {gy : Nat} (hq : RqAt u w.heap.size lvQ) (hb : Below w.heap.size w u) (hr : Reads (fun _ => True) u (.slice (some ⟨gy, 0, none⟩) 1 1) (dCts lv1.2.2.1)) (hba : Below u.heap.size u v) (hx : v.heap[u.heap.size]? = some (.cells #[.int .i64 0, .int .i64 1, .slice none 0 0, .int .i64 0, .string (chT 0 (0, 1, [], sg0)), .int .i64 1, .int .i64 1, .slice (some ⟨gy, 0, none⟩) 1 1, .int .i64 1, .string (chT 0 lv1), .int .i64 3, .int .i64 1, .slice none 0 0, .int .i64 3, .string (chT 0 (3, 1, [], sg0))] 26 (0, 0))) : LvA w v u.heap.size := by
  have hr2 := hr.under hba (Nat.le_refl _)
  have h := reads_cgs (F := fun _ => True) (w := v) (g := u.heap.size) (cap := 3) (T := 26) [(sgnd 0 (0, 1, [], sg0), .slice none 0 0), (sgnd 0 lv1, .slice (some ⟨gy, 0, none⟩) 1 1), (sgnd 0 (3, 1, [], sg0), .slice none 0 0)] (by rw [sg_row]; exact hx) trivial (fun p hp => by
    rcases List.mem_cons.1 hp with rfl | hp
    · exact .nil none 0 9
    rcases List.mem_cons.1 hp with rfl | hp
    · exact hr2
    rcases List.mem_cons.1 hp with rfl | hp
    · exact .nil none 0 9
    · cases hp)
  exact ⟨h.mono (fun k hk _ => hk), hq.keep hba, hb.trans (hba.mono hb.size), gy, hx, hr2⟩
set_option maxRecDepth 100000 in
theorem lv_pick {F : Nat → Prop} (a : Option Addr) (c gl : Nat) (u : World) (hF : ∀ k, F k → k < u.heap.size) (hI : IntsIn u a lvM) (hR : Reads F u (.slice (some ⟨gl, 0, none⟩) 3 3) (dCgs lvL)) :
    Calls Try.prog 14 #[.agg #[.int .i64 0, .slice a 4 c], .int .i64 1, .slice (some ⟨gl, 0, none⟩) 3 3] u fun e w' => ∃ g2, e = .returned (.tuple #[.slice (some ⟨g2, 0, none⟩) 3 3, .int .i64 0]) ∧ BxAt w' g2 (rC [zeroQ, zeroQ, lvQ]) 49 ∧ Below u.heap.size u w' := by
  have h := zpick_yes 0 a 4 c lvM rfl (by decide) 1 (some ⟨gl, 0, none⟩) 3 3 lvL (by decide) lvL_R u hF hI hR lv_rf
  rw [lv_pk] at h
  exact h.mono (fun e w' ⟨g2, h1, h2, _, h4⟩ => ⟨g2, h1, h2, h4⟩)
set_option maxRecDepth 100000 in
theorem lv_right1 (a : Option Addr) (c gy : Nat) (u : World) (hI : IntsIn u a lvM) (hR : Reads (fun _ => True) u (.slice (some ⟨gy, 0, none⟩) 1 1) (dCts lv1.2.2.1)) :
    Calls Try.prog 12 #[.agg #[.int .i64 0, .slice a 4 c], .agg #[.int .i64 1, .int .i64 1, .slice (some ⟨gy, 0, none⟩) 1 1, .int .i64 1, .string (chT 0 lv1)]] u fun e w' => e = .returned (.int .i64 0) ∧ Below u.heap.size u w' := by
  have h := zright_any (F := fun _ => True) 0 a 4 c lvM rfl (by decide) (sgnd 0 lv1) (some ⟨gy, 0, none⟩) 1 1 (lv_R 1 [lvY] ⟨by decide, by decide⟩ (by decide) (fun y hy => by rw [List.mem_singleton.1 hy]; exact lvY_R)) u hI hR
  rw [lv_ri1] at h
  exact h
set_option maxRecDepth 100000 in
theorem lv_right2 (a : Option Addr) (c : Nat) (u : World) (hI : IntsIn u a lvM) :
    Calls Try.prog 12 #[.agg #[.int .i64 0, .slice a 4 c], .agg #[.int .i64 1, .int .i64 1, .slice none 0 0, .int .i64 0, .string ⟨#[]⟩]] u fun e w' => e = .returned (.int .i64 16) ∧ Below u.heap.size u w' := by
  have h := zright_any (F := fun _ => True) 0 a 4 c lvM rfl (by decide) (1, 1, [], sg0) none 0 0 ⟨⟨⟨by decide, by decide⟩, by decide, by decide⟩, ⟨Nat.zero_le _, fun x hx => by cases hx⟩, ⟨by decide, by decide⟩, by decide⟩ u hI (.nil none 0 9)
  rw [lv_un] at h
  exact h
set_option maxRecDepth 100000 in
set_option maxHeartbeats 1600000 in
theorem ulives_any (w : World) : Calls Try.prog 9 #[] w fun e w' => e = .returned (.bool true) ∧ Below w.heap.size w w' := by
  go_enter Try.func9, Try.ntmps9
  go_upto_region 2 with (refine wl_store_rq rfl _ _ rfl w.heap.size rfl zeroQ lvQ rfl (heap_alloc_last w _) ?_; intro w1 Hq; go_must (have H1 : Hid (RqAt w1 w.heap.size lvQ ∧ Below w.heap.size w w1) := hid ⟨Hq.out.1, Hq.out.2.below ((Below.refl w.heap.size w).alloc (Nat.le_refl _) _) (Nat.le_refl _)⟩); clear Hq)
  go_simp
  go_cut [2] (fun v2 wx => ∃ gl, v2 = .slice (some ⟨gl, 0, none⟩) 3 3 ∧ LvA w wx gl)
  case first =>
    have HS : Hid (RqAt w1.drew w.heap.size lvQ) := hid H1.out.1
    have HB1 : Hid (Below w.heap.size w w1.drew) := hid H1.out.2.drew
    refine wp_region_G (S := fun ww => RqAt ww w.heap.size lvQ) (ex := []) (by kernel_rfl) ?_
    try (change wpAnyG _ _ _ _ _ _ _ _ _ (World.drew _))
    refine wpAnyG_take (i := 0) (v := ?v1) rfl (by kernel_rfl) (fun _ _ _ h => h) (Or.inl ⟨by rfl, ?hy1⟩) HS.out ?rest1
    case hy1 => (intro ww _; go_simp; try with_reducible rfl)
    go_simp
    refine wpAnyG_take (i := 2) (v := ?v2) rfl (by kernel_rfl) (fun _ _ _ h => h) (Or.inl ⟨by rfl, ?hy2⟩) HS.out ?rest2
    case hy2 => (intro ww hS; obtain ⟨⟨y0, y1⟩, y2, y3, y4, y5⟩ := hS.cells; go_simp; try with_reducible rfl)
    go_simp
    refine wpAnyG_take (i := 8) (v := ?v3) rfl (by kernel_rfl) (fun _ _ _ h => h) (Or.inl ⟨by rfl, ?hy3⟩) HS.out ?rest3
    case hy3 => (intro ww _; go_simp; try with_reducible rfl)
    go_simp
    refine wpAnyG_all (rs := [1, 3]) (by kernel_rfl) (by simp) ?_
    intro i hi
    rcases List.mem_cons.1 hi with rfl | hi
    · clear hi
      refine wpOp_d rfl (by rfl) (fun K hK => ?_)
      go_simp
      refine (sig0_any 0 _).mono ?_
      rintro e u2 ⟨rfl, hb⟩
      have H2 : Hid (RqAt u2 w.heap.size lvQ ∧ Below w.heap.size w u2) := hid ⟨HS.out.keep hb, HB1.out.trans (hb.mono HB1.out.size)⟩
      clear hb
      go_simp
      refine hK _ _ ⟨fun _ => H2.out.1, ?_⟩
      clear hK K
      go_simp
      refine wpAnyG_all (rs := [3]) (by kernel_rfl) (by simp) ?_
      intro i hi
      obtain rfl := List.mem_singleton.1 hi
      clear hi
      refine wpOp_d rfl (by rfl) (fun K hK => ?_)
      go_simp
      obtain ⟨u3, eu3⟩ : ∃ u3, u3 = u2.alloc (.cells #[.int .i64 0, .int .i64 1, .int .i64 3] 3) := ⟨_, rfl⟩
      rw [← eu3]
      have hba : Below u2.heap.size u2 u3 := by rw [eu3]; exact (Below.refl _ _).alloc (Nat.le_refl _) _
      have H3 : Hid (RqAt u3 w.heap.size lvQ ∧ IntsIn u3 (some ⟨u2.heap.size, 0, none⟩) [0, 1, 3] ∧ Below w.heap.size w u3) := hid ⟨H2.out.1.keep hba, by rw [eu3]; exact ints_three u2, H2.out.2.trans (hba.mono H2.out.2.size)⟩
      clear hba eu3
      refine hK _ _ ⟨fun _ => H3.out.1, ?_⟩
      clear hK K
      go_simp
      refine wpAnyG_all (rs := [4]) (by kernel_rfl) (by simp) ?_
      intro i hi
      obtain rfl := List.mem_singleton.1 hi
      clear hi
      refine wpOp_d rfl (by rfl) (fun K hK => ?_)
      go_simp
      refine (ucert_any 0 0 3 lvQ (by decide) (some ⟨u2.heap.size, 0, none⟩) 3 3 [0, 1, 3] rfl (by decide) u3 H3.out.2.1).mono ?_
      rintro e u4 ⟨ad, cp, rfl, hp, hfar, hb⟩
      have H4 : Hid (RqAt u4 w.heap.size lvQ ∧ PairsIn u4 ad lvY.2.2.2 ∧ Below w.heap.size w u4) := hid ⟨H3.out.1.keep hb, hp, H3.out.2.2.trans (hb.mono H3.out.2.2.size)⟩
      clear hb hp hfar
      go_simp
      refine hK _ _ ⟨fun _ => H4.out.1, ?_⟩
      clear hK K
      go_simp
      refine wpAnyG_all (rs := [5]) (by kernel_rfl) (by simp) ?_
      intro i hi
      obtain rfl := List.mem_singleton.1 hi
      clear hi
      refine wpOp_d rfl (by rfl) (fun K hK => ?_)
      go_simp
      obtain ⟨u5, eu5⟩ : ∃ u5, u5 = u4.alloc (.cells #[.int .i64 0, .int .i64 3, .int .i64 lvQ.c, .int .i64 lvQ.st, .int .i64 lvQ.k, .string lvQ.key, .float .f64 lvQ.b, .int .i64 lvQ.id, .slice ad 3 cp] 52) := ⟨_, rfl⟩
      have hba : Below u4.heap.size u4 u5 := by rw [eu5]; exact (Below.refl _ _).alloc (Nat.le_refl _) _
      have H5 : Hid (RqAt u5 w.heap.size lvQ ∧ Reads (fun _ => True) u5 (.slice (some ⟨u4.heap.size, 0, none⟩) 1 1) (dCts lv1.2.2.1) ∧ Below w.heap.size w u5) := hid ⟨H4.out.1.keep hba, reads_cts (T := 52) [(lvY, .slice ad 3 cp)] (by rw [eu5]; exact heap_alloc_last u4 _) trivial (fun p hp => by
        rw [List.mem_singleton.1 hp]
        exact pairs_reads (H4.out.2.1.keep hba (Nat.le_refl _)) (fun _ _ _ => trivial)), H4.out.2.2.trans (hba.mono H4.out.2.2.size)⟩
      rw [← eu5]
      clear hba eu5
      refine hK _ _ ⟨fun _ => H5.out.1, ?_⟩
      clear hK K
      go_simp
      refine wpAnyG_take (i := 6) (v := ?v4) rfl (by kernel_rfl) (fun _ _ _ h => h) (Or.inl ⟨by rfl, ?hy4⟩) H5.out.1 ?rest4
      case hy4 => (intro ww _; go_simp; try with_reducible rfl)
      go_simp
      refine wpAnyG_all (rs := [7]) (by kernel_rfl) (by simp) ?_
      intro i hi
      obtain rfl := List.mem_singleton.1 hi
      clear hi
      refine wpOp_d rfl (by rfl) (fun K hK => ?_)
      go_simp
      refine (sig1_any _ u5 H5.out.2.1).mono ?_
      rintro e u6 ⟨rfl, hb⟩
      have H6 : Hid (RqAt u6 w.heap.size lvQ ∧ Reads (fun _ => True) u6 (.slice (some ⟨u4.heap.size, 0, none⟩) 1 1) (dCts lv1.2.2.1) ∧ Below w.heap.size w u6) := hid ⟨H5.out.1.keep hb, H5.out.2.1.under hb (Nat.le_refl _), H5.out.2.2.trans (hb.mono H5.out.2.2.size)⟩
      clear hb
      go_simp
      refine hK _ _ ⟨fun _ => H6.out.1, ?_⟩
      clear hK K
      go_simp
      refine wpAnyG_all (rs := [9]) (by kernel_rfl) (by simp) ?_
      intro i hi
      obtain rfl := List.mem_singleton.1 hi
      clear hi
      refine wpOp_d rfl (by rfl) (fun K hK => ?_)
      go_simp
      refine (sig0_any 3 _).mono ?_
      rintro e u7 ⟨rfl, hb⟩
      have H7 : Hid (RqAt u7 w.heap.size lvQ ∧ Reads (fun _ => True) u7 (.slice (some ⟨u4.heap.size, 0, none⟩) 1 1) (dCts lv1.2.2.1) ∧ Below w.heap.size w u7) := hid ⟨H6.out.1.keep hb, H6.out.2.1.under hb (Nat.le_refl _), H6.out.2.2.trans (hb.mono H6.out.2.2.size)⟩
      clear hb
      go_simp
      refine hK _ _ ⟨fun _ => H7.out.1, ?_⟩
      clear hK K
      go_simp
      refine wpAnyG_all (rs := [10]) (by kernel_rfl) (by simp) ?_
      intro i hi
      obtain rfl := List.mem_singleton.1 hi
      clear hi
      refine wpOp_d rfl (by rfl) (fun K hK => ?_)
      go_simp
      obtain ⟨u8, eu8⟩ : ∃ u8, u8 = u7.alloc (.cells #[.int .i64 0, .int .i64 1, .slice none 0 0, .int .i64 0, .string (chT 0 (0, 1, [], sg0)), .int .i64 1, .int .i64 1, .slice (some ⟨u4.heap.size, 0, none⟩) 1 1, .int .i64 1, .string (chT 0 lv1), .int .i64 3, .int .i64 1, .slice none 0 0, .int .i64 3, .string (chT 0 (3, 1, [], sg0))] 26) := ⟨_, rfl⟩
      have hba : Below u7.heap.size u7 u8 := by rw [eu8]; exact (Below.refl _ _).alloc (Nat.le_refl _) _
      have H8 : Hid (LvA w u8 u7.heap.size) := hid (lv_made H7.out.1 H7.out.2.2 H7.out.2.1 hba (by rw [eu8]; exact heap_alloc_last u7 _))
      rw [show u7.alloc (.cells #[.int .i64 0, .int .i64 1, .slice none 0 0, .int .i64 0, .string (chT 0 (0, 1, [], sg0)), .int .i64 1, .int .i64 1, .slice (some ⟨u4.heap.size, 0, none⟩) 1 1, .int .i64 1, .string (chT 0 lv1), .int .i64 3, .int .i64 1, .slice none 0 0, .int .i64 3, .string (chT 0 (3, 1, [], sg0))] 26) = u8 from eu8.symm]
      clear hba eu8
      refine hK _ _ ⟨fun _ => H8.out.rq, ?_⟩
      clear hK K
      go_simp
      refine wpAnyG_all (rs := [11]) (by kernel_rfl) (by simp) ?_
      intro i hi
      obtain rfl := List.mem_singleton.1 hi
      clear hi
      refine wpOp_d rfl (by rfl) (fun K hK => ?_)
      go_simp
      refine hK _ _ ⟨fun _ => H8.out.rq, ?_⟩
      clear hK K
      go_simp
      refine wpAnyG_done (by kernel_rfl) ?_ _
      go_simp
      go_wp2_with fail
      go_meet
      exact ⟨_, rfl, H8.out⟩
    · obtain rfl := List.mem_singleton.1 hi
      clear hi
      refine wpOp_d rfl (by rfl) (fun K hK => ?_)
      go_simp
      obtain ⟨u2, eu2⟩ : ∃ u2, u2 = (w1.alloc (.cells #[.int .i64 0, .int .i64 1, .int .i64 3] 3)).drew := ⟨_, rfl⟩
      rw [← eu2]
      have hba : Below w1.heap.size w1 u2 := by rw [eu2]; exact ((Below.refl _ _).alloc (Nat.le_refl _) _).drew
      have H2 : Hid (RqAt u2 w.heap.size lvQ ∧ IntsIn u2 (some ⟨w1.heap.size, 0, none⟩) [0, 1, 3] ∧ Below w.heap.size w u2) := hid ⟨H1.out.1.keep hba, by rw [eu2]; exact (ints_three w1).keep (Below.refl _ _).drew (Nat.le_refl _), H1.out.2.trans (hba.mono H1.out.2.size)⟩
      clear hba eu2
      refine hK _ _ ⟨fun _ => H2.out.1, ?_⟩
      clear hK K
      go_simp
      refine wpAnyG_all (rs := [1]) (by kernel_rfl) (by simp) ?_
      intro i hi
      obtain rfl := List.mem_singleton.1 hi
      clear hi
      refine wpOp_d rfl (by rfl) (fun K hK => ?_)
      go_simp
      refine (sig0_any 0 _).mono ?_
      rintro e u3 ⟨rfl, hb⟩
      have H3 : Hid (RqAt u3 w.heap.size lvQ ∧ IntsIn u3 (some ⟨w1.heap.size, 0, none⟩) [0, 1, 3] ∧ Below w.heap.size w u3) := hid ⟨H2.out.1.keep hb, H2.out.2.1.keep hb (Nat.le_refl _), H2.out.2.2.trans (hb.mono H2.out.2.2.size)⟩
      clear hb
      go_simp
      refine hK _ _ ⟨fun _ => H3.out.1, ?_⟩
      clear hK K
      go_simp
      refine wpAnyG_all (rs := [4]) (by kernel_rfl) (by simp) ?_
      intro i hi
      obtain rfl := List.mem_singleton.1 hi
      clear hi
      refine wpOp_d rfl (by rfl) (fun K hK => ?_)
      go_simp
      refine (ucert_any 0 0 3 lvQ (by decide) (some ⟨w1.heap.size, 0, none⟩) 3 3 [0, 1, 3] rfl (by decide) u3 H3.out.2.1).mono ?_
      rintro e u4 ⟨ad, cp, rfl, hp, hfar, hb⟩
      have H4 : Hid (RqAt u4 w.heap.size lvQ ∧ PairsIn u4 ad lvY.2.2.2 ∧ Below w.heap.size w u4) := hid ⟨H3.out.1.keep hb, hp, H3.out.2.2.trans (hb.mono H3.out.2.2.size)⟩
      clear hb hp hfar
      go_simp
      refine hK _ _ ⟨fun _ => H4.out.1, ?_⟩
      clear hK K
      go_simp
      refine wpAnyG_all (rs := [5]) (by kernel_rfl) (by simp) ?_
      intro i hi
      obtain rfl := List.mem_singleton.1 hi
      clear hi
      refine wpOp_d rfl (by rfl) (fun K hK => ?_)
      go_simp
      obtain ⟨u5, eu5⟩ : ∃ u5, u5 = u4.alloc (.cells #[.int .i64 0, .int .i64 3, .int .i64 lvQ.c, .int .i64 lvQ.st, .int .i64 lvQ.k, .string lvQ.key, .float .f64 lvQ.b, .int .i64 lvQ.id, .slice ad 3 cp] 52) := ⟨_, rfl⟩
      have hba : Below u4.heap.size u4 u5 := by rw [eu5]; exact (Below.refl _ _).alloc (Nat.le_refl _) _
      have H5 : Hid (RqAt u5 w.heap.size lvQ ∧ Reads (fun _ => True) u5 (.slice (some ⟨u4.heap.size, 0, none⟩) 1 1) (dCts lv1.2.2.1) ∧ Below w.heap.size w u5) := hid ⟨H4.out.1.keep hba, reads_cts (T := 52) [(lvY, .slice ad 3 cp)] (by rw [eu5]; exact heap_alloc_last u4 _) trivial (fun p hp => by
        rw [List.mem_singleton.1 hp]
        exact pairs_reads (H4.out.2.1.keep hba (Nat.le_refl _)) (fun _ _ _ => trivial)), H4.out.2.2.trans (hba.mono H4.out.2.2.size)⟩
      rw [← eu5]
      clear hba eu5
      refine hK _ _ ⟨fun _ => H5.out.1, ?_⟩
      clear hK K
      go_simp
      refine wpAnyG_take (i := 6) (v := ?v5) rfl (by kernel_rfl) (fun _ _ _ h => h) (Or.inl ⟨by rfl, ?hy5⟩) H5.out.1 ?rest5
      case hy5 => (intro ww _; go_simp; try with_reducible rfl)
      go_simp
      refine wpAnyG_all (rs := [7]) (by kernel_rfl) (by simp) ?_
      intro i hi
      obtain rfl := List.mem_singleton.1 hi
      clear hi
      refine wpOp_d rfl (by rfl) (fun K hK => ?_)
      go_simp
      refine (sig1_any _ u5 H5.out.2.1).mono ?_
      rintro e u6 ⟨rfl, hb⟩
      have H6 : Hid (RqAt u6 w.heap.size lvQ ∧ Reads (fun _ => True) u6 (.slice (some ⟨u4.heap.size, 0, none⟩) 1 1) (dCts lv1.2.2.1) ∧ Below w.heap.size w u6) := hid ⟨H5.out.1.keep hb, H5.out.2.1.under hb (Nat.le_refl _), H5.out.2.2.trans (hb.mono H5.out.2.2.size)⟩
      clear hb
      go_simp
      refine hK _ _ ⟨fun _ => H6.out.1, ?_⟩
      clear hK K
      go_simp
      refine wpAnyG_all (rs := [9]) (by kernel_rfl) (by simp) ?_
      intro i hi
      obtain rfl := List.mem_singleton.1 hi
      clear hi
      refine wpOp_d rfl (by rfl) (fun K hK => ?_)
      go_simp
      refine (sig0_any 3 _).mono ?_
      rintro e u7 ⟨rfl, hb⟩
      have H7 : Hid (RqAt u7 w.heap.size lvQ ∧ Reads (fun _ => True) u7 (.slice (some ⟨u4.heap.size, 0, none⟩) 1 1) (dCts lv1.2.2.1) ∧ Below w.heap.size w u7) := hid ⟨H6.out.1.keep hb, H6.out.2.1.under hb (Nat.le_refl _), H6.out.2.2.trans (hb.mono H6.out.2.2.size)⟩
      clear hb
      go_simp
      refine hK _ _ ⟨fun _ => H7.out.1, ?_⟩
      clear hK K
      go_simp
      refine wpAnyG_all (rs := [10]) (by kernel_rfl) (by simp) ?_
      intro i hi
      obtain rfl := List.mem_singleton.1 hi
      clear hi
      refine wpOp_d rfl (by rfl) (fun K hK => ?_)
      go_simp
      obtain ⟨u8, eu8⟩ : ∃ u8, u8 = u7.alloc (.cells #[.int .i64 0, .int .i64 1, .slice none 0 0, .int .i64 0, .string (chT 0 (0, 1, [], sg0)), .int .i64 1, .int .i64 1, .slice (some ⟨u4.heap.size, 0, none⟩) 1 1, .int .i64 1, .string (chT 0 lv1), .int .i64 3, .int .i64 1, .slice none 0 0, .int .i64 3, .string (chT 0 (3, 1, [], sg0))] 26) := ⟨_, rfl⟩
      have hba : Below u7.heap.size u7 u8 := by rw [eu8]; exact (Below.refl _ _).alloc (Nat.le_refl _) _
      have H8 : Hid (LvA w u8 u7.heap.size) := hid (lv_made H7.out.1 H7.out.2.2 H7.out.2.1 hba (by rw [eu8]; exact heap_alloc_last u7 _))
      rw [show u7.alloc (.cells #[.int .i64 0, .int .i64 1, .slice none 0 0, .int .i64 0, .string (chT 0 (0, 1, [], sg0)), .int .i64 1, .int .i64 1, .slice (some ⟨u4.heap.size, 0, none⟩) 1 1, .int .i64 1, .string (chT 0 lv1), .int .i64 3, .int .i64 1, .slice none 0 0, .int .i64 3, .string (chT 0 (3, 1, [], sg0))] 26) = u8 from eu8.symm]
      clear hba eu8
      refine hK _ _ ⟨fun _ => H8.out.rq, ?_⟩
      clear hK K
      go_simp
      refine wpAnyG_all (rs := [11]) (by kernel_rfl) (by simp) ?_
      intro i hi
      obtain rfl := List.mem_singleton.1 hi
      clear hi
      refine wpOp_d rfl (by rfl) (fun K hK => ?_)
      go_simp
      refine hK _ _ ⟨fun _ => H8.out.rq, ?_⟩
      clear hK K
      go_simp
      refine wpAnyG_done (by kernel_rfl) ?_ _
      go_simp
      go_wp2_with fail
      go_meet
      exact ⟨_, rfl, H8.out⟩
  case rest =>
    obtain ⟨gl, rfl, hA⟩ := hcut
    obtain ⟨gy, hrow, hry⟩ := hA.row
    have HA := hid (And.intro hA (And.intro hrow hry))
    clear hA hrow hry
    go_wp2_with (first
      | (have := H2; go_at_call 14; go_must (refine (lv_pick (F := fun k => k < wc.heap.size) a3 c3 gl _ (fun k hk => Nat.lt_of_lt_of_le hk H2.out.2.size) H2.out.1 (HA.out.1.rd.under H2.out.2 (Nat.le_refl _))).mono ?_); rintro e w3 ⟨g2, rfl, hx3, hb3⟩; have H3 : Hid (BxAt w3 g2 [.int .i64 0, .int .i64 0, .int .i64 0, .string ⟨#[]⟩, .float .f64 0, .int .i64 0, .int .i64 0, .int .i64 0, .int .i64 0, .string ⟨#[]⟩, .float .f64 0, .int .i64 0, .int .i64 lvQ.c, .int .i64 lvQ.st, .int .i64 lvQ.k, .string lvQ.key, .float .f64 lvQ.b, .int .i64 lvQ.id] 49 ∧ Below wc.heap.size wc w3) := hid ⟨hx3, H2.out.2.trans (hb3.mono H2.out.2.size)⟩; clear hx3 hb3)
      | (go_at_call 28; go_must (refine (ufour_any _).mono ?_); rintro e w2 ⟨a3, c3, rfl, hi2, hb2⟩; have H2 : Hid (IntsIn w2 a3 lvM ∧ Below wc.heap.size wc w2) := hid ⟨hi2, hb2⟩; clear hi2 hb2))
    have HB3 : Hid (Below w3.heap.size w3 w3.drew) := hid (Below.refl _ _).drew
    have HS : Hid (BxAt w3.drew g2 [.int .i64 0, .int .i64 0, .int .i64 0, .string ⟨#[]⟩, .float .f64 0, .int .i64 0, .int .i64 0, .int .i64 0, .int .i64 0, .string ⟨#[]⟩, .float .f64 0, .int .i64 0, .int .i64 lvQ.c, .int .i64 lvQ.st, .int .i64 lvQ.k, .string lvQ.key, .float .f64 lvQ.b, .int .i64 lvQ.id] 49 ∧ RqAt w3.drew w.heap.size lvQ ∧ BxAt w3.drew gl [.int .i64 0, .int .i64 1, .slice none 0 0, .int .i64 0, .string (chT 0 (0, 1, [], sg0)), .int .i64 1, .int .i64 1, .slice (some ⟨gy, 0, none⟩) 1 1, .int .i64 1, .string (chT 0 lv1), .int .i64 3, .int .i64 1, .slice none 0 0, .int .i64 3, .string (chT 0 (3, 1, [], sg0))] 26) := hid ⟨H3.out.1, HA.out.1.rq.keep H3.out.2.drew, BxAt.keep (show BxAt wc gl [.int .i64 0, .int .i64 1, .slice none 0 0, .int .i64 0, .string (chT 0 (0, 1, [], sg0)), .int .i64 1, .int .i64 1, .slice (some ⟨gy, 0, none⟩) 1 1, .int .i64 1, .string (chT 0 lv1), .int .i64 3, .int .i64 1, .slice none 0 0, .int .i64 3, .string (chT 0 (3, 1, [], sg0))] 26 from HA.out.2.1) H3.out.2.drew⟩
    have HKp : Hid (∀ u v : World, Below u.heap.size u v → (BxAt u g2 [.int .i64 0, .int .i64 0, .int .i64 0, .string ⟨#[]⟩, .float .f64 0, .int .i64 0, .int .i64 0, .int .i64 0, .int .i64 0, .string ⟨#[]⟩, .float .f64 0, .int .i64 0, .int .i64 lvQ.c, .int .i64 lvQ.st, .int .i64 lvQ.k, .string lvQ.key, .float .f64 lvQ.b, .int .i64 lvQ.id] 49 ∧ RqAt u w.heap.size lvQ ∧ BxAt u gl [.int .i64 0, .int .i64 1, .slice none 0 0, .int .i64 0, .string (chT 0 (0, 1, [], sg0)), .int .i64 1, .int .i64 1, .slice (some ⟨gy, 0, none⟩) 1 1, .int .i64 1, .string (chT 0 lv1), .int .i64 3, .int .i64 1, .slice none 0 0, .int .i64 3, .string (chT 0 (3, 1, [], sg0))] 26) → (BxAt v g2 [.int .i64 0, .int .i64 0, .int .i64 0, .string ⟨#[]⟩, .float .f64 0, .int .i64 0, .int .i64 0, .int .i64 0, .int .i64 0, .string ⟨#[]⟩, .float .f64 0, .int .i64 0, .int .i64 lvQ.c, .int .i64 lvQ.st, .int .i64 lvQ.k, .string lvQ.key, .float .f64 lvQ.b, .int .i64 lvQ.id] 49 ∧ RqAt v w.heap.size lvQ ∧ BxAt v gl [.int .i64 0, .int .i64 1, .slice none 0 0, .int .i64 0, .string (chT 0 (0, 1, [], sg0)), .int .i64 1, .int .i64 1, .slice (some ⟨gy, 0, none⟩) 1 1, .int .i64 1, .string (chT 0 lv1), .int .i64 3, .int .i64 1, .slice none 0 0, .int .i64 3, .string (chT 0 (3, 1, [], sg0))] 26)) := hid (fun u v hb h => ⟨h.1.keep hb, h.2.1.keep hb, h.2.2.keep hb⟩)
    have HNl : Hid (∀ u : World, Calls Try.prog 26 #[.agg #[.int .i64 0, .int .i64 0, .int .i64 0, .string ⟨#[]⟩, .float .f64 0, .int .i64 0]] u fun e w' => e = .returned (.bool true) ∧ Below u.heap.size u w') := hid (fun u => qnull_any zeroQ u)
    have HSm : Hid (∀ u : World, Calls Try.prog 27 #[.agg #[.int .i64 lvQ.c, .int .i64 lvQ.st, .int .i64 lvQ.k, .string lvQ.key, .float .f64 lvQ.b, .int .i64 lvQ.id], .agg #[.int .i64 lvQ.c, .int .i64 lvQ.st, .int .i64 lvQ.k, .string lvQ.key, .float .f64 lvQ.b, .int .i64 lvQ.id]] u fun e w' => e = .returned (.bool true) ∧ Below u.heap.size u w') := hid (fun u => by have := qsame_any lvQ lvQ (by decide) (by decide) u; rw [show sameB lvQ lvQ = true by decide] at this; exact this)
    have HRy : Hid (Reads (fun _ => True) w3.drew (.slice (some ⟨gy, 0, none⟩) 1 1) (dCts lv1.2.2.1)) := hid ((HA.out.2.2.under H3.out.2 (Nat.le_refl _)).under HB3.out (Nat.le_refl _))
    have HBw : Hid (Below w.heap.size w w3.drew) := hid ((HA.out.1.bel.trans (H3.out.2.mono HA.out.1.bel.size)).trans (HB3.out.mono (Nat.le_trans HA.out.1.bel.size H3.out.2.size)))
    clear HA H2 H3
    refine wp_region_G (S := fun ww => BxAt ww g2 [.int .i64 0, .int .i64 0, .int .i64 0, .string ⟨#[]⟩, .float .f64 0, .int .i64 0, .int .i64 0, .int .i64 0, .int .i64 0, .string ⟨#[]⟩, .float .f64 0, .int .i64 0, .int .i64 lvQ.c, .int .i64 lvQ.st, .int .i64 lvQ.k, .string lvQ.key, .float .f64 lvQ.b, .int .i64 lvQ.id] 49 ∧ RqAt ww w.heap.size lvQ ∧ BxAt ww gl [.int .i64 0, .int .i64 1, .slice none 0 0, .int .i64 0, .string (chT 0 (0, 1, [], sg0)), .int .i64 1, .int .i64 1, .slice (some ⟨gy, 0, none⟩) 1 1, .int .i64 1, .string (chT 0 lv1), .int .i64 3, .int .i64 1, .slice none 0 0, .int .i64 3, .string (chT 0 (3, 1, [], sg0))] 26) (ex := []) (by kernel_rfl) ?_
    try (change wpAnyG _ _ _ _ _ _ _ _ _ (World.drew _))
    refine wpAnyG_take (i := 0) (v := ?v101) rfl (by kernel_rfl) (fun _ _ _ h => h) (Or.inl ⟨by rfl, ?hy101⟩) HS.out ?rest101
    case hy101 => (intro ww _; go_simp; try with_reducible rfl)
    go_simp
    refine wpAnyG_take (i := 1) (v := ?v102) rfl (by kernel_rfl) (fun _ _ _ h => h) (Or.inl ⟨by rfl, ?hy102⟩) HS.out ?rest102
    case hy102 => (intro ww _; go_simp; try with_reducible rfl)
    go_simp
    refine wpAnyG_take (i := 2) (v := ?v103) rfl (by kernel_rfl) (fun _ _ _ h => h) (Or.inl ⟨by rfl, ?hy103⟩) HS.out ?rest103
    case hy103 => (intro ww _; go_simp; try with_reducible rfl)
    go_simp
    refine wpAnyG_take (i := 3) (v := ?v104) rfl (by kernel_rfl) (fun _ _ _ h => h) (Or.inl ⟨by rfl, ?hy104⟩) HS.out ?rest104
    case hy104 => (intro ww _; go_simp; try with_reducible rfl)
    go_simp
    refine wpAnyG_take (i := 4) (v := ?v105) rfl (by kernel_rfl) (fun _ _ _ h => h) (Or.inl ⟨by rfl, ?hy105⟩) HS.out ?rest105
    case hy105 => (intro ww _; go_simp; try with_reducible rfl)
    go_simp
    refine wpAnyG_take (i := 5) (v := ?v106) rfl (by kernel_rfl) (fun _ _ _ h => h) (Or.inl ⟨by rfl, ?hy106⟩) HS.out ?rest106
    case hy106 => (intro ww _; go_simp; try with_reducible rfl)
    go_simp
    refine wpAnyG_take (i := 6) (v := ?v107) rfl (by kernel_rfl) (fun _ _ _ h => h) (Or.inl ⟨by rfl, ?hy107⟩) HS.out ?rest107
    case hy107 => (intro ww _; go_simp; try with_reducible rfl)
    go_simp
    refine wpAnyG_take (i := 7) (v := ?v108) rfl (by kernel_rfl) (fun _ _ _ h => h) (Or.inl ⟨by rfl, ?hy108⟩) HS.out ?rest108
    case hy108 => (intro ww _; go_simp; try with_reducible rfl)
    go_simp
    refine wpAnyG_take (i := 8) (v := ?v109) rfl (by kernel_rfl) (fun _ _ _ h => h) (Or.inl ⟨by rfl, ?hy109⟩) HS.out ?rest109
    case hy109 => (intro ww _; go_simp; try with_reducible rfl)
    go_simp
    refine wpAnyG_take (i := 9) (v := ?v110) rfl (by kernel_rfl) (fun _ _ _ h => h) (Or.inl ⟨by rfl, ?hy110⟩) HS.out ?rest110
    case hy110 => (intro ww _; go_simp; try with_reducible rfl)
    go_simp
    refine wpAnyG_take (i := 10) (v := ?v111) rfl (by kernel_rfl) (fun _ _ _ h => h) (Or.inl ⟨by rfl, ?hy111⟩) HS.out ?rest111
    case hy111 => (intro ww hS; have p0 := hS.1.cell 0 _ rfl; have p1 := hS.1.cell 1 _ rfl; have p2 := hS.1.cell 2 _ rfl; have p3 := hS.1.cell 3 _ rfl; have p4 := hS.1.cell 4 _ rfl; have p5 := hS.1.cell 5 _ rfl; go_simp; try with_reducible rfl)
    go_simp
    refine wpAnyG_all (rs := [11]) (by kernel_rfl) (by simp) ?_
    intro i hi
    obtain rfl := List.mem_singleton.1 hi
    clear hi
    refine wpOp_d rfl (by rfl) (fun K hK => ?_)
    go_simp
    refine (HNl.out _).mono ?_
    rintro e v1 ⟨rfl, hb⟩
    have G1 : Hid (Below w3.drew.heap.size w3.drew v1) := hid hb
    have S1 := hid (HKp.out _ _ hb HS.out)
    clear hb
    go_simp
    refine hK _ _ ⟨fun _ => S1.out, ?_⟩
    clear hK K
    go_simp
    refine wpAnyG_take (i := 12) (v := ?v112) rfl (by kernel_rfl) (fun _ _ _ h => h) (Or.inl ⟨by rfl, ?hy112⟩) S1.out ?rest112
    case hy112 => (intro ww _; go_simp; try with_reducible rfl)
    go_simp
    refine wpAnyG_take (i := 13) (v := ?v113) rfl (by kernel_rfl) (fun _ _ _ h => h) (Or.inl ⟨by rfl, ?hy113⟩) S1.out ?rest113
    case hy113 => (intro ww _; go_simp; try with_reducible rfl)
    go_simp
    refine wpAnyG_take (i := 14) (v := ?v114) rfl (by kernel_rfl) (fun _ _ _ h => h) (Or.inl ⟨by rfl, ?hy114⟩) S1.out ?rest114
    case hy114 => (intro ww _; go_simp; try with_reducible rfl)
    go_simp
    refine wpAnyG_take (i := 15) (v := ?v115) rfl (by kernel_rfl) (fun _ _ _ h => h) (Or.inl ⟨by rfl, ?hy115⟩) S1.out ?rest115
    case hy115 => (intro ww _; go_simp; try with_reducible rfl)
    go_simp
    refine wpAnyG_take (i := 16) (v := ?v116) rfl (by kernel_rfl) (fun _ _ _ h => h) (Or.inl ⟨by rfl, ?hy116⟩) S1.out ?rest116
    case hy116 => (intro ww hS; have p0 := hS.1.cell 12 _ rfl; have p1 := hS.1.cell 13 _ rfl; have p2 := hS.1.cell 14 _ rfl; have p3 := hS.1.cell 15 _ rfl; have p4 := hS.1.cell 16 _ rfl; have p5 := hS.1.cell 17 _ rfl; go_simp; try with_reducible rfl)
    go_simp
    refine wpAnyG_take (i := 17) (v := ?v117) rfl (by kernel_rfl) (fun _ _ _ h => h) (Or.inl ⟨by rfl, ?hy117⟩) S1.out ?rest117
    case hy117 => (intro ww hS; obtain ⟨⟨y0, y1⟩, y2, y3, y4, y5⟩ := hS.2.1.cells; go_simp; try with_reducible rfl)
    go_simp
    refine wpAnyG_all (rs := [18]) (by kernel_rfl) (by simp) ?_
    intro i hi
    obtain rfl := List.mem_singleton.1 hi
    clear hi
    refine wpOp_d rfl (by rfl) (fun K hK => ?_)
    go_simp
    refine (HSm.out _).mono ?_
    rintro e v2 ⟨rfl, hb⟩
    have G2 : Hid (Below w3.drew.heap.size w3.drew v2) := hid (G1.out.trans (hb.mono G1.out.size))
    have S2 := hid (HKp.out _ _ hb S1.out)
    clear hb
    go_simp
    refine hK _ _ ⟨fun _ => S2.out, ?_⟩
    clear hK K
    go_simp
    refine wpAnyG_take (i := 19) (v := ?v118) rfl (by kernel_rfl) (fun _ _ _ h => h) (Or.inl ⟨by rfl, ?hy118⟩) S2.out ?rest118
    case hy118 => (intro ww _; go_simp; try with_reducible rfl)
    go_simp
    refine wpAnyG_take (i := 20) (v := ?v119) rfl (by kernel_rfl) (fun _ _ _ h => h) (Or.inl ⟨by rfl, ?hy119⟩) S2.out ?rest119
    case hy119 => (intro ww _; go_simp; try with_reducible rfl)
    go_simp
    refine wpAnyG_take (i := 22) (v := ?v120) rfl (by kernel_rfl) (fun _ _ _ h => h) (Or.inl ⟨by rfl, ?hy120⟩) S2.out ?rest120
    case hy120 => (intro ww _; go_simp; try with_reducible rfl)
    go_simp
    refine wpAnyG_take (i := 23) (v := ?v121) rfl (by kernel_rfl) (fun _ _ _ h => h) (Or.inl ⟨by rfl, ?hy121⟩) S2.out ?rest121
    case hy121 => (intro ww _; go_simp; try with_reducible rfl)
    go_simp
    refine wpAnyG_take (i := 24) (v := ?v122) rfl (by kernel_rfl) (fun _ _ _ h => h) (Or.inl ⟨by rfl, ?hy122⟩) S2.out ?rest122
    case hy122 => (intro ww hS; have p0 := hS.2.2.cell 5 _ rfl; have p1 := hS.2.2.cell 6 _ rfl; have p2 := hS.2.2.cell 7 _ rfl; have p3 := hS.2.2.cell 8 _ rfl; have p4 := hS.2.2.cell 9 _ rfl; go_simp; try with_reducible rfl)
    go_simp
    refine wpAnyG_all (rs := [21]) (by kernel_rfl) (by simp) ?_
    intro i hi
    obtain rfl := List.mem_singleton.1 hi
    clear hi
    refine wpOp_d rfl (by rfl) (fun K hK => ?_)
    go_simp
    refine (ufour_any _).mono ?_
    rintro e v3 ⟨a4, c4, rfl, hi, hb⟩
    have G3 : Hid (Below w3.drew.heap.size w3.drew v3 ∧ IntsIn v3 a4 lvM) := hid ⟨G2.out.trans (hb.mono G2.out.size), hi⟩
    have S3 := hid (HKp.out _ _ hb S2.out)
    clear hb hi
    go_simp
    refine hK _ _ ⟨fun _ => S3.out, ?_⟩
    clear hK K
    go_simp
    refine wpAnyG_all (rs := [25]) (by kernel_rfl) (by simp) ?_
    intro i hi
    obtain rfl := List.mem_singleton.1 hi
    clear hi
    refine wpOp_d rfl (by rfl) (fun K hK => ?_)
    go_simp
    refine (lv_right1 a4 c4 gy _ G3.out.2 (HRy.out.under G3.out.1 (Nat.le_refl _))).mono ?_
    rintro e v4 ⟨rfl, hb⟩
    have G4 : Hid (Below w3.drew.heap.size w3.drew v4) := hid (G3.out.1.trans (hb.mono G3.out.1.size))
    have S4 := hid (HKp.out _ _ hb S3.out)
    clear hb
    go_simp
    refine hK _ _ ⟨fun _ => S4.out, ?_⟩
    clear hK K
    go_simp
    refine wpAnyG_take (i := 26) (v := ?v123) rfl (by kernel_rfl) (fun _ _ _ h => h) (Or.inl ⟨by rfl, ?hy123⟩) S4.out ?rest123
    case hy123 => (intro ww _; go_simp; try with_reducible rfl)
    go_simp
    refine wpAnyG_take (i := 27) (v := ?v124) rfl (by kernel_rfl) (fun _ _ _ h => h) (Or.inl ⟨by rfl, ?hy124⟩) S4.out ?rest124
    case hy124 => (intro ww _; go_simp; try with_reducible rfl)
    go_simp
    refine wpAnyG_take (i := 28) (v := ?v125) rfl (by kernel_rfl) (fun _ _ _ h => h) (Or.inl ⟨by rfl, ?hy125⟩) S4.out ?rest125
    case hy125 => (intro ww _; go_simp; try with_reducible rfl)
    go_simp
    refine wpAnyG_take (i := 30) (v := ?v126) rfl (by kernel_rfl) (fun _ _ _ h => h) (Or.inl ⟨by rfl, ?hy126⟩) S4.out ?rest126
    case hy126 => (intro ww _; go_simp; try with_reducible rfl)
    go_simp
    refine wpAnyG_all (rs := [29]) (by kernel_rfl) (by simp) ?_
    intro i hi
    obtain rfl := List.mem_singleton.1 hi
    clear hi
    refine wpOp_d rfl (by rfl) (fun K hK => ?_)
    go_simp
    refine (ufour_any _).mono ?_
    rintro e v5 ⟨a5, c5, rfl, hi, hb⟩
    have G5 : Hid (Below w3.drew.heap.size w3.drew v5 ∧ IntsIn v5 a5 lvM) := hid ⟨G4.out.trans (hb.mono G4.out.size), hi⟩
    have S5 := hid (HKp.out _ _ hb S4.out)
    clear hb hi
    go_simp
    refine hK _ _ ⟨fun _ => S5.out, ?_⟩
    clear hK K
    go_simp
    refine wpAnyG_all (rs := [31]) (by kernel_rfl) (by simp) ?_
    intro i hi
    obtain rfl := List.mem_singleton.1 hi
    clear hi
    refine wpOp_d rfl (by rfl) (fun K hK => ?_)
    go_simp
    refine (lv_right2 a5 c5 _ G5.out.2).mono ?_
    rintro e v6 ⟨rfl, hb⟩
    have G6 : Hid (Below w3.drew.heap.size w3.drew v6) := hid (G5.out.1.trans (hb.mono G5.out.1.size))
    have S6 := hid (HKp.out _ _ hb S5.out)
    clear hb
    go_simp
    refine hK _ _ ⟨fun _ => S6.out, ?_⟩
    clear hK K
    go_simp
    refine wpAnyG_take (i := 32) (v := ?v127) rfl (by kernel_rfl) (fun _ _ _ h => h) (Or.inl ⟨by rfl, ?hy127⟩) S6.out ?rest127
    case hy127 => (intro ww _; go_simp; try with_reducible rfl)
    go_simp
    refine wpAnyG_take (i := 33) (v := ?v128) rfl (by kernel_rfl) (fun _ _ _ h => h) (Or.inl ⟨by rfl, ?hy128⟩) S6.out ?rest128
    case hy128 => (intro ww _; go_simp; try with_reducible rfl)
    go_simp
    refine wpAnyG_all (rs := [34]) (by kernel_rfl) (by simp) ?_
    intro i hi
    obtain rfl := List.mem_singleton.1 hi
    clear hi
    refine wpOp_d rfl (by rfl) (fun K hK => ?_)
    go_simp
    refine hK _ _ ⟨fun _ => S6.out, ?_⟩
    clear hK K
    go_simp
    refine wpAnyG_done (by kernel_rfl) ?_ _
    go_simp
    go_wp2
    go_ret
    exact ⟨rfl, HBw.out.trans (G6.out.mono HBw.out.size)⟩
end Go.Proofs.Ythoofboegchodaa
