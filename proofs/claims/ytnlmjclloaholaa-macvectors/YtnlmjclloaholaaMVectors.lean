/- A vector's tags are what the document says: the walk. -/
import Derived.Test.YtnlmjclloaholaaMaM
namespace Go.Proofs.Ytnlmjclloaholaa
open Go.RowKit

set_option maxRecDepth 100000 in
set_option maxHeartbeats 3200000 in
theorem vectors_at (s t g : ByteArray) (a c : Int) (hs : s.size ≤ 4096) (ht : t.size ≤ 4096) (ad : Option Addr) (n cap : Nat) (zs : List Int) (hn : zs.length = n) (hr : n ≤ 17592186043904) (w : World) (hZ : IntsIn w ad zs) (k : Int) (L : List ByteArray) (hL : L.length ≤ maxLen)
    (HV : Hid (∀ (u : World) (ad : Option Addr) (cap : Nat), IntsIn u ad zs → Calls Try.prog 15 #[.string s, .int .i64 a, .slice ad n cap, .string t] u fun e w' => ∃ v, e = .returned (.tuple #[v, .int .i64 k]) ∧ OwnedS u.heap.size u w' v L))
    (HN : Hid (∀ (u : World) (ad : Option Addr) (cap : Nat), IntsIn u ad zs → Calls Try.prog 16 #[.string s, .int .i64 a, .slice ad n cap, .string t] u fun e w' => ∃ v, e = .returned (.tuple #[v, .int .i64 k]) ∧ OwnedS u.heap.size u w' v L)) :
    Calls Try.prog 5 #[.agg #[.string s, .int .i64 a, .int .i64 c, .string t, .string g], .slice ad n cap] w fun e w' => e = .returned (.bool true) ∧ Below w.heap.size w w' := by
  obtain ⟨i0, hi0, hz0, hz1, hz2⟩ := info_parts Try.info3
  have HS := hid (show decide (s.size ≤ 4096 ∧ t.size ≤ 4096) = true from decide_eq_true ⟨hs, ht⟩)
  have HZ := hid (hZ.keep ((Below.refl w.heap.size w).alloc (Nat.le_refl _) (.cells #[.string s, .int .i64 a, .int .i64 c, .string t, .string g] 30)) (Nat.le_refl _))
  have HL := hid (And.intro hn (And.intro hr hL))
  have hr2 : (n : Int) ≤ 17592186043904 := by omega
  have hn0 : (0 : Int) ≤ (n : Int) := Int.natCast_nonneg _
  clear hs ht hZ hn hr hL
  go_enter Try.func5, Try.ntmps5
  go_wp2_with (first
    | (go_at_call 9; refine (mlives_any _).mono ?_; rintro e w1 ⟨rfl, hb1⟩; have H1 := hid hb1; clear hb1
       have H2 := hid ((SentAt.new w s a c t g).keep H1.out)
       have H3 := hid (HZ.out.keep H1.out (Nat.le_refl _))
       have c0 := H2.out.c0
       have c3 := H2.out.c3)
    | (go_at_call 10; refine (mshort_any _ _ _ (by exact HS.out) _).mono ?_; rintro e wx ⟨rfl, rfl⟩)
    | (at_builtin; have := H4; refine wpList_append_own_at _ rfl _ _ 31 rfl wx.heap.size 3 i0 (.int .i64 0) 1 8 Try.underlying31 hi0 hz0 hz1 hz2 rfl (by decide) _ _ _ rfl (H4.out.alloc _).own ⟨_, 0, none⟩ 1 1 (iC [-7]) rfl rfl (World.news_of_block (t := 3) (fr := (0, 0)) (heap_alloc_last _ _)) (iC_one _) (by have := HL.out.1; have := HL.out.2.1; unfold maxLen; omega) (by have := HL.out.1; have := HL.out.2.1; omega) (H4.out.alloc _).le ?_
       intro v5 w5 hown5 hgrow5 i3 i4
       have H5 := hid ((H4.out.alloc _).grow (xs := [-7]) rfl hown5 hgrow5)
       clear hown5 hgrow5 i3 i4)
    | (at_builtin; refine wl_ownI rfl _ _ rfl rfl ad n cap zs rfl HL.out.1 H3.out HL.out.2.1 ?_; intro v4 w4 H4))
  obtain ⟨go, cap5, hv5, hc5, hm5, hgo, hgB, hcell5⟩ := H5.out.form (by rw [List.length_append]; exact Nat.succ_pos _)
  have hl5 : (zs ++ [-7]).length = n + 1 := by rw [List.length_append, HL.out.1]; rfl
  rw [hl5] at hv5 hc5
  subst hv5
  have HK := hid (And.intro (H2.out.keep H5.out.bel) (And.intro (H3.out.keep H5.out.bel (Nat.le_refl _)) (And.intro (show IntsIn w5 (some ⟨go, 0, none⟩) zs from .inr ⟨go, 0, rfl, hgo, fun j z hj => by rw [Nat.zero_add]; exact hcell5 j z (by rw [List.getElem?_append_left (List.getElem?_eq_some_iff.1 hj).1]; exact hj)⟩) (And.intro (show w5.cell? ⟨go, n, none⟩ = some (.int .i64 (-7)) from hcell5 n _ (by rw [List.getElem?_append_right (by rw [HL.out.1]; exact Nat.le_refl _), HL.out.1, Nat.sub_self]; rfl)) hgo))))
  have HG : Hid (∀ u : World, Below w5.heap.size w5 u → SentAt u w.heap.size s a c t g ∧ IntsIn u ad zs ∧ IntsIn u (some ⟨go, 0, none⟩) zs ∧ u.cell? ⟨go, n, none⟩ = some (.int .i64 (-7))) := hid (fun u hu => ⟨HK.out.1.keep hu, HK.out.2.1.keep hu (Nat.le_refl _), HK.out.2.2.1.keep hu (Nat.le_refl _), (hu.cell (p := ⟨go, n, none⟩) HK.out.2.2.2.2).trans HK.out.2.2.2.1⟩)
  have HD0 : Hid (∀ u : World, Below w5.heap.size w5 u → u.cell? ⟨w.heap.size, 0, none⟩ = some (.string s)) := hid (fun u hu => (HG.out u hu).1.c0)
  have HD1 : Hid (∀ u : World, Below w5.heap.size w5 u → u.cell? ⟨w.heap.size, 1, none⟩ = some (.int .i64 a)) := hid (fun u hu => (HG.out u hu).1.c1)
  have HD3 : Hid (∀ u : World, Below w5.heap.size w5 u → u.cell? ⟨w.heap.size, 3, none⟩ = some (.string t)) := hid (fun u hu => (HG.out u hu).1.c3)
  have hcap : (n : Int) + 1 ≤ (cap5 : Int) := by omega
  have hcapn : n ≤ cap5 := by omega
  have hcapm : (cap5 : Int) ≤ 9223372036854775807 := by unfold maxLen at hm5; omega
  have HSW := hid (show Below w5.heap.size w5 w5.drew from (Below.refl _ _).drew)
  clear c0 c3 hl5 hc5 hm5 hgo hgB hcell5 H3 HZ
  refine wp_region_held (S := fun u => Below w5.heap.size w5 u) (by kernel_rfl) ?_
  try (change wpAnyH _ _ _ _ _ _ _ _ (World.drew _))
  refine wpAnyH_take (i := 0) (v := ?v1) rfl (by kernel_rfl) (by kernel_rfl) (by kernel_rfl) (fun _ _ _ h => h) (Or.inl ⟨by rfl, ?hy1⟩) HSW.out ?rest1
  case hy1 => (intro ww _; go_simp; try with_reducible rfl)
  go_simp
  refine wpAnyH_take (i := 1) (v := ?v2) rfl (by kernel_rfl) (by kernel_rfl) (by kernel_rfl) (fun _ _ _ h => h) (Or.inl ⟨by rfl, ?hy2⟩) HSW.out ?rest2
  case hy2 => (intro ww hS; have z0 := HD0.out ww hS; go_simp; try with_reducible rfl)
  go_simp
  refine wpAnyH_take (i := 2) (v := ?v3) rfl (by kernel_rfl) (by kernel_rfl) (by kernel_rfl) (fun _ _ _ h => h) (Or.inl ⟨by rfl, ?hy3⟩) HSW.out ?rest3
  case hy3 => (intro ww _; go_simp; try with_reducible rfl)
  go_simp
  refine wpAnyH_take (i := 3) (v := ?v4) rfl (by kernel_rfl) (by kernel_rfl) (by kernel_rfl) (fun _ _ _ h => h) (Or.inl ⟨by rfl, ?hy4⟩) HSW.out ?rest4
  case hy4 => (intro ww hS; have z0 := HD1.out ww hS; go_simp; try with_reducible rfl)
  go_simp
  refine wpAnyH_take (i := 4) (v := ?v5) rfl (by kernel_rfl) (by kernel_rfl) (by kernel_rfl) (fun _ _ _ h => h) (Or.inl ⟨by rfl, ?hy5⟩) HSW.out ?rest5
  case hy5 => (intro ww _; go_simp; try with_reducible rfl)
  go_simp
  refine wpAnyH_take (i := 5) (v := ?v6) rfl (by kernel_rfl) (by kernel_rfl) (by kernel_rfl) (fun _ _ _ h => h) (Or.inl ⟨by rfl, ?hy6⟩) HSW.out ?rest6
  case hy6 => (intro ww _; go_simp; try with_reducible rfl)
  go_simp
  refine wpAnyH_take (i := 6) (v := ?v7) rfl (by kernel_rfl) (by kernel_rfl) (by kernel_rfl) (fun _ _ _ h => h) (Or.inl ⟨by rfl, ?hy7⟩) HSW.out ?rest7
  case hy7 => (intro ww _; go_simp; try with_reducible rfl)
  go_simp
  refine wpAnyH_take (i := 7) (v := ?v8) rfl (by kernel_rfl) (by kernel_rfl) (by kernel_rfl) (fun _ _ _ h => h) (Or.inl ⟨by rfl, ?hy8⟩) HSW.out ?rest8
  case hy8 => (intro ww _; go_simp; try with_reducible rfl)
  go_simp
  refine wpAnyH_take (i := 8) (v := ?v9) rfl (by kernel_rfl) (by kernel_rfl) (by kernel_rfl) (fun _ _ _ h => h) (Or.inl ⟨by rfl, ?hy9⟩) HSW.out ?rest9
  case hy9 => (intro ww _; go_simp; try with_reducible rfl)
  go_simp
  refine wpAnyH_take (i := 9) (v := ?v10) rfl (by kernel_rfl) (by kernel_rfl) (by kernel_rfl) (fun _ _ _ h => h) (Or.inl ⟨by rfl, ?hy10⟩) HSW.out ?rest10
  case hy10 => (intro ww hS; have z0 := HD3.out ww hS; go_simp; try with_reducible rfl)
  go_simp
  refine wpAnyH_all (rs := [10]) (by kernel_rfl) (by simp) ?_
  intro i hi
  obtain rfl := List.mem_singleton.1 hi
  clear hi
  refine wpOp_k rfl rfl (fun K hK => ?_)
  go_simp
  refine Calls.mono (HV.out _ _ _ (HG.out _ HSW.out).2.2.1) ?_
  rintro e w6 ⟨v6, rfl, ho6⟩
  obtain ⟨a6, cap6, rfl, hs6⟩ := ho6.strs
  have H6 := hid (show Below w5.heap.size w5 w6 from HSW.out.trans (ho6.bel.mono (Nat.le_refl _)))
  have HS6 := hid hs6
  clear ho6 hs6
  refine hK _ _ ⟨H6.out, ?_⟩
  clear hK K
  go_simp
  refine wpAnyH_take (i := 11) (v := ?v11) rfl (by kernel_rfl) (by kernel_rfl) (by kernel_rfl) (fun _ _ _ h => h) (Or.inl ⟨by rfl, ?hy11⟩) H6.out ?rest11
  case hy11 => (intro ww _; go_simp; try with_reducible rfl)
  go_simp
  refine wpAnyH_take (i := 12) (v := ?v12) rfl (by kernel_rfl) (by kernel_rfl) (by kernel_rfl) (fun _ _ _ h => h) (Or.inl ⟨by rfl, ?hy12⟩) H6.out ?rest12
  case hy12 => (intro ww _; go_simp; try with_reducible rfl)
  go_simp
  refine wpAnyH_take (i := 13) (v := ?v13) rfl (by kernel_rfl) (by kernel_rfl) (by kernel_rfl) (fun _ _ _ h => h) (Or.inl ⟨by rfl, ?hy13⟩) H6.out ?rest13
  case hy13 => (intro ww _; go_simp; try with_reducible rfl)
  go_simp
  refine wpAnyH_take (i := 14) (v := ?v14) rfl (by kernel_rfl) (by kernel_rfl) (by kernel_rfl) (fun _ _ _ h => h) (Or.inl ⟨by rfl, ?hy14⟩) H6.out ?rest14
  case hy14 => (intro ww _; go_simp; try with_reducible rfl)
  go_simp
  refine wpAnyH_take (i := 15) (v := ?v15) rfl (by kernel_rfl) (by kernel_rfl) (by kernel_rfl) (fun _ _ _ h => h) (Or.inl ⟨by rfl, ?hy15⟩) H6.out ?rest15
  case hy15 => (intro ww _; go_simp; try with_reducible rfl)
  go_simp
  refine wpAnyH_done (by kernel_rfl) ?_ _
  go_simp
  have c0 := HD0.out w6 H6.out
  have c1 := HD1.out w6 H6.out
  have c3 := HD3.out w6 H6.out
  go_wp2_with (first
    | (go_at_call 16; refine (HN.out _ _ _ (by exact (HG.out _ H6.out).2.1)).mono ?_; rintro e w7 ⟨v7, rfl, ho7⟩
       obtain ⟨a7, cap7, rfl, hs7⟩ := ho7.strs
       have H7 := hid (And.intro (H6.out.trans (ho7.bel.mono H6.out.size)) (And.intro (HS6.out.keep ho7.bel (Nat.le_refl _)) hs7))
       clear ho7 hs7)
    | (go_at_call 17; refine (sameTexts_any _ _ _ _ _ L rfl HL.out.2.2 _ H7.out.2.1 H7.out.2.2).mono ?_; rintro e w8 ⟨rfl, hb8⟩; have H8 := hid (H7.out.1.trans (hb8.mono H7.out.1.size)); clear hb8)
    | (go_at_call 18; refine (sameInts_any _ _ _ _ _ zs HL.out.1 (by have := HL.out.2.1; unfold maxLen; omega) _ (HG.out _ H8.out).2.2.1 (HG.out _ H8.out).2.1).mono ?_; rintro e w9 ⟨rfl, hb9⟩; have H9 := hid (H8.out.trans (hb9.mono H8.out.size)); clear hb9
       have c9 := (HG.out _ H9.out).2.2.2))
  go_ret
  refine ⟨rfl, ?_⟩
  have b1 : Below w.heap.size w wx := ((Below.refl _ _).alloc (Nat.le_refl _) _).trans (H1.out.mono (by simp))
  have b2 : Below w.heap.size w w5 := b1.trans (H5.out.bel.mono b1.size)
  exact b2.trans (H9.out.mono b2.size)

theorem of_sameS {f : FuncId} {args : Array Value} {k : Int} {u : World} (h : Calls Try.prog f args u fun e w' => e = .returned (.tuple #[.slice none 0 0, .int .i64 k]) ∧ w' = u) :
    Calls Try.prog f args u fun e w' => ∃ v, e = .returned (.tuple #[v, .int .i64 k]) ∧ OwnedS u.heap.size u w' v [] :=
  h.mono fun _ _ ⟨he, hw⟩ => ⟨_, he, hw ▸ OwnedS.nil (Below.refl _ _) (Nat.le_refl _)⟩

set_option maxRecDepth 100000 in
set_option maxHeartbeats 1600000 in
theorem macVectors_walk (s t g : ByteArray) (a c : Int) (ad : Option Addr) (n cap : Nat) (zs : List Int) (hn : zs.length = n) (hr : n ≤ 17592186043904) (w : World) (hZ : IntsIn w ad zs) :
    Calls Try.prog 5 #[.agg #[.string s, .int .i64 a, .int .i64 c, .string t, .string g], .slice ad n cap] w fun e w' => e = .returned (.bool true) ∧ Below w.heap.size w w' := by
  have hm : n ≤ maxLen := by unfold maxLen; omega
  by_cases hl : s.size ≤ 4096 ∧ t.size ≤ 4096
  · cases hb : nodeB a && zs.all nodeB with
    | false => exact vectors_at s t g a c hl.1 hl.2 ad n cap zs hn hr w hZ 1 [] (Nat.zero_le _) (hid (fun u ad cap hu => of_sameS (vector_arg s t a ad n cap zs hn hm hb u hu))) (hid (fun u ad cap hu => of_sameS (nvector_arg s t a ad n cap zs hn hm hb u hu)))
    | true =>
      by_cases h16 : 16 < n
      · exact vectors_at s t g a c hl.1 hl.2 ad n cap zs hn hr w hZ 3 [] (Nat.zero_le _) (hid (fun u ad cap hu => of_sameS (vector_long s t a ad n cap zs hn hm hb h16 u hu))) (hid (fun u ad cap hu => of_sameS (nvector_long s t a ad n cap zs hn hm hb h16 u hu)))
      · obtain ⟨h1, h2⟩ := Bool.and_eq_true_iff.1 hb
        obtain ⟨b, rfl, hb2⟩ := node_nat h1
        exact vectors_at s t g b c hl.1 hl.2 ad n cap zs hn hr w hZ 0 (tagsS s t b zs) (by rw [tagsS_len, hn]; exact hm) (hid (fun u ad cap hu => (vector_yes s t (by omega) (by omega) b hb2 ad n cap zs hn (by omega) h2 u hu).mono fun _ _ ⟨he, ho⟩ => ⟨_, he, ho⟩)) (hid (fun u ad cap hu => nvector_yes s t (by omega) (by omega) b hb2 ad n cap zs hn (by omega) h2 u hu))
  · have HS := hid (show decide (s.size ≤ 4096 ∧ t.size ≤ 4096) = false from decide_eq_false hl)
    clear hl
    go_enter Try.func5, Try.ntmps5
    go_wp2_with (first
      | (go_at_call 9; have := H1; refine (mlives_any _).mono ?_; rintro e w2 ⟨rfl, hb2⟩; have H3 := hid hb2; clear hb2)
      | (go_at_call 9; refine (mlives_any _).mono ?_; rintro e w1 ⟨rfl, hb1⟩; have H1 := hid hb1; clear hb1
         have H2 := hid ((SentAt.new w s a c t g).keep H1.out)
         have c0 := H2.out.c0
         have c3 := H2.out.c3)
      | (go_at_call 10; refine (mshort_any _ _ _ (by exact HS.out) _).mono ?_; rintro e wx ⟨rfl, rfl⟩))
    go_ret
    exact ⟨rfl, ((Below.refl _ _).alloc (Nat.le_refl _) _).trans ((H1.out.mono (by simp)).trans (H3.out.mono (Nat.le_trans (by simp) H1.out.size)))⟩
end Go.Proofs.Ytnlmjclloaholaa
