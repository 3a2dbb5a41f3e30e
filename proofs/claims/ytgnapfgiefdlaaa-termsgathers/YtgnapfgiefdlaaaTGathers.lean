/- TermsGathers, walked. -/
import Derived.Test.YtgnapfgiefdlaaaTeQ
import Derived.Test.YtgnapfgiefdlaaaTeL
namespace Go.Proofs.Ytgnapfgiefdlaaa
open Go.RowKit

set_option maxRecDepth 100000 in
set_option maxHeartbeats 3200000 in
theorem termsGathers_walk (ep : Int) (a : Option Addr) (n cap : Nat) (l : List Int) (hn : l.length = n) (hm8 : n * 8 ≤ 140737488355328) (t : ByteArray) (b : Option Addr) (m cp : Nat) (ss : List (Int × ByteArray)) (hsn : ss.length = m) (hsm : (m + 1) * 24 ≤ 140737488355328) (w : World) (hI : IntsIn w a l) (hP : PairsIn w b ss) :
    Calls Try.prog 4 #[.agg #[.int .i64 ep, .slice a n cap, .string t, .slice b m cp]] w fun e w' => e = .returned (.bool true) ∧ Below w.heap.size w w' := by
  have hm : n ≤ maxLen := by unfold maxLen; omega
  have HM8 := hid hm8
  clear hm8
  obtain ⟨i0, hi0, hz0, hz1, hz2⟩ := info_parts Try.info34
  have HW : Hid (HdAt (w.alloc (.cells #[.int .i64 ep, .slice a n cap, .string t, .slice b m cp] 27)) w.heap.size ep (.slice a n cap) t (.slice b m cp) ∧ Below w.heap.size w (w.alloc (.cells #[.int .i64 ep, .slice a n cap, .string t, .slice b m cp] 27))) := hid ⟨heap_alloc_last w _, (Below.refl _ _).alloc (Nat.le_refl _) _⟩
  have HD := hid (And.intro hI hP)
  have HL := hid (And.intro (And.intro hn hm) (And.intro hsn hsm))
  have hmm : (m : Int) < (m : Int) + 1 := by omega
  have hm0 : (0 : Int) ≤ (m : Int) := Int.natCast_nonneg _
  have hm63 : (m : Int) + 1 ≤ 9223372036854775807 := by omega
  have HG : Hid ((gathL l t ss).length ≤ m) := hid (by rw [← hsn]; exact gathL_le l t ss)
  clear hI hP hn hm hsn hsm
  go_enter Try.func4, Try.ntmps4
  go_wp2_with (first
    | (go_at_call 9; refine (tlives_any _).mono ?_; rintro e w1 ⟨rfl, hb1⟩; have H1 : Hid (HdAt w1 w.heap.size ep (.slice a n cap) t (.slice b m cp) ∧ Below w.heap.size w w1) := hid ⟨HW.out.1.keep hb1, HW.out.2.trans (hb1.mono HW.out.2.size)⟩; clear hb1; have z3 := H1.out.1.cells.2.2.2)
    | (refine wl_ownT rfl _ _ rfl rfl _ _ _ ss rfl (by exact HL.out.2.1) (by exact HD.out.2.keep H1.out.2 (Nat.le_refl _)) (by have := HL.out.2.2; omega) ?_; intro v6 w6 H6)
    | (at_builtin; refine wpList_append_own _ rfl _ _ 25 rfl w1.heap.size 34 i0 (.agg #[.int .i64 0, .string ⟨#[]⟩]) 2 24 Try.underlying25 hi0 hz0 hz1 hz2 rfl (by decide) _ _ _ rfl (H6.out.alloc _).own ⟨_, 0, none⟩ 1 1 (pC [(-7, ⟨#[]⟩)]) rfl rfl (World.news_of_block (t := 34) (fr := (0, 0)) (heap_alloc_last _ _)) (pC_cell1 _) (by have := HL.out; unfold maxLen; omega) (by have := HL.out; omega) (H6.out.alloc _).le ?_; intro v7 w7 hown7 hgrow7 hnil7; have h7 := (H6.out.alloc _).grow (xs := [(-7, ⟨#[]⟩)]) rfl hown7 hgrow7
       obtain ⟨g7, cap7, hv7, hc7, hcm7, hg7, hg7b, hp7⟩ := h7.form (by rw [List.length_append]; simp)
       subst hv7
       rw [List.length_append, HL.out.2.1]
       have H7 := hid (And.intro (H1.out.1.keep h7.bel) (And.intro (H1.out.2.trans (h7.bel.mono H1.out.2.size)) hp7))
       have hcp : (m : Int) ≤ (cap7 : Int) := (by rw [List.length_append, HL.out.2.1] at hc7; simp at hc7; omega)
       have hcm : (cap7 : Int) ≤ 9223372036854775807 := (by unfold maxLen at hcm7; omega)
       clear h7 hown7 hgrow7 hnil7 hp7 hg7 hg7b hc7 hcm7))
  have HSt : Hid (∀ u : World, HdAt u w.heap.size ep (.slice a n cap) t (.slice b m cp) ∧ PairsIn u (some ⟨g7, 0, none⟩) (ss ++ [(-7, ⟨#[]⟩)]) → HdAt u w.heap.size ep (.slice a n cap) t (.slice b m cp) ∧ u.cell? ⟨g7, m * 2, none⟩ = some (.int .i64 (-7)) ∧ u.cell? ⟨g7, m * 2 + 1, none⟩ = some (.string ⟨#[]⟩)) := hid (fun u hu => by
    obtain ⟨g, off, eg, _, h0, h1⟩ := hu.2.at m (-7, ⟨#[]⟩) (by rw [← HL.out.2.1]; simp)
    cases eg
    rw [Nat.zero_add] at h0 h1
    exact ⟨hu.1, h0, h1⟩)
  have HPs : Hid (∀ u : World, PairsIn u (some ⟨g7, 0, none⟩) (ss ++ [(-7, ⟨#[]⟩)]) → PairsIn u (some ⟨g7, 0, none⟩) ss) := hid (fun u hu => by
    rcases hu with h | ⟨g, off, eg, hg, h⟩
    · simp at h
    · exact .inr ⟨g, off, eg, hg, fun j p hp => h j p (by rw [List.getElem?_append_left (List.getElem?_eq_some_iff.1 hp).1]; exact hp)⟩)
  have HA : Hid ((w7.drew.heap.size = w7.heap.size) ∧ Below w.heap.size w w7.drew ∧ HdAt w7.drew w.heap.size ep (.slice a n cap) t (.slice b m cp) ∧ PairsIn w7.drew (some ⟨g7, 0, none⟩) (ss ++ [(-7, ⟨#[]⟩)])) := hid ⟨rfl, H7.out.2.1.drew, H7.out.1, H7.out.2.2.keep ((Below.refl w7.heap.size w7).drew) (Nat.le_refl _)⟩
  have HS7 := hid (HSt.out _ HA.out.2.2)
  refine wp_region_held (S := fun ww => HdAt ww w.heap.size ep (.slice a n cap) t (.slice b m cp) ∧ ww.cell? ⟨g7, m * 2, none⟩ = some (.int .i64 (-7)) ∧ ww.cell? ⟨g7, m * 2 + 1, none⟩ = some (.string ⟨#[]⟩)) (by kernel_rfl) ?_
  try (change wpAnyH _ _ _ _ _ _ _ _ (World.drew _))
  refine wpAnyH_take (i := 0) (v := ?v1) rfl (by kernel_rfl) (by kernel_rfl) (by kernel_rfl) (fun _ _ _ h => h) (Or.inl ⟨by rfl, ?hy1⟩) HS7.out ?rest1
  case hy1 => (intro ww _; go_simp; try with_reducible rfl)
  go_simp
  refine wpAnyH_take (i := 1) (v := ?v2) rfl (by kernel_rfl) (by kernel_rfl) (by kernel_rfl) (fun _ _ _ h => h) (Or.inl ⟨by rfl, ?hy2⟩) HS7.out ?rest2
  case hy2 => (intro ww hS; obtain ⟨z0, z1, z2, z3⟩ := hS.1.cells; have z5 := hS.2.1; have z6 := hS.2.2; go_simp; try with_reducible rfl)
  go_simp
  refine wpAnyH_take (i := 2) (v := ?v3) rfl (by kernel_rfl) (by kernel_rfl) (by kernel_rfl) (fun _ _ _ h => h) (Or.inl ⟨by rfl, ?hy3⟩) HS7.out ?rest3
  case hy3 => (intro ww _; go_simp; try with_reducible rfl)
  go_simp
  refine wpAnyH_take (i := 3) (v := ?v4) rfl (by kernel_rfl) (by kernel_rfl) (by kernel_rfl) (fun _ _ _ h => h) (Or.inl ⟨by rfl, ?hy4⟩) HS7.out ?rest4
  case hy4 => (intro ww hS; obtain ⟨z0, z1, z2, z3⟩ := hS.1.cells; have z5 := hS.2.1; have z6 := hS.2.2; go_simp; try with_reducible rfl)
  go_simp
  refine wpAnyH_take (i := 4) (v := ?v5) rfl (by kernel_rfl) (by kernel_rfl) (by kernel_rfl) (fun _ _ _ h => h) (Or.inl ⟨by rfl, ?hy5⟩) HS7.out ?rest5
  case hy5 => (intro ww _; go_simp; try with_reducible rfl)
  go_simp
  refine wpAnyH_take (i := 5) (v := ?v6) rfl (by kernel_rfl) (by kernel_rfl) (by kernel_rfl) (fun _ _ _ h => h) (Or.inl ⟨by rfl, ?hy6⟩) HS7.out ?rest6
  case hy6 => (intro ww _; go_simp; try with_reducible rfl)
  go_simp
  refine wpAnyH_take (i := 6) (v := ?v7) rfl (by kernel_rfl) (by kernel_rfl) (by kernel_rfl) (fun _ _ _ h => h) (Or.inl ⟨by rfl, ?hy7⟩) HS7.out ?rest7
  case hy7 => (intro ww hS; obtain ⟨z0, z1, z2, z3⟩ := hS.1.cells; have z5 := hS.2.1; have z6 := hS.2.2; go_simp; try with_reducible rfl)
  go_simp
  refine wpAnyH_take (i := 7) (v := ?v8) rfl (by kernel_rfl) (by kernel_rfl) (by kernel_rfl) (fun _ _ _ h => h) (Or.inl ⟨by rfl, ?hy8⟩) HS7.out ?rest8
  case hy8 => (intro ww _; go_simp; try with_reducible rfl)
  go_simp
  refine wpAnyH_take (i := 8) (v := ?v9) rfl (by kernel_rfl) (by kernel_rfl) (by kernel_rfl) (fun _ _ _ h => h) (Or.inl ⟨by rfl, ?hy9⟩) HS7.out ?rest9
  case hy9 => (intro ww _; go_simp; try with_reducible rfl)
  go_simp
  refine wpAnyH_all (rs := [9]) (by kernel_rfl) (by simp) ?_
  intro i hi
  obtain rfl := List.mem_singleton.1 hi
  clear hi
  refine wpOp_h rfl (by rfl) (fun K hK => ?_)
  go_simp
  refine (tgather_any ep a n cap l HL.out.1.1 HM8.out t (some ⟨g7, 0, none⟩) m cap7 ss HL.out.2.1 (by have := HL.out.2.2; omega) _ (HD.out.1.keep HA.out.2.1 (Nat.le_refl _)) (HPs.out _ HA.out.2.2.2)).mono ?_
  rintro e w8 ⟨v8, rfl, hown8, hb8⟩
  obtain ⟨ad8, cp8, rfl, hp8⟩ := own_pairsT (ps := gP t (gathL l t ss)) (by rw [gP_len]; exact hown8)
  rw [gP_len]
  have H8 : Hid (Below w.heap.size w w8 ∧ HdAt w8 w.heap.size ep (.slice a n cap) t (.slice b m cp) ∧ PairsIn w8 (some ⟨g7, 0, none⟩) (ss ++ [(-7, ⟨#[]⟩)])) := hid ⟨HA.out.2.1.trans (hb8.mono HA.out.2.1.size), HA.out.2.2.1.keep hb8, HA.out.2.2.2.keep hb8 (Nat.le_refl _)⟩
  have HS8 := hid (HSt.out _ H8.out.2)
  have HP8 := hid hp8
  clear hb8 hown8 hp8
  refine hK _ _ ⟨HS8.out, ?_⟩
  clear hK K
  go_simp
  refine wpAnyH_take (i := 10) (v := ?v10) rfl (by kernel_rfl) (by kernel_rfl) (by kernel_rfl) (fun _ _ _ h => h) (Or.inl ⟨by rfl, ?hy10⟩) HS8.out ?rest10
  case hy10 => (intro ww _; go_simp; try with_reducible rfl)
  go_simp
  refine wpAnyH_done (by kernel_rfl) ?_ _
  go_simp
  go_wp2
  have HSd : Hid (HdAt w8.drew w.heap.size ep (.slice a n cap) t (.slice b m cp) ∧ w8.drew.cell? ⟨g7, m * 2, none⟩ = some (.int .i64 (-7)) ∧ w8.drew.cell? ⟨g7, m * 2 + 1, none⟩ = some (.string ⟨#[]⟩)) := hid HS8.out
  refine wp_region_held (S := fun ww => HdAt ww w.heap.size ep (.slice a n cap) t (.slice b m cp) ∧ ww.cell? ⟨g7, m * 2, none⟩ = some (.int .i64 (-7)) ∧ ww.cell? ⟨g7, m * 2 + 1, none⟩ = some (.string ⟨#[]⟩)) (by kernel_rfl) ?_
  try (change wpAnyH _ _ _ _ _ _ _ _ (World.drew _))
  refine wpAnyH_take (i := 0) (v := ?v11) rfl (by kernel_rfl) (by kernel_rfl) (by kernel_rfl) (fun _ _ _ h => h) (Or.inl ⟨by rfl, ?hy11⟩) HSd.out ?rest11
  case hy11 => (intro ww _; go_simp; try with_reducible rfl)
  go_simp
  refine wpAnyH_take (i := 1) (v := ?v12) rfl (by kernel_rfl) (by kernel_rfl) (by kernel_rfl) (fun _ _ _ h => h) (Or.inl ⟨by rfl, ?hy12⟩) HSd.out ?rest12
  case hy12 => (intro ww _; go_simp; try with_reducible rfl)
  go_simp
  refine wpAnyH_take (i := 2) (v := ?v13) rfl (by kernel_rfl) (by kernel_rfl) (by kernel_rfl) (fun _ _ _ h => h) (Or.inl ⟨by rfl, ?hy13⟩) HSd.out ?rest13
  case hy13 => (intro ww hS; obtain ⟨z0, z1, z2, z3⟩ := hS.1.cells; have z5 := hS.2.1; have z6 := hS.2.2; go_simp; try with_reducible rfl)
  go_simp
  refine wpAnyH_take (i := 3) (v := ?v14) rfl (by kernel_rfl) (by kernel_rfl) (by kernel_rfl) (fun _ _ _ h => h) (Or.inl ⟨by rfl, ?hy14⟩) HSd.out ?rest14
  case hy14 => (intro ww _; go_simp; try with_reducible rfl)
  go_simp
  refine wpAnyH_take (i := 4) (v := ?v15) rfl (by kernel_rfl) (by kernel_rfl) (by kernel_rfl) (fun _ _ _ h => h) (Or.inl ⟨by rfl, ?hy15⟩) HSd.out ?rest15
  case hy15 => (intro ww hS; obtain ⟨z0, z1, z2, z3⟩ := hS.1.cells; have z5 := hS.2.1; have z6 := hS.2.2; go_simp; try with_reducible rfl)
  go_simp
  refine wpAnyH_take (i := 5) (v := ?v16) rfl (by kernel_rfl) (by kernel_rfl) (by kernel_rfl) (fun _ _ _ h => h) (Or.inl ⟨by rfl, ?hy16⟩) HSd.out ?rest16
  case hy16 => (intro ww _; go_simp; try with_reducible rfl)
  go_simp
  refine wpAnyH_take (i := 6) (v := ?v17) rfl (by kernel_rfl) (by kernel_rfl) (by kernel_rfl) (fun _ _ _ h => h) (Or.inl ⟨by rfl, ?hy17⟩) HSd.out ?rest17
  case hy17 => (intro ww hS; obtain ⟨z0, z1, z2, z3⟩ := hS.1.cells; have z5 := hS.2.1; have z6 := hS.2.2; go_simp; try with_reducible rfl)
  go_simp
  have HB : Hid (Below w.heap.size w w8.drew ∧ HdAt w8.drew w.heap.size ep (.slice a n cap) t (.slice b m cp) ∧ PairsIn w8.drew (some ⟨g7, 0, none⟩) (ss ++ [(-7, ⟨#[]⟩)]) ∧ PairsIn w8.drew ad8 (gP t (gathL l t ss))) := hid ⟨H8.out.1.drew, H8.out.2.1, H8.out.2.2.keep ((Below.refl w8.heap.size w8).drew) (Nat.le_refl _), HP8.out.keep ((Below.refl w8.heap.size w8).drew) (Nat.le_refl _)⟩
  refine wpAnyH_all (rs := [7]) (by kernel_rfl) (by simp) ?_
  intro i hi
  obtain rfl := List.mem_singleton.1 hi
  clear hi
  refine wpOp_h rfl (by rfl) (fun K hK => ?_)
  go_simp
  refine (wgather_any ep a n cap l HL.out.1.1 HL.out.1.2 t b m cp ss HL.out.2.1 (by have := HL.out.2.2; omega) _ (HD.out.1.keep HB.out.1 (Nat.le_refl _)) (HD.out.2.keep HB.out.1 (Nat.le_refl _))).mono ?_
  rintro e w9 ⟨v9, rfl, hown9, hb9⟩
  obtain ⟨ad9, cp9, rfl, hp9⟩ := own_pairsT (ps := gP t (gathL l t ss)) (by rw [gP_len]; exact hown9)
  rw [gP_len]
  have H9 : Hid (Below w.heap.size w w9 ∧ HdAt w9 w.heap.size ep (.slice a n cap) t (.slice b m cp) ∧ PairsIn w9 (some ⟨g7, 0, none⟩) (ss ++ [(-7, ⟨#[]⟩)])) := hid ⟨HB.out.1.trans (hb9.mono HB.out.1.size), HB.out.2.1.keep hb9, HB.out.2.2.1.keep hb9 (Nat.le_refl _)⟩
  have HS9 := hid (HSt.out _ H9.out.2)
  have HP9 := hid (And.intro (HB.out.2.2.2.keep hb9 (Nat.le_refl _)) hp9)
  clear hb9 hown9 hp9
  refine hK _ _ ⟨HS9.out, ?_⟩
  clear hK K
  go_simp
  refine wpAnyH_all (rs := [8]) (by kernel_rfl) (by simp) ?_
  intro i hi
  obtain rfl := List.mem_singleton.1 hi
  clear hi
  refine wpOp_h rfl (by rfl) (fun K hK => ?_)
  go_simp
  refine (wsame_yes ad8 ad9 (gathL l t ss).length cp8 cp9 (gP t (gathL l t ss)) (gP_len _ _) (by have := HG.out; unfold maxLen; omega) _ HP9.out.1 HP9.out.2).mono ?_
  rintro e w10 ⟨rfl, hb10⟩
  have H10 : Hid (Below w.heap.size w w10 ∧ HdAt w10 w.heap.size ep (.slice a n cap) t (.slice b m cp) ∧ PairsIn w10 (some ⟨g7, 0, none⟩) (ss ++ [(-7, ⟨#[]⟩)])) := hid ⟨H9.out.1.trans (hb10.mono H9.out.1.size), H9.out.2.1.keep hb10, H9.out.2.2.keep hb10 (Nat.le_refl _)⟩
  have HS10 := hid (HSt.out _ H10.out.2)
  clear hb10
  refine hK _ _ ⟨HS10.out, ?_⟩
  clear hK K
  go_simp
  refine wpAnyH_take (i := 9) (v := ?v18) rfl (by kernel_rfl) (by kernel_rfl) (by kernel_rfl) (fun _ _ _ h => h) (Or.inl ⟨by rfl, ?hy18⟩) HS10.out ?rest18
  case hy18 => (intro ww _; go_simp; try with_reducible rfl)
  go_simp
  refine wpAnyH_take (i := 10) (v := ?v19) rfl (by kernel_rfl) (by kernel_rfl) (by kernel_rfl) (fun _ _ _ h => h) (Or.inl ⟨by rfl, ?hy19⟩) HS10.out ?rest19
  case hy19 => (intro ww _; go_simp; try with_reducible rfl)
  go_simp
  refine wpAnyH_take (i := 11) (v := ?v20) rfl (by kernel_rfl) (by kernel_rfl) (by kernel_rfl) (fun _ _ _ h => h) (Or.inl ⟨by rfl, ?hy20⟩) HS10.out ?rest20
  case hy20 => (intro ww _; go_simp; try with_reducible rfl)
  go_simp
  refine wpAnyH_take (i := 12) (v := ?v21) rfl (by kernel_rfl) (by kernel_rfl) (by kernel_rfl) (fun _ _ _ h => h) (Or.inl ⟨by rfl, ?hy21⟩) HS10.out ?rest21
  case hy21 => (intro ww hS; obtain ⟨z0, z1, z2, z3⟩ := hS.1.cells; have z5 := hS.2.1; have z6 := hS.2.2; go_simp; try with_reducible rfl)
  go_simp
  refine wpAnyH_take (i := 13) (v := ?v22) rfl (by kernel_rfl) (by kernel_rfl) (by kernel_rfl) (fun _ _ _ h => h) (Or.inl ⟨by rfl, ?hy22⟩) HS10.out ?rest22
  case hy22 => (intro ww _; go_simp; try with_reducible rfl)
  go_simp
  refine wpAnyH_take (i := 14) (v := ?v23) rfl (by kernel_rfl) (by kernel_rfl) (by kernel_rfl) (fun _ _ _ h => h) (Or.inl ⟨by rfl, ?hy23⟩) HS10.out ?rest23
  case hy23 => (intro ww _; go_simp; try with_reducible rfl)
  go_simp
  refine wpAnyH_take (i := 15) (v := ?v24) rfl (by kernel_rfl) (by kernel_rfl) (by kernel_rfl) (fun _ _ _ h => h) (Or.inl ⟨by rfl, ?hy24⟩) HS10.out ?rest24
  case hy24 => (intro ww _; go_simp; try with_reducible rfl)
  go_simp
  refine wpAnyH_take (i := 16) (v := ?v25) rfl (by kernel_rfl) (by kernel_rfl) (by kernel_rfl) (fun _ _ _ h => h) (Or.inl ⟨by rfl, ?hy25⟩) HS10.out ?rest25
  case hy25 => (intro ww hS; obtain ⟨z0, z1, z2, z3⟩ := hS.1.cells; have z5 := hS.2.1; have z6 := hS.2.2; go_simp; try with_reducible rfl)
  go_simp
  refine wpAnyH_all (rs := [17]) (by kernel_rfl) (by simp) ?_
  intro i hi
  obtain rfl := List.mem_singleton.1 hi
  clear hi
  refine wpOp_h rfl (by rfl) (fun K hK => ?_)
  go_simp
  refine (wsame_yes (some ⟨g7, 0, none⟩) b m cap7 cp ss HL.out.2.1 (by have := HL.out.2.2; unfold maxLen; omega) _ (HPs.out _ H10.out.2.2) (HD.out.2.keep H10.out.1 (Nat.le_refl _))).mono ?_
  rintro e w11 ⟨rfl, hb11⟩
  have H11 : Hid (Below w.heap.size w w11 ∧ HdAt w11 w.heap.size ep (.slice a n cap) t (.slice b m cp) ∧ PairsIn w11 (some ⟨g7, 0, none⟩) (ss ++ [(-7, ⟨#[]⟩)])) := hid ⟨H10.out.1.trans (hb11.mono H10.out.1.size), H10.out.2.1.keep hb11, H10.out.2.2.keep hb11 (Nat.le_refl _)⟩
  have HS11 := hid (HSt.out _ H11.out.2)
  clear hb11
  refine hK _ _ ⟨HS11.out, ?_⟩
  clear hK K
  go_simp
  refine wpAnyH_take (i := 18) (v := ?v26) rfl (by kernel_rfl) (by kernel_rfl) (by kernel_rfl) (fun _ _ _ h => h) (Or.inl ⟨by rfl, ?hy26⟩) HS11.out ?rest26
  case hy26 => (intro ww _; go_simp; try with_reducible rfl)
  go_simp
  refine wpAnyH_take (i := 19) (v := ?v27) rfl (by kernel_rfl) (by kernel_rfl) (by kernel_rfl) (fun _ _ _ h => h) (Or.inl ⟨by rfl, ?hy27⟩) HS11.out ?rest27
  case hy27 => (intro ww _; go_simp; try with_reducible rfl)
  go_simp
  refine wpAnyH_take (i := 20) (v := ?v28) rfl (by kernel_rfl) (by kernel_rfl) (by kernel_rfl) (fun _ _ _ h => h) (Or.inl ⟨by rfl, ?hy28⟩) HS11.out ?rest28
  case hy28 => (intro ww _; go_simp; try with_reducible rfl)
  go_simp
  refine wpAnyH_take (i := 21) (v := ?v29) rfl (by kernel_rfl) (by kernel_rfl) (by kernel_rfl) (fun _ _ _ h => h) (Or.inl ⟨by rfl, ?hy29⟩) HS11.out ?rest29
  case hy29 => (intro ww _; go_simp; try with_reducible rfl)
  go_simp
  refine wpAnyH_take (i := 22) (v := ?v30) rfl (by kernel_rfl) (by kernel_rfl) (by kernel_rfl) (fun _ _ _ h => h) (Or.inl ⟨by rfl, ?hy30⟩) HS11.out ?rest30
  case hy30 => (intro ww hS; obtain ⟨z0, z1, z2, z3⟩ := hS.1.cells; have z5 := hS.2.1; have z6 := hS.2.2; go_simp; try with_reducible rfl)
  go_simp
  refine wpAnyH_take (i := 23) (v := ?v31) rfl (by kernel_rfl) (by kernel_rfl) (by kernel_rfl) (fun _ _ _ h => h) (Or.inl ⟨by rfl, ?hy31⟩) HS11.out ?rest31
  case hy31 => (intro ww _; go_simp; try with_reducible rfl)
  go_simp
  refine wpAnyH_take (i := 24) (v := ?v32) rfl (by kernel_rfl) (by kernel_rfl) (by kernel_rfl) (fun _ _ _ h => h) (Or.inl ⟨by rfl, ?hy32⟩) HS11.out ?rest32
  case hy32 => (intro ww _; go_simp; try with_reducible rfl)
  go_simp
  refine wpAnyH_take (i := 25) (v := ?v33) rfl (by kernel_rfl) (by kernel_rfl) (by kernel_rfl) (fun _ _ _ h => h) (Or.inl ⟨by rfl, ?hy33⟩) HS11.out ?rest33
  case hy33 => (intro ww hS; obtain ⟨z0, z1, z2, z3⟩ := hS.1.cells; have z5 := hS.2.1; have z6 := hS.2.2; go_simp; try with_reducible rfl)
  go_simp
  refine wpAnyH_take (i := 26) (v := ?v34) rfl (by kernel_rfl) (by kernel_rfl) (by kernel_rfl) (fun _ _ _ h => h) (Or.inl ⟨by rfl, ?hy34⟩) HS11.out ?rest34
  case hy34 => (intro ww _; go_simp; try with_reducible rfl)
  go_simp
  refine wpAnyH_take (i := 27) (v := ?v35) rfl (by kernel_rfl) (by kernel_rfl) (by kernel_rfl) (fun _ _ _ h => h) (Or.inl ⟨by rfl, ?hy35⟩) HS11.out ?rest35
  case hy35 => (intro ww _; go_simp; try with_reducible rfl)
  go_simp
  refine wpAnyH_take (i := 28) (v := ?v36) rfl (by kernel_rfl) (by kernel_rfl) (by kernel_rfl) (fun _ _ _ h => h) (Or.inl ⟨by rfl, ?hy36⟩) HS11.out ?rest36
  case hy36 => (intro ww _; go_simp; try with_reducible rfl)
  go_simp
  refine wpAnyH_take (i := 29) (v := ?v37) rfl (by kernel_rfl) (by kernel_rfl) (by kernel_rfl) (fun _ _ _ h => h) (Or.inl ⟨by rfl, ?hy37⟩) HS11.out ?rest37
  case hy37 => (intro ww _; go_simp; try with_reducible rfl)
  go_simp
  refine wpAnyH_done (by kernel_rfl) ?_ _
  go_simp
  go_wp2
  go_ret
  exact ⟨rfl, H11.out.1⟩
end Go.Proofs.Ytgnapfgiefdlaaa
