/- With one change more what is picked changes only where it has a certificate. -/
import Derived.Test.YtpflcneoojakdaaChLM
import Derived.Test.YtpflcneoojakdaaChUM
namespace Go.Proofs.Ytpflcneoojakdaa
open Go.RowKit

set_option maxRecDepth 100000 in
set_option maxHeartbeats 1600000 in
theorem changeMore_walk (ep : Int) (am : Option Addr) (nm cm : Nat) (m : List Int) (hn : m.length = nm) (hm : nm ≤ maxLen) (v : Int) (a : Option Addr) (n cap : Nat) (l : List Cg) (hl : l.length ≤ maxLen) (hb : ∀ x, x ∈ l → cgR x) (hcp : n ≤ cap) (w : World) (hI : IntsIn w am m) (hR : Reads (fun k => k < w.heap.size) w (.slice a n cap) (dCgs l)) :
    Calls Try.prog 8 #[.agg #[.int .i64 ep, .slice am nm cm], .int .i64 v, .slice a n cap] w fun e w' => e = .returned (.bool true) ∧ Below w.heap.size w w' := by
  have HL : Hid (∀ u : World, Calls Try.prog 9 #[] u fun e w' => e = .returned (.bool true) ∧ Below u.heap.size u w') := hid ulives_any
  have H0 : Hid (BxAt (w.alloc (.cells #[.int .i64 ep, .slice am nm cm] 34)) w.heap.size [.int .i64 ep, .slice am nm cm] 34 ∧ Below w.heap.size w (w.alloc (.cells #[.int .i64 ep, .slice am nm cm] 34))) := hid ⟨heap_alloc_last w _, (Below.refl w.heap.size w).alloc (Nat.le_refl _) _⟩
  have hnl : l.length = n := by
    obtain ⟨ad, cp, hv⟩ := hR.form
    rw [List.length_map] at hv
    cases hv
    rfl
  have hmi : (n : Int) ≤ 9223372036854775807 := by unfold maxLen at hl; omega
  have x0 := H0.out.1.cell 0 _ rfl; have x1 := H0.out.1.cell 1 _ rfl
  by_cases hn0 : n = 0
  · have hn0b : ((n : Int) == 0) = true := by simp [hn0]
    clear hn hm hl hb hI hR hnl hn0 hcp
    go_enter Try.func8, Try.ntmps8
    go_wp2_with (go_at_call 9; go_must (refine (HL.out _).mono ?_); rintro e w1 ⟨rfl, hb⟩; have H1 : Hid (BxAt w1 w.heap.size [.int .i64 ep, .slice am nm cm] 34 ∧ Below w.heap.size w w1) := hid ⟨H0.out.1.keep hb, H0.out.2.trans (hb.mono H0.out.2.size)⟩; clear hb x0 x1; have x0 := H1.out.1.cell 0 _ rfl; have x1 := H1.out.1.cell 1 _ rfl)
    go_ret
    exact ⟨rfl, H1.out.2⟩
  have hn0b : ((n : Int) == 0) = false := by simpa using hn0
  obtain ⟨k, ek⟩ : ∃ k : Nat, k = n - 1 := ⟨_, rfl⟩
  have hkl : k < l.length := by omega
  have hR2 := hR
  rw [← hnl] at hR2
  obtain ⟨g, off, cp, a8, n8, k8, hv, hp, hg, hcl⟩ := cg_at hR2 k hkl
  cases hv
  have hw1 : IntKind.i64.wrap ((n : Int) - 1) = (k : Int) := by rw [show (n : Int) - 1 = (k : Int) by omega]; exact wrap_any _ (by omega) (by omega)
  have hRk : Reads (fun k => k < w.heap.size) w (.slice (some ⟨g, off, none⟩) k cap) (dCgs (l.take k)) := by
    have := reads_take hR k (by rw [List.length_map]; omega)
    rw [← List.map_take] at this
    exact this
  have hk0 : (0 : Int) ≤ (k : Int) := Int.natCast_nonneg _
  have hkc : (k : Int) ≤ (cap : Int) := by omega
  have hkn : (k : Int) < (n : Int) := by omega
  have hkb : ∀ x, x ∈ l.take k → cgR x := fun x hx => hb x (List.mem_of_mem_take hx)
  have hkm : (l.take k).length ≤ maxLen := by rw [List.length_take]; omega
  have HNo1 : Hid (rfE ep m v (l.take k) ≠ 0 → ∀ u : World, Below w.heap.size w u → Calls Try.prog 14 #[.agg #[.int .i64 ep, .slice am nm cm], .int .i64 v, .slice (some ⟨g, off, none⟩) k cap] u fun e w' => e = .returned (.tuple #[.slice none 0 0, .int .i64 (rfE ep m v (l.take k))]) ∧ Below u.heap.size u w') := hid (fun he u hu => zpick_no ep am nm cm m hn hm v _ k cap (l.take k) hkm hkb u (hI.keep hu (Nat.le_refl _)) (hRk.under hu (Nat.le_refl _)) he)
  have HNo2 : Hid (rfE ep m v l ≠ 0 → ∀ u : World, Below w.heap.size w u → Calls Try.prog 14 #[.agg #[.int .i64 ep, .slice am nm cm], .int .i64 v, .slice (some ⟨g, off, none⟩) n cap] u fun e w' => e = .returned (.tuple #[.slice none 0 0, .int .i64 (rfE ep m v l)]) ∧ Below u.heap.size u w') := hid (fun he u hu => zpick_no ep am nm cm m hn hm v _ n cap l hl hb u (hI.keep hu (Nat.le_refl _)) (hR.under hu (Nat.le_refl _)) he)
  have HYe1 : Hid (rfE ep m v (l.take k) = 0 → ∀ u : World, Below w.heap.size w u → Calls Try.prog 14 #[.agg #[.int .i64 ep, .slice am nm cm], .int .i64 v, .slice (some ⟨g, off, none⟩) k cap] u fun e w' => ∃ g2, e = .returned (.tuple #[.slice (some ⟨g2, 0, none⟩) (pkN ep (l.take k)).length (pkN ep (l.take k)).length, .int .i64 0]) ∧ RqsIn w' (some ⟨g2, 0, none⟩) (pkN ep (l.take k)) ∧ Below u.heap.size u w') := hid (fun he u hu => (zpick_yes ep am nm cm m hn hm v _ k cap (l.take k) hkm hkb u (fun k hk => Nat.lt_of_lt_of_le hk hu.size) (hI.keep hu (Nat.le_refl _)) (hRk.under hu (Nat.le_refl _)) he).mono (fun e w' ⟨g2, h1, h2, _, h4⟩ => ⟨g2, h1, rqs_box h2, h4⟩))
  have HYe2 : Hid (rfE ep m v l = 0 → ∀ u : World, Below w.heap.size w u → Calls Try.prog 14 #[.agg #[.int .i64 ep, .slice am nm cm], .int .i64 v, .slice (some ⟨g, off, none⟩) n cap] u fun e w' => ∃ g2, e = .returned (.tuple #[.slice (some ⟨g2, 0, none⟩) (pkN ep l).length (pkN ep l).length, .int .i64 0]) ∧ RqsIn w' (some ⟨g2, 0, none⟩) (pkN ep l) ∧ Below u.heap.size u w') := hid (fun he u hu => (zpick_yes ep am nm cm m hn hm v _ n cap l hl hb u (fun k hk => Nat.lt_of_lt_of_le hk hu.size) (hI.keep hu (Nat.le_refl _)) (hR.under hu (Nat.le_refl _)) he).mono (fun e w' ⟨g2, h1, h2, _, h4⟩ => ⟨g2, h1, rqs_box h2, h4⟩))
  have hall : allC l = allC (l.take k) ++ (l.getD k cg0).2.2.1 := by
    have := allC_snoc l k hkl
    rw [show k + 1 = l.length by omega, List.take_length] at this
    exact this
  have HEp : Hid (rfE ep m v l = 0 → 0 ≤ ep ∧ ep ≤ 60) := hid (fun h => (rightC_ep (rfE_ok h).1).1)
  have HYb := hid (hb _ (show l.getD k cg0 ∈ l by rw [List.getD_eq_getElem?_getD, List.getElem?_eq_getElem hkl]; exact List.getElem_mem hkl))
  have HC2 : Hid (∀ u : World, Below w.heap.size w u → u.cell? ⟨g, off + k * 5 + 2, none⟩ = some (.slice a8 n8 k8)) := hid (fun u hu => (hu.cell (p := ⟨g, off + k * 5 + 2, none⟩) hg).trans (hcl 2 _ rfl))
  generalize l.getD k cg0 = z at hp hall HYb hcl
  have HP := hid hp
  have HAl := hid hall
  clear hn hm hl hb hI hR hR2 hRk hkb hkm hp hcl hg hall hn0 ek hkl
  by_cases he1 : ¬ rfE ep m v (l.take k) = 0
  · have HX1 := hid (HNo1.out he1)
    generalize rfE ep m v (l.take k) = E1 at HX1 he1
    have hE1 : (E1 != 0) = true := by simpa using he1
    clear HNo1 HYe1 he1
    by_cases he2 : rfE ep m v l = 0
    · have HX2 := hid (HYe2.out he2)
      clear HNo2 HYe2
      go_enter Try.func8, Try.ntmps8
      go_wp2_with (go_at_call 9; go_must (refine (HL.out _).mono ?_); rintro e w1 ⟨rfl, hb⟩; have H1 : Hid (BxAt w1 w.heap.size [.int .i64 ep, .slice am nm cm] 34 ∧ Below w.heap.size w w1) := hid ⟨H0.out.1.keep hb, H0.out.2.trans (hb.mono H0.out.2.size)⟩; clear hb x0 x1; have x0 := H1.out.1.cell 0 _ rfl; have x1 := H1.out.1.cell 1 _ rfl)
      have HS : Hid (BxAt w1.drew w.heap.size [.int .i64 ep, .slice am nm cm] 34) := hid H1.out.1
      refine wp_region_G (S := fun ww => BxAt ww w.heap.size [.int .i64 ep, .slice am nm cm] 34) (ex := []) (by kernel_rfl) ?_
      try (change wpAnyG _ _ _ _ _ _ _ _ _ (World.drew _))
      refine wpAnyG_take (i := 0) (v := ?v401) rfl (by kernel_rfl) (fun _ _ _ h => h) (Or.inl ⟨by rfl, ?hy401⟩) HS.out ?rest401
      case hy401 => (intro ww hS; have y0 := hS.cell 0 _ rfl; have y1 := hS.cell 1 _ rfl; go_simp; try with_reducible rfl)
      go_simp
      refine wpAnyG_take (i := 1) (v := ?v402) rfl (by kernel_rfl) (fun _ _ _ h => h) (Or.inl ⟨by rfl, ?hy402⟩) HS.out ?rest402
      case hy402 => (intro ww _; go_simp; try with_reducible rfl)
      go_simp
      refine wpAnyG_take (i := 2) (v := ?v403) rfl (by kernel_rfl) (fun _ _ _ h => h) (Or.inl ⟨by rfl, ?hy403⟩) HS.out ?rest403
      case hy403 => (intro ww _; go_simp; try with_reducible rfl)
      go_simp
      refine wpAnyG_take (i := 3) (v := ?v404) rfl (by kernel_rfl) (fun _ _ _ h => h) (Or.inl ⟨by rfl, ?hy404⟩) HS.out ?rest404
      case hy404 => (intro ww _; go_simp; try with_reducible rfl)
      go_simp
      refine wpAnyG_take (i := 4) (v := ?v405) rfl (by kernel_rfl) (fun _ _ _ h => h) (Or.inl ⟨by rfl, ?hy405⟩) HS.out ?rest405
      case hy405 => (intro ww _; go_simp; try with_reducible rfl)
      go_simp
      refine wpAnyG_all (rs := [5]) (by kernel_rfl) (by simp) ?_
      intro i hi
      obtain rfl := List.mem_singleton.1 hi
      clear hi
      refine wpOp_d rfl (by rfl) (fun K hK => ?_)
      go_simp
      refine (HX1.out _ H1.out.2.drew).mono ?_
      rintro e w2 ⟨rfl, hb⟩
      have H2 : Hid (BxAt w2 w.heap.size [.int .i64 ep, .slice am nm cm] 34 ∧ Below w.heap.size w w2) := hid ⟨BxAt.keep H1.out.1 ((Below.refl _ _).drew.trans hb), (H1.out.2.drew).trans (hb.mono H1.out.2.drew.size)⟩
      clear hb
      go_simp
      refine hK _ _ ⟨fun _ => H2.out.1, ?_⟩
      clear hK K
      go_simp
      refine wpAnyG_take (i := 6) (v := ?v406) rfl (by kernel_rfl) (fun _ _ _ h => h) (Or.inl ⟨by rfl, ?hy406⟩) H2.out.1 ?rest406
      case hy406 => (intro ww _; go_simp; try with_reducible rfl)
      go_simp
      refine wpAnyG_take (i := 7) (v := ?v407) rfl (by kernel_rfl) (fun _ _ _ h => h) (Or.inl ⟨by rfl, ?hy407⟩) H2.out.1 ?rest407
      case hy407 => (intro ww _; go_simp; try with_reducible rfl)
      go_simp
      refine wpAnyG_take (i := 8) (v := ?v408) rfl (by kernel_rfl) (fun _ _ _ h => h) (Or.inl ⟨by rfl, ?hy408⟩) H2.out.1 ?rest408
      case hy408 => (intro ww _; go_simp; try with_reducible rfl)
      go_simp
      refine wpAnyG_take (i := 9) (v := ?v409) rfl (by kernel_rfl) (fun _ _ _ h => h) (Or.inl ⟨by rfl, ?hy409⟩) H2.out.1 ?rest409
      case hy409 => (intro ww _; go_simp; try with_reducible rfl)
      go_simp
      refine wpAnyG_take (i := 10) (v := ?v410) rfl (by kernel_rfl) (fun _ _ _ h => h) (Or.inl ⟨by rfl, ?hy410⟩) H2.out.1 ?rest410
      case hy410 => (intro ww _; go_simp; try with_reducible rfl)
      go_simp
      refine wpAnyG_done (by kernel_rfl) ?_ _
      go_simp
      have z0 := H2.out.1.cell 0 _ rfl; have z1 := H2.out.1.cell 1 _ rfl
      go_wp2_with (go_at_call 14; go_must (refine (HX2.out _ H2.out.2).mono ?_); rintro e w3 ⟨gb, rfl, hrb, hb⟩; have H3 := hid (H2.out.2.trans (hb.mono H2.out.2.size)); clear hb hrb z0 z1)
      go_ret
      exact ⟨rfl, H3.out⟩
    · have HX2 := hid (HNo2.out he2)
      generalize rfE ep m v l = E2 at HX2 he2
      clear HNo2 HYe2 he2
      go_enter Try.func8, Try.ntmps8
      go_wp2_with (go_at_call 9; go_must (refine (HL.out _).mono ?_); rintro e w1 ⟨rfl, hb⟩; have H1 : Hid (BxAt w1 w.heap.size [.int .i64 ep, .slice am nm cm] 34 ∧ Below w.heap.size w w1) := hid ⟨H0.out.1.keep hb, H0.out.2.trans (hb.mono H0.out.2.size)⟩; clear hb x0 x1; have x0 := H1.out.1.cell 0 _ rfl; have x1 := H1.out.1.cell 1 _ rfl)
      have HS : Hid (BxAt w1.drew w.heap.size [.int .i64 ep, .slice am nm cm] 34) := hid H1.out.1
      refine wp_region_G (S := fun ww => BxAt ww w.heap.size [.int .i64 ep, .slice am nm cm] 34) (ex := []) (by kernel_rfl) ?_
      try (change wpAnyG _ _ _ _ _ _ _ _ _ (World.drew _))
      refine wpAnyG_take (i := 0) (v := ?v501) rfl (by kernel_rfl) (fun _ _ _ h => h) (Or.inl ⟨by rfl, ?hy501⟩) HS.out ?rest501
      case hy501 => (intro ww hS; have y0 := hS.cell 0 _ rfl; have y1 := hS.cell 1 _ rfl; go_simp; try with_reducible rfl)
      go_simp
      refine wpAnyG_take (i := 1) (v := ?v502) rfl (by kernel_rfl) (fun _ _ _ h => h) (Or.inl ⟨by rfl, ?hy502⟩) HS.out ?rest502
      case hy502 => (intro ww _; go_simp; try with_reducible rfl)
      go_simp
      refine wpAnyG_take (i := 2) (v := ?v503) rfl (by kernel_rfl) (fun _ _ _ h => h) (Or.inl ⟨by rfl, ?hy503⟩) HS.out ?rest503
      case hy503 => (intro ww _; go_simp; try with_reducible rfl)
      go_simp
      refine wpAnyG_take (i := 3) (v := ?v504) rfl (by kernel_rfl) (fun _ _ _ h => h) (Or.inl ⟨by rfl, ?hy504⟩) HS.out ?rest504
      case hy504 => (intro ww _; go_simp; try with_reducible rfl)
      go_simp
      refine wpAnyG_take (i := 4) (v := ?v505) rfl (by kernel_rfl) (fun _ _ _ h => h) (Or.inl ⟨by rfl, ?hy505⟩) HS.out ?rest505
      case hy505 => (intro ww _; go_simp; try with_reducible rfl)
      go_simp
      refine wpAnyG_all (rs := [5]) (by kernel_rfl) (by simp) ?_
      intro i hi
      obtain rfl := List.mem_singleton.1 hi
      clear hi
      refine wpOp_d rfl (by rfl) (fun K hK => ?_)
      go_simp
      refine (HX1.out _ H1.out.2.drew).mono ?_
      rintro e w2 ⟨rfl, hb⟩
      have H2 : Hid (BxAt w2 w.heap.size [.int .i64 ep, .slice am nm cm] 34 ∧ Below w.heap.size w w2) := hid ⟨BxAt.keep H1.out.1 ((Below.refl _ _).drew.trans hb), (H1.out.2.drew).trans (hb.mono H1.out.2.drew.size)⟩
      clear hb
      go_simp
      refine hK _ _ ⟨fun _ => H2.out.1, ?_⟩
      clear hK K
      go_simp
      refine wpAnyG_take (i := 6) (v := ?v506) rfl (by kernel_rfl) (fun _ _ _ h => h) (Or.inl ⟨by rfl, ?hy506⟩) H2.out.1 ?rest506
      case hy506 => (intro ww _; go_simp; try with_reducible rfl)
      go_simp
      refine wpAnyG_take (i := 7) (v := ?v507) rfl (by kernel_rfl) (fun _ _ _ h => h) (Or.inl ⟨by rfl, ?hy507⟩) H2.out.1 ?rest507
      case hy507 => (intro ww _; go_simp; try with_reducible rfl)
      go_simp
      refine wpAnyG_take (i := 8) (v := ?v508) rfl (by kernel_rfl) (fun _ _ _ h => h) (Or.inl ⟨by rfl, ?hy508⟩) H2.out.1 ?rest508
      case hy508 => (intro ww _; go_simp; try with_reducible rfl)
      go_simp
      refine wpAnyG_take (i := 9) (v := ?v509) rfl (by kernel_rfl) (fun _ _ _ h => h) (Or.inl ⟨by rfl, ?hy509⟩) H2.out.1 ?rest509
      case hy509 => (intro ww _; go_simp; try with_reducible rfl)
      go_simp
      refine wpAnyG_take (i := 10) (v := ?v510) rfl (by kernel_rfl) (fun _ _ _ h => h) (Or.inl ⟨by rfl, ?hy510⟩) H2.out.1 ?rest510
      case hy510 => (intro ww _; go_simp; try with_reducible rfl)
      go_simp
      refine wpAnyG_done (by kernel_rfl) ?_ _
      go_simp
      have z0 := H2.out.1.cell 0 _ rfl; have z1 := H2.out.1.cell 1 _ rfl
      go_wp2_with (go_at_call 14; go_must (refine (HX2.out _ H2.out.2).mono ?_); rintro e w3 ⟨rfl, hb⟩; have H3 := hid (H2.out.2.trans (hb.mono H2.out.2.size)); clear hb z0 z1)
      go_ret
      exact ⟨rfl, H3.out⟩
  have he1 : rfE ep m v (l.take k) = 0 := Classical.not_not.1 he1
  have HX1 := hid (HYe1.out he1)
  obtain ⟨A, eA⟩ : ∃ A, A = pkN ep (l.take k) := ⟨_, rfl⟩
  rw [← eA] at HX1
  by_cases he2 : ¬ rfE ep m v l = 0
  · have HX2 := hid (HNo2.out he2)
    generalize rfE ep m v l = E2 at HX2 he2
    have hE2 : (E2 != 0) = true := by simpa using he2
    clear HNo2 HYe2 HNo1 HYe1 he2 he1 eA
    go_enter Try.func8, Try.ntmps8
    go_wp2_with (go_at_call 9; go_must (refine (HL.out _).mono ?_); rintro e w1 ⟨rfl, hb⟩; have H1 : Hid (BxAt w1 w.heap.size [.int .i64 ep, .slice am nm cm] 34 ∧ Below w.heap.size w w1) := hid ⟨H0.out.1.keep hb, H0.out.2.trans (hb.mono H0.out.2.size)⟩; clear hb x0 x1; have x0 := H1.out.1.cell 0 _ rfl; have x1 := H1.out.1.cell 1 _ rfl)
    have HS : Hid (BxAt w1.drew w.heap.size [.int .i64 ep, .slice am nm cm] 34) := hid H1.out.1
    refine wp_region_G (S := fun ww => BxAt ww w.heap.size [.int .i64 ep, .slice am nm cm] 34) (ex := []) (by kernel_rfl) ?_
    try (change wpAnyG _ _ _ _ _ _ _ _ _ (World.drew _))
    refine wpAnyG_take (i := 0) (v := ?v601) rfl (by kernel_rfl) (fun _ _ _ h => h) (Or.inl ⟨by rfl, ?hy601⟩) HS.out ?rest601
    case hy601 => (intro ww hS; have y0 := hS.cell 0 _ rfl; have y1 := hS.cell 1 _ rfl; go_simp; try with_reducible rfl)
    go_simp
    refine wpAnyG_take (i := 1) (v := ?v602) rfl (by kernel_rfl) (fun _ _ _ h => h) (Or.inl ⟨by rfl, ?hy602⟩) HS.out ?rest602
    case hy602 => (intro ww _; go_simp; try with_reducible rfl)
    go_simp
    refine wpAnyG_take (i := 2) (v := ?v603) rfl (by kernel_rfl) (fun _ _ _ h => h) (Or.inl ⟨by rfl, ?hy603⟩) HS.out ?rest603
    case hy603 => (intro ww _; go_simp; try with_reducible rfl)
    go_simp
    refine wpAnyG_take (i := 3) (v := ?v604) rfl (by kernel_rfl) (fun _ _ _ h => h) (Or.inl ⟨by rfl, ?hy604⟩) HS.out ?rest604
    case hy604 => (intro ww _; go_simp; try with_reducible rfl)
    go_simp
    refine wpAnyG_take (i := 4) (v := ?v605) rfl (by kernel_rfl) (fun _ _ _ h => h) (Or.inl ⟨by rfl, ?hy605⟩) HS.out ?rest605
    case hy605 => (intro ww _; go_simp; try with_reducible rfl)
    go_simp
    refine wpAnyG_all (rs := [5]) (by kernel_rfl) (by simp) ?_
    intro i hi
    obtain rfl := List.mem_singleton.1 hi
    clear hi
    refine wpOp_d rfl (by rfl) (fun K hK => ?_)
    go_simp
    refine (HX1.out _ H1.out.2.drew).mono ?_
    rintro e w2 ⟨ga, rfl, hra, hb⟩
    have H2 : Hid (BxAt w2 w.heap.size [.int .i64 ep, .slice am nm cm] 34 ∧ Below w.heap.size w w2 ∧ RqsIn w2 (some ⟨ga, 0, none⟩) A) := hid ⟨BxAt.keep H1.out.1 ((Below.refl _ _).drew.trans hb), (H1.out.2.drew).trans (hb.mono H1.out.2.drew.size), hra⟩
    clear hb hra
    go_simp
    refine hK _ _ ⟨fun _ => H2.out.1, ?_⟩
    clear hK K
    go_simp
    refine wpAnyG_take (i := 6) (v := ?v606) rfl (by kernel_rfl) (fun _ _ _ h => h) (Or.inl ⟨by rfl, ?hy606⟩) H2.out.1 ?rest606
    case hy606 => (intro ww _; go_simp; try with_reducible rfl)
    go_simp
    refine wpAnyG_take (i := 7) (v := ?v607) rfl (by kernel_rfl) (fun _ _ _ h => h) (Or.inl ⟨by rfl, ?hy607⟩) H2.out.1 ?rest607
    case hy607 => (intro ww _; go_simp; try with_reducible rfl)
    go_simp
    refine wpAnyG_take (i := 8) (v := ?v608) rfl (by kernel_rfl) (fun _ _ _ h => h) (Or.inl ⟨by rfl, ?hy608⟩) H2.out.1 ?rest608
    case hy608 => (intro ww _; go_simp; try with_reducible rfl)
    go_simp
    refine wpAnyG_take (i := 9) (v := ?v609) rfl (by kernel_rfl) (fun _ _ _ h => h) (Or.inl ⟨by rfl, ?hy609⟩) H2.out.1 ?rest609
    case hy609 => (intro ww _; go_simp; try with_reducible rfl)
    go_simp
    refine wpAnyG_take (i := 10) (v := ?v610) rfl (by kernel_rfl) (fun _ _ _ h => h) (Or.inl ⟨by rfl, ?hy610⟩) H2.out.1 ?rest610
    case hy610 => (intro ww _; go_simp; try with_reducible rfl)
    go_simp
    refine wpAnyG_done (by kernel_rfl) ?_ _
    go_simp
    have z0 := H2.out.1.cell 0 _ rfl; have z1 := H2.out.1.cell 1 _ rfl
    go_wp2_with (go_at_call 14; go_must (refine (HX2.out _ H2.out.2.1).mono ?_); rintro e w3 ⟨rfl, hb⟩; have H3 := hid (H2.out.2.1.trans (hb.mono H2.out.2.1.size)); clear hb z0 z1)
    go_ret
    exact ⟨rfl, H3.out⟩
  have he2 : rfE ep m v l = 0 := Classical.not_not.1 he2
  have HX2 := hid (HYe2.out he2)
  obtain ⟨B, eB⟩ : ∃ B, B = pkN ep l := ⟨_, rfl⟩
  rw [← eB] at HX2
  have hep := HEp.out he2
  have hlA : A.length = lstOf ep (allC (l.take k)) := by rw [eA, pkN, List.length_map, pkL, List.length_map, List.length_range]
  have hlB : B.length = lstOf ep (allC l) := by rw [eB, pkN, List.length_map, pkL, List.length_map, List.length_range]
  have hAB : A.length ≤ B.length := by rw [hlA, hlB, HAl.out]; exact lst_mono ep _ _
  have hB4 : B.length ≤ 4 := by rw [hlB]; exact lstOf_four ep _
  have HMore : Hid (∀ i : Nat, i < B.length → (∀ y ∈ z.2.2.1, y.2.1 ≠ 4 * ep + 1 + (i : Int)) → wholeB (B.getD i q0R) (A.getD i q0R) = true) := hid (fun i hi hno => by
    rw [eA, eB, pkN, pkN, HAl.out]
    exact pk_more ep _ _ i (by rw [hlB, HAl.out] at hi; exact hi) hno)
  obtain ⟨na, ena⟩ : ∃ na, na = A.length := ⟨_, rfl⟩
  obtain ⟨nb, enb⟩ : ∃ nb, nb = B.length := ⟨_, rfl⟩
  rw [← ena] at HX1 hAB
  rw [← enb] at HX2 hAB hB4 HMore
  have HNa := hid (And.intro ena enb)
  have hab : ¬ ((nb : Int) < (na : Int)) := by omega
  have hnb4 : (nb : Int) ≤ 4 := by omega
  have HEz := hid hep
  clear HNo2 HYe2 HNo1 HYe1 he2 he1 eA eB hlA hlB ena enb hAB hB4 hep
  go_enter Try.func8, Try.ntmps8
  go_wp2_with (go_at_call 9; go_must (refine (HL.out _).mono ?_); rintro e w1 ⟨rfl, hb⟩; have H1 : Hid (BxAt w1 w.heap.size [.int .i64 ep, .slice am nm cm] 34 ∧ Below w.heap.size w w1) := hid ⟨H0.out.1.keep hb, H0.out.2.trans (hb.mono H0.out.2.size)⟩; clear hb x0 x1; have x0 := H1.out.1.cell 0 _ rfl; have x1 := H1.out.1.cell 1 _ rfl)
  have HS : Hid (BxAt w1.drew w.heap.size [.int .i64 ep, .slice am nm cm] 34) := hid H1.out.1
  refine wp_region_G (S := fun ww => BxAt ww w.heap.size [.int .i64 ep, .slice am nm cm] 34) (ex := []) (by kernel_rfl) ?_
  try (change wpAnyG _ _ _ _ _ _ _ _ _ (World.drew _))
  refine wpAnyG_take (i := 0) (v := ?v701) rfl (by kernel_rfl) (fun _ _ _ h => h) (Or.inl ⟨by rfl, ?hy701⟩) HS.out ?rest701
  case hy701 => (intro ww hS; have y0 := hS.cell 0 _ rfl; have y1 := hS.cell 1 _ rfl; go_simp; try with_reducible rfl)
  go_simp
  refine wpAnyG_take (i := 1) (v := ?v702) rfl (by kernel_rfl) (fun _ _ _ h => h) (Or.inl ⟨by rfl, ?hy702⟩) HS.out ?rest702
  case hy702 => (intro ww _; go_simp; try with_reducible rfl)
  go_simp
  refine wpAnyG_take (i := 2) (v := ?v703) rfl (by kernel_rfl) (fun _ _ _ h => h) (Or.inl ⟨by rfl, ?hy703⟩) HS.out ?rest703
  case hy703 => (intro ww _; go_simp; try with_reducible rfl)
  go_simp
  refine wpAnyG_take (i := 3) (v := ?v704) rfl (by kernel_rfl) (fun _ _ _ h => h) (Or.inl ⟨by rfl, ?hy704⟩) HS.out ?rest704
  case hy704 => (intro ww _; go_simp; try with_reducible rfl)
  go_simp
  refine wpAnyG_take (i := 4) (v := ?v705) rfl (by kernel_rfl) (fun _ _ _ h => h) (Or.inl ⟨by rfl, ?hy705⟩) HS.out ?rest705
  case hy705 => (intro ww _; go_simp; try with_reducible rfl)
  go_simp
  refine wpAnyG_all (rs := [5]) (by kernel_rfl) (by simp) ?_
  intro i hi
  obtain rfl := List.mem_singleton.1 hi
  clear hi
  refine wpOp_d rfl (by rfl) (fun K hK => ?_)
  go_simp
  refine (HX1.out _ H1.out.2.drew).mono ?_
  rintro e w2 ⟨ga, rfl, hra, hb⟩
  have H2 : Hid (BxAt w2 w.heap.size [.int .i64 ep, .slice am nm cm] 34 ∧ Below w.heap.size w w2 ∧ RqsIn w2 (some ⟨ga, 0, none⟩) A) := hid ⟨BxAt.keep H1.out.1 ((Below.refl _ _).drew.trans hb), (H1.out.2.drew).trans (hb.mono H1.out.2.drew.size), hra⟩
  clear hb hra
  go_simp
  refine hK _ _ ⟨fun _ => H2.out.1, ?_⟩
  clear hK K
  go_simp
  refine wpAnyG_take (i := 6) (v := ?v706) rfl (by kernel_rfl) (fun _ _ _ h => h) (Or.inl ⟨by rfl, ?hy706⟩) H2.out.1 ?rest706
  case hy706 => (intro ww _; go_simp; try with_reducible rfl)
  go_simp
  refine wpAnyG_take (i := 7) (v := ?v707) rfl (by kernel_rfl) (fun _ _ _ h => h) (Or.inl ⟨by rfl, ?hy707⟩) H2.out.1 ?rest707
  case hy707 => (intro ww _; go_simp; try with_reducible rfl)
  go_simp
  refine wpAnyG_take (i := 8) (v := ?v708) rfl (by kernel_rfl) (fun _ _ _ h => h) (Or.inl ⟨by rfl, ?hy708⟩) H2.out.1 ?rest708
  case hy708 => (intro ww _; go_simp; try with_reducible rfl)
  go_simp
  refine wpAnyG_take (i := 9) (v := ?v709) rfl (by kernel_rfl) (fun _ _ _ h => h) (Or.inl ⟨by rfl, ?hy709⟩) H2.out.1 ?rest709
  case hy709 => (intro ww _; go_simp; try with_reducible rfl)
  go_simp
  refine wpAnyG_take (i := 10) (v := ?v710) rfl (by kernel_rfl) (fun _ _ _ h => h) (Or.inl ⟨by rfl, ?hy710⟩) H2.out.1 ?rest710
  case hy710 => (intro ww _; go_simp; try with_reducible rfl)
  go_simp
  refine wpAnyG_done (by kernel_rfl) ?_ _
  go_simp
  have z0 := H2.out.1.cell 0 _ rfl; have z1 := H2.out.1.cell 1 _ rfl
  go_wp2_with (go_at_call 14; go_must (refine (HX2.out _ H2.out.2.1).mono ?_); rintro e w3 ⟨gb, rfl, hrb, hb⟩; have H3 : Hid (BxAt w3 w.heap.size [.int .i64 ep, .slice am nm cm] 34 ∧ Below w.heap.size w w3 ∧ RqsIn w3 (some ⟨ga, 0, none⟩) A ∧ RqsIn w3 (some ⟨gb, 0, none⟩) B) := hid ⟨H2.out.1.keep hb, H2.out.2.1.trans (hb.mono H2.out.2.1.size), H2.out.2.2.keep hb, hrb⟩; clear hb hrb z0 z1)
  have hn8 : z.2.2.1.length = n8 := by
    obtain ⟨ad, cp, hv⟩ := HP.out.form
    rw [List.length_map] at hv
    cases hv
    rfl
  have HN8 := hid hn8
  have hm8 : (n8 : Int) ≤ 9223372036854775807 := by have := HYb.out.2.1.1; unfold maxLen at this; omega
  clear hn8 he1 he2 hcp
  have habd : decide ((nb : Int) < (na : Int)) = false := decide_eq_false (by omega)
  have habn : decide (nb < na) = false := decide_eq_false (by omega)
  try simp only [habd]
  try simp only [habn]
  clear habd habn
  go_loopw [12] (fun i wr => ∃ j : Nat, j ≤ nb ∧ i = .int .i64 (j : Int) ∧ Below w3.heap.size w3 wr)
    (fun i _ => ((nb : Int) - intOf i).toNat)
  case atStart => exact ⟨0, Nat.zero_le _, rfl, Below.refl _ _⟩
  case round =>
    obtain ⟨j, hj, rfl, hb⟩ := hrel
    have HB := hid hb
    have HBw := hid (H3.out.2.1.trans (hb.mono H3.out.2.1.size))
    clear hb
    have hj0 : (0 : Int) ≤ (j : Int) := Int.natCast_nonneg _
    by_cases hjn : j = nb
    · have hj1 : ¬ ((j : Int) < (nb : Int)) := by omega
      clear hj hjn
      go_wp2
      go_ret
      exact ⟨rfl, HBw.out⟩
    · have hj1 : (j : Int) < (nb : Int) := by omega
      have HJ := hid (And.intro hj hjn)
      obtain ⟨T, eT⟩ : ∃ T : Int, T = 4 * ep + 1 + (j : Int) := ⟨_, rfl⟩
      have HT := hid eT
      have hwm : IntKind.i64.wrap (4 * ep) = 4 * ep := wrap_any _ (by have := HEz.out; omega) (by have := HEz.out; omega)
      have hwa : IntKind.i64.wrap (4 * ep + 1) = 4 * ep + 1 := wrap_any _ (by have := HEz.out; omega) (by have := HEz.out; omega)
      have hwt : IntKind.i64.wrap (4 * ep + 1 + (j : Int)) = T := by rw [eT]; exact wrap_any _ (by have := HEz.out; omega) (by have := HEz.out; omega)
      clear hj hjn eT
      go_wp2
      go_loopw [13, 14] (fun f i wr => ∃ q : Nat, q ≤ n8 ∧ i = .int .i64 (q : Int) ∧ f = .bool ((z.2.2.1.take q).any fun y => decide (y.2.1 = T)) ∧ Below w3.heap.size w3 wr)
        (fun _ i _ => ((n8 : Int) - intOf i).toNat)
      case atStart => exact ⟨0, Nat.zero_le _, rfl, rfl, HB.out⟩
      case round =>
        clear HB HBw
        obtain ⟨q, hq, rfl, rfl, hb⟩ := hrel
        have HB := hid hb
        have HBw := hid (H3.out.2.1.trans (hb.mono H3.out.2.1.size))
        clear hb
        have hq0 : (0 : Int) ≤ (q : Int) := Int.natCast_nonneg _
        obtain ⟨f, ef⟩ : ∃ f, f = (z.2.2.1.take q).any fun y => decide (y.2.1 = T) := ⟨_, rfl⟩
        rw [← ef]
        have HF := hid ef
        clear ef
        by_cases hqn : ¬ q = n8
        · have hq1 : (q : Int) < (n8 : Int) := by omega
          have hql : q < z.2.2.1.length := by have := HN8.out; omega
          have hp2 := HP.out
          rw [← HN8.out] at hp2
          obtain ⟨g2, off2, cp2, a9, kc, hv2, _, hg2, hcl2⟩ := ct_at (hp2.under HBw.out (Nat.le_refl _)) q hql
          cases hv2
          have HQ := hid (And.intro hq hqn)
          have HSn : Hid (((z.2.2.1.take (q + 1)).any fun y => decide (y.2.1 = T)) = (f || decide ((z.2.2.1.getD q ct0).2.1 = T))) := hid (by rw [List.take_succ_eq_append_getElem hql, List.any_append, ← HF.out]; simp [hql])
          have d1 : ∀ x : Cls wr, x.1.cell? ⟨g2, off2 + q * 9 + 1, none⟩ = some (.int .i64 (z.2.2.1.getD q ct0).2.1) := fun x => (x.2.cell (p := ⟨g2, off2 + q * 9 + 1, none⟩) hg2).trans (hcl2 1 _ rfl)
          generalize (z.2.2.1.getD q ct0).2.1 = y at d1 HSn
          have c2 := HC2.out _ HBw.out
          have d2 : ∀ x : Cls wr, x.1.cell? ⟨g, off + k * 5 + 2, none⟩ = some (.slice (some ⟨g2, off2, none⟩) n8 k8) := fun x => HC2.out _ (HBw.out.trans (x.2.mono HBw.out.size))
          have d3 : ∀ x : Cls wr, x.1.cell? ⟨w.heap.size, 0, none⟩ = some (.int .i64 ep) := fun x => ((H3.out.1.keep HB.out).keep x.2).cell 0 _ rfl
          haveI := Cls.ne wr
          clear hq hqn hql hp2 hg2 hcl2
          cases f with
          | true =>
            have HS2 : Hid (((z.2.2.1.take (q + 1)).any fun y => decide (y.2.1 = T)) = true) := hid (by rw [HSn.out]; rfl)
            go_wp2_with fail
            refine wp_region_cls wr (by kernel_rfl) (by kernel_rfl) ?_
            repeat (go_big_quiet_step (fail))
            refine wpQuiet_nil ?_
            rintro _ ⟨x, rfl⟩
            clear c2
            go_wp2
            go_roundw
            case rel => exact ⟨q + 1, by have := HQ.out; omega, by go_num, by rw [HS2.out], HB.out.trans (x.2.mono HB.out.size)⟩
            case measure => simp [intOf]; omega
          | false =>
            have HS2 : Hid (((z.2.2.1.take (q + 1)).any fun y => decide (y.2.1 = T)) = decide (y = T)) := hid (by rw [HSn.out]; rfl)
            by_cases hyT : y = T
            · have hyb : (y == T) = true := by simpa using hyT
              have HS3 : Hid (((z.2.2.1.take (q + 1)).any fun y => decide (y.2.1 = T)) = true) := hid (by rw [HS2.out, decide_eq_true hyT])
              clear hyT
              go_wp2_with fail
              refine wp_region_cls wr (by kernel_rfl) (by kernel_rfl) ?_
              repeat (go_big_quiet_step (fail))
              refine wpQuiet_nil ?_
              rintro _ ⟨x, rfl⟩
              clear c2
              go_wp2
              go_roundw
              case rel => exact ⟨q + 1, by have := HQ.out; omega, by go_num, by rw [HS3.out], HB.out.trans (x.2.mono HB.out.size)⟩
              case measure => simp [intOf]; omega
            · have hyb : (y == T) = false := by simpa using hyT
              have HS3 : Hid (((z.2.2.1.take (q + 1)).any fun y => decide (y.2.1 = T)) = false) := hid (by rw [HS2.out, decide_eq_false hyT])
              clear hyT
              go_wp2_with fail
              refine wp_region_cls wr (by kernel_rfl) (by kernel_rfl) ?_
              repeat (go_big_quiet_step (fail))
              refine wpQuiet_nil ?_
              rintro _ ⟨x, rfl⟩
              clear c2
              go_wp2
              go_roundw
              case rel => exact ⟨q + 1, by have := HQ.out; omega, by go_num, by rw [HS3.out], HB.out.trans (x.2.mono HB.out.size)⟩
              case measure => simp [intOf]; omega
        have hqn : q = n8 := Classical.not_not.1 hqn
        have hq1 : ¬ ((q : Int) < (n8 : Int)) := by omega
        have HFa : Hid (f = z.2.2.1.any fun y => decide (y.2.1 = T)) := hid (by rw [HF.out, hqn, ← HN8.out, List.take_length])
        have c2 := HC2.out _ HBw.out
        clear hq hqn HF
        have HWj : Hid (f = false → wholeB (B.getD j q0R) (A.getD j q0R) = true) := hid (fun hf => HMore.out j (by have := HJ.out; omega) (fun y hy e => by
          have h1 := HFa.out
          rw [hf] at h1
          have h2 := List.any_eq_false.1 h1.symm y hy
          exact h2 (decide_eq_true (by rw [e, HT.out]))))
        have hjB : B[j]? = some (B.getD j q0R) := by have := HNa.out.2; have := HJ.out; rw [List.getD_eq_getElem?_getD, List.getElem?_eq_getElem (by omega)]; rfl
        have hcb : ∀ u : World, Below w3.heap.size w3 u → ∀ (q : Nat) (v : Value), q < 6 → (rqC (B.getD j q0R))[q]? = some v → u.cell? ⟨gb, j * 6 + q, none⟩ = some v := fun u hu => by
          rcases H3.out.2.2.2.keep hu with h | ⟨g2, h1, h2, h3⟩
          · rw [h] at hjB; simp at hjB
          · cases h1; exact h3 j _ hjB
        have HCb := hid hcb
        clear hcb hjB
        have HBa : Hid (Below w3.heap.size w3 wr) := hid HB.out
        cases f with
        | true =>
          by_cases hja : ¬ j < na
          · have hjai : ¬ ((j : Int) < (na : Int)) := by omega
            have hA0 : A.getD j q0R = zeroQ := by have := HNa.out.1; rw [List.getD_eq_getElem?_getD, List.getElem?_eq_none (by omega)]; rfl
            rw [hA0] at HWj
            clear hja hA0
            generalize B.getD j q0R = y at HWj HCb
            go_wp2_with (refine wl_store_rq rfl _ _ rfl wr.heap.size rfl zeroQ zeroQ rfl (heap_alloc_last wr _) ?_; intro w5 Hq; go_must (have hb5 := Hq.out.2.below ((Below.refl wr.heap.size wr).alloc (Nat.le_refl _) _) (Nat.le_refl _); have H5 : Hid (RqAt w5 wr.heap.size zeroQ ∧ Below wr.heap.size wr w5) := hid ⟨Hq.out.1, hb5⟩); clear Hq hb5 c2)
            go_simp
            have HBc : Hid (Below w3.heap.size w3 w5) := hid (HBa.out.trans (H5.out.2.mono HBa.out.size))
            have b0 : ∀ c : Cls w5, c.1.cell? ⟨gb, j * 6, none⟩ = some (.int .i64 y.c) := fun c => HCb.out _ (HBc.out.trans (c.2.mono HBc.out.size)) 0 _ (by decide) rfl
            have b1 : ∀ c : Cls w5, c.1.cell? ⟨gb, j * 6 + 1, none⟩ = some (.int .i64 y.st) := fun c => HCb.out _ (HBc.out.trans (c.2.mono HBc.out.size)) 1 _ (by decide) rfl
            have b2 : ∀ c : Cls w5, c.1.cell? ⟨gb, j * 6 + 2, none⟩ = some (.int .i64 y.k) := fun c => HCb.out _ (HBc.out.trans (c.2.mono HBc.out.size)) 2 _ (by decide) rfl
            have b3 : ∀ c : Cls w5, c.1.cell? ⟨gb, j * 6 + 3, none⟩ = some (.string y.key) := fun c => HCb.out _ (HBc.out.trans (c.2.mono HBc.out.size)) 3 _ (by decide) rfl
            have b4 : ∀ c : Cls w5, c.1.cell? ⟨gb, j * 6 + 4, none⟩ = some (.float .f64 y.b) := fun c => HCb.out _ (HBc.out.trans (c.2.mono HBc.out.size)) 4 _ (by decide) rfl
            have b5 : ∀ c : Cls w5, c.1.cell? ⟨gb, j * 6 + 5, none⟩ = some (.int .i64 y.id) := fun c => HCb.out _ (HBc.out.trans (c.2.mono HBc.out.size)) 5 _ (by decide) rfl
            have e0 : ∀ c : Cls w5, c.1.cell? ⟨wr.heap.size, 0, none⟩ = some (.int .i64 zeroQ.c) := fun c => cell_at (L := [.int .i64 zeroQ.c, .int .i64 zeroQ.st, .int .i64 zeroQ.k, .string zeroQ.key, .float .f64 zeroQ.b, .int .i64 zeroQ.id]) (H5.out.1.keep c.2) 0 _ rfl
            have e1 : ∀ c : Cls w5, c.1.cell? ⟨wr.heap.size, 1, none⟩ = some (.int .i64 zeroQ.st) := fun c => cell_at (L := [.int .i64 zeroQ.c, .int .i64 zeroQ.st, .int .i64 zeroQ.k, .string zeroQ.key, .float .f64 zeroQ.b, .int .i64 zeroQ.id]) (H5.out.1.keep c.2) 1 _ rfl
            have e2 : ∀ c : Cls w5, c.1.cell? ⟨wr.heap.size, 2, none⟩ = some (.int .i64 zeroQ.k) := fun c => cell_at (L := [.int .i64 zeroQ.c, .int .i64 zeroQ.st, .int .i64 zeroQ.k, .string zeroQ.key, .float .f64 zeroQ.b, .int .i64 zeroQ.id]) (H5.out.1.keep c.2) 2 _ rfl
            have e3 : ∀ c : Cls w5, c.1.cell? ⟨wr.heap.size, 3, none⟩ = some (.string zeroQ.key) := fun c => cell_at (L := [.int .i64 zeroQ.c, .int .i64 zeroQ.st, .int .i64 zeroQ.k, .string zeroQ.key, .float .f64 zeroQ.b, .int .i64 zeroQ.id]) (H5.out.1.keep c.2) 3 _ rfl
            have e4 : ∀ c : Cls w5, c.1.cell? ⟨wr.heap.size, 4, none⟩ = some (.float .f64 zeroQ.b) := fun c => cell_at (L := [.int .i64 zeroQ.c, .int .i64 zeroQ.st, .int .i64 zeroQ.k, .string zeroQ.key, .float .f64 zeroQ.b, .int .i64 zeroQ.id]) (H5.out.1.keep c.2) 4 _ rfl
            have e5 : ∀ c : Cls w5, c.1.cell? ⟨wr.heap.size, 5, none⟩ = some (.int .i64 zeroQ.id) := fun c => cell_at (L := [.int .i64 zeroQ.c, .int .i64 zeroQ.st, .int .i64 zeroQ.k, .string zeroQ.key, .float .f64 zeroQ.b, .int .i64 zeroQ.id]) (H5.out.1.keep c.2) 5 _ rfl
            haveI := Cls.ne w5
            refine wp_region_cls w5 (by kernel_rfl) (by kernel_rfl) ?_
            repeat (go_big_quiet_step (fail))
            refine wpQuiet_nil ?_
            rintro _ ⟨c, rfl⟩
            go_wp2
            go_roundw
            case rel => exact ⟨j + 1, by have := HJ.out; omega, by go_num, HBc.out.trans (c.2.mono HBc.out.size)⟩
            case measure => simp [intOf]; omega
          · have hja : j < na := Classical.not_not.1 hja
            have hjai : (j : Int) < (na : Int) := by omega
            have hjA : A[j]? = some (A.getD j q0R) := by have := HNa.out.1; rw [List.getD_eq_getElem?_getD, List.getElem?_eq_getElem (by omega)]; rfl
            have hca : ∀ u : World, Below w3.heap.size w3 u → ∀ (q : Nat) (v : Value), q < 6 → (rqC (A.getD j q0R))[q]? = some v → u.cell? ⟨ga, j * 6 + q, none⟩ = some v := fun u hu => by
              rcases H3.out.2.2.1.keep hu with h | ⟨g2, h1, h2, h3⟩
              · rw [h] at hjA; simp at hjA
              · cases h1; exact h3 j _ hjA
            have HCa := hid hca
            clear hca hjA hja
            generalize B.getD j q0R = y at HWj HCb
            generalize A.getD j q0R = x at HWj HCa
            go_wp2_with (first
              | (have := H4; refine wl_store_rq rfl _ _ rfl wr.heap.size rfl zeroQ x rfl H4.out.1 ?_; intro w5 Hq; go_must (have H5 : Hid (RqAt w5 wr.heap.size x ∧ Below wr.heap.size wr w5) := hid ⟨Hq.out.1, Hq.out.2.below H4.out.2 (Nat.le_refl _)⟩); clear Hq a0 a1 a2 a3 a4 a5)
              | (refine wl_store_rq rfl _ _ rfl wr.heap.size rfl zeroQ zeroQ rfl (heap_alloc_last wr _) ?_; intro w4 Hq; go_must (have hb4 := Hq.out.2.below ((Below.refl wr.heap.size wr).alloc (Nat.le_refl _) _) (Nat.le_refl _); have H4 : Hid (RqAt w4 wr.heap.size zeroQ ∧ Below wr.heap.size wr w4) := hid ⟨Hq.out.1, hb4⟩); clear Hq hb4 c2; have a0 : w4.cell? ⟨ga, j * 6, none⟩ = some (.int .i64 x.c) := HCa.out _ (HBa.out.trans (H4.out.2.mono HBa.out.size)) 0 _ (by decide) rfl; have a1 : w4.cell? ⟨ga, j * 6 + 1, none⟩ = some (.int .i64 x.st) := HCa.out _ (HBa.out.trans (H4.out.2.mono HBa.out.size)) 1 _ (by decide) rfl; have a2 : w4.cell? ⟨ga, j * 6 + 2, none⟩ = some (.int .i64 x.k) := HCa.out _ (HBa.out.trans (H4.out.2.mono HBa.out.size)) 2 _ (by decide) rfl; have a3 : w4.cell? ⟨ga, j * 6 + 3, none⟩ = some (.string x.key) := HCa.out _ (HBa.out.trans (H4.out.2.mono HBa.out.size)) 3 _ (by decide) rfl; have a4 : w4.cell? ⟨ga, j * 6 + 4, none⟩ = some (.float .f64 x.b) := HCa.out _ (HBa.out.trans (H4.out.2.mono HBa.out.size)) 4 _ (by decide) rfl; have a5 : w4.cell? ⟨ga, j * 6 + 5, none⟩ = some (.int .i64 x.id) := HCa.out _ (HBa.out.trans (H4.out.2.mono HBa.out.size)) 5 _ (by decide) rfl))
            go_simp
            have HBc : Hid (Below w3.heap.size w3 w5) := hid (HBa.out.trans (H5.out.2.mono HBa.out.size))
            have b0 : ∀ c : Cls w5, c.1.cell? ⟨gb, j * 6, none⟩ = some (.int .i64 y.c) := fun c => HCb.out _ (HBc.out.trans (c.2.mono HBc.out.size)) 0 _ (by decide) rfl
            have b1 : ∀ c : Cls w5, c.1.cell? ⟨gb, j * 6 + 1, none⟩ = some (.int .i64 y.st) := fun c => HCb.out _ (HBc.out.trans (c.2.mono HBc.out.size)) 1 _ (by decide) rfl
            have b2 : ∀ c : Cls w5, c.1.cell? ⟨gb, j * 6 + 2, none⟩ = some (.int .i64 y.k) := fun c => HCb.out _ (HBc.out.trans (c.2.mono HBc.out.size)) 2 _ (by decide) rfl
            have b3 : ∀ c : Cls w5, c.1.cell? ⟨gb, j * 6 + 3, none⟩ = some (.string y.key) := fun c => HCb.out _ (HBc.out.trans (c.2.mono HBc.out.size)) 3 _ (by decide) rfl
            have b4 : ∀ c : Cls w5, c.1.cell? ⟨gb, j * 6 + 4, none⟩ = some (.float .f64 y.b) := fun c => HCb.out _ (HBc.out.trans (c.2.mono HBc.out.size)) 4 _ (by decide) rfl
            have b5 : ∀ c : Cls w5, c.1.cell? ⟨gb, j * 6 + 5, none⟩ = some (.int .i64 y.id) := fun c => HCb.out _ (HBc.out.trans (c.2.mono HBc.out.size)) 5 _ (by decide) rfl
            have e0 : ∀ c : Cls w5, c.1.cell? ⟨wr.heap.size, 0, none⟩ = some (.int .i64 x.c) := fun c => cell_at (L := [.int .i64 x.c, .int .i64 x.st, .int .i64 x.k, .string x.key, .float .f64 x.b, .int .i64 x.id]) (H5.out.1.keep c.2) 0 _ rfl
            have e1 : ∀ c : Cls w5, c.1.cell? ⟨wr.heap.size, 1, none⟩ = some (.int .i64 x.st) := fun c => cell_at (L := [.int .i64 x.c, .int .i64 x.st, .int .i64 x.k, .string x.key, .float .f64 x.b, .int .i64 x.id]) (H5.out.1.keep c.2) 1 _ rfl
            have e2 : ∀ c : Cls w5, c.1.cell? ⟨wr.heap.size, 2, none⟩ = some (.int .i64 x.k) := fun c => cell_at (L := [.int .i64 x.c, .int .i64 x.st, .int .i64 x.k, .string x.key, .float .f64 x.b, .int .i64 x.id]) (H5.out.1.keep c.2) 2 _ rfl
            have e3 : ∀ c : Cls w5, c.1.cell? ⟨wr.heap.size, 3, none⟩ = some (.string x.key) := fun c => cell_at (L := [.int .i64 x.c, .int .i64 x.st, .int .i64 x.k, .string x.key, .float .f64 x.b, .int .i64 x.id]) (H5.out.1.keep c.2) 3 _ rfl
            have e4 : ∀ c : Cls w5, c.1.cell? ⟨wr.heap.size, 4, none⟩ = some (.float .f64 x.b) := fun c => cell_at (L := [.int .i64 x.c, .int .i64 x.st, .int .i64 x.k, .string x.key, .float .f64 x.b, .int .i64 x.id]) (H5.out.1.keep c.2) 4 _ rfl
            have e5 : ∀ c : Cls w5, c.1.cell? ⟨wr.heap.size, 5, none⟩ = some (.int .i64 x.id) := fun c => cell_at (L := [.int .i64 x.c, .int .i64 x.st, .int .i64 x.k, .string x.key, .float .f64 x.b, .int .i64 x.id]) (H5.out.1.keep c.2) 5 _ rfl
            haveI := Cls.ne w5
            refine wp_region_cls w5 (by kernel_rfl) (by kernel_rfl) ?_
            repeat (go_big_quiet_step (fail))
            refine wpQuiet_nil ?_
            rintro _ ⟨c, rfl⟩
            go_wp2
            go_roundw
            case rel => exact ⟨j + 1, by have := HJ.out; omega, by go_num, HBc.out.trans (c.2.mono HBc.out.size)⟩
            case measure => simp [intOf]; omega
        | false =>
          by_cases hja : ¬ j < na
          · have hjai : ¬ ((j : Int) < (na : Int)) := by omega
            have hA0 : A.getD j q0R = zeroQ := by have := HNa.out.1; rw [List.getD_eq_getElem?_getD, List.getElem?_eq_none (by omega)]; rfl
            rw [hA0] at HWj
            clear hja hA0
            generalize B.getD j q0R = y at HWj HCb
            go_wp2_with (refine wl_store_rq rfl _ _ rfl wr.heap.size rfl zeroQ zeroQ rfl (heap_alloc_last wr _) ?_; intro w5 Hq; go_must (have hb5 := Hq.out.2.below ((Below.refl wr.heap.size wr).alloc (Nat.le_refl _) _) (Nat.le_refl _); have H5 : Hid (RqAt w5 wr.heap.size zeroQ ∧ Below wr.heap.size wr w5) := hid ⟨Hq.out.1, hb5⟩); clear Hq hb5 c2)
            go_simp
            have HBc : Hid (Below w3.heap.size w3 w5) := hid (HBa.out.trans (H5.out.2.mono HBa.out.size))
            have b0 : ∀ c : Cls w5, c.1.cell? ⟨gb, j * 6, none⟩ = some (.int .i64 y.c) := fun c => HCb.out _ (HBc.out.trans (c.2.mono HBc.out.size)) 0 _ (by decide) rfl
            have b1 : ∀ c : Cls w5, c.1.cell? ⟨gb, j * 6 + 1, none⟩ = some (.int .i64 y.st) := fun c => HCb.out _ (HBc.out.trans (c.2.mono HBc.out.size)) 1 _ (by decide) rfl
            have b2 : ∀ c : Cls w5, c.1.cell? ⟨gb, j * 6 + 2, none⟩ = some (.int .i64 y.k) := fun c => HCb.out _ (HBc.out.trans (c.2.mono HBc.out.size)) 2 _ (by decide) rfl
            have b3 : ∀ c : Cls w5, c.1.cell? ⟨gb, j * 6 + 3, none⟩ = some (.string y.key) := fun c => HCb.out _ (HBc.out.trans (c.2.mono HBc.out.size)) 3 _ (by decide) rfl
            have b4 : ∀ c : Cls w5, c.1.cell? ⟨gb, j * 6 + 4, none⟩ = some (.float .f64 y.b) := fun c => HCb.out _ (HBc.out.trans (c.2.mono HBc.out.size)) 4 _ (by decide) rfl
            have b5 : ∀ c : Cls w5, c.1.cell? ⟨gb, j * 6 + 5, none⟩ = some (.int .i64 y.id) := fun c => HCb.out _ (HBc.out.trans (c.2.mono HBc.out.size)) 5 _ (by decide) rfl
            have e0 : ∀ c : Cls w5, c.1.cell? ⟨wr.heap.size, 0, none⟩ = some (.int .i64 zeroQ.c) := fun c => cell_at (L := [.int .i64 zeroQ.c, .int .i64 zeroQ.st, .int .i64 zeroQ.k, .string zeroQ.key, .float .f64 zeroQ.b, .int .i64 zeroQ.id]) (H5.out.1.keep c.2) 0 _ rfl
            have e1 : ∀ c : Cls w5, c.1.cell? ⟨wr.heap.size, 1, none⟩ = some (.int .i64 zeroQ.st) := fun c => cell_at (L := [.int .i64 zeroQ.c, .int .i64 zeroQ.st, .int .i64 zeroQ.k, .string zeroQ.key, .float .f64 zeroQ.b, .int .i64 zeroQ.id]) (H5.out.1.keep c.2) 1 _ rfl
            have e2 : ∀ c : Cls w5, c.1.cell? ⟨wr.heap.size, 2, none⟩ = some (.int .i64 zeroQ.k) := fun c => cell_at (L := [.int .i64 zeroQ.c, .int .i64 zeroQ.st, .int .i64 zeroQ.k, .string zeroQ.key, .float .f64 zeroQ.b, .int .i64 zeroQ.id]) (H5.out.1.keep c.2) 2 _ rfl
            have e3 : ∀ c : Cls w5, c.1.cell? ⟨wr.heap.size, 3, none⟩ = some (.string zeroQ.key) := fun c => cell_at (L := [.int .i64 zeroQ.c, .int .i64 zeroQ.st, .int .i64 zeroQ.k, .string zeroQ.key, .float .f64 zeroQ.b, .int .i64 zeroQ.id]) (H5.out.1.keep c.2) 3 _ rfl
            have e4 : ∀ c : Cls w5, c.1.cell? ⟨wr.heap.size, 4, none⟩ = some (.float .f64 zeroQ.b) := fun c => cell_at (L := [.int .i64 zeroQ.c, .int .i64 zeroQ.st, .int .i64 zeroQ.k, .string zeroQ.key, .float .f64 zeroQ.b, .int .i64 zeroQ.id]) (H5.out.1.keep c.2) 4 _ rfl
            have e5 : ∀ c : Cls w5, c.1.cell? ⟨wr.heap.size, 5, none⟩ = some (.int .i64 zeroQ.id) := fun c => cell_at (L := [.int .i64 zeroQ.c, .int .i64 zeroQ.st, .int .i64 zeroQ.k, .string zeroQ.key, .float .f64 zeroQ.b, .int .i64 zeroQ.id]) (H5.out.1.keep c.2) 5 _ rfl
            haveI := Cls.ne w5
            have HWh : Hid (∀ u : World, Below w5.heap.size w5 u → Calls Try.prog 17 #[.agg #[.int .i64 y.c, .int .i64 y.st, .int .i64 y.k, .string y.key, .float .f64 y.b, .int .i64 y.id], .agg #[.int .i64 zeroQ.c, .int .i64 zeroQ.st, .int .i64 zeroQ.k, .string zeroQ.key, .float .f64 zeroQ.b, .int .i64 zeroQ.id]] u fun e w' => e = .returned (.bool true) ∧ Below u.heap.size u w') := hid (fun u _ => by have := qwhole_any y zeroQ u; rw [HWj.out (by first | rfl | trivial)] at this; exact this)
            refine wp_region_cls w5 (by kernel_rfl) (by kernel_rfl) ?_
            repeat (go_big_quiet_step ((go_at_call 17; exact Cls.of _ (fun u hu => HWh.out u hu))))
            refine wpQuiet_nil ?_
            rintro _ ⟨c, rfl⟩
            go_wp2
            go_roundw
            case rel => exact ⟨j + 1, by have := HJ.out; omega, by go_num, HBc.out.trans (c.2.mono HBc.out.size)⟩
            case measure => simp [intOf]; omega
          · have hja : j < na := Classical.not_not.1 hja
            have hjai : (j : Int) < (na : Int) := by omega
            have hjA : A[j]? = some (A.getD j q0R) := by have := HNa.out.1; rw [List.getD_eq_getElem?_getD, List.getElem?_eq_getElem (by omega)]; rfl
            have hca : ∀ u : World, Below w3.heap.size w3 u → ∀ (q : Nat) (v : Value), q < 6 → (rqC (A.getD j q0R))[q]? = some v → u.cell? ⟨ga, j * 6 + q, none⟩ = some v := fun u hu => by
              rcases H3.out.2.2.1.keep hu with h | ⟨g2, h1, h2, h3⟩
              · rw [h] at hjA; simp at hjA
              · cases h1; exact h3 j _ hjA
            have HCa := hid hca
            clear hca hjA hja
            generalize B.getD j q0R = y at HWj HCb
            generalize A.getD j q0R = x at HWj HCa
            go_wp2_with (first
              | (have := H4; refine wl_store_rq rfl _ _ rfl wr.heap.size rfl zeroQ x rfl H4.out.1 ?_; intro w5 Hq; go_must (have H5 : Hid (RqAt w5 wr.heap.size x ∧ Below wr.heap.size wr w5) := hid ⟨Hq.out.1, Hq.out.2.below H4.out.2 (Nat.le_refl _)⟩); clear Hq a0 a1 a2 a3 a4 a5)
              | (refine wl_store_rq rfl _ _ rfl wr.heap.size rfl zeroQ zeroQ rfl (heap_alloc_last wr _) ?_; intro w4 Hq; go_must (have hb4 := Hq.out.2.below ((Below.refl wr.heap.size wr).alloc (Nat.le_refl _) _) (Nat.le_refl _); have H4 : Hid (RqAt w4 wr.heap.size zeroQ ∧ Below wr.heap.size wr w4) := hid ⟨Hq.out.1, hb4⟩); clear Hq hb4 c2; have a0 : w4.cell? ⟨ga, j * 6, none⟩ = some (.int .i64 x.c) := HCa.out _ (HBa.out.trans (H4.out.2.mono HBa.out.size)) 0 _ (by decide) rfl; have a1 : w4.cell? ⟨ga, j * 6 + 1, none⟩ = some (.int .i64 x.st) := HCa.out _ (HBa.out.trans (H4.out.2.mono HBa.out.size)) 1 _ (by decide) rfl; have a2 : w4.cell? ⟨ga, j * 6 + 2, none⟩ = some (.int .i64 x.k) := HCa.out _ (HBa.out.trans (H4.out.2.mono HBa.out.size)) 2 _ (by decide) rfl; have a3 : w4.cell? ⟨ga, j * 6 + 3, none⟩ = some (.string x.key) := HCa.out _ (HBa.out.trans (H4.out.2.mono HBa.out.size)) 3 _ (by decide) rfl; have a4 : w4.cell? ⟨ga, j * 6 + 4, none⟩ = some (.float .f64 x.b) := HCa.out _ (HBa.out.trans (H4.out.2.mono HBa.out.size)) 4 _ (by decide) rfl; have a5 : w4.cell? ⟨ga, j * 6 + 5, none⟩ = some (.int .i64 x.id) := HCa.out _ (HBa.out.trans (H4.out.2.mono HBa.out.size)) 5 _ (by decide) rfl))
            go_simp
            have HBc : Hid (Below w3.heap.size w3 w5) := hid (HBa.out.trans (H5.out.2.mono HBa.out.size))
            have b0 : ∀ c : Cls w5, c.1.cell? ⟨gb, j * 6, none⟩ = some (.int .i64 y.c) := fun c => HCb.out _ (HBc.out.trans (c.2.mono HBc.out.size)) 0 _ (by decide) rfl
            have b1 : ∀ c : Cls w5, c.1.cell? ⟨gb, j * 6 + 1, none⟩ = some (.int .i64 y.st) := fun c => HCb.out _ (HBc.out.trans (c.2.mono HBc.out.size)) 1 _ (by decide) rfl
            have b2 : ∀ c : Cls w5, c.1.cell? ⟨gb, j * 6 + 2, none⟩ = some (.int .i64 y.k) := fun c => HCb.out _ (HBc.out.trans (c.2.mono HBc.out.size)) 2 _ (by decide) rfl
            have b3 : ∀ c : Cls w5, c.1.cell? ⟨gb, j * 6 + 3, none⟩ = some (.string y.key) := fun c => HCb.out _ (HBc.out.trans (c.2.mono HBc.out.size)) 3 _ (by decide) rfl
            have b4 : ∀ c : Cls w5, c.1.cell? ⟨gb, j * 6 + 4, none⟩ = some (.float .f64 y.b) := fun c => HCb.out _ (HBc.out.trans (c.2.mono HBc.out.size)) 4 _ (by decide) rfl
            have b5 : ∀ c : Cls w5, c.1.cell? ⟨gb, j * 6 + 5, none⟩ = some (.int .i64 y.id) := fun c => HCb.out _ (HBc.out.trans (c.2.mono HBc.out.size)) 5 _ (by decide) rfl
            have e0 : ∀ c : Cls w5, c.1.cell? ⟨wr.heap.size, 0, none⟩ = some (.int .i64 x.c) := fun c => cell_at (L := [.int .i64 x.c, .int .i64 x.st, .int .i64 x.k, .string x.key, .float .f64 x.b, .int .i64 x.id]) (H5.out.1.keep c.2) 0 _ rfl
            have e1 : ∀ c : Cls w5, c.1.cell? ⟨wr.heap.size, 1, none⟩ = some (.int .i64 x.st) := fun c => cell_at (L := [.int .i64 x.c, .int .i64 x.st, .int .i64 x.k, .string x.key, .float .f64 x.b, .int .i64 x.id]) (H5.out.1.keep c.2) 1 _ rfl
            have e2 : ∀ c : Cls w5, c.1.cell? ⟨wr.heap.size, 2, none⟩ = some (.int .i64 x.k) := fun c => cell_at (L := [.int .i64 x.c, .int .i64 x.st, .int .i64 x.k, .string x.key, .float .f64 x.b, .int .i64 x.id]) (H5.out.1.keep c.2) 2 _ rfl
            have e3 : ∀ c : Cls w5, c.1.cell? ⟨wr.heap.size, 3, none⟩ = some (.string x.key) := fun c => cell_at (L := [.int .i64 x.c, .int .i64 x.st, .int .i64 x.k, .string x.key, .float .f64 x.b, .int .i64 x.id]) (H5.out.1.keep c.2) 3 _ rfl
            have e4 : ∀ c : Cls w5, c.1.cell? ⟨wr.heap.size, 4, none⟩ = some (.float .f64 x.b) := fun c => cell_at (L := [.int .i64 x.c, .int .i64 x.st, .int .i64 x.k, .string x.key, .float .f64 x.b, .int .i64 x.id]) (H5.out.1.keep c.2) 4 _ rfl
            have e5 : ∀ c : Cls w5, c.1.cell? ⟨wr.heap.size, 5, none⟩ = some (.int .i64 x.id) := fun c => cell_at (L := [.int .i64 x.c, .int .i64 x.st, .int .i64 x.k, .string x.key, .float .f64 x.b, .int .i64 x.id]) (H5.out.1.keep c.2) 5 _ rfl
            haveI := Cls.ne w5
            have HWh : Hid (∀ u : World, Below w5.heap.size w5 u → Calls Try.prog 17 #[.agg #[.int .i64 y.c, .int .i64 y.st, .int .i64 y.k, .string y.key, .float .f64 y.b, .int .i64 y.id], .agg #[.int .i64 x.c, .int .i64 x.st, .int .i64 x.k, .string x.key, .float .f64 x.b, .int .i64 x.id]] u fun e w' => e = .returned (.bool true) ∧ Below u.heap.size u w') := hid (fun u _ => by have := qwhole_any y x u; rw [HWj.out (by first | rfl | trivial)] at this; exact this)
            refine wp_region_cls w5 (by kernel_rfl) (by kernel_rfl) ?_
            repeat (go_big_quiet_step ((go_at_call 17; exact Cls.of _ (fun u hu => HWh.out u hu))))
            refine wpQuiet_nil ?_
            rintro _ ⟨c, rfl⟩
            go_wp2
            go_roundw
            case rel => exact ⟨j + 1, by have := HJ.out; omega, by go_num, HBc.out.trans (c.2.mono HBc.out.size)⟩
            case measure => simp [intOf]; omega
end Go.Proofs.Ytpflcneoojakdaa
