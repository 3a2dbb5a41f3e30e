/- The document's Pick. -/
import Derived.Test.YtpflcneoojakdaaChNM
import Derived.Test.YtpflcneoojakdaaChIM
import Derived.Test.YtpflcneoojakdaaChQM
namespace Go.Proofs.Ytpflcneoojakdaa
open Go.RowKit

def lstTo (ep : Int) (cs : List Ct) : Nat → Nat
  | 0 => 0
  | k + 1 => if (bstOf (4 * ep + ((k : Int) + 1)) cs).isSome = true then k + 1 else lstTo ep cs k
theorem lstTo_four (ep : Int) (cs : List Ct) : lstTo ep cs 4 = lstOf ep cs := by
  simp only [lstTo, lstOf]
  rw [show 4 * ep + (((3 : Nat) : Int) + 1) = 4 * ep + 4 by omega, show 4 * ep + (((2 : Nat) : Int) + 1) = 4 * ep + 3 by omega, show 4 * ep + (((1 : Nat) : Int) + 1) = 4 * ep + 2 by omega, show 4 * ep + (((0 : Nat) : Int) + 1) = 4 * ep + 1 by omega]
theorem lstOf_le (ep : Int) (cs : List Ct) : lstOf ep cs ≤ 4 := by
  unfold lstOf
  repeat' split
  all_goals omega
theorem pkL_len (ep : Int) (cs : List Ct) : (pkL ep cs).length = lstOf ep cs := by rw [pkL, List.length_map, List.length_range]
theorem pkL_at (ep : Int) (cs : List Ct) (j : Nat) (hj : j < lstOf ep cs) : (pkL ep cs).take (j + 1) = (pkL ep cs).take j ++ [rqOf (bstOf (4 * ep + ((j : Int) + 1)) cs)] := by
  rw [List.take_succ_eq_append_getElem (by rw [pkL_len]; exact hj)]
  congr 1
  simp only [pkL, List.getElem_map, List.getElem_range]
  rw [show 4 * ep + 1 + (j : Int) = 4 * ep + ((j : Int) + 1) by omega]
/-- What the document's Pick answers. -/
def PkPost (ep : Int) (m : List Int) (v : Int) (l : List Cg) (w : World) (e : Ending) (w' : World) : Prop :=
  Below w.heap.size w w' ∧ ((rfE ep m v l ≠ 0 ∧ e = .returned (.tuple #[.slice none 0 0, .int .i64 (rfE ep m v l)])) ∨ (rfE ep m v l = 0 ∧ ∃ u, e = .returned (.tuple #[u, .int .i64 0]) ∧ w'.ownsRow w.heap.size 49 6 u (pkL ep (allC l)).length (rC (pkL ep (allC l)))))
theorem rC_app (a b : List Rq) : rC (a ++ b) = rC a ++ rC b := by rw [rC, List.flatMap_append]; rfl
set_option maxRecDepth 100000 in
set_option maxHeartbeats 3200000 in
theorem wpick_any {F : Nat → Prop} (ep : Int) (am : Option Addr) (nm cm : Nat) (m : List Int) (hn : m.length = nm) (hm : nm ≤ maxLen) (v : Int) (a : Option Addr) (n cap : Nat) (l : List Cg) (hl : l.length ≤ maxLen) (hb : ∀ x, x ∈ l → cgR x) (w : World) (hI : IntsIn w am m) (hR : Reads F w (.slice a n cap) (dCgs l)) :
    Calls Try.prog 15 #[.agg #[.int .i64 ep, .slice am nm cm], .int .i64 v, .slice a n cap] w fun e w' => PkPost ep m v l w e w' := by
  obtain ⟨iv, hv0, hvz0, hvz1, hvz2⟩ := info_parts infoRq
  have hnl : l.length = n := by
    obtain ⟨ad, cp, hv⟩ := hR.form
    rw [List.length_map] at hv
    cases hv
    rfl
  have hmi : (n : Int) ≤ 9223372036854775807 := by unfold maxLen at hl; omega
  have HR := hid hR
  have HN := hid hnl
  obtain ⟨wa, ea⟩ : ∃ wa, wa = w.alloc (.cells #[.int .i64 ep, .slice am nm cm] 34) := ⟨_, rfl⟩
  have hba : Below w.heap.size w wa := by rw [ea]; exact (Below.refl _ _).alloc (Nat.le_refl _) _
  have hX1 : BxAt wa w.heap.size [.int .i64 ep, .slice am nm cm] 34 := by rw [ea]; exact heap_alloc_last w _
  have H0 := hid (And.intro hX1 hba)
  have HEa := hid ea
  obtain ⟨B1, e1⟩ : ∃ B, B = rightC ep m := ⟨_, rfl⟩
  have HRi : Hid (∀ u : World, Below w.heap.size w u → Calls Try.prog 43 #[.agg #[.int .i64 ep, .slice am nm cm]] u fun e w' => e = .returned (.bool B1) ∧ Below u.heap.size u w') := hid (fun u hu => by rw [e1]; exact vright_any ep am nm cm m hn hm u (hI.keep hu (Nat.le_refl _)))
  obtain ⟨qz, eqz⟩ : ∃ q, q = quoZ (nm : Int) := ⟨_, rfl⟩
  have HQx : Hid (∀ u : World, Calls Try.prog 49 #[.int .i64 (nm : Int)] u fun e w' => e = .returned (.int .i64 qz) ∧ w' = u) := hid (fun u => by rw [eqz]; exact vquorum_any (nm : Int) (by unfold maxLen at hm; omega) u)
  have HRg : Hid (∀ (y : Cg) (a8 : Option Addr) (n8 k8 : Nat) (u : World), cgR y → Below w.heap.size w u → Reads F u (.slice a8 n8 k8) (dCts y.2.2.1) → Calls Try.prog 13 #[.agg #[.int .i64 ep, .slice am nm cm], .agg #[.int .i64 y.1, .int .i64 y.2.1, .slice a8 n8 k8, .int .i64 y.2.2.2.1, .string y.2.2.2.2]] u fun e w' => e = .returned (.int .i64 (riE ep m y)) ∧ Below u.heap.size u w') := hid (fun y a8 n8 k8 u hy hu hr => wright16_any ep am nm cm m hn hm y a8 n8 k8 hy u (hI.keep hu (Nat.le_refl _)) hr)
  have HBt : Hid (∀ (sl : Int) (u : World), Below w.heap.size w u → Calls Try.prog 50 #[.slice a n cap, .int .i64 sl] u fun e w' => ∃ az kz, e = .returned (.tuple #[.agg (ctC ((bstOf sl (allC l)).getD ct0) (.slice az ((bstOf sl (allC l)).getD ct0).2.2.2.length kz)).toArray, .bool (bstOf sl (allC l)).isSome]) ∧ Below u.heap.size u w') := hid (fun sl u hu => wbest_any sl a n cap l hl hb u (hR.under hu (Nat.le_refl _)))
  have HV : Hid (rfE ep m v l = (if B1 = true then (if vwB v l = true then (if riA ep m l = 0 then (if rsgB l = true then (if qz ≤ (n : Int) then 0 else 15) else 17) else riA ep m l) else 13) else 1)) := hid (by rw [rfE, e1, eqz, ← hn, hnl])
  have HEp : Hid (B1 = true → 0 ≤ ep ∧ ep ≤ 60) := hid (fun h => (rightC_ep (by rw [← e1]; exact h)).1)
  have HBd := hid hb
  clear hn hm hl hb hI hR ea hba hX1 e1 eqz hnl
  have x0 := H0.out.1.cell 0 _ rfl; have x1 := H0.out.1.cell 1 _ rfl
  cases B1 with
  | false =>
    have HVx : Hid (rfE ep m v l = 1) := hid HV.out
    go_enter Try.func15, Try.ntmps15
    go_wp2_with fail
    rw [← HEa.out]
    go_wp2_with (go_at_call 43; go_must (refine (HRi.out _ H0.out.2).mono ?_); rintro e w1 ⟨rfl, hb⟩; have H1 := hid (H0.out.2.trans (hb.mono H0.out.2.size)); clear hb x0 x1)
    go_ret2
    exact ⟨H1.out, .inl ⟨by rw [HVx.out]; decide, by rw [HVx.out]; rfl⟩⟩
  | true =>
  have hep := HEp.out rfl
  have A1 : Hid True := hid trivial
  by_cases hv1 : v < 1
  · have HVx : Hid (rfE ep m v l = 13) := hid (by rw [HV.out]; simp [vwB, inB, show ¬ 1 ≤ v by omega])
    go_enter Try.func15, Try.ntmps15
    go_wp2_with fail
    rw [← HEa.out]
    go_wp2_with (go_at_call 43; go_must (refine (HRi.out _ H0.out.2).mono ?_); rintro e w1 ⟨rfl, hb⟩; have H1 := hid (H0.out.2.trans (hb.mono H0.out.2.size)); clear hb x0 x1)
    go_ret2
    exact ⟨H1.out, .inl ⟨by rw [HVx.out]; decide, by rw [HVx.out]; rfl⟩⟩
  by_cases hv2 : 15 < v
  · have HVx : Hid (rfE ep m v l = 13) := hid (by rw [HV.out]; simp [vwB, inB, show ¬ v ≤ 15 by omega])
    go_enter Try.func15, Try.ntmps15
    go_wp2_with fail
    rw [← HEa.out]
    go_wp2_with (go_at_call 43; go_must (refine (HRi.out _ H0.out.2).mono ?_); rintro e w1 ⟨rfl, hb⟩; have H1 := hid (H0.out.2.trans (hb.mono H0.out.2.size)); clear hb x0 x1)
    go_ret2
    exact ⟨H1.out, .inl ⟨by rw [HVx.out]; decide, by rw [HVx.out]; rfl⟩⟩
  have HVw : Hid (vwB v l = l.all fun x => decide (x.2.1 = v)) := hid (by rw [vwB, inB, decide_eq_true (show 1 ≤ v by omega), decide_eq_true (show v ≤ 15 by omega)]; rfl)
  go_enter Try.func15, Try.ntmps15
  go_wp2_with fail
  rw [← HEa.out]
  go_wp2_with (go_at_call 43; go_must (refine (HRi.out _ H0.out.2).mono ?_); rintro e w1 ⟨rfl, hb⟩; have H1 : Hid (BxAt w1 w.heap.size [.int .i64 ep, .slice am nm cm] 34 ∧ Below w.heap.size w w1) := hid ⟨H0.out.1.keep hb, H0.out.2.trans (hb.mono H0.out.2.size)⟩; clear hb x0 x1)
  go_loopw [8] (fun i wr => ∃ j : Nat, j ≤ n ∧ i = .int .i64 (j : Int) ∧ (l.take j).all (fun x => decide (x.2.1 = v)) = true ∧ BxAt wr w.heap.size [.int .i64 ep, .slice am nm cm] 34 ∧ Below w.heap.size w wr)
    (fun i _ => ((n : Int) - intOf i).toNat)
  case atStart => exact ⟨0, Nat.zero_le _, rfl, rfl, H1.out.1, H1.out.2⟩
  case round =>
  obtain ⟨j, hj, rfl, hok, hXr, hB⟩ := hrel
  have HB : Hid (BxAt wr w.heap.size [.int .i64 ep, .slice am nm cm] 34 ∧ Below w.heap.size w wr) := hid ⟨hXr, hB⟩
  have HOk := hid hok
  clear hok hB hXr
  have hj0 : (0 : Int) ≤ (j : Int) := Int.natCast_nonneg _
  by_cases hjn : ¬ j = n
  · have hj1 : (j : Int) < (n : Int) := by omega
    have hjl : j < l.length := by have := HN.out; omega
    have hR2 := HR.out
    rw [← HN.out] at hR2
    obtain ⟨g, off, cp, a8, n8, k8, hv, hp, hg, hcl⟩ := cg_at (hR2.under HB.out.2 (Nat.le_refl _)) j hjl
    cases hv
    have HJ := hid (And.intro hj hjn)
    have HFa : Hid (decide ((l.getD j cg0).2.1 = v) = false → vwB v l = false) := hid (fun e => by rw [HVw.out]; exact all_no (d := cg0) j hjl e)
    have HTr : Hid (decide ((l.getD j cg0).2.1 = v) = true → (l.take (j + 1)).all (fun x => decide (x.2.1 = v)) = true) := hid (fun e => all_more (d := cg0) j hjl HOk.out e)
    have k1 : wr.cell? ⟨g, off + j * 5 + 1, none⟩ = some (.int .i64 (l.getD j cg0).2.1) := hcl 1 _ rfl
    generalize (l.getD j cg0).2.1 = y at k1 HFa HTr
    clear hj hjn hjl hp hg hcl hR2
    by_cases hvv : y = v
    · have hvb : (y == v) = true := by simpa using hvv
      have hvn : (y != v) = false := by rw [bne, hvb]; rfl
      have HT := hid (HTr.out (decide_eq_true hvv))
      clear hvv
      go_wp2
      go_roundw
      case rel => exact ⟨j + 1, by have := HJ.out; omega, by go_num, HT.out, HB.out.1, HB.out.2⟩
      case measure => simp [intOf]; omega
    · have hvb : (y == v) = false := by simpa using hvv
      have hvn : (y != v) = true := by rw [bne, hvb]; rfl
      have HVx : Hid (rfE ep m v l = 13) := hid (by rw [HV.out, HFa.out (decide_eq_false hvv)]; rfl)
      clear hvv
      go_wp2
      go_ret2
      exact ⟨HB.out.2, .inl ⟨by rw [HVx.out]; decide, by rw [HVx.out]; rfl⟩⟩
  have hjn : j = n := Classical.not_not.1 hjn
  have hj1 : ¬ ((j : Int) < (n : Int)) := by omega
  have HV1 : Hid (rfE ep m v l = (if riA ep m l = 0 then (if rsgB l = true then (if qz ≤ (n : Int) then 0 else 15) else 17) else riA ep m l)) := hid (by
    have := HOk.out
    rw [hjn, ← HN.out, List.take_length] at this
    rw [HV.out, HVw.out, this]
    rfl)
  have HW1 := hid HB.out
  obtain ⟨w1b, ew1⟩ : ∃ w1b, w1b = wr := ⟨_, rfl⟩
  clear hj hjn HOk HB
  go_wp2
  go_loopw [9] (fun i wr => ∃ j : Nat, j ≤ n ∧ i = .int .i64 (j : Int) ∧ riA ep m (l.take j) = 0 ∧ BxAt wr w.heap.size [.int .i64 ep, .slice am nm cm] 34 ∧ Below w.heap.size w wr)
    (fun i _ => ((n : Int) - intOf i).toNat)
  case atStart => exact ⟨0, Nat.zero_le _, rfl, rfl, HW1.out.1, HW1.out.2⟩
  case round =>
  obtain ⟨j, hj, rfl, hok, hXr, hB⟩ := hrel
  have HB : Hid (BxAt wr w.heap.size [.int .i64 ep, .slice am nm cm] 34 ∧ Below w.heap.size w wr) := hid ⟨hXr, hB⟩
  have HOk := hid hok
  clear hok hB hXr HW1 ew1 w1b hj1 hj0
  have hj0 : (0 : Int) ≤ (j : Int) := Int.natCast_nonneg _
  by_cases hjn : ¬ j = n
  · have hj1 : (j : Int) < (n : Int) := by omega
    have hjl : j < l.length := by have := HN.out; omega
    have hR2 := HR.out
    rw [← HN.out] at hR2
    obtain ⟨g, off, cp, a8, n8, k8, hv, hp, hg, hcl⟩ := cg_at (hR2.under HB.out.2 (Nat.le_refl _)) j hjl
    cases hv
    have HJ := hid (And.intro hj hjn)
    obtain ⟨hs1, hs2⟩ := riA_step ep m l j HOk.out hjl
    have HYb := hid (HBd.out (l.getD j cg0) (by rw [List.getD_eq_getElem?_getD, List.getElem?_eq_getElem hjl]; exact List.getElem_mem hjl))
    generalize l.getD j cg0 = y at hcl hp hs1 hs2 HYb
    have HP := hid hp
    have HRy : Hid (∀ u : World, Below wr.heap.size wr u → Calls Try.prog 13 #[.agg #[.int .i64 ep, .slice am nm cm], .agg #[.int .i64 y.1, .int .i64 y.2.1, .slice a8 n8 k8, .int .i64 y.2.2.2.1, .string y.2.2.2.2]] u fun e w' => e = .returned (.int .i64 (riE ep m y)) ∧ Below u.heap.size u w') := hid (fun u hr => HRg.out y a8 n8 k8 u HYb.out (HB.out.2.trans (hr.mono HB.out.2.size)) (HP.out.under hr (Nat.le_refl _)))
    obtain ⟨R, eR⟩ : ∃ R, R = riE ep m y := ⟨_, rfl⟩
    rw [← eR] at HRy hs1 hs2
    have HS1 := hid hs1
    have HS2 := hid hs2
    have x0 : ∀ x : Cls wr, x.1.cell? ⟨w.heap.size, 0, none⟩ = some (.int .i64 ep) := fun x => (HB.out.1.keep x.2).cell 0 _ rfl
    have x1 : ∀ x : Cls wr, x.1.cell? ⟨w.heap.size, 1, none⟩ = some (.slice am nm cm) := fun x => (HB.out.1.keep x.2).cell 1 _ rfl
    have k0 : ∀ x : Cls wr, x.1.cell? ⟨g, off + j * 5, none⟩ = some (.int .i64 y.1) := fun x => (x.2.cell (p := ⟨g, off + j * 5, none⟩) hg).trans (hcl 0 _ rfl)
    have k1 : ∀ x : Cls wr, x.1.cell? ⟨g, off + j * 5 + 1, none⟩ = some (.int .i64 y.2.1) := fun x => (x.2.cell (p := ⟨g, off + j * 5 + 1, none⟩) hg).trans (hcl 1 _ rfl)
    have k2 : ∀ x : Cls wr, x.1.cell? ⟨g, off + j * 5 + 2, none⟩ = some (.slice a8 n8 k8) := fun x => (x.2.cell (p := ⟨g, off + j * 5 + 2, none⟩) hg).trans (hcl 2 _ rfl)
    have k3 : ∀ x : Cls wr, x.1.cell? ⟨g, off + j * 5 + 3, none⟩ = some (.int .i64 y.2.2.2.1) := fun x => (x.2.cell (p := ⟨g, off + j * 5 + 3, none⟩) hg).trans (hcl 3 _ rfl)
    have k4 : ∀ x : Cls wr, x.1.cell? ⟨g, off + j * 5 + 4, none⟩ = some (.string y.2.2.2.2) := fun x => (x.2.cell (p := ⟨g, off + j * 5 + 4, none⟩) hg).trans (hcl 4 _ rfl)
    haveI := Cls.ne wr
    clear hj hjn hjl hp hg hcl hR2 hs1 hs2 eR
    by_cases hR0 : R = 0
    · have HO2 : Hid (riA ep m (l.take (j + 1)) = 0) := hid (by rw [HS1.out]; exact hR0)
      subst hR0
      go_wp2_with fail
      refine wp_region_cls wr (by kernel_rfl) (by kernel_rfl) ?_
      repeat (go_big_quiet_step ((go_at_call 13; exact Cls.of _ (fun u hu => HRy.out u hu))))
      refine wpQuiet_nil ?_
      rintro _ ⟨x, rfl⟩
      go_wp2
      go_roundw
      case rel => exact ⟨j + 1, by have := HJ.out; omega, by go_num, HO2.out, HB.out.1.keep x.2, HB.out.2.trans (x.2.mono HB.out.2.size)⟩
      case measure => simp [intOf]; omega
    · have hRb : (R != 0) = true := by simpa using hR0
      have HVx : Hid (rfE ep m v l = R) := hid (by rw [HV1.out, HS2.out hR0, if_neg hR0])
      have HRn := hid hR0
      clear hR0
      go_wp2_with fail
      refine wp_region_cls wr (by kernel_rfl) (by kernel_rfl) ?_
      repeat (go_big_quiet_step ((go_at_call 13; exact Cls.of _ (fun u hu => HRy.out u hu))))
      refine wpQuiet_nil ?_
      rintro _ ⟨x, rfl⟩
      go_wp2
      go_ret2
      exact ⟨HB.out.2.trans (x.2.mono HB.out.2.size), .inl ⟨by rw [HVx.out]; exact HRn.out, by rw [HVx.out]; rfl⟩⟩
  have hjn : j = n := Classical.not_not.1 hjn
  have hj1 : ¬ ((j : Int) < (n : Int)) := by omega
  have HV2 : Hid (rfE ep m v l = (if rsgB l = true then (if qz ≤ (n : Int) then 0 else 15) else 17)) := hid (by
    have := HOk.out
    rw [hjn, ← HN.out, List.take_length] at this
    rw [HV1.out, if_pos this])
  have HW1 := hid HB.out
  clear hj hjn HOk HB
  go_wp2
  go_loopw [11] (fun i wr => ∃ j : Nat, 1 ≤ j ∧ (j ≤ n ∨ j = 1) ∧ i = .int .i64 (j : Int) ∧ (∀ i, i < j → i < n → (decide (i = 0) || decide ((l.getD (i - 1) cg0).1 < (l.getD i cg0).1)) = true) ∧ BxAt wr w.heap.size [.int .i64 ep, .slice am nm cm] 34 ∧ Below w.heap.size w wr)
    (fun i _ => ((n : Int) - intOf i).toNat)
  case atStart => exact ⟨1, Nat.le_refl _, .inr rfl, rfl, fun i h1 _ => by rw [show i = 0 by omega]; rfl, HW1.out.1, HW1.out.2⟩
  case round =>
  obtain ⟨j, hj1', hj, rfl, hok, hXr, hB⟩ := hrel
  have HB : Hid (BxAt wr w.heap.size [.int .i64 ep, .slice am nm cm] 34 ∧ Below w.heap.size w wr) := hid ⟨hXr, hB⟩
  have HOk := hid hok
  clear hok hB hXr HW1 hj1 hj0
  have hj0 : (0 : Int) ≤ (j : Int) := Int.natCast_nonneg _
  by_cases hjn : j < n
  · have hj1 : (j : Int) < (n : Int) := by omega
    have hjl : j < l.length := by have := HN.out; omega
    have hR2 := HR.out
    rw [← HN.out] at hR2
    obtain ⟨g, off, cp, a8, n8, k8, hv, hp, hg, hcl⟩ := cg_at (hR2.under HB.out.2 (Nat.le_refl _)) j hjl
    cases hv
    obtain ⟨jm, ejm⟩ : ∃ jm : Nat, jm = j - 1 := ⟨_, rfl⟩
    obtain ⟨g2, o2, c2, a2, n2, k2, hv2, _, _, hc2⟩ := cg_at (hR2.under HB.out.2 (Nat.le_refl _)) jm (by omega)
    cases hv2
    have HJ := hid (And.intro hj1' hjn)
    have HFa : Hid (¬ (l.getD jm cg0).1 < (l.getD j cg0).1 → rsgB l = false) := hid (fun e => by rw [rsgB, HN.out]; exact allTo_no j (by omega) (by rw [decide_eq_false (show ¬ j = 0 by omega), ← ejm, decide_eq_false e]; rfl))
    have HTr : Hid ((l.getD jm cg0).1 < (l.getD j cg0).1 → ∀ i, i < j + 1 → i < n → (decide (i = 0) || decide ((l.getD (i - 1) cg0).1 < (l.getD i cg0).1)) = true) := hid (fun e i h1 h2 => by
      rcases Nat.lt_or_ge i j with h3 | h3
      · exact HOk.out i h3 h2
      · obtain rfl : i = j := by omega
        rw [← ejm, decide_eq_true e, Bool.or_true])
    have k0 : ∀ x : Cls wr, x.1.cell? ⟨g, off + j * 5, none⟩ = some (.int .i64 (l.getD j cg0).1) := fun x => (World.cell?_of_block (a := ⟨g, off + j * 5, none⟩) (x.2.block g hg)).trans (hcl 0 _ rfl)
    have q0 : ∀ x : Cls wr, x.1.cell? ⟨g, off + jm * 5, none⟩ = some (.int .i64 (l.getD jm cg0).1) := fun x => (World.cell?_of_block (a := ⟨g, off + jm * 5, none⟩) (x.2.block g hg)).trans (hc2 0 _ rfl)
    generalize (l.getD j cg0).1 = y at k0 HFa HTr
    generalize (l.getD jm cg0).1 = ps at q0 HFa HTr
    have hw : IntKind.i64.wrap ((j : Int) - 1) = (jm : Int) := by rw [show (j : Int) - 1 = (jm : Int) by omega]; exact wrap_any _ (by omega) (by omega)
    have hjm0 : (0 : Int) ≤ (jm : Int) := Int.natCast_nonneg _
    have hjm1 : (jm : Int) < (n : Int) := by omega
    clear hj hjn hjl hp hg hcl hR2 hj1' ejm hc2
    haveI := Cls.ne wr
    by_cases hlt : ps < y
    · have hle : decide (y ≤ ps) = false := decide_eq_false (by omega)
      have hle2 : ¬ (y ≤ ps) := by omega
      have HT := hid (HTr.out hlt)
      go_wp2_with fail
      refine wp_region_cls wr (by kernel_rfl) (by kernel_rfl) ?_
      repeat (go_big_quiet_step (fail))
      refine wpQuiet_nil ?_
      rintro _ ⟨x, rfl⟩
      go_wp2
      go_roundw
      case rel => exact ⟨j + 1, by omega, by have := HJ.out; omega, by go_num, HT.out, HB.out.1.keep x.2, HB.out.2.trans (x.2.mono HB.out.2.size)⟩
      case measure => simp [intOf]; omega
    · have hle : decide (y ≤ ps) = true := decide_eq_true (by omega)
      have hle2 : y ≤ ps := by omega
      have HVx : Hid (rfE ep m v l = 17) := hid (by rw [HV2.out, HFa.out hlt]; rfl)
      go_wp2_with fail
      refine wp_region_cls wr (by kernel_rfl) (by kernel_rfl) ?_
      repeat (go_big_quiet_step (fail))
      refine wpQuiet_nil ?_
      rintro _ ⟨x, rfl⟩
      go_wp2
      go_ret2
      exact ⟨HB.out.2.trans (x.2.mono HB.out.2.size), .inl ⟨by rw [HVx.out]; decide, by rw [HVx.out]; rfl⟩⟩
  have hj1 : ¬ ((j : Int) < (n : Int)) := by omega
  have HV3 : Hid (rfE ep m v l = (if qz ≤ (n : Int) then 0 else 15)) := hid (by
    have h : rsgB l = true := by rw [rsgB, HN.out]; exact allTo_of (fun i hi => HOk.out i (by omega) hi)
    rw [HV2.out, if_pos h])
  clear hj hjn HOk hj1'
  have x0 := HB.out.1.cell 0 _ rfl; have x1 := HB.out.1.cell 1 _ rfl
  by_cases hq : ¬ qz ≤ (n : Int)
  · have HVx : Hid (rfE ep m v l = 15) := hid (by rw [HV3.out, if_neg hq])
    have hq2 : (n : Int) < qz := by omega
    go_wp2_with (go_at_call 49; go_must (refine (HQx.out _).mono ?_); rintro e w6 ⟨rfl, hw⟩; replace hw := hw.symm; subst hw)
    go_ret2
    exact ⟨HB.out.2, .inl ⟨by rw [HVx.out]; decide, by rw [HVx.out]; rfl⟩⟩
  have hq : qz ≤ (n : Int) := Classical.not_not.1 hq
  have HV0 : Hid (rfE ep m v l = 0) := hid (by rw [HV3.out, if_pos hq])
  have hq2 : ¬ (n : Int) < qz := by omega
  clear hq
  go_wp2_with (go_at_call 49; go_must (refine (HQx.out _).mono ?_); rintro e w6 ⟨rfl, hw⟩; replace hw := hw.symm; subst hw)
  clear x0 x1
  have HW1 := hid HB.out
  clear HB hj1 hj0
  obtain ⟨C, eC⟩ : ∃ C, C = allC l := ⟨_, rfl⟩
  rw [← eC] at HBt
  have HC := hid eC
  clear eC
  go_loopw [13, 14] (fun la i wr => ∃ k : Nat, k ≤ 4 ∧ i = .int .i64 ((k : Int) + 1) ∧ la = .int .i64 ((lstTo ep C k : Nat) : Int) ∧ BxAt wr w.heap.size [.int .i64 ep, .slice am nm cm] 34 ∧ Below w.heap.size w wr)
    (fun _ i _ => ((5 : Int) - intOf i).toNat)
  case atStart => exact ⟨0, Nat.zero_le _, rfl, rfl, HW1.out.1, HW1.out.2⟩
  case round =>
  obtain ⟨k, hk, rfl, rfl, hXr, hB⟩ := hrel
  have HB : Hid (BxAt wr w.heap.size [.int .i64 ep, .slice am nm cm] 34 ∧ Below w.heap.size w wr) := hid ⟨hXr, hB⟩
  clear hXr hB HW1
  have hk0 : (0 : Int) ≤ (k : Int) := Int.natCast_nonneg _
  have x0 := HB.out.1.cell 0 _ rfl; have x1 := HB.out.1.cell 1 _ rfl
  by_cases hkn : ¬ k = 4
  · have hk1 : (k : Int) + 1 ≤ 4 := by omega
    obtain ⟨o, eo⟩ : ∃ o, o = bstOf (4 * ep + ((k : Int) + 1)) C := ⟨_, rfl⟩
    obtain ⟨z, ez⟩ : ∃ z, z = o.getD ct0 := ⟨_, rfl⟩
    have HBk : Hid (Calls Try.prog 50 #[.slice a n cap, .int .i64 (4 * ep + ((k : Int) + 1))] wr fun e w' => ∃ az kz, e = .returned (.tuple #[.agg #[.int .i64 z.1, .int .i64 z.2.1, .int .i64 z.2.2.1.c, .int .i64 z.2.2.1.st, .int .i64 z.2.2.1.k, .string z.2.2.1.key, .float .f64 z.2.2.1.b, .int .i64 z.2.2.1.id, .slice az z.2.2.2.length kz], .bool o.isSome]) ∧ Below wr.heap.size wr w') := hid (by
      have h := HBt.out (4 * ep + ((k : Int) + 1)) wr HB.out.2
      rw [← eo, ← ez] at h
      exact h)
    have HK := hid hk
    have HLs : Hid (lstTo ep C (k + 1) = if o.isSome = true then k + 1 else lstTo ep C k) := hid (by rw [lstTo, ← eo])
    clear eo ez hk hkn
    cases hob : o.isSome with
    | true =>
      rw [hob] at HBk HLs
      clear hob
      go_wp2_with (first
        | (have := H5; refine wl_store_blk rfl 52 _ _ rfl w5.heap.size 0 rfl #[.int .i64 z.1, .int .i64 z.2.1, .int .i64 z.2.2.1.c, .int .i64 z.2.2.1.st, .int .i64 z.2.2.1.k, .string z.2.2.1.key, .float .f64 z.2.2.1.b, .int .i64 z.2.2.1.id, .slice az z.2.2.2.length kz] rfl [.int .i64 0, .int .i64 0, .int .i64 0, .int .i64 0, .int .i64 0, .string ⟨#[]⟩, .float .f64 0, .int .i64 0, .slice none 0 0] 52 (heap_alloc_last w5 _) (by simp) (by kernel_rfl) (by simp [Value.oneCell']) ?_; intro w6 Hz; go_must (have hb6 := Hz.out.2.below ((Below.refl w5.heap.size w5).alloc (Nat.le_refl _) _) (Nat.le_refl _); have H6 : Hid (BxAt w6 w.heap.size [.int .i64 ep, .slice am nm cm] 34 ∧ Below w.heap.size w w6) := hid ⟨H5.out.1.keep hb6, H5.out.2.trans (hb6.mono H5.out.2.size)⟩); clear Hz hb6)
        | (go_at_call 50; go_must (refine HBk.out.mono ?_); rintro e w5 ⟨az, kz, rfl, hb⟩; have H5 : Hid (BxAt w5 w.heap.size [.int .i64 ep, .slice am nm cm] 34 ∧ Below w.heap.size w w5) := hid ⟨HB.out.1.keep hb, HB.out.2.trans (hb.mono HB.out.2.size)⟩; clear hb x0 x1))
      go_roundw
      case rel => exact ⟨k + 1, by have := HK.out; omega, by go_num, by rw [HLs.out]; go_num, H6.out.1, H6.out.2⟩
      case measure => simp [intOf]; omega
    | false =>
      rw [hob] at HBk HLs
      clear hob
      go_wp2_with (first
        | (have := H5; refine wl_store_blk rfl 52 _ _ rfl w5.heap.size 0 rfl #[.int .i64 z.1, .int .i64 z.2.1, .int .i64 z.2.2.1.c, .int .i64 z.2.2.1.st, .int .i64 z.2.2.1.k, .string z.2.2.1.key, .float .f64 z.2.2.1.b, .int .i64 z.2.2.1.id, .slice az z.2.2.2.length kz] rfl [.int .i64 0, .int .i64 0, .int .i64 0, .int .i64 0, .int .i64 0, .string ⟨#[]⟩, .float .f64 0, .int .i64 0, .slice none 0 0] 52 (heap_alloc_last w5 _) (by simp) (by kernel_rfl) (by simp [Value.oneCell']) ?_; intro w6 Hz; go_must (have hb6 := Hz.out.2.below ((Below.refl w5.heap.size w5).alloc (Nat.le_refl _) _) (Nat.le_refl _); have H6 : Hid (BxAt w6 w.heap.size [.int .i64 ep, .slice am nm cm] 34 ∧ Below w.heap.size w w6) := hid ⟨H5.out.1.keep hb6, H5.out.2.trans (hb6.mono H5.out.2.size)⟩); clear Hz hb6)
        | (go_at_call 50; go_must (refine HBk.out.mono ?_); rintro e w5 ⟨az, kz, rfl, hb⟩; have H5 : Hid (BxAt w5 w.heap.size [.int .i64 ep, .slice am nm cm] 34 ∧ Below w.heap.size w w5) := hid ⟨HB.out.1.keep hb, HB.out.2.trans (hb.mono HB.out.2.size)⟩; clear hb x0 x1))
      go_roundw
      case rel => exact ⟨k + 1, by have := HK.out; omega, by go_num, by rw [HLs.out]; rfl, H6.out.1, H6.out.2⟩
      case measure => simp [intOf]; omega
  have hkn : k = 4 := Classical.not_not.1 hkn
  have hk1 : ¬ ((k : Int) + 1 ≤ 4) := by omega
  obtain ⟨L, eL⟩ : ∃ L, L = lstOf ep C := ⟨_, rfl⟩
  have HLk : Hid (lstTo ep C k = L) := hid (by rw [hkn, lstTo_four, eL])
  have HL := hid (And.intro eL (show L ≤ 4 by rw [eL]; exact lstOf_le ep C))
  rw [HLk.out]
  have hL4 : (L : Int) ≤ 4 := by have := HL.out.2; omega
  have hL0 : (0 : Int) ≤ (L : Int) := Int.natCast_nonneg _
  have HW1 := hid HB.out
  clear hk hkn eL HB x0 x1
  go_wp2
  go_loopw [12, 17] (fun ou i wr => ∃ j : Nat, j ≤ L ∧ i = .int .i64 ((j : Int) + 1) ∧ ∃ op, ou = op ∧ wr.ownsRow (w.heap.size + 1) 49 6 op j (rC ((pkL ep C).take j)) ∧ BxAt wr w.heap.size [.int .i64 ep, .slice am nm cm] 34 ∧ Below w.heap.size w wr)
    (fun _ i _ => ((L : Int) + 1 - intOf i).toNat)
  case atStart => exact ⟨0, Nat.zero_le _, rfl, _, rfl, ⟨rfl, .inl ⟨rfl, rfl⟩⟩, HW1.out.1, HW1.out.2⟩
  case round =>
  clear hk1 hk0
  obtain ⟨j, hj, rfl, ou, hou, hown, hXr, hB⟩ := hrel
  replace hou := hou.symm
  subst hou
  have HB : Hid (BxAt wr w.heap.size [.int .i64 ep, .slice am nm cm] 34 ∧ Below w.heap.size w wr) := hid ⟨hXr, hB⟩
  have HOw := hid hown
  clear hXr hB HW1 hown
  have hj0 : (0 : Int) ≤ (j : Int) := Int.natCast_nonneg _
  have x0 := HB.out.1.cell 0 _ rfl; have x1 := HB.out.1.cell 1 _ rfl
  by_cases hjn : j = L
  · have hj1 : ¬ ((j : Int) + 1 ≤ (L : Int)) := by omega
    have HE : Hid (j = (pkL ep C).length ∧ (pkL ep C).take j = pkL ep C) := hid ⟨by rw [pkL_len, hjn, HL.out.1], by rw [hjn, HL.out.1, ← pkL_len, List.take_length]⟩
    clear hj hjn
    go_wp2
    go_ret2
    refine ⟨HB.out.2, .inr ⟨HV0.out, _, rfl, ?_⟩⟩
    have := HOw.out
    rw [HE.out.2, HE.out.1] at this
    rw [← HC.out]
    exact ownsRow_low this (Nat.le_succ _)
  · have hj1 : (j : Int) + 1 ≤ (L : Int) := by omega
    obtain ⟨o, eo⟩ : ∃ o, o = bstOf (4 * ep + ((j : Int) + 1)) C := ⟨_, rfl⟩
    obtain ⟨z, ez⟩ : ∃ z, z = o.getD ct0 := ⟨_, rfl⟩
    have HBk : Hid (Calls Try.prog 50 #[.slice a n cap, .int .i64 (4 * ep + ((j : Int) + 1))] wr fun e w' => ∃ az kz, e = .returned (.tuple #[.agg #[.int .i64 z.1, .int .i64 z.2.1, .int .i64 z.2.2.1.c, .int .i64 z.2.2.1.st, .int .i64 z.2.2.1.k, .string z.2.2.1.key, .float .f64 z.2.2.1.b, .int .i64 z.2.2.1.id, .slice az z.2.2.2.length kz], .bool o.isSome]) ∧ Below wr.heap.size wr w') := hid (by
      have h := HBt.out (4 * ep + ((j : Int) + 1)) wr HB.out.2
      rw [← eo, ← ez] at h
      exact h)
    have HTk : Hid ((pkL ep C).take (j + 1) = (pkL ep C).take j ++ [z.2.2.1]) := hid (by rw [pkL_at ep C j (by have := HL.out.1; omega), ← eo, ez]; cases o <;> rfl)
    have HJ : Hid (j ≤ L ∧ j ≠ L ∧ L ≤ 4) := hid ⟨hj, hjn, HL.out.2⟩
    generalize o.isSome = ob at HBk
    clear eo ez hj hjn
    go_wp2_with (first
      | (have := H7; at_builtin; refine wpList_append_own_at _ rfl _ _ 38 rfl (w.heap.size + 1) 49 iv (.agg #[.int .i64 0, .int .i64 0, .int .i64 0, .string ⟨#[]⟩, .float .f64 0, .int .i64 0]) 6 56 undRq hv0 hvz0 hvz1 hvz2 rfl (by decide) _ j _ rfl (by exact H7.out.2.2.1.alloc _) ⟨_, 0, none⟩ 1 1 (rqC z.2.2.1) rfl rfl (World.news_of_block (t := 49) (fr := (0, 0)) (heap_alloc_last _ _)) (by simp [rqC, Value.oneCell']) (by have := HJ.out; unfold maxLen; omega) (by have := HJ.out; omega) (by have := lt_of_blk H7.out.1; simp; omega) ?_; intro v9 w9 hown9 hgrow9 hnil9 hob9; go_must (have H9 : Hid (w9.ownsRow (w.heap.size + 1) 49 6 v9 (j + 1) (rC ((pkL ep C).take (j + 1))) ∧ BxAt w9 w.heap.size [.int .i64 ep, .slice am nm cm] 34 ∧ Below w.heap.size w w9) := hid (by
          have hal := (Below.refl w7.heap.size w7).alloc (Nat.le_refl _) (.cells #[.int .i64 z.2.2.1.c, .int .i64 z.2.2.1.st, .int .i64 z.2.2.1.k, .string z.2.2.1.key, .float .f64 z.2.2.1.b, .int .i64 z.2.2.1.id] 49)
          have hbg : Below (w.heap.size + 1) (w7.alloc (.cells #[.int .i64 z.2.2.1.c, .int .i64 z.2.2.1.st, .int .i64 z.2.2.1.k, .string z.2.2.1.key, .float .f64 z.2.2.1.b, .int .i64 z.2.2.1.id] 49)) w9 := ⟨hgrow9.os, hgrow9.tape, hgrow9.output, hgrow9.size, fun k hk => hgrow9.block k (by have := lt_of_blk H7.out.1; have := hal.size; omega) (fun e => by have := (H7.out.2.2.1.lt k e.symm).1; omega)⟩
          refine ⟨by rw [HTk.out, rC_app, show rC [z.2.2.1] = rqC z.2.2.1 by simp [rC]]; exact hown9, (hbg.block _ (by omega)).trans (H7.out.1.keep hal), (H7.out.2.1.trans (hal.mono H7.out.2.1.size)).trans (hbg.mono (by omega))⟩)); clear hown9 hgrow9 hnil9 hob9)
      | (have := H6; refine wl_store_blk rfl 52 _ _ rfl w6.heap.size 0 rfl #[.int .i64 z.1, .int .i64 z.2.1, .int .i64 z.2.2.1.c, .int .i64 z.2.2.1.st, .int .i64 z.2.2.1.k, .string z.2.2.1.key, .float .f64 z.2.2.1.b, .int .i64 z.2.2.1.id, .slice az z.2.2.2.length kz] rfl [.int .i64 0, .int .i64 0, .int .i64 0, .int .i64 0, .int .i64 0, .string ⟨#[]⟩, .float .f64 0, .int .i64 0, .slice none 0 0] 52 (heap_alloc_last w6 _) (by simp) (by kernel_rfl) (by simp [Value.oneCell']) ?_; intro w7 Hz; go_must (have hb7 := Hz.out.2.below ((Below.refl w6.heap.size w6).alloc (Nat.le_refl _) _) (Nat.le_refl _); have H7 : Hid (BxAt w7 w.heap.size [.int .i64 ep, .slice am nm cm] 34 ∧ Below w.heap.size w w7 ∧ w7.ownsRow (w.heap.size + 1) 49 6 ou j (rC ((pkL ep C).take j)) ∧ BxAt w7 w6.heap.size [.int .i64 z.1, .int .i64 z.2.1, .int .i64 z.2.2.1.c, .int .i64 z.2.2.1.st, .int .i64 z.2.2.1.k, .string z.2.2.1.key, .float .f64 z.2.2.1.b, .int .i64 z.2.2.1.id, .slice az z.2.2.2.length kz] 52) := hid ⟨H6.out.1.keep hb7, H6.out.2.1.trans (hb7.mono H6.out.2.1.size), ownsRow_keep H6.out.2.2 hb7, Hz.out.1⟩); clear Hz hb7; have u0 := H7.out.2.2.2.cell 0 _ rfl; have u1 := H7.out.2.2.2.cell 1 _ rfl; have u2 := H7.out.2.2.2.cell 2 _ rfl; have u3 := H7.out.2.2.2.cell 3 _ rfl; have u4 := H7.out.2.2.2.cell 4 _ rfl; have u5 := H7.out.2.2.2.cell 5 _ rfl; have u6 := H7.out.2.2.2.cell 6 _ rfl; have u7 := H7.out.2.2.2.cell 7 _ rfl; have u8 := H7.out.2.2.2.cell 8 _ rfl)
      | (go_at_call 50; go_must (refine HBk.out.mono ?_); rintro e w6 ⟨az, kz, rfl, hb⟩; have H6 : Hid (BxAt w6 w.heap.size [.int .i64 ep, .slice am nm cm] 34 ∧ Below w.heap.size w w6 ∧ w6.ownsRow (w.heap.size + 1) 49 6 ou j (rC ((pkL ep C).take j))) := hid ⟨HB.out.1.keep hb, HB.out.2.trans (hb.mono HB.out.2.size), ownsRow_keep HOw.out hb⟩; clear hb x0 x1))
    go_roundw
    case rel => exact ⟨j + 1, by have := HJ.out; omega, by go_num, _, rfl, H9.out.1, H9.out.2.1, H9.out.2.2⟩
    case measure => simp [intOf]; omega
end Go.Proofs.Ytpflcneoojakdaa
