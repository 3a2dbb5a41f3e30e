/- The program's Pick. -/
import Derived.Test.YthoofboegchodaaChEM
import Derived.Test.YthoofboegchodaaChPM
namespace Go.Proofs.Ythoofboegchodaa
open Go.RowKit

theorem quo_pos {ep : Int} {m : List Int} (h : rightC ep m = true) : 0 < quoZ (m.length : Int) := by
  have := mem_len (rightC_ep h).2
  unfold quoZ fltZ
  omega
theorem proves_some {ep : Int} {m : List Int} {t : ByteArray} {ss : List (Int × ByteArray)} (h : provesB ep m t ss = true) : ss.length ≠ 0 := by
  simp only [provesB, Bool.and_eq_true, decide_eq_true_eq] at h
  have := quo_pos h.2.1
  omega
/-- What a list that is not refused holds. -/
theorem pick_facts {ep : Int} {m : List Int} {v : Int} {l : List Cg} (h : rfE ep m v l = 0) (hb : ∀ x, x ∈ l → cgR x) : (0 ≤ ep ∧ ep ≤ 60) ∧ ∀ x ∈ l, ∀ y ∈ x.2.2.1, (4 * ep < y.2.1 ∧ y.2.1 ≤ 4 * (ep + 1)) ∧ y.2.2.2.length ≠ 0 ∧ askB y.2.2.1 = true ∧ y.2.2.1.b < 18446744073709551616 := by
  obtain ⟨h1, _, h3, _, _⟩ := rfE_ok h
  refine ⟨(rightC_ep h1).1, fun x hx y hy => ?_⟩
  obtain ⟨_, k2, _, k4, _⟩ := riE_ok (riA_mem h3 x hx)
  have hct := ct_parts (cts_mem (fi_parts (chE_ok k2).1).2.2.2 hy)
  exact ⟨hct.2.1, proves_some (ceE_mem k4 y hy).2, hct.2.2.1, ((hb x hx).2.1.2 y hy).2.1.2.2.2⟩
theorem GOk.gin {ep : Int} {cs : List Ct} {G : List (Ct × Value)} (h : GOk ep cs G) (hc : ∀ y ∈ cs, askB y.2.2.1 = true ∧ y.2.2.1.b < 18446744073709551616) : GIn G := by
  refine ⟨h.len, fun i hi => ?_⟩
  obtain ⟨a, k, hg⟩ := h.all i hi
  refine ⟨_, a, k, hg, ?_⟩
  cases hb : bstOf (4 * ep + 1 + (i : Int)) cs with
  | none => exact ⟨by decide, by decide⟩
  | some y => exact hc y (bstOf_mem hb).1
theorem GOk.picks {ep : Int} {cs : List Ct} {G : List (Ct × Value)} (h : GOk ep cs G) (hne : ∀ y ∈ cs, y.2.2.2.length ≠ 0) : pkG G = (pkL ep cs).map normR := by
  have h4 : lstOf ep cs ≤ 4 := by rw [← h.last hne]; exact cntTo_le G 4
  rw [pkG, pkL, h.last hne, List.map_map]
  apply List.map_congr_left
  intro i hi
  rw [h.req i (by have := List.mem_range.1 hi; omega)]
  rfl
theorem allC_snoc (l : List Cg) (j : Nat) (hj : j < l.length) : allC (l.take (j + 1)) = allC (l.take j) ++ (l.getD j cg0).2.2.1 := by
  rw [allC, allC, List.take_succ_eq_append_getElem hj, List.flatMap_append]
  simp [hj]
theorem allC_mem {l : List Cg} {y : Ct} (h : y ∈ allC l) : ∃ x ∈ l, y ∈ x.2.2.1 := List.mem_flatMap.1 h
theorem allC_take {l : List Cg} {j : Nat} {y : Ct} (h : y ∈ allC (l.take j)) : ∃ x ∈ l, y ∈ x.2.2.1 := by
  obtain ⟨x, hx, hy⟩ := allC_mem h
  exact ⟨x, List.mem_of_mem_take hx, hy⟩
/-- What the program picks. -/
def pkN (ep : Int) (l : List Cg) : List Rq := (pkL ep (allC l)).map normR
set_option maxRecDepth 100000 in
set_option maxHeartbeats 1600000 in
theorem zpick_no {F : Nat → Prop} (ep : Int) (am : Option Addr) (nm cm : Nat) (m : List Int) (hn : m.length = nm) (hm : nm ≤ maxLen) (v : Int) (a : Option Addr) (n cap : Nat) (l : List Cg) (hl : l.length ≤ maxLen) (hb : ∀ x, x ∈ l → cgR x) (w : World) (hI : IntsIn w am m) (hR : Reads F w (.slice a n cap) (dCgs l)) (he : rfE ep m v l ≠ 0) :
    Calls Try.prog 14 #[.agg #[.int .i64 ep, .slice am nm cm], .int .i64 v, .slice a n cap] w fun e w' => e = .returned (.tuple #[.slice none 0 0, .int .i64 (rfE ep m v l)]) ∧ Below w.heap.size w w' := by
  obtain ⟨wa, ea⟩ : ∃ wa, wa = w.alloc (.cells #[.int .i64 ep, .slice am nm cm] 34) := ⟨_, rfl⟩
  have hba : Below w.heap.size w wa := by rw [ea]; exact (Below.refl _ _).alloc (Nat.le_refl _) _
  have hX1 : BxAt wa w.heap.size [.int .i64 ep, .slice am nm cm] 34 := by rw [ea]; exact heap_alloc_last w _
  have H0 := hid (And.intro hX1 hba)
  have HEa := hid ea
  have HRf : Hid (∀ u : World, Below w.heap.size w u → Calls Try.prog 46 #[.agg #[.int .i64 ep, .slice am nm cm], .int .i64 v, .slice a n cap] u fun e w' => e = .returned (.int .i64 (rfE ep m v l)) ∧ Below u.heap.size u w') := hid (fun u hu => zrefuse_any ep am nm cm m hn hm v a n cap l hl hb u (hI.keep hu (Nat.le_refl _)) (hR.under hu (Nat.le_refl _)))
  generalize rfE ep m v l = E at HRf he ⊢
  have hEb : (E != 0) = true := by simpa using he
  clear hn hm hl hb hI hR ea hba hX1 he
  have x0 := H0.out.1.cell 0 _ rfl; have x1 := H0.out.1.cell 1 _ rfl
  go_enter Try.func14, Try.ntmps14
  go_wp2_with fail
  rw [← HEa.out]
  go_must (refine (HRf.out _ H0.out.2).mono ?_)
  rintro e w1 ⟨rfl, hb1⟩
  have H1 : Hid (BxAt w1 w.heap.size [.int .i64 ep, .slice am nm cm] 34 ∧ Below w.heap.size w w1) := hid ⟨H0.out.1.keep hb1, H0.out.2.trans (hb1.mono H0.out.2.size)⟩
  clear hb1 x0 x1
  go_wp2
  go_ret2
  exact ⟨rfl, H1.out.2⟩
set_option maxRecDepth 100000 in
set_option maxHeartbeats 1600000 in
theorem zpick_yes {F : Nat → Prop} (ep : Int) (am : Option Addr) (nm cm : Nat) (m : List Int) (hn : m.length = nm) (hm : nm ≤ maxLen) (v : Int) (a : Option Addr) (n cap : Nat) (l : List Cg) (hl : l.length ≤ maxLen) (hb : ∀ x, x ∈ l → cgR x) (w : World) (hFw : ∀ k, F k → k < w.heap.size) (hI : IntsIn w am m) (hR : Reads F w (.slice a n cap) (dCgs l)) (he : rfE ep m v l = 0) :
    Calls Try.prog 14 #[.agg #[.int .i64 ep, .slice am nm cm], .int .i64 v, .slice a n cap] w fun e w' => ∃ g2, e = .returned (.tuple #[.slice (some ⟨g2, 0, none⟩) (pkN ep l).length (pkN ep l).length, .int .i64 0]) ∧ BxAt w' g2 (rC (pkN ep l)) 49 ∧ w.heap.size ≤ g2 ∧ Below w.heap.size w w' := by
  obtain ⟨wa, ea⟩ : ∃ wa, wa = w.alloc (.cells #[.int .i64 ep, .slice am nm cm] 34) := ⟨_, rfl⟩
  have hba : Below w.heap.size w wa := by rw [ea]; exact (Below.refl _ _).alloc (Nat.le_refl _) _
  have hX1 : BxAt wa w.heap.size [.int .i64 ep, .slice am nm cm] 34 := by rw [ea]; exact heap_alloc_last w _
  have H0 := hid (And.intro hX1 hba)
  have HEa := hid ea
  have HRf : Hid (∀ u : World, Below w.heap.size w u → Calls Try.prog 46 #[.agg #[.int .i64 ep, .slice am nm cm], .int .i64 v, .slice a n cap] u fun e w' => e = .returned (.int .i64 (rfE ep m v l)) ∧ Below u.heap.size u w') := hid (fun u hu => zrefuse_any ep am nm cm m hn hm v a n cap l hl hb u (hI.keep hu (Nat.le_refl _)) (hR.under hu (Nat.le_refl _)))
  rw [he] at HRf
  obtain ⟨hep, hfa⟩ := pick_facts he hb
  have HEp := hid hep
  have HFa := hid hfa
  have HFw := hid hFw
  have hnl : l.length = n := by
    obtain ⟨ad, cp, hv⟩ := hR.form
    rw [List.length_map] at hv
    cases hv
    rfl
  have hmi : (n : Int) ≤ 9223372036854775807 := by unfold maxLen at hl; omega
  have HN := hid hnl
  have HR := hid hR
  have HBd := hid hb
  have HI4 : Hid ((Try.prog.info? 86).map (fun i => (i.zero, i.size)) = some (some (.agg (gC z4).toArray), 36)) := hid (by kernel_rfl)
  have HIs : Hid ((Try.prog.info? 86).map (·.size) = some 36) := hid (by kernel_rfl)
  clear hn hm hl hb hI hR ea hba hX1 he hep hfa hFw hnl
  have x0 := H0.out.1.cell 0 _ rfl; have x1 := H0.out.1.cell 1 _ rfl
  go_enter Try.func14, Try.ntmps14
  go_wp2_with fail
  rw [← HEa.out]
  go_must (refine (HRf.out _ H0.out.2).mono ?_)
  rintro e w1 ⟨rfl, hb1⟩
  have H1 : Hid (BxAt w1 w.heap.size [.int .i64 ep, .slice am nm cm] 34 ∧ Below w.heap.size w w1) := hid ⟨H0.out.1.keep hb1, H0.out.2.trans (hb1.mono H0.out.2.size)⟩
  clear hb1 x0 x1
  go_wp2_with (refine wl_alloc_arr rfl 86 rfl (gC z4).toArray 36 HI4.out ?_)
  obtain ⟨w2, e2⟩ : ∃ w2, w2 = w1.alloc (.cells (gC z4).toArray 86) := ⟨_, rfl⟩
  rw [← e2]
  obtain ⟨b, eb⟩ : ∃ b, b = w1.heap.size := ⟨_, rfl⟩
  rw [← eb]
  have hb2 : Below w1.heap.size w1 w2 := by rw [e2]; exact (Below.refl _ _).alloc (Nat.le_refl _) _
  have H2 : Hid (BxAt w2 b (gC z4) 86 ∧ BxAt w2 w.heap.size [.int .i64 ep, .slice am nm cm] 34 ∧ Below w.heap.size w w2 ∧ w.heap.size < b) := hid ⟨by rw [e2, eb]; exact heap_alloc_last w1 _, H1.out.1.keep hb2, H1.out.2.trans (hb2.mono H1.out.2.size), by rw [eb]; exact lt_of_blk H1.out.1⟩
  clear e2 eb hb2
  go_loopw [21] (fun i wr => ∃ j : Nat, j ≤ n ∧ i = .int .i64 (j : Int) ∧ ∃ G, GOk ep (allC (l.take j)) G ∧ BxAt wr b (gC G) 86 ∧ Below b w2 wr)
    (fun i _ => ((n : Int) - intOf i).toNat)
  case atStart => exact ⟨0, Nat.zero_le _, rfl, z4, GOk.new ep, H2.out.1, Below.refl _ _⟩
  case round =>
    obtain ⟨j, hj, rfl, G, hG, hX, hB⟩ := hrel
    have H4 : Hid (BxAt wr w.heap.size [.int .i64 ep, .slice am nm cm] 34 ∧ Below w.heap.size w wr) := hid ⟨(hB.block _ H2.out.2.2.2).trans H2.out.2.1, H2.out.2.2.1.trans (hB.mono (Nat.le_of_lt H2.out.2.2.2))⟩
    have HG := hid hG
    have HX := hid hX
    have HB := hid hB
    clear hG hX hB
    have hj0 : (0 : Int) ≤ (j : Int) := Int.natCast_nonneg _
    by_cases hjn : j = n
    · have hj1 : ¬ ((j : Int) < (n : Int)) := by omega
      have hGa : GOk ep (allC l) G := by
        have := HG.out
        rw [hjn, ← HN.out, List.take_length] at this
        exact this
      have hne : ∀ y ∈ allC l, y.2.2.2.length ≠ 0 := fun y hy => by
        obtain ⟨x, hx, hy⟩ := allC_mem hy
        exact (HFa.out x hx y hy).2.1
      have hgi := hGa.gin (fun y hy => by
        obtain ⟨x, hx, hy⟩ := allC_mem hy
        exact (HFa.out x hx y hy).2.2)
      have HPk : Hid (pkG G = pkN ep l) := hid (hGa.picks hne)
      have HPl : Hid (cntTo G 4 = (pkN ep l).length) := hid (by rw [← HPk.out, pkG, List.length_map, List.length_range])
      have HRq : Hid (∀ u : World, Calls Try.prog 48 #[.agg (gC G).toArray] u fun e w' => ∃ g2, e = .returned (.slice (some ⟨g2, 0, none⟩) (pkN ep l).length (pkN ep l).length) ∧ BxAt w' g2 (rC (pkN ep l)) 49 ∧ u.heap.size ≤ g2 ∧ Below u.heap.size u w') := hid (fun u => by
        have := zrequests_any G hgi u
        rw [HPk.out, HPl.out] at this
        exact this)
      have HLn : Hid ((Try.prog.info? 86).map (·.size) = some (gC G).length) := hid (by rw [gC, row_len gcF_len, hGa.len]; exact HIs.out)
      clear hj hjn hGa hne hgi
      go_wp2_with (first
        | (go_at_call 48; go_must (refine (HRq.out _).mono ?_); rintro e w6 ⟨g2, rfl, h2, h3, hb⟩; have H6 := hid (And.intro h2 (And.intro (Nat.le_trans H4.out.2.size h3) (H4.out.2.trans (hb.mono H4.out.2.size)))); clear h2 h3 hb)
        | (refine wl_load_arr rfl 86 _ rfl b 0 rfl (gC G) 86 HX.out _ Try.underlying86 rfl HLn.out rfl ?_))
      go_ret2
      exact ⟨g2, rfl, H6.out.1, H6.out.2.1, H6.out.2.2⟩
    · have hj1 : (j : Int) < (n : Int) := by omega
      have hjl : j < l.length := by have := HN.out; omega
      have hR2 := HR.out
      rw [← HN.out] at hR2
      obtain ⟨g, off, cp, a8, n8, k8, hv, hp, hg, hcl⟩ := cg_at (hR2.under H4.out.2 (Nat.le_refl _)) j hjl
      cases hv
      have HJ := hid (And.intro hj hjn)
      have HSn := hid (allC_snoc l j hjl)
      have hym : l.getD j cg0 ∈ l := by rw [List.getD_eq_getElem?_getD, List.getElem?_eq_getElem hjl]; exact List.getElem_mem hjl
      have HYf := hid (HFa.out _ hym)
      have HYb := hid (HBd.out _ hym)
      generalize l.getD j cg0 = y at hcl hp HSn HYf HYb hym
      have HP := hid hp
      have k0 : wr.cell? ⟨g, off + j * 5, none⟩ = some (.int .i64 y.1) := hcl 0 _ rfl
      have k1 : wr.cell? ⟨g, off + j * 5 + 1, none⟩ = some (.int .i64 y.2.1) := hcl 1 _ rfl
      have k2 : wr.cell? ⟨g, off + j * 5 + 2, none⟩ = some (.slice a8 n8 k8) := hcl 2 _ rfl
      have k3 : wr.cell? ⟨g, off + j * 5 + 3, none⟩ = some (.int .i64 y.2.2.2.1) := hcl 3 _ rfl
      have k4 : wr.cell? ⟨g, off + j * 5 + 4, none⟩ = some (.string y.2.2.2.2) := hcl 4 _ rfl
      obtain ⟨wb, ewb⟩ : ∃ wb, wb = wr.alloc (.cells #[.int .i64 y.1, .int .i64 y.2.1, .slice a8 n8 k8, .int .i64 y.2.2.2.1, .string y.2.2.2.2] 26) := ⟨_, rfl⟩
      have hbb : Below wr.heap.size wr wb := by rw [ewb]; exact (Below.refl _ _).alloc (Nat.le_refl _) _
      have HTk : Hid (Calls Try.prog 47 #[.pointer (some ⟨b, 0, none⟩), .int .i64 ep, .slice a8 n8 k8] wb fun e w' => e = .returned (.tuple #[]) ∧ ∃ G, GOk ep (allC (l.take (j + 1))) G ∧ BxAt w' b (gC G) 86 ∧ Below b wb w') := hid (by
        rw [HSn.out]
        exact ztake_any b (fun k hk => Nat.lt_trans (HFw.out k hk) H2.out.2.2.2) ep HEp.out.1 HEp.out.2 a8 n8 k8 y.2.2.1 HYb.out.2.1.1 (fun z hz => (HYf.out z hz).1) (allC (l.take j)) (fun z hz => by
          rcases List.mem_append.1 hz with hz | hz
          · obtain ⟨x, hx, hz⟩ := allC_take hz
            exact (HFa.out x hx z hz).2.1
          · exact (HYf.out z hz).2.1) G HG.out wb (HX.out.keep hbb) (HP.out.under hbb (Nat.le_refl _)))
      have HEb := hid ewb
      have HBb : Hid (Below b w2 wb) := hid (HB.out.trans (hbb.mono (Nat.le_of_lt (lt_of_blk HX.out))))
      have xa0 : (wr.alloc (.cells #[.int .i64 y.1, .int .i64 y.2.1, .slice a8 n8 k8, .int .i64 y.2.2.2.1, .string y.2.2.2.2] 26)).cell? ⟨w.heap.size, 0, none⟩ = some (.int .i64 ep) := by rw [← ewb]; exact (H4.out.1.keep hbb).cell 0 _ rfl
      clear hj hjn hjl hp hg hcl hR2 hym ewb hbb
      go_wp2_with fail
      rw [← HEb.out]
      go_must (refine HTk.out.mono ?_)
      rintro e w6 ⟨rfl, G6, hg6, hx6, hb6⟩
      have H6 := hid (And.intro hg6 (And.intro hx6 (HBb.out.trans hb6)))
      clear hg6 hx6 hb6 xa0 k0 k1 k2 k3 k4
      go_wp2
      go_roundw
      case rel => exact ⟨j + 1, by have := HJ.out; omega, by go_num, G6, H6.out.1, H6.out.2.1, H6.out.2.2⟩
      case measure => simp [intOf]; omega
end Go.Proofs.Ythoofboegchodaa
