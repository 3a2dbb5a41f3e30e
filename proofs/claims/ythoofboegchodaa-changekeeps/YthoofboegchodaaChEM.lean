/- The program's refuse: all of one view, all right, rising, a quorum. -/
import Derived.Test.YthoofboegchodaaChDM
namespace Go.Proofs.Ythoofboegchodaa
open Go.RowKit

theorem all_no {α : Type} {p : α → Bool} {l : List α} {d : α} (j : Nat) (hj : j < l.length) (h : p (l.getD j d) = false) : l.all p = false := by
  cases e : l.all p with
  | false => rfl
  | true =>
    have := List.all_eq_true.1 e (l.getD j d) (by rw [List.getD_eq_getElem?_getD, List.getElem?_eq_getElem hj]; exact List.getElem_mem hj)
    rw [h] at this
    cases this
theorem all_more {α : Type} {p : α → Bool} {l : List α} {d : α} (j : Nat) (hj : j < l.length) (h : (l.take j).all p = true) (h2 : p (l.getD j d) = true) : (l.take (j + 1)).all p = true := by
  rw [List.take_succ_eq_append_getElem hj, List.all_append, h, Bool.true_and]
  simpa [hj] using h2
set_option maxRecDepth 100000 in
set_option maxHeartbeats 3200000 in
theorem zareOf_any {F : Nat → Prop} (v : Int) (a : Option Addr) (n cap : Nat) (l : List Cg) (hl : l.length ≤ maxLen) (w : World) (hR : Reads F w (.slice a n cap) (dCgs l)) :
    Calls Try.prog 72 #[.int .i64 v, .slice a n cap] w fun e w' => e = .returned (.bool (vwB v l)) ∧ Below w.heap.size w w' := by
  have hnl : l.length = n := by
    obtain ⟨ad, cp, hv⟩ := hR.form
    rw [List.length_map] at hv
    cases hv
    rfl
  have hmi : (n : Int) ≤ 9223372036854775807 := by unfold maxLen at hl; omega
  have HR := hid hR
  have HN := hid hnl
  obtain ⟨V, eV⟩ : ∃ V, V = vwB v l := ⟨_, rfl⟩
  rw [← eV]
  have HV : Hid (V = (inB v 1 15 && l.all fun x => decide (x.2.1 = v))) := hid eV
  obtain ⟨B, eB⟩ : ∃ B, B = inB v 1 15 := ⟨_, rfl⟩
  have HL : Hid (∀ u : World, Calls Try.prog 57 #[.int .i64 v] u fun e w' => e = .returned (.bool B) ∧ Below u.heap.size u w') := hid (fun u => by rw [eB]; exact zlater_any v u)
  rw [← eB] at HV
  clear eV eB hR hl hnl
  cases B with
  | false =>
    have HV2 : Hid (V = false) := hid HV.out
    go_enter Try.func72, Try.ntmps72
    go_wp2_with (go_at_call 57; go_must (refine (HL.out _).mono ?_); rintro e w1 ⟨rfl, hb⟩; have H1 := hid hb; clear hb)
    go_ret
    exact ⟨by rw [HV2.out]; rfl, H1.out⟩
  | true =>
    have HV2 : Hid (V = l.all fun x => decide (x.2.1 = v)) := hid (by rw [HV.out, Bool.true_and])
    go_enter Try.func72, Try.ntmps72
    go_wp2_with (go_at_call 57; go_must (refine (HL.out _).mono ?_); rintro e w1 ⟨rfl, hb⟩; have H1 := hid hb; clear hb)
    go_loopw [12] (fun i wr => ∃ j : Nat, j ≤ n ∧ i = .int .i64 (j : Int) ∧ (l.take j).all (fun x => decide (x.2.1 = v)) = true ∧ Below w.heap.size w wr)
      (fun i _ => ((n : Int) - intOf i).toNat)
    case atStart => exact ⟨0, Nat.zero_le _, rfl, rfl, H1.out⟩
    case round =>
      obtain ⟨j, hj, rfl, hok, hB⟩ := hrel
      have HB := hid hB
      have HOk := hid hok
      clear hok hB
      have hj0 : (0 : Int) ≤ (j : Int) := Int.natCast_nonneg _
      by_cases hjn : j = n
      · have hj1 : ¬ ((j : Int) < (n : Int)) := by omega
        have hv : Hid (V = true) := hid (by
          have := HOk.out
          rw [hjn, ← HN.out, List.take_length] at this
          rw [HV2.out]
          exact this)
        clear hj hjn
        go_wp2
        go_ret
        exact ⟨by rw [hv.out]; rfl, HB.out⟩
      · have hj1 : (j : Int) < (n : Int) := by omega
        have hjl : j < l.length := by have := HN.out; omega
        have HBw := HB.out
        have hR2 := HR.out
        rw [← HN.out] at hR2
        obtain ⟨g, off, cp, a8, n8, k8, hv, hp, hg, hcl⟩ := cg_at (hR2.under HBw (Nat.le_refl _)) j hjl
        cases hv
        have HJ := hid (And.intro hj hjn)
        have HFa : Hid (decide ((l.getD j cg0).2.1 = v) = false → V = false) := hid (fun e => by rw [HV2.out]; exact all_no (d := cg0) j hjl e)
        have HTr : Hid (decide ((l.getD j cg0).2.1 = v) = true → (l.take (j + 1)).all (fun x => decide (x.2.1 = v)) = true) := hid (fun e => all_more (d := cg0) j hjl HOk.out e)
        generalize l.getD j cg0 = y at hcl HFa HTr
        have k0 : wr.cell? ⟨g, off + j * 5, none⟩ = some (.int .i64 y.1) := hcl 0 _ rfl
        have k1 : wr.cell? ⟨g, off + j * 5 + 1, none⟩ = some (.int .i64 y.2.1) := hcl 1 _ rfl
        have k2 : wr.cell? ⟨g, off + j * 5 + 2, none⟩ = some (.slice a8 n8 k8) := hcl 2 _ rfl
        have k3 : wr.cell? ⟨g, off + j * 5 + 3, none⟩ = some (.int .i64 y.2.2.2.1) := hcl 3 _ rfl
        have k4 : wr.cell? ⟨g, off + j * 5 + 4, none⟩ = some (.string y.2.2.2.2) := hcl 4 _ rfl
        clear hj hjn hjl hp hg hcl hR2 HBw
        by_cases hvv : y.2.1 = v
        · have hvb : (y.2.1 == v) = true := by simpa using hvv
          have hvn : (y.2.1 != v) = false := by rw [bne, hvb]; rfl
          have HT := hid (HTr.out (decide_eq_true hvv))
          clear hvv
          go_wp2
          go_roundw
          case rel => exact ⟨j + 1, by have := HJ.out; omega, by go_num, HT.out, HB.out.alloc HB.out.size _⟩
          case measure => simp [intOf]; omega
        · have hvb : (y.2.1 == v) = false := by simpa using hvv
          have hvn : (y.2.1 != v) = true := by rw [bne, hvb]; rfl
          have hf := hid (HFa.out (decide_eq_false hvv))
          clear hvv
          go_wp2
          go_ret
          exact ⟨by rw [hf.out]; rfl, HB.out.alloc HB.out.size _⟩
set_option maxRecDepth 100000 in
set_option maxHeartbeats 3200000 in
theorem zrising_any {F : Nat → Prop} (a : Option Addr) (n cap : Nat) (l : List Cg) (hl : l.length ≤ maxLen) (w : World) (hR : Reads F w (.slice a n cap) (dCgs l)) :
    Calls Try.prog 73 #[.slice a n cap] w fun e w' => e = .returned (.bool (rsgB l)) ∧ Below w.heap.size w w' := by
  have hnl : l.length = n := by
    obtain ⟨ad, cp, hv⟩ := hR.form
    rw [List.length_map] at hv
    cases hv
    rfl
  have hmi : (n : Int) ≤ 9223372036854775807 := by unfold maxLen at hl; omega
  have HR := hid hR
  have HN := hid hnl
  obtain ⟨V, eV⟩ : ∃ V, V = rsgB l := ⟨_, rfl⟩
  rw [← eV]
  have HV : Hid (V = allTo (fun i => decide (i = 0) || decide ((l.getD (i - 1) cg0).1 < (l.getD i cg0).1)) n) := hid (by rw [eV, rsgB, hnl])
  clear eV hR hl hnl
  go_enter Try.func73, Try.ntmps73
  go_wp2
  go_loopw [3] (fun i wr => ∃ j : Nat, 1 ≤ j ∧ (j ≤ n ∨ j = 1) ∧ i = .int .i64 (j : Int) ∧ (∀ i, i < j → i < n → (decide (i = 0) || decide ((l.getD (i - 1) cg0).1 < (l.getD i cg0).1)) = true) ∧ Below w.heap.size w wr)
    (fun i _ => ((n : Int) - intOf i).toNat)
  case atStart => exact ⟨1, Nat.le_refl _, .inr rfl, rfl, fun i h1 _ => by rw [show i = 0 by omega]; rfl, Below.refl _ _⟩
  case round =>
    obtain ⟨j, hj1', hj, rfl, hok, hB⟩ := hrel
    have HB := hid hB
    have HOk := hid hok
    clear hok hB
    have hj0 : (0 : Int) ≤ (j : Int) := Int.natCast_nonneg _
    by_cases hjn : ¬ j < n
    · have hj1 : ¬ ((j : Int) < (n : Int)) := by omega
      have hv : Hid (V = true) := hid (by rw [HV.out]; exact allTo_of (fun i hi => HOk.out i (by omega) hi))
      clear hj hjn hj1'
      go_wp2
      go_ret
      exact ⟨by rw [hv.out]; rfl, HB.out⟩
    · have hjn : j < n := Classical.not_not.1 hjn
      have hj1 : (j : Int) < (n : Int) := by omega
      have hjl : j < l.length := by have := HN.out; omega
      have HBw := HB.out
      have hR2 := HR.out
      rw [← HN.out] at hR2
      obtain ⟨g, off, cp, a8, n8, k8, hv, hp, hg, hcl⟩ := cg_at (hR2.under HBw (Nat.le_refl _)) j hjl
      cases hv
      obtain ⟨jm, ejm⟩ : ∃ jm : Nat, jm = j - 1 := ⟨_, rfl⟩
      obtain ⟨g2, o2, c2, a2, n2, k2, hv2, _, _, hc2⟩ := cg_at (hR2.under HBw (Nat.le_refl _)) jm (by omega)
      cases hv2
      have HJ := hid (And.intro hj1' hjn)
      have HFa : Hid (¬ (l.getD jm cg0).1 < (l.getD j cg0).1 → V = false) := hid (fun e => by rw [HV.out]; exact allTo_no j (by omega) (by rw [decide_eq_false (show ¬ j = 0 by omega), ← ejm, decide_eq_false e]; rfl))
      have HTr : Hid ((l.getD jm cg0).1 < (l.getD j cg0).1 → ∀ i, i < j + 1 → i < n → (decide (i = 0) || decide ((l.getD (i - 1) cg0).1 < (l.getD i cg0).1)) = true) := hid (fun e i h1 h2 => by
        rcases Nat.lt_or_ge i j with h3 | h3
        · exact HOk.out i h3 h2
        · obtain rfl : i = j := by omega
          rw [← ejm, decide_eq_true e, Bool.or_true])
      have k0 : ∀ x : Cls wr, x.1.cell? ⟨g, off + j * 5, none⟩ = some (.int .i64 (l.getD j cg0).1) := fun x => (World.cell?_of_block (a := ⟨g, off + j * 5, none⟩) (x.2.block g hg)).trans (hcl 0 _ rfl)
      have q0 : ∀ x : Cls wr, x.1.cell? ⟨g, off + jm * 5, none⟩ = some (.int .i64 (l.getD jm cg0).1) := fun x => (World.cell?_of_block (a := ⟨g, off + jm * 5, none⟩) (x.2.block g hg)).trans (hc2 0 _ rfl)
      generalize (l.getD j cg0).1 = y at k0 HFa HTr
      generalize (l.getD jm cg0).1 = ps at q0 HFa HTr
      have hw : IntKind.i64.wrap ((j : Int) - 1) = (jm : Int) := by rw [show (j : Int) - 1 = (jm : Int) by omega]; exact wrap_any _ (by omega) (by omega)
      have hjm0 : (0 : Int) ≤ (jm : Int) := Int.natCast_nonneg _
      have hjm1 : (jm : Int) < (n : Int) := by omega
      clear hj hjn hjl hp hg hcl hR2 HBw hj1' ejm hc2
      haveI := Cls.ne wr
      by_cases hlt : ps < y
      · have hle : decide (y ≤ ps) = false := decide_eq_false (by omega)
        have hle2 : ¬ (y ≤ ps) := by omega
        have HT := hid (HTr.out hlt)
        go_wp2_with fail
        refine wp_region_cls wr (by kernel_rfl) (by kernel_rfl) ?_
        repeat (go_big_quiet_step (fail))
        refine wpQuiet_nil ?_
        rintro _ ⟨x, rfl⟩
        go_wp2
        go_roundw
        case rel => exact ⟨j + 1, by omega, by have := HJ.out; omega, by go_num, HT.out, HB.out.trans (x.2.mono HB.out.size)⟩
        case measure => simp [intOf]; omega
      · have hle : decide (y ≤ ps) = true := decide_eq_true (by omega)
        have hle2 : y ≤ ps := by omega
        have hf := hid (HFa.out hlt)
        go_wp2_with fail
        refine wp_region_cls wr (by kernel_rfl) (by kernel_rfl) ?_
        repeat (go_big_quiet_step (fail))
        refine wpQuiet_nil ?_
        rintro _ ⟨x, rfl⟩
        go_wp2
        go_ret
        exact ⟨by rw [hf.out]; rfl, HB.out.trans (x.2.mono HB.out.size)⟩
set_option maxRecDepth 100000 in
set_option maxHeartbeats 6400000 in
theorem zrefuse_any {F : Nat → Prop} (ep : Int) (am : Option Addr) (nm cm : Nat) (m : List Int) (hn : m.length = nm) (hm : nm ≤ maxLen) (v : Int) (a : Option Addr) (n cap : Nat) (l : List Cg) (hl : l.length ≤ maxLen) (hb : ∀ x, x ∈ l → cgR x) (w : World) (hI : IntsIn w am m) (hR : Reads F w (.slice a n cap) (dCgs l)) :
    Calls Try.prog 46 #[.agg #[.int .i64 ep, .slice am nm cm], .int .i64 v, .slice a n cap] w fun e w' => e = .returned (.int .i64 (rfE ep m v l)) ∧ Below w.heap.size w w' := by
  have hnl : l.length = n := by
    obtain ⟨ad, cp, hv⟩ := hR.form
    rw [List.length_map] at hv
    cases hv
    rfl
  have hmi : (n : Int) ≤ 9223372036854775807 := by unfold maxLen at hl; omega
  have HR := hid hR
  have HN := hid hnl
  obtain ⟨V, eV⟩ : ∃ V, V = rfE ep m v l := ⟨_, rfl⟩
  rw [← eV]
  obtain ⟨wa, ea⟩ : ∃ wa, wa = w.alloc (.cells #[.int .i64 ep, .slice am nm cm] 34) := ⟨_, rfl⟩
  have hba : Below w.heap.size w wa := by rw [ea]; exact (Below.refl _ _).alloc (Nat.le_refl _) _
  have hX1 : BxAt wa w.heap.size [.int .i64 ep, .slice am nm cm] 34 := by rw [ea]; exact heap_alloc_last w _
  have H0 := hid (And.intro hX1 hba)
  have HEa := hid ea
  obtain ⟨B1, e1⟩ : ∃ B, B = rightC ep m := ⟨_, rfl⟩
  have HRi : Hid (∀ u : World, Below w.heap.size w u → Calls Try.prog 19 #[.agg #[.int .i64 ep, .slice am nm cm]] u fun e w' => e = .returned (.bool B1) ∧ Below u.heap.size u w') := hid (fun u hu => by rw [e1]; exact cright_any ep am nm cm m hn hm u (hI.keep hu (Nat.le_refl _)))
  obtain ⟨B2, e2⟩ : ∃ B, B = vwB v l := ⟨_, rfl⟩
  have HAr : Hid (∀ u : World, Below w.heap.size w u → Calls Try.prog 72 #[.int .i64 v, .slice a n cap] u fun e w' => e = .returned (.bool B2) ∧ Below u.heap.size u w') := hid (fun u hu => by rw [e2]; exact zareOf_any v a n cap l hl u (hR.under hu (Nat.le_refl _)))
  obtain ⟨B3, e3⟩ : ∃ B, B = rsgB l := ⟨_, rfl⟩
  have HRs : Hid (∀ u : World, Below w.heap.size w u → Calls Try.prog 73 #[.slice a n cap] u fun e w' => e = .returned (.bool B3) ∧ Below u.heap.size u w') := hid (fun u hu => by rw [e3]; exact zrising_any a n cap l hl u (hR.under hu (Nat.le_refl _)))
  obtain ⟨qz, eqz⟩ : ∃ q, q = quoZ (nm : Int) := ⟨_, rfl⟩
  have HQx : Hid (∀ u : World, Below w.heap.size w u → Calls Try.prog 23 #[.int .i64 (nm : Int)] u fun e w' => e = .returned (.int .i64 qz) ∧ Below u.heap.size u w') := hid (fun u _ => by rw [eqz]; exact cquorum_any (nm : Int) (by unfold maxLen at hm; omega) u)
  have HRg : Hid (∀ (y : Cg) (a8 : Option Addr) (n8 k8 : Nat) (u : World), cgR y → Below w.heap.size w u → Reads F u (.slice a8 n8 k8) (dCts y.2.2.1) → Calls Try.prog 12 #[.agg #[.int .i64 ep, .slice am nm cm], .agg #[.int .i64 y.1, .int .i64 y.2.1, .slice a8 n8 k8, .int .i64 y.2.2.2.1, .string y.2.2.2.2]] u fun e w' => e = .returned (.int .i64 (riE ep m y)) ∧ Below u.heap.size u w') := hid (fun y a8 n8 k8 u hy hu hr => zright_any ep am nm cm m hn hm y a8 n8 k8 hy u (hI.keep hu (Nat.le_refl _)) hr)
  have hVe : V = (if B1 = true then (if B2 = true then (if riA ep m l = 0 then (if B3 = true then (if qz ≤ (n : Int) then 0 else 15) else 17) else riA ep m l) else 13) else 1) := by rw [eV, rfE, e1, e2, e3, eqz, ← hn, hnl]
  have HBd := hid hb
  clear hn hm hl hb hI hR ea hba hX1 e1 e2 e3 eqz eV hnl
  have x0 := H0.out.1.cell 0 _ rfl; have x1 := H0.out.1.cell 1 _ rfl
  cases B1 with
  | false =>
    have HV : Hid (V = 1) := hid hVe
    clear hVe HR HN
    go_enter Try.func46, Try.ntmps46
    go_wp2_with fail
    rw [← HEa.out]
    go_wp2_with (first
      | (have := H0; go_at_call 19; go_must (refine (HRi.out _ H0.out.2).mono ?_); rintro e w1 ⟨rfl, hb⟩; have H1 : Hid (BxAt w1 w.heap.size [.int .i64 ep, .slice am nm cm] 34 ∧ Below w.heap.size w w1) := hid ⟨H0.out.1.keep hb, H0.out.2.trans (hb.mono H0.out.2.size)⟩; clear hb x0 x1; have x0 := H1.out.1.cell 0 _ rfl; have x1 := H1.out.1.cell 1 _ rfl))
    go_ret
    exact ⟨by rw [HV.out]; rfl, H1.out.2⟩
  | true =>
    cases B2 with
    | false =>
      have HV : Hid (V = 13) := hid hVe
      clear hVe HR HN
      go_enter Try.func46, Try.ntmps46
      go_wp2_with fail
      rw [← HEa.out]
      go_wp2_with (first
        | (have := H1; go_at_call 72; go_must (refine (HAr.out _ H1.out.2).mono ?_); rintro e w2 ⟨rfl, hb⟩; have H2 : Hid (BxAt w2 w.heap.size [.int .i64 ep, .slice am nm cm] 34 ∧ Below w.heap.size w w2) := hid ⟨H1.out.1.keep hb, H1.out.2.trans (hb.mono H1.out.2.size)⟩; clear hb x0 x1; have x0 := H2.out.1.cell 0 _ rfl; have x1 := H2.out.1.cell 1 _ rfl)
        | (have := H0; go_at_call 19; go_must (refine (HRi.out _ H0.out.2).mono ?_); rintro e w1 ⟨rfl, hb⟩; have H1 : Hid (BxAt w1 w.heap.size [.int .i64 ep, .slice am nm cm] 34 ∧ Below w.heap.size w w1) := hid ⟨H0.out.1.keep hb, H0.out.2.trans (hb.mono H0.out.2.size)⟩; clear hb x0 x1; have x0 := H1.out.1.cell 0 _ rfl; have x1 := H1.out.1.cell 1 _ rfl))
      go_ret
      exact ⟨by rw [HV.out]; rfl, H2.out.2⟩
    | true =>
      have HV : Hid (V = if riA ep m l = 0 then (if B3 = true then (if qz ≤ (n : Int) then 0 else 15) else 17) else riA ep m l) := hid hVe
      clear hVe
      go_enter Try.func46, Try.ntmps46
      go_wp2_with fail
      rw [← HEa.out]
      go_wp2_with (first
        | (have := H1; go_at_call 72; go_must (refine (HAr.out _ H1.out.2).mono ?_); rintro e w2 ⟨rfl, hb⟩; have H2 : Hid (BxAt w2 w.heap.size [.int .i64 ep, .slice am nm cm] 34 ∧ Below w.heap.size w w2) := hid ⟨H1.out.1.keep hb, H1.out.2.trans (hb.mono H1.out.2.size)⟩; clear hb x0 x1; have x0 := H2.out.1.cell 0 _ rfl; have x1 := H2.out.1.cell 1 _ rfl)
        | (have := H0; go_at_call 19; go_must (refine (HRi.out _ H0.out.2).mono ?_); rintro e w1 ⟨rfl, hb⟩; have H1 : Hid (BxAt w1 w.heap.size [.int .i64 ep, .slice am nm cm] 34 ∧ Below w.heap.size w w1) := hid ⟨H0.out.1.keep hb, H0.out.2.trans (hb.mono H0.out.2.size)⟩; clear hb x0 x1; have x0 := H1.out.1.cell 0 _ rfl; have x1 := H1.out.1.cell 1 _ rfl))
      clear x0 x1
      go_loopw [19] (fun i wr => ∃ j : Nat, j ≤ n ∧ i = .int .i64 (j : Int) ∧ riA ep m (l.take j) = 0 ∧ Below w2.heap.size w2 wr)
        (fun i _ => ((n : Int) - intOf i).toNat)
      case atStart => exact ⟨0, Nat.zero_le _, rfl, rfl, Below.refl _ _⟩
      case round =>
        obtain ⟨j, hj, rfl, hok, hB⟩ := hrel
        have H4 : Hid (BxAt wr w.heap.size [.int .i64 ep, .slice am nm cm] 34 ∧ Below w.heap.size w wr) := hid ⟨H2.out.1.keep hB, H2.out.2.trans (hB.mono H2.out.2.size)⟩
        have HB := hid hB
        have HOk := hid hok
        clear hok hB
        have x0 := H4.out.1.cell 0 _ rfl; have x1 := H4.out.1.cell 1 _ rfl
        have hj0 : (0 : Int) ≤ (j : Int) := Int.natCast_nonneg _
        by_cases hjn : j = n
        · have hj1 : ¬ ((j : Int) < (n : Int)) := by omega
          have hce : riA ep m l = 0 := by
            have := HOk.out
            rw [hjn, ← HN.out, List.take_length] at this
            exact this
          have HV2 : Hid (V = if B3 = true then (if qz ≤ (n : Int) then 0 else 15) else 17) := hid (by rw [HV.out, if_pos hce])
          clear hj hjn hce
          cases B3 with
          | false =>
            have HV3 : Hid (V = 17) := hid HV2.out
            go_wp2_with (go_at_call 73; go_must (refine (HRs.out _ H4.out.2).mono ?_); rintro e w5 ⟨rfl, hb⟩; have H5 := hid (H4.out.2.trans (hb.mono H4.out.2.size)); clear hb)
            go_ret
            exact ⟨by rw [HV3.out]; rfl, H5.out⟩
          | true =>
            by_cases hq : qz ≤ (n : Int)
            · have HV3 : Hid (V = 0) := hid (by rw [HV2.out]; simp [hq])
              have hq2 : ¬ ((n : Int) < qz) := by omega
              go_wp2_with (first
                | (have := H5; go_at_call 23; go_must (refine (HQx.out _ H5.out.2).mono ?_); rintro e w6 ⟨rfl, hb⟩; have H6 := hid (H5.out.2.trans (hb.mono H5.out.2.size)); clear hb x0 x1)
                | (go_at_call 73; go_must (refine (HRs.out _ H4.out.2).mono ?_); rintro e w5 ⟨rfl, hb⟩; have H5 := hid (And.intro (H4.out.1.keep hb) (H4.out.2.trans (hb.mono H4.out.2.size))); clear hb x0 x1; have x0 := H5.out.1.cell 0 _ rfl; have x1 := H5.out.1.cell 1 _ rfl))
              go_ret
              exact ⟨by rw [HV3.out]; rfl, H6.out⟩
            · have HV3 : Hid (V = 15) := hid (by rw [HV2.out]; simp [hq])
              have hq2 : (n : Int) < qz := by omega
              go_wp2_with (first
                | (have := H5; go_at_call 23; go_must (refine (HQx.out _ H5.out.2).mono ?_); rintro e w6 ⟨rfl, hb⟩; have H6 := hid (H5.out.2.trans (hb.mono H5.out.2.size)); clear hb x0 x1)
                | (go_at_call 73; go_must (refine (HRs.out _ H4.out.2).mono ?_); rintro e w5 ⟨rfl, hb⟩; have H5 := hid (And.intro (H4.out.1.keep hb) (H4.out.2.trans (hb.mono H4.out.2.size))); clear hb x0 x1; have x0 := H5.out.1.cell 0 _ rfl; have x1 := H5.out.1.cell 1 _ rfl))
              go_ret
              exact ⟨by rw [HV3.out]; rfl, H6.out⟩
        · have hj1 : (j : Int) < (n : Int) := by omega
          have hjl : j < l.length := by have := HN.out; omega
          have HBw := H4.out.2
          have hR2 := HR.out
          rw [← HN.out] at hR2
          obtain ⟨g, off, cp, a8, n8, k8, hv, hp, hg, hcl⟩ := cg_at (hR2.under HBw (Nat.le_refl _)) j hjl
          cases hv
          have HJ := hid (And.intro hj hjn)
          obtain ⟨hs1, hs2⟩ := riA_step ep m l j HOk.out hjl
          have HYb := hid (HBd.out (l.getD j cg0) (by rw [List.getD_eq_getElem?_getD, List.getElem?_eq_getElem hjl]; exact List.getElem_mem hjl))
          generalize l.getD j cg0 = y at hcl hp hs1 hs2 HYb
          have HP := hid hp
          have HRy : Hid (∀ u : World, Below w.heap.size w u → Below wr.heap.size wr u → Calls Try.prog 12 #[.agg #[.int .i64 ep, .slice am nm cm], .agg #[.int .i64 y.1, .int .i64 y.2.1, .slice a8 n8 k8, .int .i64 y.2.2.2.1, .string y.2.2.2.2]] u fun e w' => e = .returned (.int .i64 (riE ep m y)) ∧ Below u.heap.size u w') := hid (fun u hu hr => HRg.out y a8 n8 k8 u HYb.out hu (HP.out.under hr (Nat.le_refl _)))
          obtain ⟨R, eR⟩ : ∃ R, R = riE ep m y := ⟨_, rfl⟩
          rw [← eR] at HRy hs1 hs2
          have HS1 := hid hs1
          have HS2 := hid hs2
          have k0 : wr.cell? ⟨g, off + j * 5, none⟩ = some (.int .i64 y.1) := hcl 0 _ rfl
          have k1 : wr.cell? ⟨g, off + j * 5 + 1, none⟩ = some (.int .i64 y.2.1) := hcl 1 _ rfl
          have k2 : wr.cell? ⟨g, off + j * 5 + 2, none⟩ = some (.slice a8 n8 k8) := hcl 2 _ rfl
          have k3 : wr.cell? ⟨g, off + j * 5 + 3, none⟩ = some (.int .i64 y.2.2.2.1) := hcl 3 _ rfl
          have k4 : wr.cell? ⟨g, off + j * 5 + 4, none⟩ = some (.string y.2.2.2.2) := hcl 4 _ rfl
          obtain ⟨wb, eb⟩ : ∃ wb, wb = wr.alloc (.cells #[.int .i64 y.1, .int .i64 y.2.1, .slice a8 n8 k8, .int .i64 y.2.2.2.1, .string y.2.2.2.2] 26) := ⟨_, rfl⟩
          have hbb : Below wr.heap.size wr wb := by rw [eb]; exact (Below.refl _ _).alloc (Nat.le_refl _) _
          have H5 : Hid (BxAt wb w.heap.size [.int .i64 ep, .slice am nm cm] 34 ∧ Below w.heap.size w wb ∧ Below wr.heap.size wr wb) := hid ⟨H4.out.1.keep hbb, H4.out.2.trans (hbb.mono H4.out.2.size), hbb⟩
          have HEb := hid eb
          have xa0 : (wr.alloc (.cells #[.int .i64 y.1, .int .i64 y.2.1, .slice a8 n8 k8, .int .i64 y.2.2.2.1, .string y.2.2.2.2] 26)).cell? ⟨w.heap.size, 0, none⟩ = some (.int .i64 ep) := by rw [← eb]; exact H5.out.1.cell 0 _ rfl
          have xa1 : (wr.alloc (.cells #[.int .i64 y.1, .int .i64 y.2.1, .slice a8 n8 k8, .int .i64 y.2.2.2.1, .string y.2.2.2.2] 26)).cell? ⟨w.heap.size, 1, none⟩ = some (.slice am nm cm) := by rw [← eb]; exact H5.out.1.cell 1 _ rfl
          clear hj hjn hjl hp hg hcl hR2 HBw hs1 hs2 eR eb hbb x0 x1
          by_cases hR0 : R = 0
          · have HO2 : Hid (riA ep m (l.take (j + 1)) = 0) := hid (by rw [HS1.out]; exact hR0)
            subst hR0
            go_wp2_with fail
            rw [← HEb.out]
            go_must (refine (HRy.out _ H5.out.2.1 H5.out.2.2).mono ?_)
            rintro e w6 ⟨rfl, hb⟩
            have H6 := hid (HB.out.trans ((H5.out.2.2.trans (hb.mono H5.out.2.2.size)).mono HB.out.size))
            clear hb k0 k1 k2 k3 k4 xa0 xa1
            go_wp2
            go_roundw
            case rel => exact ⟨j + 1, by have := HJ.out; omega, by go_num, HO2.out, H6.out⟩
            case measure => simp [intOf]; omega
          · have hRb : (R != 0) = true := by simpa using hR0
            have HV2 : Hid (V = R) := hid (by rw [HV.out, HS2.out hR0, if_neg hR0])
            clear hR0
            go_wp2_with fail
            rw [← HEb.out]
            go_must (refine (HRy.out _ H5.out.2.1 H5.out.2.2).mono ?_)
            rintro e w6 ⟨rfl, hb⟩
            have H6 := hid (H5.out.2.1.trans (hb.mono H5.out.2.1.size))
            clear hb k0 k1 k2 k3 k4 xa0 xa1
            go_wp2
            go_ret
            exact ⟨by rw [HV2.out]; rfl, H6.out⟩
end Go.Proofs.Ythoofboegchodaa
