/- Texts laid together: PyH PyI PyJ PaP PaL. -/
import Derived.Test.YtchlmcpnjpllnaaX10
import Derived.WalkMore
import Derived.Lib.SliceRun
/- Which signatures the program takes. -/
namespace Go.Proofs.Ytchlmcpnjpllnaa
open Go.RowKit

set_option maxRecDepth 100000 in
set_option maxHeartbeats 6400000 in
theorem ysigs_any (a : Option Addr) (n cap : Nat) (ps : List (Int × ByteArray)) (hn : ps.length = n) (hm : n ≤ maxLen) (T : ByteArray) (hT : T.size ≤ 1000000) (ad : Option Addr) (m cp : Nat) (ss : List (Int × ByteArray)) (hsn : ss.length = m) (hsm : m ≤ maxLen) (w : World) (hP : PairsIn w a ps) (hQ : PairsIn w ad ss) :
    Calls Try.prog 45 #[.slice a n cap, .string T, .slice ad m cp] w fun e w' => e = .returned (.bool (okGTo ps T ss m)) ∧ Below w.heap.size w w' := by
  have hm2 : (m : Int) ≤ 9223372036854775807 := by unfold maxLen at hsm; omega
  have HK : Hid (∀ (id : Int) (u : World), PairsIn u a ps → Calls Try.prog 65 #[.slice a n cap, .int .i64 id] u fun e w' => e = .returned (.tuple #[.string (seatS ps id), .bool (seatB ps id)]) ∧ Below u.heap.size u w') := hid (fun id u hu => yroot_any a n cap ps hn hm id u hu)
  have HVy : Hid (∀ (k sig : ByteArray) (b : Bool), takenB k 3 T sig = b → ∀ u : World, Calls Try.prog 66 #[.string k, .int .i64 3, .string T, .string sig] u fun e w' => e = .returned (.bool b) ∧ Below u.heap.size u w') := hid (fun k sig b hb u => by rw [← hb]; exact gverify_any k 3 T sig hT u)
  have HP := hid hP
  have HQ := hid (And.intro hQ hsn)
  clear hP hQ hm hn hsm hsn hT
  go_enter Try.func45, Try.ntmps45
  go_wp2
  go_step3
  go_wp2
  go_step3
  go_wp2
  go_loopw [14, 7] (fun i c wr => ∃ j : Nat, j ≤ m ∧ i = .int .i64 (j : Int) ∧ c = .int .i64 (j : Int) ∧ okGTo ps T ss j = true ∧ Below w.heap.size w wr)
    (fun i _ _ => ((m : Int) - intOf i).toNat)
  case atStart => exact ⟨0, by omega, rfl, rfl, rfl, Below.refl _ _⟩
  case round =>
    obtain ⟨j, hj, rfl, rfl, hok, hbel⟩ := hrel
    have HB := hid hbel
    clear hbel
    have hj0 : (0 : Int) ≤ (j : Int) := Int.natCast_nonneg _
    by_cases hjm : j = m
    · have hj1 : ¬ ((j : Int) < (m : Int)) := by omega
      rw [hjm] at hok
      have HO := hid (And.intro hok hjm)
      clear hj hjm hok
      go_wp2
      try rw [Exit.noGoto_ret]
      go_ret
      exact ⟨by rw [HO.out.1, HO.out.2]; simp, HB.out⟩
    · have hj1 : (j : Int) < (m : Int) := by omega
      have hjl : j < ss.length := by rw [HQ.out.2]; omega
      obtain ⟨g, off, rfl, hg, hc1, hc2⟩ := HQ.out.1.at j _ (getP_some hjl)
      have k1 := (HB.out.cell (p := ⟨g, _, none⟩) hg).trans hc1
      have k2 := (HB.out.cell (p := ⟨g, _, none⟩) hg).trans hc2
      have HNo : Hid (okG ps T ss j = false → okGTo ps T ss m = false) := hid (fun h => okGTo_false ps T ss (j + 1) m (by rw [okGTo_succ, h]; simp) (by omega))
      have HYes : Hid (okG ps T ss j = true → okGTo ps T ss (j + 1) = true) := hid (fun h => by rw [okGTo_succ, hok, h]; rfl)
      have HG0 : Hid (okG ps T ss j = (seatB ps (idOf ss j) && ((decide (j = 0) || decide (idOf ss (j - 1) < idOf ss j)) && takenB (seatS ps (idOf ss j)) 3 T (rtOf ss j)))) := hid rfl
      obtain ⟨x, ex⟩ : ∃ x, x = idOf ss j := ⟨_, rfl⟩
      obtain ⟨r, er⟩ : ∃ r, r = rtOf ss j := ⟨_, rfl⟩
      rw [← ex] at k1 HG0
      rw [← er] at k2 HG0
      obtain ⟨B, eB⟩ : ∃ B, B = seatB ps x := ⟨_, rfl⟩
      obtain ⟨K, eK⟩ : ∃ K, K = seatS ps x := ⟨_, rfl⟩
      obtain ⟨V, eV⟩ : ∃ V, V = takenB K 3 T r := ⟨_, rfl⟩
      have HRt : Hid (∀ (u : World), PairsIn u a ps → Calls Try.prog 65 #[.slice a n cap, .int .i64 x] u fun e w' => e = .returned (.tuple #[.string K, .bool B]) ∧ Below u.heap.size u w') := hid (fun u hu => by rw [eB, eK]; exact HK.out x u hu)
      have HVf : Hid (∀ (b : Bool), V = b → ∀ u : World, Calls Try.prog 66 #[.string K, .int .i64 3, .string T, .string r] u fun e w' => e = .returned (.bool b) ∧ Below u.heap.size u w') := hid (fun b hb u => HVy.out K r b (by rw [← eV]; exact hb) u)
      rw [← eB, ← eK, ← eV] at HG0
      have HA : Hid (PairsIn (wr.alloc (.cells #[.int .i64 x, .string r] 54)) a ps) := hid (HP.out.keep (HB.out.alloc HB.out.size _) (Nat.le_refl _))
      have HJ := hid (And.intro hj hjm)
      clear hok hjl hc1 hc2 er eB eK eV
      generalize okG ps T ss j = G at HNo HYes HG0
      by_cases hz : j = 0
      · have d4 : decide (0 < j) = false := decide_eq_false (by omega)
        have HG : Hid (G = (B && V)) := hid (by rw [HG0.out, decide_eq_true hz]; simp)
        clear hj hjm hz ex hg HG0
        go_wp2_with (go_at_call 65; refine (HRt.out _ (by exact HA.out)).mono ?_; rintro e w1 ⟨rfl, hb1⟩
                     have HW1 := hid (And.intro ((hb1.block _ (lt_of_blk (heap_alloc_last wr (.cells #[.int .i64 x, .string r] 54)))).trans (heap_alloc_last wr (.cells #[.int .i64 x, .string r] 54))) ((HB.out.alloc HB.out.size (.cells #[.int .i64 x, .string r] 54)).trans (hb1.mono (by have := HB.out.size; simp; omega))))
                     clear hb1)
        obtain ⟨b, eb⟩ : ∃ b, b = wr.heap.size := ⟨_, rfl⟩
        rw [← eb] at HW1 ⊢
        have z0 : ∀ q : Cls w1, q.1.cell? ⟨b, 0, none⟩ = some (.int .i64 x) := fun q => (cell_two ((q.2.block b (lt_of_blk HW1.out.1)).trans HW1.out.1)).1
        clear eb
        haveI := Cls.ne w1
        refine wp_region_cls w1 (by kernel_rfl) (by kernel_rfl) ?_
        repeat (go_big_quiet_step ((fail)))
        refine wpQuiet_nil ?_
        rintro _ ⟨q, rfl⟩
        have HW2 := hid (And.intro ((q.2.block b (lt_of_blk HW1.out.1)).trans HW1.out.1) (HW1.out.2.trans (q.2.mono HW1.out.2.size)))
        have y1 := (cell_two HW2.out.1).2
        clear z0
        cases B with
        | false =>
          have HE := hid (HNo.out (by rw [HG.out]; rfl))
          go_wp2
          try rw [Exit.noGoto_ret]
          go_ret
          exact ⟨by rw [HE.out]; simp; have := HJ.out; omega, HW2.out.2⟩
        | true =>
          cases V with
          | false =>
            have HE := hid (HNo.out (by rw [HG.out]; simp))
            have HVb := hid (HVf.out false rfl)
            clear HVf
            go_wp2_with (go_at_call 66; refine (HVb.out _).mono ?_; rintro e w4 ⟨rfl, hb4⟩; have H4 := hid (HW2.out.2.trans (hb4.mono HW2.out.2.size)); clear hb4)
            try rw [Exit.noGoto_ret]
            go_ret
            exact ⟨by rw [HE.out]; simp; have := HJ.out; omega, H4.out⟩
          | true =>
            have HE := hid (HYes.out (by rw [HG.out]; rfl))
            have HVb := hid (HVf.out true rfl)
            clear HVf
            go_wp2_with (go_at_call 66; refine (HVb.out _).mono ?_; rintro e w4 ⟨rfl, hb4⟩; have H4 := hid (HW2.out.2.trans (hb4.mono HW2.out.2.size)); clear hb4)
            go_roundw
            case rel => exact ⟨j + 1, by have := HJ.out; omega, by go_num, by go_num, HE.out, H4.out⟩
            case measure => simp [intOf]; omega
      · obtain ⟨i, rfl⟩ : ∃ i, j = i + 1 := ⟨j - 1, by omega⟩
        obtain ⟨g', off', eg, hg', hcellp, _⟩ := HQ.out.1.at i _ (getP_some (by rw [HQ.out.2]; omega))
        obtain ⟨rfl, rfl⟩ : g = g' ∧ off = off' := by simp at eg; exact eg
        obtain ⟨y, ey⟩ : ∃ y, y = idOf ss i := ⟨_, rfl⟩
        rw [← ey] at hcellp
        have HG1 : Hid (G = (B && (decide (y < x) && V))) := hid (by rw [HG0.out, decide_eq_false hz, ey]; rfl)
        have hi1 : (i : Int) < (m : Int) := by omega
        have hi2 : (0 : Int) ≤ (i : Int) := by omega
        have d4 : decide ((0 : Int) < (i : Int) + 1) = true := decide_eq_true (by omega)
        have HCp := hid (And.intro hg' hcellp)
        clear eg hz ey hj hjm ex hg HG0 hg' hcellp
        by_cases hxy : x ≤ y
        · have d5 : decide (x ≤ y) = true := decide_eq_true hxy
          have HE := hid (HNo.out (by rw [HG1.out, decide_eq_false (by omega)]; simp))
          go_wp2_with (go_at_call 65; refine (HRt.out _ (by exact HA.out)).mono ?_; rintro e w1 ⟨rfl, hb1⟩
                       have HW1 := hid (And.intro ((hb1.block _ (lt_of_blk (heap_alloc_last wr (.cells #[.int .i64 x, .string r] 54)))).trans (heap_alloc_last wr (.cells #[.int .i64 x, .string r] 54))) ((HB.out.alloc HB.out.size (.cells #[.int .i64 x, .string r] 54)).trans (hb1.mono (by have := HB.out.size; simp; omega))))
                       clear hb1)
          obtain ⟨b, eb⟩ : ∃ b, b = wr.heap.size := ⟨_, rfl⟩
          rw [← eb] at HW1 ⊢
          have z0 : ∀ q : Cls w1, q.1.cell? ⟨b, 0, none⟩ = some (.int .i64 x) := fun q => (cell_two ((q.2.block b (lt_of_blk HW1.out.1)).trans HW1.out.1)).1
          clear eb
          have z3 : ∀ q : Cls w1, q.1.cell? ⟨g, off + i * 2, none⟩ = some (.int .i64 y) := fun q => ((HW1.out.2.trans (q.2.mono HW1.out.2.size)).cell (p := ⟨g, _, none⟩) HCp.out.1).trans HCp.out.2
          haveI := Cls.ne w1
          refine wp_region_cls w1 (by kernel_rfl) (by kernel_rfl) ?_
          repeat (go_big_quiet_step ((fail)))
          refine wpQuiet_nil ?_
          rintro _ ⟨q, rfl⟩
          have HW2 := hid (And.intro ((q.2.block b (lt_of_blk HW1.out.1)).trans HW1.out.1) (HW1.out.2.trans (q.2.mono HW1.out.2.size)))
          have y1 := (cell_two HW2.out.1).2
          clear z0 z3
          go_wp2
          try rw [Exit.noGoto_ret]
          go_ret
          exact ⟨by rw [HE.out]; simp; have := HJ.out; omega, HW2.out.2⟩
        · have d5 : decide (x ≤ y) = false := decide_eq_false hxy
          have HG : Hid (G = (B && V)) := hid (by rw [HG1.out, decide_eq_true (show y < x by omega)]; rfl)
          go_wp2_with (go_at_call 65; refine (HRt.out _ (by exact HA.out)).mono ?_; rintro e w1 ⟨rfl, hb1⟩
                       have HW1 := hid (And.intro ((hb1.block _ (lt_of_blk (heap_alloc_last wr (.cells #[.int .i64 x, .string r] 54)))).trans (heap_alloc_last wr (.cells #[.int .i64 x, .string r] 54))) ((HB.out.alloc HB.out.size (.cells #[.int .i64 x, .string r] 54)).trans (hb1.mono (by have := HB.out.size; simp; omega))))
                       clear hb1)
          obtain ⟨b, eb⟩ : ∃ b, b = wr.heap.size := ⟨_, rfl⟩
          rw [← eb] at HW1 ⊢
          have z0 : ∀ q : Cls w1, q.1.cell? ⟨b, 0, none⟩ = some (.int .i64 x) := fun q => (cell_two ((q.2.block b (lt_of_blk HW1.out.1)).trans HW1.out.1)).1
          clear eb
          have z3 : ∀ q : Cls w1, q.1.cell? ⟨g, off + i * 2, none⟩ = some (.int .i64 y) := fun q => ((HW1.out.2.trans (q.2.mono HW1.out.2.size)).cell (p := ⟨g, _, none⟩) HCp.out.1).trans HCp.out.2
          haveI := Cls.ne w1
          refine wp_region_cls w1 (by kernel_rfl) (by kernel_rfl) ?_
          repeat (go_big_quiet_step ((fail)))
          refine wpQuiet_nil ?_
          rintro _ ⟨q, rfl⟩
          have HW2 := hid (And.intro ((q.2.block b (lt_of_blk HW1.out.1)).trans HW1.out.1) (HW1.out.2.trans (q.2.mono HW1.out.2.size)))
          have y1 := (cell_two HW2.out.1).2
          clear z0 z3
          cases B with
          | false =>
            have HE := hid (HNo.out (by rw [HG.out]; rfl))
            go_wp2
            try rw [Exit.noGoto_ret]
            go_ret
            exact ⟨by rw [HE.out]; simp; have := HJ.out; omega, HW2.out.2⟩
          | true =>
            cases V with
            | false =>
              have HE := hid (HNo.out (by rw [HG.out]; simp))
              have HVb := hid (HVf.out false rfl)
              clear HVf
              go_wp2_with (go_at_call 66; refine (HVb.out _).mono ?_; rintro e w4 ⟨rfl, hb4⟩; have H4 := hid (HW2.out.2.trans (hb4.mono HW2.out.2.size)); clear hb4)
              try rw [Exit.noGoto_ret]
              go_ret
              exact ⟨by rw [HE.out]; simp; have := HJ.out; omega, H4.out⟩
            | true =>
              have HE := hid (HYes.out (by rw [HG.out]; rfl))
              have HVb := hid (HVf.out true rfl)
              clear HVf
              go_wp2_with (go_at_call 66; refine (HVb.out _).mono ?_; rintro e w4 ⟨rfl, hb4⟩; have H4 := hid (HW2.out.2.trans (hb4.mono HW2.out.2.size)); clear hb4)
              go_roundw
              case rel => exact ⟨i + 1 + 1, by have := HJ.out; omega, by go_num, by go_num, HE.out, H4.out⟩
              case measure => simp [intOf]; omega
end Go.Proofs.Ytchlmcpnjpllnaa

/- Which certificate the program takes. -/
namespace Go.Proofs.Ytchlmcpnjpllnaa
open Go.RowKit

/-- While a certificate is checked: the old paper, the result, what was read of the certificate at q. -/
structure ChSt (w0 : World) (ep : Int) (vo : Value) (q : Nat) (T : ByteArray) (Z : Int) (v : Value) (P : List (Int × ByteArray)) (u : Value) (L : List (Int × ByteArray)) (w : World) : Prop where
  old : PpAt w w0.heap.size ep vo 24
  res : w.heap[w0.heap.size + 1]? = some (.cells #[.int .i64 0, .slice none 0 0] 24 (0, 0))
  crt : w.heap[q]? = some (.cells #[.string T, .int .i64 Z, v, u] 79 (0, 0))
  ownP : w.ownsRow (w0.heap.size + 2) 44 2 v P.length (pC P)
  ownL : w.ownsRow (w0.heap.size + 2) 54 2 u L.length (pC L)
  bel : Below w0.heap.size w0 w
theorem ChSt.keep {w0 : World} {ep : Int} {vo : Value} {q : Nat} {T : ByteArray} {Z : Int} {v : Value} {P : List (Int × ByteArray)} {u : Value} {L : List (Int × ByteArray)} {w w' : World} (h : ChSt w0 ep vo q T Z v P u L w) (hb : Below w.heap.size w w') : ChSt w0 ep vo q T Z v P u L w' :=
  ⟨h.old.keep hb, (hb.block _ (lt_of_blk h.res)).trans h.res, (hb.block _ (lt_of_blk h.crt)).trans h.crt, ownsRow_keep h.ownP hb, ownsRow_keep h.ownL hb, h.bel.trans (hb.mono h.bel.size)⟩
set_option maxRecDepth 100000 in
set_option maxHeartbeats 6400000 in
theorem ycheck_any (ep : Int) (a : Option Addr) (n cap : Nat) (ps : List (Int × ByteArray)) (hn : ps.length = n) (hm : n ≤ maxLen) (c : ByteArray) (_hc : c.size ≤ maxLen) (w : World) (hP : PairsIn w a ps) :
    Calls Try.prog 18 #[.agg #[.int .i64 ep, .slice a n cap], .string c] w fun e w' => ∃ v, e = .returned (.tuple #[.agg #[.int .i64 (chkZ ep ps c), v], .int .i64 (chkE ep ps c)]) ∧ w'.ownsRow w.heap.size 44 2 v (chkP ep ps c).length (pC (chkP ep ps c)) ∧ Below w.heap.size w w' := by
  have hm2 : (n : Int) ≤ 9223372036854775807 := by unfold maxLen at hm; omega
  have HR : Hid (∀ (b : Bool), rightP ep ps = b → ∀ u : World, PairsIn u a ps → Calls Try.prog 25 #[.agg #[.int .i64 ep, .slice a n cap]] u fun e w' => e = .returned (.bool b) ∧ Below u.heap.size u w') := hid (fun b hb u hu => by rw [← hb]; exact yright_any ep a n cap ps hn hm u hu)
  have HQ : Hid (∀ u : World, Calls Try.prog 23 #[.int .i64 (n : Int)] u fun e w' => e = .returned (.int .i64 (quoZ (n : Int))) ∧ Below u.heap.size u w') := hid (fun u => cquorum_any (n : Int) hm2 u)
  have HSg : Hid (∀ (b : Bool) (T : ByteArray), T.size ≤ 65535 → ∀ (ad : Option Addr) (L : List (Int × ByteArray)) (cp : Nat), L.length ≤ 16 → okGTo ps T L L.length = b → ∀ u : World, PairsIn u a ps → PairsIn u ad L → Calls Try.prog 45 #[.slice a n cap, .string T, .slice ad L.length cp] u fun e w' => e = .returned (.bool b) ∧ Below u.heap.size u w') := hid (fun b T hT ad L cp hL hb u hu hv => by rw [← hb]; exact ysigs_any a n cap ps hn hm T (by omega) ad L.length cp L rfl (by unfold maxLen; omega) u hu hv)
  have H0 : Hid (PpAt ((w.alloc (.cells #[.int .i64 ep, .slice a n cap] 24)).alloc (.cells #[.int .i64 0, .slice none 0 0] 24)) w.heap.size ep (.slice a n cap) 24 ∧ ((w.alloc (.cells #[.int .i64 ep, .slice a n cap] 24)).alloc (.cells #[.int .i64 0, .slice none 0 0] 24)).heap[w.heap.size + 1]? = some (.cells #[.int .i64 0, .slice none 0 0] 24 (0, 0)) ∧ Below w.heap.size w ((w.alloc (.cells #[.int .i64 ep, .slice a n cap] 24)).alloc (.cells #[.int .i64 0, .slice none 0 0] 24))) :=
    hid ⟨(PpAt.new w ep _ _).keep ((Below.refl _ _).alloc (Nat.le_refl _) _), snd_alloc w _ _, ((Below.refl _ _).alloc (Nat.le_refl _) _).alloc (by simp) _⟩
  have HP := hid hP
  have HN := hid hn
  clear hP hm hn
  cases hr : rightP ep ps with
  | false =>
    have HE : Hid (chkE ep ps c = 4) := hid (by rw [chkE, if_pos hr])
    have HRb := hid (HR.out false hr)
    clear hr
    go_enter Try.func18, Try.ntmps18
    go_wp2_with (first
      | (go_at_call 25; refine (HRb.out _ (by exact HP.out.keep H0.out.2.2 (Nat.le_refl _))).mono ?_; rintro e w1 ⟨rfl, hb1⟩
         have H1 := hid (And.intro (H0.out.1.keep hb1) (And.intro ((hb1.block _ (lt_of_blk H0.out.2.1)).trans H0.out.2.1) (H0.out.2.2.trans (hb1.mono H0.out.2.2.size))))
         clear hb1
         have r0 := (cell_two H1.out.2.1).1
         have r1 := (cell_two H1.out.2.1).2
         have f0 : w1.frozen? ⟨w.heap.size + 1, 0, none⟩ = false := free_at H1.out.2.1 0
         have f1 : w1.frozen? ⟨w.heap.size + 1, 1, none⟩ = false := free_at H1.out.2.1 1))
    have HRs := hid H1.out.2.1
    have HBl := hid H1.out.2.2
    refine ret_pair (s := 4) (s2 := 5) (ad := ⟨w.heap.size + 1, 0, none⟩) rfl rfl (load_paper _ _ (.int .i64 0) (.slice none 0 0) (cell_two (res_put HRs.out)).1 (cell_two (res_put HRs.out)).2) rfl rfl ?_
    rw [chkZ, chkP, HE.out]
    exact ⟨_, rfl, ⟨rfl, .inl ⟨rfl, rfl⟩⟩, (HBl.out.setCell (p := ⟨w.heap.size + 1, 0, none⟩) (Nat.le_succ _) _).setCell (p := ⟨w.heap.size + 1, 1, none⟩) (Nat.le_succ _) _⟩
  | true =>
    have HRb := hid (HR.out true hr)
    obtain ⟨⟨hep0, hep1⟩, hl4, _⟩ := rightP_parts hr
    have hT := oT_size c
    have hL := opL_len c
    have HCt0 : Hid (∀ u : World, Calls Try.prog 44 #[.string c] u fun e w' => ∃ v x, e = .returned (.tuple #[.agg #[.string (opT c), .int .i64 (opZ c), v, x], .bool (openB c)]) ∧ w'.ownsRow u.heap.size 44 2 v (opP c).length (pC (opP c)) ∧ w'.ownsRow u.heap.size 54 2 x (opL c).length (pC (opL c)) ∧ Below u.heap.size u w') := hid (fun u => yrcert c u)
    have HC0 : Hid (chkE ep ps c = (if openB c = false then 5 else if opZ c ≠ ep + 1 then 12 else if okGTo ps (opT c) (opL c) (opL c).length = false then 16 else if ((opL c).length : Int) < quoZ (n : Int) then 15 else 0)) := hid (by rw [chkE, hr, HN.out]; rfl)
    have HZP : Hid (chkE ep ps c = 0 → chkZ ep ps c = opZ c ∧ chkP ep ps c = opP c) := hid (fun h => ⟨by rw [chkZ, if_pos h], by rw [chkP, if_pos h]⟩)
    generalize opT c = T at hT HCt0 HC0
    generalize opZ c = Z at HCt0 HC0 HZP
    generalize opP c = P at HCt0 HZP
    generalize opL c = L at hL HCt0 HC0
    generalize quoZ (n : Int) = Q at HQ HC0
    have HSz := hid (And.intro hT hL)
    have hL2 : (L.length : Int) ≤ 16 := by omega
    clear hr hl4 hT hL
    cases hop : openB c with
    | false =>
      have HE : Hid (chkE ep ps c = 5) := hid (by rw [HC0.out, if_pos hop])
      rw [hop] at HCt0
      have HCt := hid HCt0.out
      clear hop HCt0 HC0
      go_enter Try.func18, Try.ntmps18
      go_wp2_with (first
        | (go_at_call 25; refine (HRb.out _ (by exact HP.out.keep H0.out.2.2 (Nat.le_refl _))).mono ?_; rintro e w1 ⟨rfl, hb1⟩
           have H1 := hid (And.intro (H0.out.1.keep hb1) (And.intro ((hb1.block _ (lt_of_blk H0.out.2.1)).trans H0.out.2.1) (H0.out.2.2.trans (hb1.mono H0.out.2.2.size))))
           clear hb1
           have r0 := (cell_two H1.out.2.1).1
           have r1 := (cell_two H1.out.2.1).2
           have f0 : w1.frozen? ⟨w.heap.size + 1, 0, none⟩ = false := free_at H1.out.2.1 0
           have f1 : w1.frozen? ⟨w.heap.size + 1, 1, none⟩ = false := free_at H1.out.2.1 1)
        | (go_at_call 44; refine (HCt.out _).mono ?_; rintro e w2 ⟨v2, u2, rfl, ho2, hs2, hb2⟩
           obtain ⟨ad2, cap2, hv2, hI2⟩ := own_pairs ho2
           obtain ⟨au2, cup2, hu2, hJ2⟩ := own_pairs hs2
           subst hv2
           subst hu2
           have hA := (Below.refl w2.heap.size w2).alloc (Nat.le_refl _) (.cells #[.string T, .int .i64 Z, .slice ad2 P.length cap2, .slice au2 L.length cup2] 79)
           have H2 : Hid (ChSt w ep (.slice a n cap) w2.heap.size T Z (.slice ad2 P.length cap2) P (.slice au2 L.length cup2) L (w2.alloc (.cells #[.string T, .int .i64 Z, .slice ad2 P.length cap2, .slice au2 L.length cup2] 79))) := hid
             ⟨(H1.out.1.keep hb2).keep hA, (hA.block _ (lt_of_blk ((hb2.block _ (lt_of_blk H1.out.2.1)).trans H1.out.2.1))).trans ((hb2.block _ (lt_of_blk H1.out.2.1)).trans H1.out.2.1), heap_alloc_last w2 _, (own_low ho2 (lt_of_blk H1.out.2.1)).alloc _, (own_low hs2 (lt_of_blk H1.out.2.1)).alloc _, (H1.out.2.2.trans (hb2.mono H1.out.2.2.size)).trans (hA.mono (H1.out.2.2.trans (hb2.mono H1.out.2.2.size)).size)⟩
           clear hA ho2 hs2 hb2 hI2 hJ2
           have c0 := H2.out.old.c0
           have c1 := H2.out.old.c1
           have k0 := (cell_four H2.out.crt).1
           have k1 := (cell_four H2.out.crt).2.1
           have k3 := (cell_four H2.out.crt).2.2.2
           have s0 := (cell_two H2.out.res).1
           have s1 := (cell_two H2.out.res).2
           have g0 := free_at H2.out.res 0
           have g1 := free_at H2.out.res 1))
      have HRs := hid H2.out.res
      have HBl := hid H2.out.bel
      refine ret_pair (s := 4) (s2 := 5) (ad := ⟨w.heap.size + 1, 0, none⟩) rfl rfl (load_paper _ _ (.int .i64 0) (.slice none 0 0) (cell_two (res_put HRs.out)).1 (cell_two (res_put HRs.out)).2) rfl rfl ?_
      rw [chkZ, chkP, HE.out]
      exact ⟨_, rfl, ⟨rfl, .inl ⟨rfl, rfl⟩⟩, (HBl.out.setCell (p := ⟨w.heap.size + 1, 0, none⟩) (Nat.le_succ _) _).setCell (p := ⟨w.heap.size + 1, 1, none⟩) (Nat.le_succ _) _⟩
    | true =>
      rw [hop] at HCt0
      have HCt := hid HCt0.out
      have HC1 : Hid (chkE ep ps c = (if Z ≠ ep + 1 then 12 else if okGTo ps T L L.length = false then 16 else if (L.length : Int) < Q then 15 else 0)) := hid (by rw [HC0.out, if_neg (by rw [hop]; decide)])
      clear hop HCt0 HC0
      by_cases hz : Z = ep + 1
      · have hzb : (Z != ep + 1) = false := by simp [hz]
        have HC2 : Hid (chkE ep ps c = (if okGTo ps T L L.length = false then 16 else if (L.length : Int) < Q then 15 else 0)) := hid (by rw [HC1.out, if_neg (fun h => h hz)])
        clear hz HC1
        cases hg : okGTo ps T L L.length with
        | false =>
          have HE : Hid (chkE ep ps c = 16) := hid (by rw [HC2.out, if_pos hg])
          have HSb := hid (HSg.out false T HSz.out.1)
          have HGg := hid hg
          clear hg HC2
          go_enter Try.func18, Try.ntmps18
          go_wp2_with (first
            | (go_at_call 25; refine (HRb.out _ (by exact HP.out.keep H0.out.2.2 (Nat.le_refl _))).mono ?_; rintro e w1 ⟨rfl, hb1⟩
               have H1 := hid (And.intro (H0.out.1.keep hb1) (And.intro ((hb1.block _ (lt_of_blk H0.out.2.1)).trans H0.out.2.1) (H0.out.2.2.trans (hb1.mono H0.out.2.2.size))))
               clear hb1
               have r0 := (cell_two H1.out.2.1).1
               have r1 := (cell_two H1.out.2.1).2
               have f0 : w1.frozen? ⟨w.heap.size + 1, 0, none⟩ = false := free_at H1.out.2.1 0
               have f1 : w1.frozen? ⟨w.heap.size + 1, 1, none⟩ = false := free_at H1.out.2.1 1)
            | (go_at_call 44; refine (HCt.out _).mono ?_; rintro e w2 ⟨v2, u2, rfl, ho2, hs2, hb2⟩
               obtain ⟨ad2, cap2, hv2, hI2⟩ := own_pairs ho2
               obtain ⟨au2, cup2, hu2, hJ2⟩ := own_pairs hs2
               subst hv2
               subst hu2
               have hA := (Below.refl w2.heap.size w2).alloc (Nat.le_refl _) (.cells #[.string T, .int .i64 Z, .slice ad2 P.length cap2, .slice au2 L.length cup2] 79)
               have H2 : Hid (ChSt w ep (.slice a n cap) w2.heap.size T Z (.slice ad2 P.length cap2) P (.slice au2 L.length cup2) L (w2.alloc (.cells #[.string T, .int .i64 Z, .slice ad2 P.length cap2, .slice au2 L.length cup2] 79))) := hid
                 ⟨(H1.out.1.keep hb2).keep hA, (hA.block _ (lt_of_blk ((hb2.block _ (lt_of_blk H1.out.2.1)).trans H1.out.2.1))).trans ((hb2.block _ (lt_of_blk H1.out.2.1)).trans H1.out.2.1), heap_alloc_last w2 _, (own_low ho2 (lt_of_blk H1.out.2.1)).alloc _, (own_low hs2 (lt_of_blk H1.out.2.1)).alloc _, (H1.out.2.2.trans (hb2.mono H1.out.2.2.size)).trans (hA.mono (H1.out.2.2.trans (hb2.mono H1.out.2.2.size)).size)⟩
               clear hA ho2 hs2 hb2 hI2 hJ2
               have c0 := H2.out.old.c0
               have c1 := H2.out.old.c1
               have k0 := (cell_four H2.out.crt).1
               have k1 := (cell_four H2.out.crt).2.1
               have k3 := (cell_four H2.out.crt).2.2.2
               have s0 := (cell_two H2.out.res).1
               have s1 := (cell_two H2.out.res).2
               have g0 := free_at H2.out.res 0
               have g1 := free_at H2.out.res 1)
            | (go_at_call 45; refine (HSb.out au2 L cup2 HSz.out.2 (by exact HGg.out) _ (by exact HP.out.keep H2.out.bel (Nat.le_refl _)) (by obtain ⟨x1, x2, x3, x4⟩ := own_pairs H2.out.ownL; cases x3; exact x4)).mono ?_; rintro e w3 ⟨rfl, hb3⟩
               have H3 := hid (H2.out.keep hb3)
               clear hb3
               have t0 := (cell_two H3.out.res).1
               have t1 := (cell_two H3.out.res).2
               have h0 := free_at H3.out.res 0
               have h1 := free_at H3.out.res 1))
          have HRs := hid H3.out.res
          have HBl := hid H3.out.bel
          refine ret_pair (s := 4) (s2 := 5) (ad := ⟨w.heap.size + 1, 0, none⟩) rfl rfl (load_paper _ _ (.int .i64 0) (.slice none 0 0) (cell_two (res_put HRs.out)).1 (cell_two (res_put HRs.out)).2) rfl rfl ?_
          rw [chkZ, chkP, HE.out]
          exact ⟨_, rfl, ⟨rfl, .inl ⟨rfl, rfl⟩⟩, (HBl.out.setCell (p := ⟨w.heap.size + 1, 0, none⟩) (Nat.le_succ _) _).setCell (p := ⟨w.heap.size + 1, 1, none⟩) (Nat.le_succ _) _⟩
        | true =>
          have HC3 : Hid (chkE ep ps c = (if (L.length : Int) < Q then 15 else 0)) := hid (by rw [HC2.out, if_neg (by rw [hg]; decide)])
          have HSb := hid (HSg.out true T HSz.out.1)
          have HGg := hid hg
          clear hg HC2
          by_cases hq : (L.length : Int) < Q
          · have HE : Hid (chkE ep ps c = 15) := hid (by rw [HC3.out, if_pos hq])
            have hqd : decide ((L.length : Int) < Q) = true := decide_eq_true hq
            clear HC3
            go_enter Try.func18, Try.ntmps18
            go_wp2_with (first
              | (go_at_call 25; refine (HRb.out _ (by exact HP.out.keep H0.out.2.2 (Nat.le_refl _))).mono ?_; rintro e w1 ⟨rfl, hb1⟩
                 have H1 := hid (And.intro (H0.out.1.keep hb1) (And.intro ((hb1.block _ (lt_of_blk H0.out.2.1)).trans H0.out.2.1) (H0.out.2.2.trans (hb1.mono H0.out.2.2.size))))
                 clear hb1
                 have r0 := (cell_two H1.out.2.1).1
                 have r1 := (cell_two H1.out.2.1).2
                 have f0 : w1.frozen? ⟨w.heap.size + 1, 0, none⟩ = false := free_at H1.out.2.1 0
                 have f1 : w1.frozen? ⟨w.heap.size + 1, 1, none⟩ = false := free_at H1.out.2.1 1)
              | (go_at_call 44; refine (HCt.out _).mono ?_; rintro e w2 ⟨v2, u2, rfl, ho2, hs2, hb2⟩
                 obtain ⟨ad2, cap2, hv2, hI2⟩ := own_pairs ho2
                 obtain ⟨au2, cup2, hu2, hJ2⟩ := own_pairs hs2
                 subst hv2
                 subst hu2
                 have hA := (Below.refl w2.heap.size w2).alloc (Nat.le_refl _) (.cells #[.string T, .int .i64 Z, .slice ad2 P.length cap2, .slice au2 L.length cup2] 79)
                 have H2 : Hid (ChSt w ep (.slice a n cap) w2.heap.size T Z (.slice ad2 P.length cap2) P (.slice au2 L.length cup2) L (w2.alloc (.cells #[.string T, .int .i64 Z, .slice ad2 P.length cap2, .slice au2 L.length cup2] 79))) := hid
                   ⟨(H1.out.1.keep hb2).keep hA, (hA.block _ (lt_of_blk ((hb2.block _ (lt_of_blk H1.out.2.1)).trans H1.out.2.1))).trans ((hb2.block _ (lt_of_blk H1.out.2.1)).trans H1.out.2.1), heap_alloc_last w2 _, (own_low ho2 (lt_of_blk H1.out.2.1)).alloc _, (own_low hs2 (lt_of_blk H1.out.2.1)).alloc _, (H1.out.2.2.trans (hb2.mono H1.out.2.2.size)).trans (hA.mono (H1.out.2.2.trans (hb2.mono H1.out.2.2.size)).size)⟩
                 clear hA ho2 hs2 hb2 hI2 hJ2
                 have c0 := H2.out.old.c0
                 have c1 := H2.out.old.c1
                 have k0 := (cell_four H2.out.crt).1
                 have k1 := (cell_four H2.out.crt).2.1
                 have k3 := (cell_four H2.out.crt).2.2.2
                 have s0 := (cell_two H2.out.res).1
                 have s1 := (cell_two H2.out.res).2
                 have g0 := free_at H2.out.res 0
                 have g1 := free_at H2.out.res 1)
              | (go_at_call 45; refine (HSb.out au2 L cup2 HSz.out.2 (by exact HGg.out) _ (by exact HP.out.keep H2.out.bel (Nat.le_refl _)) (by obtain ⟨x1, x2, x3, x4⟩ := own_pairs H2.out.ownL; cases x3; exact x4)).mono ?_; rintro e w3 ⟨rfl, hb3⟩
                 have H3 := hid (H2.out.keep hb3)
                 clear hb3
                 have t0 := (cell_two H3.out.res).1
                 have t1 := (cell_two H3.out.res).2
                 have h0 := free_at H3.out.res 0
                 have h1 := free_at H3.out.res 1))
            generalize hqb : w2.heap.size = qb at H3 ⊢
            clear hqb H2 t0 t1 h0 h1
            have z0 : ∀ x : Cls w3, x.1.cell? ⟨w.heap.size, 1, none⟩ = some (.slice a n cap) := fun x => (H3.out.keep x.2).old.c1
            have z3 : ∀ x : Cls w3, x.1.cell? ⟨qb, 3, none⟩ = some (.slice au2 L.length cup2) := fun x => (cell_four (H3.out.keep x.2).crt).2.2.2
            haveI := Cls.ne w3
            refine wp_region_cls w3 (by kernel_rfl) (by kernel_rfl) ?_
            repeat (go_big_quiet_step ((go_at_call 23; exact Cls.of _ (fun u _ => HQ.out u))))
            refine wpQuiet_nil ?_
            rintro _ ⟨x, rfl⟩
            have H4 := hid (H3.out.keep x.2)
            have t0 := (cell_two H4.out.res).1
            have t1 := (cell_two H4.out.res).2
            have h0 := free_at H4.out.res 0
            have h1 := free_at H4.out.res 1
            have y1 := (cell_four H4.out.crt).2.1
            have y2 := (cell_four H4.out.crt).2.2.1
            clear z0 z3
            go_wp2
            have HRs := hid H4.out.res
            have HBl := hid H4.out.bel
            refine ret_pair (s := 4) (s2 := 5) (ad := ⟨w.heap.size + 1, 0, none⟩) rfl rfl (load_paper _ _ (.int .i64 0) (.slice none 0 0) (cell_two (res_put HRs.out)).1 (cell_two (res_put HRs.out)).2) rfl rfl ?_
            rw [chkZ, chkP, HE.out]
            exact ⟨_, rfl, ⟨rfl, .inl ⟨rfl, rfl⟩⟩, (HBl.out.setCell (p := ⟨w.heap.size + 1, 0, none⟩) (Nat.le_succ _) _).setCell (p := ⟨w.heap.size + 1, 1, none⟩) (Nat.le_succ _) _⟩
          · have HE : Hid (chkE ep ps c = 0) := hid (by rw [HC3.out, if_neg hq])
            have hqd : decide ((L.length : Int) < Q) = false := decide_eq_false hq
            clear HC3
            go_enter Try.func18, Try.ntmps18
            go_wp2_with (first
              | (go_at_call 25; refine (HRb.out _ (by exact HP.out.keep H0.out.2.2 (Nat.le_refl _))).mono ?_; rintro e w1 ⟨rfl, hb1⟩
                 have H1 := hid (And.intro (H0.out.1.keep hb1) (And.intro ((hb1.block _ (lt_of_blk H0.out.2.1)).trans H0.out.2.1) (H0.out.2.2.trans (hb1.mono H0.out.2.2.size))))
                 clear hb1
                 have r0 := (cell_two H1.out.2.1).1
                 have r1 := (cell_two H1.out.2.1).2
                 have f0 : w1.frozen? ⟨w.heap.size + 1, 0, none⟩ = false := free_at H1.out.2.1 0
                 have f1 : w1.frozen? ⟨w.heap.size + 1, 1, none⟩ = false := free_at H1.out.2.1 1)
              | (go_at_call 44; refine (HCt.out _).mono ?_; rintro e w2 ⟨v2, u2, rfl, ho2, hs2, hb2⟩
                 obtain ⟨ad2, cap2, hv2, hI2⟩ := own_pairs ho2
                 obtain ⟨au2, cup2, hu2, hJ2⟩ := own_pairs hs2
                 subst hv2
                 subst hu2
                 have hA := (Below.refl w2.heap.size w2).alloc (Nat.le_refl _) (.cells #[.string T, .int .i64 Z, .slice ad2 P.length cap2, .slice au2 L.length cup2] 79)
                 have H2 : Hid (ChSt w ep (.slice a n cap) w2.heap.size T Z (.slice ad2 P.length cap2) P (.slice au2 L.length cup2) L (w2.alloc (.cells #[.string T, .int .i64 Z, .slice ad2 P.length cap2, .slice au2 L.length cup2] 79))) := hid
                   ⟨(H1.out.1.keep hb2).keep hA, (hA.block _ (lt_of_blk ((hb2.block _ (lt_of_blk H1.out.2.1)).trans H1.out.2.1))).trans ((hb2.block _ (lt_of_blk H1.out.2.1)).trans H1.out.2.1), heap_alloc_last w2 _, (own_low ho2 (lt_of_blk H1.out.2.1)).alloc _, (own_low hs2 (lt_of_blk H1.out.2.1)).alloc _, (H1.out.2.2.trans (hb2.mono H1.out.2.2.size)).trans (hA.mono (H1.out.2.2.trans (hb2.mono H1.out.2.2.size)).size)⟩
                 clear hA ho2 hs2 hb2 hI2 hJ2
                 have c0 := H2.out.old.c0
                 have c1 := H2.out.old.c1
                 have k0 := (cell_four H2.out.crt).1
                 have k1 := (cell_four H2.out.crt).2.1
                 have k3 := (cell_four H2.out.crt).2.2.2
                 have s0 := (cell_two H2.out.res).1
                 have s1 := (cell_two H2.out.res).2
                 have g0 := free_at H2.out.res 0
                 have g1 := free_at H2.out.res 1)
              | (go_at_call 45; refine (HSb.out au2 L cup2 HSz.out.2 (by exact HGg.out) _ (by exact HP.out.keep H2.out.bel (Nat.le_refl _)) (by obtain ⟨x1, x2, x3, x4⟩ := own_pairs H2.out.ownL; cases x3; exact x4)).mono ?_; rintro e w3 ⟨rfl, hb3⟩
                 have H3 := hid (H2.out.keep hb3)
                 clear hb3
                 have t0 := (cell_two H3.out.res).1
                 have t1 := (cell_two H3.out.res).2
                 have h0 := free_at H3.out.res 0
                 have h1 := free_at H3.out.res 1))
            generalize hqb : w2.heap.size = qb at H3 ⊢
            clear hqb H2 t0 t1 h0 h1
            have z0 : ∀ x : Cls w3, x.1.cell? ⟨w.heap.size, 1, none⟩ = some (.slice a n cap) := fun x => (H3.out.keep x.2).old.c1
            have z3 : ∀ x : Cls w3, x.1.cell? ⟨qb, 3, none⟩ = some (.slice au2 L.length cup2) := fun x => (cell_four (H3.out.keep x.2).crt).2.2.2
            haveI := Cls.ne w3
            refine wp_region_cls w3 (by kernel_rfl) (by kernel_rfl) ?_
            repeat (go_big_quiet_step ((go_at_call 23; exact Cls.of _ (fun u _ => HQ.out u))))
            refine wpQuiet_nil ?_
            rintro _ ⟨x, rfl⟩
            have H4 := hid (H3.out.keep x.2)
            have t0 := (cell_two H4.out.res).1
            have t1 := (cell_two H4.out.res).2
            have h0 := free_at H4.out.res 0
            have h1 := free_at H4.out.res 1
            have y1 := (cell_four H4.out.crt).2.1
            have y2 := (cell_four H4.out.crt).2.2.1
            clear z0 z3
            go_wp2
            refine ret_pair (s := 4) (s2 := 5) (ad := ⟨w.heap.size + 1, 0, none⟩) rfl rfl (load_paper _ _ (.int .i64 Z) (.slice ad2 P.length cap2) (cell_two (res_put H4.out.res)).1 (cell_two (res_put H4.out.res)).2) rfl rfl ?_
            obtain ⟨e1, e2⟩ := HZP.out HE.out
            rw [e1, e2, HE.out]
            exact ⟨_, rfl, own_low (own_put (own_put H4.out.ownP _ 0 _ (by omega)) _ 1 _ (by omega)) (by omega), (H4.out.bel.setCell (p := ⟨w.heap.size + 1, 0, none⟩) (Nat.le_succ _) _).setCell (p := ⟨w.heap.size + 1, 1, none⟩) (Nat.le_succ _) _⟩
      · have hzb : (Z != ep + 1) = true := by simpa using hz
        have HE : Hid (chkE ep ps c = 12) := hid (by rw [HC1.out, if_pos hz])
        clear hz HC1
        go_enter Try.func18, Try.ntmps18
        go_wp2_with (first
          | (go_at_call 25; refine (HRb.out _ (by exact HP.out.keep H0.out.2.2 (Nat.le_refl _))).mono ?_; rintro e w1 ⟨rfl, hb1⟩
             have H1 := hid (And.intro (H0.out.1.keep hb1) (And.intro ((hb1.block _ (lt_of_blk H0.out.2.1)).trans H0.out.2.1) (H0.out.2.2.trans (hb1.mono H0.out.2.2.size))))
             clear hb1
             have r0 := (cell_two H1.out.2.1).1
             have r1 := (cell_two H1.out.2.1).2
             have f0 : w1.frozen? ⟨w.heap.size + 1, 0, none⟩ = false := free_at H1.out.2.1 0
             have f1 : w1.frozen? ⟨w.heap.size + 1, 1, none⟩ = false := free_at H1.out.2.1 1)
          | (go_at_call 44; refine (HCt.out _).mono ?_; rintro e w2 ⟨v2, u2, rfl, ho2, hs2, hb2⟩
             obtain ⟨ad2, cap2, hv2, hI2⟩ := own_pairs ho2
             obtain ⟨au2, cup2, hu2, hJ2⟩ := own_pairs hs2
             subst hv2
             subst hu2
             have hA := (Below.refl w2.heap.size w2).alloc (Nat.le_refl _) (.cells #[.string T, .int .i64 Z, .slice ad2 P.length cap2, .slice au2 L.length cup2] 79)
             have H2 : Hid (ChSt w ep (.slice a n cap) w2.heap.size T Z (.slice ad2 P.length cap2) P (.slice au2 L.length cup2) L (w2.alloc (.cells #[.string T, .int .i64 Z, .slice ad2 P.length cap2, .slice au2 L.length cup2] 79))) := hid
               ⟨(H1.out.1.keep hb2).keep hA, (hA.block _ (lt_of_blk ((hb2.block _ (lt_of_blk H1.out.2.1)).trans H1.out.2.1))).trans ((hb2.block _ (lt_of_blk H1.out.2.1)).trans H1.out.2.1), heap_alloc_last w2 _, (own_low ho2 (lt_of_blk H1.out.2.1)).alloc _, (own_low hs2 (lt_of_blk H1.out.2.1)).alloc _, (H1.out.2.2.trans (hb2.mono H1.out.2.2.size)).trans (hA.mono (H1.out.2.2.trans (hb2.mono H1.out.2.2.size)).size)⟩
             clear hA ho2 hs2 hb2 hI2 hJ2
             have c0 := H2.out.old.c0
             have c1 := H2.out.old.c1
             have k0 := (cell_four H2.out.crt).1
             have k1 := (cell_four H2.out.crt).2.1
             have k3 := (cell_four H2.out.crt).2.2.2
             have s0 := (cell_two H2.out.res).1
             have s1 := (cell_two H2.out.res).2
             have g0 := free_at H2.out.res 0
             have g1 := free_at H2.out.res 1))
        have HRs := hid H2.out.res
        have HBl := hid H2.out.bel
        refine ret_pair (s := 4) (s2 := 5) (ad := ⟨w.heap.size + 1, 0, none⟩) rfl rfl (load_paper _ _ (.int .i64 0) (.slice none 0 0) (cell_two (res_put HRs.out)).1 (cell_two (res_put HRs.out)).2) rfl rfl ?_
        rw [chkZ, chkP, HE.out]
        exact ⟨_, rfl, ⟨rfl, .inl ⟨rfl, rfl⟩⟩, (HBl.out.setCell (p := ⟨w.heap.size + 1, 0, none⟩) (Nat.le_succ _) _).setCell (p := ⟨w.heap.size + 1, 1, none⟩) (Nat.le_succ _) _⟩
end Go.Proofs.Ytchlmcpnjpllnaa

/- How far the program walks a chain. -/
namespace Go.Proofs.Ytchlmcpnjpllnaa
open Go.RowKit

theorem pC_ones (ps : List (Int × ByteArray)) : ∀ v ∈ pC ps, v.oneCell' = true := by
  induction ps with
  | nil => intro v hv; cases hv
  | cons p ps ih =>
    intro v hv
    rw [pC_cons] at hv
    rcases List.mem_cons.1 hv with rfl | hv
    · rfl
    · rcases List.mem_cons.1 hv with rfl | hv
      · rfl
      · exact ih v hv
theorem pC_find (ps : List (Int × ByteArray)) : ∀ (j : Nat) (v : Value), (pC ps)[j]? = some v → ∃ i p, ps[i]? = some p ∧ ((j = i * 2 ∧ v = .int .i64 p.1) ∨ (j = i * 2 + 1 ∧ v = .string p.2)) := by
  induction ps with
  | nil => intro j v h; simp [pC] at h
  | cons p ps ih =>
    intro j v h
    rw [pC_cons] at h
    match j, h with
    | 0, h => simp at h; exact ⟨0, p, rfl, .inl ⟨rfl, h.symm⟩⟩
    | 1, h => simp at h; exact ⟨0, p, rfl, .inr ⟨rfl, h.symm⟩⟩
    | j + 2, h =>
      obtain ⟨i, q, hi, hq⟩ := ih j v (by simpa using h)
      refine ⟨i + 1, q, by simpa using hi, ?_⟩
      rcases hq with ⟨h1, h2⟩ | ⟨h1, h2⟩
      · exact .inl ⟨by omega, h2⟩
      · exact .inr ⟨by omega, h2⟩
set_option maxRecDepth 100000 in
set_option maxHeartbeats 2000000 in
theorem yclone_any (g off n cap : Nat) (ps : List (Int × ByteArray)) (hn : ps.length = n) (hm : n ≤ 1000) (w : World) (hP : PairsIn w (some ⟨g, off, none⟩) ps) :
    Calls Try.prog 50 #[.slice (some ⟨g, off, none⟩) n cap] w fun e w' => ∃ v, e = .returned v ∧ w'.ownsRow w.heap.size 44 2 v n (pC ps) ∧ Below w.heap.size w w' := by
  obtain ⟨i0, hi0, hz0, hz1, hz2⟩ := info_parts Try.info44
  have q22 : ∀ (w : World) (a : Option Addr) (n c n' c' : Nat), (binOp .eql 22 (.slice a n c) (.slice none n' c')).run Try.prog w = .ok (.bool a.isNone) w := fun w a n c n' c' => Lib.run_eql_slice_nil w _ _ a n c n' c' Try.underlying22
  have HP := hid hP
  have HN := hid hn
  clear hP hn
  go_enter Try.func50, Try.ntmps50
  go_wp2_with (at_builtin; refine wpList_append_own _ rfl _ _ 22 rfl w.heap.size 44 i0 (.agg #[.int .i64 0, .string ⟨#[]⟩]) 2 24 Try.underlying22 hi0 hz0 hz1 hz2 rfl (by decide) _ _ _ rfl (World.ownsRow_made w #[] 0 (Nat.le_refl _) (Nat.zero_le _) rfl) ⟨g, off, none⟩ n cap (pC ps) rfl ?qc1 ?qc2 ?qc3 ?qc4 ?qc5 ?qc6 ?_)
  case qc1 => rw [pC_len, HN.out]
  case qc2 =>
    intro j u hj
    obtain ⟨i, p, hi, hq⟩ := pC_find ps j u hj
    obtain ⟨g', off', eg, _, h1, h2⟩ := HP.out.at i p hi
    obtain ⟨rfl, rfl⟩ : g = g' ∧ off = off' := by simp at eg; exact eg
    rw [Addr.add_lit]
    refine Lib.cell?_alloc_some _ ?_
    rcases hq with ⟨rfl, rfl⟩ | ⟨rfl, rfl⟩
    · exact h1
    · rw [← Nat.add_assoc]; exact h2
  case qc3 => exact pC_ones ps
  case qc4 => unfold maxLen; omega
  case qc5 => omega
  case qc6 => simp
  intro v' w1 hown hgrow hnil
  go_wp2
  go_ret
  refine ⟨v', rfl, by simpa using hown, ?_⟩
  exact ((Below.refl _ w).alloc (Nat.le_refl _) _).grown hgrow (by simp) (by intro k hk; simp [Value.ownBlock] at hk; omega)
theorem own_form {w : World} {B z : Nat} {v : Value} {n : Nat} {xs : List Value} {e : TypeId} (h : w.ownsRow B e z v n xs) : ∃ ad cap, v = .slice ad n cap := by
  rcases h.2 with ⟨hv, h0⟩ | ⟨g, cap, cur, hv, _⟩
  · exact ⟨none, 0, by rw [hv, h0]⟩
  · exact ⟨_, _, hv⟩
/-- While a chain is walked: the result's block, the paper's block b, its seats in a row of their own elsewhere. -/
structure YkSt (w0 w : World) (b : Nat) (Z : Int) (v : Value) (P : List (Int × ByteArray)) : Prop where
  res : w.heap[w0.heap.size + 1]? = some (.cells #[.int .i64 0, .slice none 0 0] 24 (0, 0))
  pp : w.heap[b]? = some (.cells #[.int .i64 Z, v] 24 (0, 0))
  own : w.ownsRow (w0.heap.size + 2) 44 2 v P.length (pC P)
  small : P.length ≤ 1000
  bel : Below w0.heap.size w0 w
  hb : w0.heap.size + 2 ≤ b
theorem YkSt.keep {w0 w w' : World} {b : Nat} {Z : Int} {v : Value} {P : List (Int × ByteArray)} (h : YkSt w0 w b Z v P) (hb : Below w.heap.size w w') : YkSt w0 w' b Z v P :=
  ⟨(hb.block _ (lt_of_blk h.res)).trans h.res, (hb.block _ (lt_of_blk h.pp)).trans h.pp, ownsRow_keep h.own hb, h.small, h.bel.trans (hb.mono h.bel.size), h.hb⟩
/-- The next paper. -/
theorem YkSt.put {w0 w w' : World} {b B : Nat} {Z Z' : Int} {v v' : Value} {P P' : List (Int × ByteArray)} (h : YkSt w0 w b Z v P) (hb' : Below w.heap.size w w') (ho : w'.ownsRow B 44 2 v' P'.length (pC P')) (hB : w.heap.size ≤ B) (hs : P'.length ≤ 1000) :
    YkSt w0 ((w'.setCell ⟨b, 0, none⟩ (.int .i64 Z')).setCell ⟨b, 1, none⟩ v') b Z' v' P' := by
  have hb := h.hb
  have hk := h.keep hb'
  have hlt := lt_of_blk h.pp
  refine ⟨?_, res_put hk.pp, own_low (own_put (own_put ho b 0 _ (by omega)) b 1 _ (by omega)) (by omega), hs, (hk.bel.setCell (p := ⟨b, 0, none⟩) (by show w0.heap.size ≤ b; omega) _).setCell (p := ⟨b, 1, none⟩) (by show w0.heap.size ≤ b; omega) _, hb⟩
  rw [Below.heap_setCell _ _ _ _ (by show w0.heap.size + 1 ≠ b; omega), Below.heap_setCell _ _ _ _ (by show w0.heap.size + 1 ≠ b; omega)]
  exact hk.res
theorem walk_out {w0 w : World} {b : Nat} {Z : Int} {v : Value} {P : List (Int × ByteArray)} (h : YkSt w0 w b Z v P) (x y : Value) : ((w.setCell ⟨w0.heap.size + 1, 0, none⟩ x).setCell ⟨w0.heap.size + 1, 1, none⟩ y).ownsRow w0.heap.size 44 2 v P.length (pC P) ∧ Below w0.heap.size w0 ((w.setCell ⟨w0.heap.size + 1, 0, none⟩ x).setCell ⟨w0.heap.size + 1, 1, none⟩ y) :=
  ⟨own_low (own_put (own_put h.own _ 0 _ (by omega)) _ 1 _ (by omega)) (by omega), (h.bel.setCell (p := ⟨w0.heap.size + 1, 0, none⟩) (Nat.le_succ _) _).setCell (p := ⟨w0.heap.size + 1, 1, none⟩) (Nat.le_succ _) _⟩
set_option maxRecDepth 100000 in
set_option maxHeartbeats 6400000 in
theorem ywalk_any (ep : Int) (a : Option Addr) (n cap : Nat) (ps : List (Int × ByteArray)) (hn : ps.length = n) (hm : n ≤ maxLen) (ca : Option Addr) (m cc : Nat) (cs : List ByteArray) (hcn : cs.length = m) (hcm : m ≤ maxLen) (hcz : ∀ c, c ∈ cs → c.size ≤ maxLen) (w : World) (hP : PairsIn w a ps) (hC : StrsIn w ca cs) :
    Calls Try.prog 20 #[.agg #[.int .i64 ep, .slice a n cap], .slice ca m cc] w fun e w' => ∃ v, e = .returned (.tuple #[.agg #[.int .i64 (walkF ep ps cs).1.1, v], .int .i64 ((walkF ep ps cs).2.1 : Int), .int .i64 (walkF ep ps cs).2.2]) ∧ w'.ownsRow w.heap.size 44 2 v (walkF ep ps cs).1.2.length (pC (walkF ep ps cs).1.2) ∧ Below w.heap.size w w' := by
  have hm2 : (m : Int) ≤ 9223372036854775807 := by unfold maxLen at hcm; omega
  have HR : Hid (∀ (b : Bool), rightP ep ps = b → ∀ u : World, PairsIn u a ps → Calls Try.prog 25 #[.agg #[.int .i64 ep, .slice a n cap]] u fun e w' => e = .returned (.bool b) ∧ Below u.heap.size u w') := hid (fun b hb u hu => by rw [← hb]; exact yright_any ep a n cap ps hn hm u hu)
  have H0 : Hid (PpAt ((w.alloc (.cells #[.int .i64 ep, .slice a n cap] 24)).alloc (.cells #[.int .i64 0, .slice none 0 0] 24)) w.heap.size ep (.slice a n cap) 24 ∧ ((w.alloc (.cells #[.int .i64 ep, .slice a n cap] 24)).alloc (.cells #[.int .i64 0, .slice none 0 0] 24)).heap[w.heap.size + 1]? = some (.cells #[.int .i64 0, .slice none 0 0] 24 (0, 0)) ∧ Below w.heap.size w ((w.alloc (.cells #[.int .i64 ep, .slice a n cap] 24)).alloc (.cells #[.int .i64 0, .slice none 0 0] 24))) :=
    hid ⟨(PpAt.new w ep _ _).keep ((Below.refl _ _).alloc (Nat.le_refl _) _), snd_alloc w _ _, ((Below.refl _ _).alloc (Nat.le_refl _) _).alloc (by simp) _⟩
  have HP := hid hP
  have HC := hid (And.intro hC (And.intro hcn hcz))
  cases hr : rightP ep ps with
  | false =>
    rw [show walkF ep ps cs = ((0, []), (0, 4)) by rw [walkF, hr]; rfl]
    have HRb := hid (HR.out false hr)
    clear hr hP hC hm hn hcn hcm hcz
    go_enter Try.func20, Try.ntmps20
    go_wp2_with (go_at_call 25; refine (HRb.out _ (by exact HP.out.keep H0.out.2.2 (Nat.le_refl _))).mono ?_; rintro e w1 ⟨rfl, hb1⟩; have H1 := hid (And.intro ((hb1.block _ (lt_of_blk H0.out.2.1)).trans H0.out.2.1) (H0.out.2.2.trans (hb1.mono H0.out.2.2.size))); clear hb1
                 have r0 := (cell_two H1.out.1).1
                 have r1 := (cell_two H1.out.1).2
                 have f0 : w1.frozen? ⟨w.heap.size + 1, 0, none⟩ = false := free_at H1.out.1 0
                 have f1 : w1.frozen? ⟨w.heap.size + 1, 1, none⟩ = false := free_at H1.out.1 1)
    refine ret_three (s := 4) (s2 := 5) (s3 := 6) (ad := ⟨w.heap.size + 1, 0, none⟩) rfl rfl (load_paper _ _ (.int .i64 0) (.slice none 0 0) (cell_two (res_put H1.out.1)).1 (cell_two (res_put H1.out.1)).2) rfl rfl rfl ?_
    exact ⟨_, rfl, ⟨rfl, .inl ⟨rfl, rfl⟩⟩, (H1.out.2.setCell (p := ⟨w.heap.size + 1, 0, none⟩) (Nat.le_succ _) _).setCell (p := ⟨w.heap.size + 1, 1, none⟩) (Nat.le_succ _) _⟩
  | true =>
    have HRb := hid (HR.out true hr)
    have hps := (rightP_parts hr).2.1
    obtain ⟨F, eF⟩ : ∃ F, F = walkF ep ps cs := ⟨_, rfl⟩
    have HF : Hid (walkR ep ps cs 0 = F) := hid (by rw [eF, walkF, hr]; rfl)
    rw [← eF]
    obtain ⟨g, off, rfl, hg, -, -⟩ := hP.at 0 _ (getP_some (ps := ps) (j := 0) (by omega))
    have HCl : Hid (∀ u : World, PairsIn u (some ⟨g, off, none⟩) ps → Calls Try.prog 50 #[.slice (some ⟨g, off, none⟩) n cap] u fun e w' => ∃ v, e = .returned v ∧ w'.ownsRow u.heap.size 44 2 v n (pC ps) ∧ Below u.heap.size u w') := hid (fun u hu => yclone_any g off n cap ps hn (by omega) u hu)
    have HN := hid (And.intro hn hps)
    clear hr hps eF hP hC hm hn hcn hcm hcz hg
    go_enter Try.func20, Try.ntmps20
    go_wp2_with (go_at_call 25; refine (HRb.out _ (by exact HP.out.keep H0.out.2.2 (Nat.le_refl _))).mono ?_; rintro e w1 ⟨rfl, hb1⟩; have H1 := hid (And.intro (H0.out.1.keep hb1) (And.intro ((hb1.block _ (lt_of_blk H0.out.2.1)).trans H0.out.2.1) (H0.out.2.2.trans (hb1.mono H0.out.2.2.size)))); clear hb1
                 have q0 := H1.out.1.c0
                 have q1 := H1.out.1.c1)
    have a0 : ∀ o : Obj, (w1.alloc o).cell? ⟨w.heap.size, 0, none⟩ = some (.int .i64 ep) := fun o => (H1.out.1.keep ((Below.refl _ _).alloc (Nat.le_refl _) o)).c0
    have a1 : ∀ o : Obj, (w1.alloc o).cell? ⟨w.heap.size, 1, none⟩ = some (.slice (some ⟨g, off, none⟩) n cap) := fun o => (H1.out.1.keep ((Below.refl _ _).alloc (Nat.le_refl _) o)).c1
    have HPr0 : Hid (PairsIn w1.drew (some ⟨g, off, none⟩) ps) := hid (HP.out.keep (H1.out.2.2.trans ((show Below w1.heap.size w1 w1.drew from (Below.refl _ _).drew).mono H1.out.2.2.size)) (Nat.le_refl _))
    have HSV : Hid (Below w1.heap.size w1 (w1.alloc (.cells #[.int .i64 0, .slice none 0 0] 24)).drew) := hid ((Below.refl _ _).alloc (Nat.le_refl _) _).drew
    have HPr1 : Hid (PairsIn (w1.alloc (.cells #[.int .i64 0, .slice none 0 0] 24)).drew (some ⟨g, off, none⟩) ps) := hid (HP.out.keep (H1.out.2.2.trans (HSV.out.mono H1.out.2.2.size)) (Nat.le_refl _))
    go_region_with (go_at_call 50; refine (HCl.out _ (by first | exact HPr0.out | exact HPr1.out)).mono ?_; rintro e w5 ⟨v5, rfl, ho5, hb5⟩
                    obtain ⟨ad5, cap5, hv5⟩ := own_form ho5
                    subst hv5
                    have H5 := hid (show Below w1.heap.size w1 w5 from (by first | exact ((Below.refl w1.heap.size w1).drew).trans (hb5.mono (Nat.le_refl _)) | exact HSV.out.trans (hb5.mono HSV.out.size)))
                    first
                      | (have zq : w5.heap[w1.heap.size]? = some (.cells #[.int .i64 0, .slice none 0 0] 24 (0, 0)) := (hb5.block _ (by simp)).trans (heap_alloc_last w1 _)
                         have z0 := (cell_two zq).1
                         have z1 := (cell_two zq).2
                         have y0 : w5.frozen? ⟨w1.heap.size, 0, none⟩ = false := free_at zq 0
                         have y1 : w5.frozen? ⟨w1.heap.size, 1, none⟩ = false := free_at zq 1
                         have HZq := hid zq
                         clear zq)
                      | skip
                    have e0 := (H1.out.1.keep H5.out).c0
                    have e0a : ∀ o : Obj, (w5.alloc o).cell? ⟨w.heap.size, 0, none⟩ = some (.int .i64 ep) := fun o => (H1.out.1.keep (H5.out.alloc H5.out.size o)).c0
                    have HO5 := hid ho5
                    clear ho5 hb5)
    all_goals
      first
        | (have H6 : Hid (YkSt w (w5.alloc (.cells #[.int .i64 ep, .slice ad5 n cap5] 24)) w5.heap.size ep (.slice ad5 n cap5) ps) := hid (by
             have hb := H1.out.2.2.trans (H5.out.mono H1.out.2.2.size)
             have h1 := lt_of_blk H1.out.2.1
             have h2 := H5.out.size
             refine ⟨(Below.heap_alloc _ _ _ (by omega)).trans ((H5.out.block _ h1).trans H1.out.2.1), heap_alloc_last w5 _, ?_, by have := HN.out; omega, hb.alloc hb.size _, by omega⟩
             rw [HN.out.1]
             exact (own_low HO5.out (by exact h1)).alloc _)
           generalize hq : w5.heap.size = b at H6 ⊢
           generalize hw6 : w5.alloc (.cells #[.int .i64 ep, .slice ad5 n cap5] 24) = w6 at H6 ⊢
           clear hq hw6 H5 HO5)
        | (have H6 : Hid (YkSt w ((w5.setCell ⟨w1.heap.size, 0, none⟩ (.int .i64 ep)).setCell ⟨w1.heap.size, 1, none⟩ (.slice ad5 n cap5)) w1.heap.size ep (.slice ad5 n cap5) ps) := hid (by
             have hb := H1.out.2.2.trans (H5.out.mono H1.out.2.2.size)
             have h1 := lt_of_blk H1.out.2.1
             have h2 := H1.out.2.2.size
             refine ⟨?_, res_put HZq.out, ?_, by have := HN.out; omega, (hb.setCell (p := ⟨w1.heap.size, 0, none⟩) h2 _).setCell (p := ⟨w1.heap.size, 1, none⟩) h2 _, by omega⟩
             · rw [Below.heap_setCell _ _ _ _ (by show w.heap.size + 1 ≠ w1.heap.size; omega), Below.heap_setCell _ _ _ _ (by show w.heap.size + 1 ≠ w1.heap.size; omega)]
               exact (H5.out.block _ h1).trans H1.out.2.1
             · rw [HN.out.1]
               exact own_low (own_put (own_put HO5.out _ 0 _ (by simp)) _ 1 _ (by simp)) (by simp; omega))
           clear z0 z1 y0 y1
           generalize hw6 : (w5.setCell ⟨w1.heap.size, 0, none⟩ (.int .i64 ep)).setCell ⟨w1.heap.size, 1, none⟩ (.slice ad5 n cap5) = w6 at H6 ⊢
           obtain ⟨b, hq⟩ : ∃ b, b = w1.heap.size := ⟨_, rfl⟩
           rw [← hq] at H6 ⊢
           clear hw6 H5 HO5 HZq hq)
      clear e0 e0a HPr0 HPr1 HSV H0 H1 a0 a1 q0 q1 HR HRb HCl
      go_wp2
      go_loopw [24] (fun i wr => ∃ (j : Nat) (Z : Int) (v : Value) (P : List (Int × ByteArray)), j ≤ m ∧ i = .int .i64 (j : Int) ∧ walkR Z P (cs.drop j) j = F ∧ YkSt w wr b Z v P)
        (fun i _ => ((m : Int) - intOf i).toNat)
      case atStart => exact ⟨0, ep, _, ps, by omega, rfl, by rw [List.drop_zero]; exact HF.out, H6.out⟩
      case round =>
        obtain ⟨j, Z, v, P, hj, rfl, hF, hS⟩ := hrel
        obtain ⟨ad, cp, hv⟩ := own_form hS.own
        subst hv
        have HS := hid hS
        have hj0 : (0 : Int) ≤ (j : Int) := Int.natCast_nonneg _
        have p0 := (cell_two hS.pp).1
        have p1 := (cell_two hS.pp).2
        have r0 := (cell_two hS.res).1
        have r1 := (cell_two hS.res).2
        have f0 : wr.frozen? ⟨w.heap.size + 1, 0, none⟩ = false := free_at hS.res 0
        have f1 : wr.frozen? ⟨w.heap.size + 1, 1, none⟩ = false := free_at hS.res 1
        clear hS H6
        by_cases hjm : j = m
        · have hj1 : ¬ ((j : Int) < (m : Int)) := by omega
          rw [List.drop_of_length_le (by rw [HC.out.2.1]; omega), walkR_nil] at hF
          have HF2 := hid (And.intro hF hjm)
          clear hj hjm hF
          go_wp2
          refine ret_three (s := 4) (s2 := 5) (s3 := 6) (ad := ⟨w.heap.size + 1, 0, none⟩) rfl rfl (load_paper _ _ (.int .i64 Z) (.slice ad P.length cp) (cell_two (res_put HS.out.res)).1 (cell_two (res_put HS.out.res)).2) rfl rfl rfl ?_
          rw [← HF2.out.1]
          exact ⟨_, by rw [HF2.out.2]; rfl, walk_out HS.out _ _⟩
        · have hj1 : (j : Int) < (m : Int) := by omega
          have hjl : j < cs.length := by rw [HC.out.2.1]; omega
          obtain ⟨c, ec⟩ : ∃ c, cs[j]? = some c := ⟨_, List.getElem?_eq_getElem hjl⟩
          obtain ⟨gc, oc, rfl, hgc, hcc⟩ := HC.out.1.at j c ec
          have hd : cs.drop j = c :: cs.drop (j + 1) := by
            have := List.getElem?_eq_some_iff.1 ec
            rw [← this.2]
            exact List.drop_eq_getElem_cons hjl
          rw [hd] at hF
          have hcz : c.size ≤ maxLen := HC.out.2.2 c (List.mem_of_getElem? ec)
          have HCk : Hid (∀ u : World, PairsIn u ad P → Calls Try.prog 18 #[.agg #[.int .i64 Z, .slice ad P.length cp], .string c] u fun e w' => ∃ v, e = .returned (.tuple #[.agg #[.int .i64 (chkZ Z P c), v], .int .i64 (chkE Z P c)]) ∧ w'.ownsRow u.heap.size 44 2 v (chkP Z P c).length (pC (chkP Z P c)) ∧ Below u.heap.size u w') := hid (fun u hu => ycheck_any Z ad P.length cp P rfl (by have := HS.out.small; unfold maxLen; omega) c hcz u hu)
          have hPl := chkP_len Z P c
          have cr : wr.cell? ⟨gc, oc + j, none⟩ = some (.string c) := (HS.out.bel.cell (p := ⟨gc, oc + j, none⟩) hgc).trans hcc
          have HPr : Hid (PairsIn wr ad P) := hid (by obtain ⟨x1, x2, x3, x4⟩ := own_pairs HS.out.own; cases x3; exact x4)
          obtain ⟨E, eE⟩ : ∃ E, E = chkE Z P c := ⟨_, rfl⟩
          have HWy : Hid (E = 0 → walkR (chkZ Z P c) (chkP Z P c) (cs.drop (j + 1)) (j + 1) = F) := hid (fun h => by rw [← hF, walkR_yes _ _ (by rw [← eE]; exact h)])
          have HWn : Hid (¬ E = 0 → F = ((Z, P), (j, E))) := hid (fun h => by rw [← hF, walkR_no _ _ (by rw [← eE]; exact h), eE])
          rw [← eE] at HCk
          generalize chkZ Z P c = Z' at HCk HWy
          generalize chkP Z P c = P' at HCk HWy hPl
          have HJ := hid (And.intro hj (And.intro hjm hPl))
          clear hj hjm hjl ec hgc hcc hd hF hcz eE hPl
          by_cases hE : E = 0
          · have hEb : (E != 0) = false := by simp [hE]
            have HE0 := hid hE
            clear hE
            go_wp2_with (go_at_call 18; refine (HCk.out _ (by exact HPr.out)).mono ?_; rintro e w7 ⟨v7, rfl, ho7, hb7⟩
                         obtain ⟨ad7, cap7, hv7⟩ := own_form ho7
                         subst hv7
                         have H7 := hid (And.intro (hb7.alloc hb7.size (.cells #[.int .i64 Z', .slice ad7 P'.length cap7] 24)) (ho7.alloc (.cells #[.int .i64 Z', .slice ad7 P'.length cap7] 24)))
                         clear ho7 hb7
                         have HS7 := hid (HS.out.keep H7.out.1)
                         have b0 := (cell_two HS7.out.pp).1
                         have b1 := (cell_two HS7.out.pp).2
                         have g0 := free_at HS7.out.pp 0
                         have g1 := free_at HS7.out.pp 1)
            go_roundw
            case rel => exact ⟨j + 1, Z', _, P', by have := HJ.out; omega, by go_num, HWy.out HE0.out, HS.out.put H7.out.1 H7.out.2 (Nat.le_refl _) (by have := HJ.out; omega)⟩
            case measure => simp [intOf]; omega
          · have hEb : (E != 0) = true := by simpa using hE
            have HE0 := hid hE
            clear hE
            go_wp2_with (go_at_call 18; refine (HCk.out _ (by exact HPr.out)).mono ?_; rintro e w7 ⟨v7, rfl, ho7, hb7⟩
                         obtain ⟨ad7, cap7, hv7⟩ := own_form ho7
                         subst hv7
                         have H7 := hid (hb7.alloc hb7.size (.cells #[.int .i64 Z', .slice ad7 P'.length cap7] 24))
                         clear ho7 hb7
                         have HS7 := hid (HS.out.keep H7.out)
                         have b0 := (cell_two HS7.out.pp).1
                         have b1 := (cell_two HS7.out.pp).2
                         have s0 := (cell_two HS7.out.res).1
                         have s1 := (cell_two HS7.out.res).2
                         have t0 := free_at HS7.out.res 0
                         have t1 := free_at HS7.out.res 1)
            refine ret_three (s := 4) (s2 := 5) (s3 := 6) (ad := ⟨w.heap.size + 1, 0, none⟩) rfl rfl (load_paper _ _ (.int .i64 Z) (.slice ad P.length cp) (cell_two (res_put HS7.out.res)).1 (cell_two (res_put HS7.out.res)).2) rfl rfl rfl ?_
            rw [HWn.out HE0.out]
            exact ⟨_, rfl, walk_out HS7.out _ _⟩
end Go.Proofs.Ytchlmcpnjpllnaa

/- The program's papers: what each call answers, laid together. -/

/- A paper of roots that are all noughts. -/
namespace Go.Proofs.Ytchlmcpnjpllnaa
open Go.RowKit

theorem PairsIn.alloc {w : World} {a : Option Addr} {l : List (Int × ByteArray)} (h : PairsIn w a l) (o : Obj) : PairsIn (w.alloc o) a l := h.keep ((Below.refl w.heap.size w).alloc (Nat.le_refl _) o) (Nat.le_refl _)
theorem PpAt.alloc {w : World} {b : Nat} {ep : Int} {v : Value} {t : TypeId} (h : PpAt w b ep v t) (o : Obj) : PpAt (w.alloc o) b ep v t := h.keep ((Below.refl w.heap.size w).alloc (Nat.le_refl _) o)
def zrow : List UInt8 := List.replicate 32 0
def zroot : ByteArray := ⟨zrow.toArray⟩
def fourP : List (Int × ByteArray) := [(0, zroot), (1, zroot), (2, zroot), (9, zroot)]
theorem fourP_right : rightP 2 fourP = true := by decide
theorem four_size : (bytesS 2 fourP).size = 136 := by
  rw [bytesS, fourP_right]
  rfl
theorem four_chk : chkZ 2 fourP ⟨#[]⟩ = 0 ∧ chkE 2 fourP ⟨#[]⟩ = 5 := by
  have h : chkE 2 fourP ⟨#[]⟩ = 5 := by
    rw [chkE, fourP_right]
    have ho : openB ⟨#[]⟩ = false := by decide
    rw [ho]
    rfl
  exact ⟨by rw [chkZ, h]; rfl, h⟩
set_option maxRecDepth 100000 in
set_option maxHeartbeats 1600000 in
theorem alives_any (w : World) : Calls Try.prog 9 #[] w fun e w' => e = .returned (.bool true) ∧ Below w.heap.size w w' := by
  have HMk : Hid ((Instr.makeSlice 57 (.int .i64 32) (.int .i64 32)).run Try.prog w = .ok (.slice (some ⟨w.heap.size, 0, none⟩) 32 32) (w.alloc (.cells (bC zrow).toArray 5))) := hid (by
    obtain ⟨i0, hi0, hz0, hz1, hz2⟩ := info_parts Try.info5
    have h := run_make (P := Try.prog) w 57 5 i0 (.int .u8 0) Try.underlying57 hi0 hz0 .i64 .i64 32 32 (by omega) (by omega) (by rw [hz2]; omega) (by omega)
    rw [hz1] at h
    rw [h]
    congr 3
    apply Array.ext'
    have h2 : (Value.int .u8 0).cells = #[.int .u8 0] := rfl
    rw [h2, toList_madeCells_one]
    rfl)
  have HTx : Hid ((convert 57 9 (.slice (some ⟨w.heap.size, 0, none⟩) 32 32)).run Try.prog (w.alloc (.cells (bC zrow).toArray 5)) = .ok (.string zroot) (w.alloc (.cells (bC zrow).toArray 5))) := hid (row_text _ _ _ zrow (fun j v hv => cell_at (heap_alloc_last w _) j v hv) 32 rfl)
  obtain ⟨W, eW⟩ : ∃ W, W = w.alloc (.cells (bC zrow).toArray 5) := ⟨_, rfl⟩
  have HW : Hid (Below w.heap.size w W ∧ w.heap.size ≤ W.heap.size) := hid (by rw [eW]; exact ⟨(Below.refl _ _).alloc (Nat.le_refl _) _, by simp⟩)
  rw [← eW] at HMk HTx
  clear eW
  obtain ⟨B, eB⟩ : ∃ B, B = (W.alloc (.cells #[.int .i64 0, .string zroot, .int .i64 1, .string zroot, .int .i64 2, .string zroot, .int .i64 9, .string zroot] 44)).alloc (.cells #[.int .i64 2, .slice (some ⟨W.heap.size, 0, none⟩) 4 4] 24) := ⟨_, rfl⟩
  have HP : Hid (PairsIn B (some ⟨W.heap.size, 0, none⟩) fourP) := hid (by
    rw [eB]
    refine PairsIn.keep (w := W.alloc _) (.inr ⟨_, _, rfl, by simp, fun j p hj => ?_⟩) ((Below.refl _ _).alloc (Nat.le_refl _) _) (Nat.le_refl _)
    have hc : (W.alloc (.cells #[.int .i64 0, .string zroot, .int .i64 1, .string zroot, .int .i64 2, .string zroot, .int .i64 9, .string zroot] 44)).heap[W.heap.size]? = some (.cells [.int .i64 0, .string zroot, .int .i64 1, .string zroot, .int .i64 2, .string zroot, .int .i64 9, .string zroot].toArray 44 (0, 0)) := heap_alloc_last W _
    match j, hj with
    | 0, hj => cases hj; exact ⟨heap_cells hc _ _ rfl, heap_cells hc 1 _ rfl⟩
    | 1, hj => cases hj; exact ⟨heap_cells hc _ _ rfl, heap_cells hc 3 _ rfl⟩
    | 2, hj => cases hj; exact ⟨heap_cells hc _ _ rfl, heap_cells hc 5 _ rfl⟩
    | 3, hj => cases hj; exact ⟨heap_cells hc _ _ rfl, heap_cells hc 7 _ rfl⟩
    | j + 4, hj => cases hj)
  have HF : Hid (PpAt B (W.heap.size + 1) 2 (.slice (some ⟨W.heap.size, 0, none⟩) 4 4) 24) := hid (by rw [eB]; exact snd_alloc W _ _)
  have HB : Hid (Below w.heap.size w B) := hid (by rw [eB]; exact (HW.out.1.alloc HW.out.2 _).alloc (by have := HW.out.2; simp; omega) _)
  have hT : bytesE 2 fourP = 0 := by rw [bytesE, fourP_right]; rfl
  obtain ⟨hr1, hr2, hr3⟩ := read_bytes 2 fourP fourP_right
  have hr4 : readPE (bytesS 2 fourP) = 0 := by rw [readPE, hr1]; rfl
  have hsz : (bytesS 2 fourP).size = 136 := four_size
  have hYB : ∀ u : World, PairsIn u (some ⟨W.heap.size, 0, none⟩) fourP → Calls Try.prog 10 #[.agg #[.int .i64 2, .slice (some ⟨W.heap.size, 0, none⟩) 4 4]] u fun e w' => e = .returned (.tuple #[.string (bytesS 2 fourP), .int .i64 0]) ∧ Below u.heap.size u w' := fun u hu => by have := ybytes_any 2 _ 4 4 fourP rfl (by decide) u hu; rwa [hT] at this
  have hYR : ∀ u : World, Calls Try.prog 12 #[.string (bytesS 2 fourP)] u fun e w' => ∃ ad cp, e = .returned (.tuple #[.agg #[.int .i64 2, .slice ad 4 cp], .int .i64 0]) ∧ PairsIn w' ad fourP ∧ Below u.heap.size u w' := fun u => (yread_any (bytesS 2 fourP) (by rw [hsz]; decide) u).mono fun e w' ⟨v, he, ho, hb⟩ => by
    rw [hr3] at ho
    obtain ⟨ad, cp, hv, hi⟩ := own_pairs ho
    exact ⟨ad, cp, by rw [he, hv, hr2, hr4]; rfl, hi, hb⟩
  have hYC : ∀ u : World, PairsIn u (some ⟨W.heap.size, 0, none⟩) fourP → Calls Try.prog 18 #[.agg #[.int .i64 2, .slice (some ⟨W.heap.size, 0, none⟩) 4 4], .string ⟨#[]⟩] u fun e w' => ∃ ad m cp, e = .returned (.tuple #[.agg #[.int .i64 0, .slice ad m cp], .int .i64 5]) ∧ Below u.heap.size u w' := fun u hu => (ycheck_any 2 _ 4 4 fourP rfl (by decide) ⟨#[]⟩ (by decide) u hu).mono fun e w' ⟨v, he, ho, hb⟩ => by
    obtain ⟨ad, cp, hv, hi⟩ := own_pairs ho
    exact ⟨ad, _, cp, by rw [he, hv, four_chk.1, four_chk.2], hb⟩
  obtain ⟨T, eT⟩ : ∃ T, T = bytesS 2 fourP := ⟨_, rfl⟩
  rw [← eT] at hYB hYR hsz
  have HYB := hid hYB
  have HYR := hid hYR
  have HYC := hid hYC
  clear hT hr1 hr2 hr3 hr4 hYB hYR hYC eT
  go_enter Try.func9, Try.ntmps9
  go_wp2_with (first
    | rw [HMk.out]
    | rw [HTx.out]
    | (go_at_call 10; rw [← eB]; refine (HYB.out _ HP.out).mono ?_; rintro e w1 ⟨rfl, hb1⟩; have H1 := hid hb1; clear hb1)
    | (go_at_call 12; refine (HYR.out _).mono ?_; rintro e w2 ⟨ad2, cp2, rfl, hi2, hb2⟩; have H2 := hid (And.intro hi2 (H1.out.trans (hb2.mono H1.out.size))); clear hi2 hb2
       have z0 := ((HF.out.keep H2.out.2).keep ((Below.refl _ _).alloc (Nat.le_refl _) (.cells #[.int .i64 2, .slice ad2 4 cp2] 24))).c0
       have z1 := ((HF.out.keep H2.out.2).keep ((Below.refl _ _).alloc (Nat.le_refl _) (.cells #[.int .i64 2, .slice ad2 4 cp2] 24))).c1)
    | (go_at_call 18; refine (HYC.out _ (by exact (HP.out.keep H2.out.2 (Nat.le_refl _)).keep ((Below.refl _ _).alloc (Nat.le_refl _) _) (Nat.le_refl _))).mono ?_; rintro e w3 ⟨ad3, m3, cp3, rfl, hb3⟩; have H3 := hid hb3; clear hb3 z0 z1
       have z0 := (((HF.out.keep H2.out.2).alloc (.cells #[.int .i64 2, .slice ad2 4 cp2] 24)).keep H3.out |>.alloc (.cells #[.int .i64 0, .slice ad3 m3 cp3] 24)).c0
       have z1 := (((HF.out.keep H2.out.2).alloc (.cells #[.int .i64 2, .slice ad2 4 cp2] 24)).keep H3.out |>.alloc (.cells #[.int .i64 0, .slice ad3 m3 cp3] 24)).c1
       have y0 := (((PpAt.new w2 2 (.slice ad2 4 cp2) 24).keep H3.out).alloc (.cells #[.int .i64 0, .slice ad3 m3 cp3] 24)).c0
       have y1 := (((PpAt.new w2 2 (.slice ad2 4 cp2) 24).keep H3.out).alloc (.cells #[.int .i64 0, .slice ad3 m3 cp3] 24)).c1)
    | (go_at_call 14; refine (xsame_yes _ _ _ _ _ _ fourP rfl (by decide) _ (by exact (((HP.out.keep H2.out.2 (Nat.le_refl _)).alloc _).keep H3.out (Nat.le_refl _)).alloc _) (by exact ((H2.out.1.alloc _).keep H3.out (Nat.le_refl _)).alloc _)).mono ?_; rintro e w4 ⟨rfl, hb4⟩; have H4 := hid hb4; clear hb4))
  go_ret
  have k1 := HB.out.trans (H2.out.2.mono HB.out.size)
  have k2 := (k1.alloc k1.size _).trans (H3.out.mono (by have := k1.size; simp; omega))
  have k3 := k2.alloc k2.size (.cells #[.int .i64 0, .slice ad3 m3 cp3] 24)
  exact ⟨rfl, k3.trans (H4.out.mono k3.size)⟩
end Go.Proofs.Ytchlmcpnjpllnaa
