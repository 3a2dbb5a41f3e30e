/- The document's text of a change. -/
import Derived.Test.YthoofboegchodaaChGM
import Derived.Test.YthoofboegchodaaChMM
import Derived.Test.YthoofboegchodaaChCM
import Derived.Test.YthoofboegchodaaChDM
import Derived.Test.YthoofboegchodaaKd1
namespace Go.Proofs.Ythoofboegchodaa
open Go.RowKit

theorem fi_cg {ep : Int} (h0 : 0 ≤ ep) (h1 : ep ≤ 60) (z : Cg) : fiB ep z = cgB ep (z.1, z.2.1, z.2.2.1, sg0) := by
  have h : inB ep 0 60 = true := by rw [inB, decide_eq_true h0, decide_eq_true h1]; rfl
  have hs : sigB sg0 = true := by decide
  simp only [fiB, cgB, h, hs, Bool.true_and, Bool.and_true]
theorem fi_out {ep : Int} (h : ep < 0 ∨ 60 < ep) (z : Cg) : fiB ep z = false := by
  rw [fiB, inB]
  rcases h with h | h
  · rw [decide_eq_false (show ¬ 0 ≤ ep by omega)]; rfl
  · rw [decide_eq_false (show ¬ ep ≤ 60 by omega), Bool.and_false]; rfl
set_option maxRecDepth 100000 in
set_option maxHeartbeats 6400000 in
theorem wtext16_any {F : Nat → Prop} (ep : Int) (z : Cg) (a : Option Addr) (n cap : Nat) (hl : z.2.2.1.length ≤ maxLen) (hb : ∀ x, x ∈ z.2.2.1 → ctR x) (w : World) (hR : Reads F w (.slice a n cap) (dCts z.2.2.1)) :
    Calls Try.prog 11 #[.int .i64 ep, .agg #[.int .i64 z.1, .int .i64 z.2.1, .slice a n cap, .int .i64 z.2.2.2.1, .string z.2.2.2.2]] w fun e w' => e = .returned (.tuple #[.string (chT ep z), .int .i64 (chE ep z)]) ∧ Below w.heap.size w w' := by
  obtain ⟨wa, ea⟩ : ∃ wa, wa = (w.alloc (.cells #[.int .i64 z.1, .int .i64 z.2.1, .slice a n cap, .int .i64 z.2.2.2.1, .string z.2.2.2.2] 26)).alloc (.cells #[.int .i64 z.1, .int .i64 z.2.1, .slice a n cap, .int .i64 0, .string ⟨#[]⟩] 26) := ⟨_, rfl⟩
  have hba : Below w.heap.size w wa := by rw [ea]; exact ((Below.refl _ _).alloc (Nat.le_refl _) _).alloc (by simp) _
  have hX1 : BxAt wa w.heap.size [.int .i64 z.1, .int .i64 z.2.1, .slice a n cap, .int .i64 z.2.2.2.1, .string z.2.2.2.2] 26 := by rw [ea]; exact (Below.heap_alloc _ _ _ (by simp)).trans (heap_alloc_last w _)
  have hX2 : BxAt wa (w.heap.size + 1) [.int .i64 z.1, .int .i64 z.2.1, .slice a n cap, .int .i64 0, .string ⟨#[]⟩] 26 := by rw [ea]; exact alloc_two _ _ _
  have HA := hid (And.intro hX1 (And.intro hX2 hba))
  have HEa := hid ea
  have hn : z.2.2.1.length = n := by
    obtain ⟨ad, cp, hv⟩ := hR.form
    rw [List.length_map] at hv
    cases hv
    rfl
  have y0 := HA.out.1.cell 0 _ rfl; have y1 := HA.out.1.cell 1 _ rfl; have y2 := HA.out.1.cell 2 _ rfl; have y3 := HA.out.1.cell 3 _ rfl; have y4 := HA.out.1.cell 4 _ rfl
  have v0 := HA.out.2.1.cell 0 _ rfl; have v1 := HA.out.2.1.cell 1 _ rfl; have v2 := HA.out.2.1.cell 2 _ rfl; have v3 := HA.out.2.1.cell 3 _ rfl; have v4 := HA.out.2.1.cell 4 _ rfl
  by_cases h0 : ep < 0
  · have HO := hid (fi_out (Or.inl h0) z)
    clear hR hl hb ea hba hX1 hX2 hn
    go_enter Try.func11, Try.ntmps11
    go_wp2
    go_ret2
    exact ⟨by rw [chT_no (by rw [chE_no HO.out]; decide), chE_no HO.out]; rfl, by rw [← HEa.out]; exact HA.out.2.2⟩
  by_cases h1 : 60 < ep
  · have HO := hid (fi_out (Or.inr h1) z)
    clear hR hl hb ea hba hX1 hX2 hn
    go_enter Try.func11, Try.ntmps11
    go_wp2
    go_ret2
    exact ⟨by rw [chT_no (by rw [chE_no HO.out]; decide), chE_no HO.out]; rfl, by rw [← HEa.out]; exact HA.out.2.2⟩
  have HFi : Hid (∀ u : World, Below w.heap.size w u → Calls Try.prog 35 #[.int .i64 ep, .agg #[.int .i64 z.1, .int .i64 z.2.1, .slice a n cap, .int .i64 0, .string ⟨#[]⟩]] u fun e w' => e = .returned (.bool (fiB ep z)) ∧ Below u.heap.size u w') := hid (fun u hu => by
    rw [fi_cg (by omega) (by omega)]
    exact wchange_any ep (by omega) (by omega) (z.1, z.2.1, z.2.2.1, sg0) a n cap hl hb u (hR.under hu (Nat.le_refl _)))
  cases hfi : fiB ep z with
  | false =>
    rw [hfi] at HFi
    have HO := hid hfi
    clear hR hl hb ea hba hX1 hX2 hfi hn
    go_enter Try.func11, Try.ntmps11
    go_wp2_with fail
    rw [← HEa.out]
    go_must (refine (HFi.out _ HA.out.2.2).mono ?_)
    rintro e w1 ⟨rfl, hb1⟩
    have H1 : Hid (Below w.heap.size w w1) := hid (HA.out.2.2.trans (hb1.mono HA.out.2.2.size))
    clear hb1 y0 y1 y2 y3 y4 v0 v1 v2 v3 v4
    go_wp2
    go_ret2
    exact ⟨by rw [chT_no (by rw [chE_no HO.out]; decide), chE_no HO.out]; rfl, H1.out⟩
  | true =>
    rw [hfi] at HFi
    obtain ⟨f1, f2, f3, f4⟩ := fi_parts hfi
    have g1 := inB_iff f1
    have g2 := inB_iff f2
    have g3 := inB_iff f3
    have HW : Hid (∀ x, x ∈ z.2.2.1 → wCt x) := hid (fun x hx => ct_writes (cts_mem f4 hx) f1 (hb x hx))
    have hn4 : (n : Int) < 256 := by have := (cts_parts f4).1; omega
    have hn0 : (0 : Int) ≤ (n : Int) := Int.natCast_nonneg _
    have HN := hid hn
    have HR := hid hR
    have HG : Hid ((0 ≤ ep ∧ ep < 65536) ∧ (0 ≤ z.1 ∧ z.1 < 256) ∧ (0 ≤ z.2.1 ∧ z.2.1 < 256)) := hid ⟨⟨by omega, by omega⟩, ⟨by omega, by omega⟩, ⟨by omega, by omega⟩⟩
    have HFt := hid hfi
    clear hR hl hb ea hba hX1 hX2 hfi hn f1 f2 f3 f4 g1 g2 g3
    go_enter Try.func11, Try.ntmps11
    go_wp2_with fail
    rw [← HEa.out]
    go_must (refine (HFi.out _ HA.out.2.2).mono ?_)
    rintro e w1 ⟨rfl, hb1⟩
    have H1 : Hid (BxAt w1 w.heap.size [.int .i64 z.1, .int .i64 z.2.1, .slice a n cap, .int .i64 z.2.2.2.1, .string z.2.2.2.2] 26 ∧ Below w.heap.size w w1) := hid ⟨HA.out.1.keep hb1, HA.out.2.2.trans (hb1.mono HA.out.2.2.size)⟩
    clear hb1 y0 y1 y2 y3 y4 v0 v1 v2 v3 v4 h0 h1
    have y0 := H1.out.1.cell 0 _ rfl; have y1 := H1.out.1.cell 1 _ rfl; have y2 := H1.out.1.cell 2 _ rfl; have y3 := H1.out.1.cell 3 _ rfl; have y4 := H1.out.1.cell 4 _ rfl
    go_wp2_with fail
    go_must (refine (dvnew 65535 [(w.heap.size, .cells #[.int .i64 z.1, .int .i64 z.2.1, .slice a n cap, .int .i64 z.2.2.2.1, .string z.2.2.2.2] 26 (0, 0))] _ (fun p hp => by rw [List.mem_singleton.1 hp]; exact H1.out.1)).mono ?_)
    rintro e w2 ⟨rfl, h2⟩
    obtain ⟨HH, eHH⟩ : ∃ HH : List (Nat × Obj), HH = [(w.heap.size, .cells #[.int .i64 z.1, .int .i64 z.2.1, .slice a n cap, .int .i64 z.2.2.2.1, .string z.2.2.2.2] 26 (0, 0))] := ⟨_, rfl⟩
    obtain ⟨c, ec⟩ : ∃ c, c = w1.heap.size := ⟨_, rfl⟩
    rw [← ec]
    rw [← ec, ← eHH] at h2
    have HBx : Hid (∀ (u : World) (l : List UInt8), Dv 65535 c w1 HH u l → BxAt u w.heap.size [.int .i64 z.1, .int .i64 z.2.1, .slice a n cap, .int .i64 z.2.2.2.1, .string z.2.2.2.2] 26) := hid (fun u l hu => by rw [eHH] at hu; exact hu.box)
    have HC : Hid (w1.heap.size ≤ c ∧ w.heap.size ≤ c) := hid ⟨by rw [ec]; exact Nat.le_refl _, by rw [ec]; exact H1.out.2.size⟩
    have HR1 : Hid (Reads F w1 (.slice a n cap) (dCts z.2.2.1)) := hid (HR.out.under H1.out.2 (Nat.le_refl _))
    have P0 := hid h2
    clear h2 eHH ec y0 y1 y2 y3 y4
    have y0 := (HBx.out _ _ P0.out).cell 0 _ rfl; have y1 := (HBx.out _ _ P0.out).cell 1 _ rfl; have y2 := (HBx.out _ _ P0.out).cell 2 _ rfl; have y3 := (HBx.out _ _ P0.out).cell 3 _ rfl; have y4 := (HBx.out _ _ P0.out).cell 4 _ rfl
    go_wp2_with (first
      | (have := P4; go_at_call 37; go_must (refine (dvnum 1 (by decide) 65535 (by decide) c w1 _ _ _ _ hn0 (by omega) P4.out).mono ?_); rintro e u5 ⟨rfl, h6⟩; have P5 := hid h6; clear h6 y0 y1 y2 y3 y4; have y0 := (HBx.out _ _ P5.out).cell 0 _ rfl; have y1 := (HBx.out _ _ P5.out).cell 1 _ rfl; have y2 := (HBx.out _ _ P5.out).cell 2 _ rfl; have y3 := (HBx.out _ _ P5.out).cell 3 _ rfl; have y4 := (HBx.out _ _ P5.out).cell 4 _ rfl)
      | (have := P3; go_at_call 37; go_must (refine (dvnum 1 (by decide) 65535 (by decide) c w1 _ _ _ _ HG.out.2.2.1 HG.out.2.2.2 P3.out).mono ?_); rintro e u4 ⟨rfl, h5⟩; have P4 := hid h5; clear h5 y0 y1 y2 y3 y4; have y0 := (HBx.out _ _ P4.out).cell 0 _ rfl; have y1 := (HBx.out _ _ P4.out).cell 1 _ rfl; have y2 := (HBx.out _ _ P4.out).cell 2 _ rfl; have y3 := (HBx.out _ _ P4.out).cell 3 _ rfl; have y4 := (HBx.out _ _ P4.out).cell 4 _ rfl)
      | (have := P2; go_at_call 37; go_must (refine (dvnum 1 (by decide) 65535 (by decide) c w1 _ _ _ _ HG.out.2.1.1 HG.out.2.1.2 P2.out).mono ?_); rintro e u3 ⟨rfl, h4⟩; have P3 := hid h4; clear h4 y0 y1 y2 y3 y4; have y0 := (HBx.out _ _ P3.out).cell 0 _ rfl; have y1 := (HBx.out _ _ P3.out).cell 1 _ rfl; have y2 := (HBx.out _ _ P3.out).cell 2 _ rfl; have y3 := (HBx.out _ _ P3.out).cell 3 _ rfl; have y4 := (HBx.out _ _ P3.out).cell 4 _ rfl)
      | (have := P1; go_at_call 37; go_must (refine (dvnum 2 (by decide) 65535 (by decide) c w1 _ _ _ _ HG.out.1.1 HG.out.1.2 P1.out).mono ?_); rintro e u2 ⟨rfl, h3⟩; have P2 := hid h3; clear h3 y0 y1 y2 y3 y4; have y0 := (HBx.out _ _ P2.out).cell 0 _ rfl; have y1 := (HBx.out _ _ P2.out).cell 1 _ rfl; have y2 := (HBx.out _ _ P2.out).cell 2 _ rfl; have y3 := (HBx.out _ _ P2.out).cell 3 _ rfl; have y4 := (HBx.out _ _ P2.out).cell 4 _ rfl)
      | (go_at_call 37; go_must (refine (dvnum 1 (by decide) 65535 (by decide) c w1 _ _ _ _ (by decide) (by decide) P0.out).mono ?_); rintro e u1 ⟨rfl, h2⟩; have P1 := hid h2; clear h2 y0 y1 y2 y3 y4; have y0 := (HBx.out _ _ P1.out).cell 0 _ rfl; have y1 := (HBx.out _ _ P1.out).cell 1 _ rfl; have y2 := (HBx.out _ _ P1.out).cell 2 _ rfl; have y3 := (HBx.out _ _ P1.out).cell 3 _ rfl; have y4 := (HBx.out _ _ P1.out).cell 4 _ rfl))
    clear y0 y1 y2 y3 y4
    go_loopw [8] (fun i wr => ∃ j : Nat, j ≤ n ∧ i = .int .i64 (j : Int) ∧ Dv 65535 c w1 HH wr (be 1 86 ++ be 2 ep.toNat ++ be 1 z.1.toNat ++ be 1 z.2.1.toNat ++ be 1 n ++ (z.2.2.1.take j).flatMap ctL))
      (fun i _ => ((n : Int) - intOf i).toNat)
    case atStart => exact ⟨0, Nat.zero_le _, rfl, by have := P5.out; simpa using this⟩
    case round =>
      obtain ⟨j, hj, rfl, hpv⟩ := hrel
      have HV := hid hpv
      clear hpv
      have y0 := (HBx.out _ _ HV.out).cell 0 _ rfl; have y1 := (HBx.out _ _ HV.out).cell 1 _ rfl; have y2 := (HBx.out _ _ HV.out).cell 2 _ rfl; have y3 := (HBx.out _ _ HV.out).cell 3 _ rfl; have y4 := (HBx.out _ _ HV.out).cell 4 _ rfl
      have hj0 : (0 : Int) ≤ (j : Int) := Int.natCast_nonneg _
      by_cases hjn : j = n
      · have hj1 : ¬ ((j : Int) < (n : Int)) := by omega
        have HE : Hid (be 1 86 ++ be 2 ep.toNat ++ be 1 z.1.toNat ++ be 1 z.2.1.toNat ++ be 1 n ++ (z.2.2.1.take j).flatMap ctL = chL ep z) := hid (by
          rw [hjn, ← HN.out, List.take_length]
          simp only [chL, lsL, List.append_assoc])
        rw [HE.out] at HV
        clear hj hjn
        go_wp2_with fail
        go_must (refine (dvdone 65535 c w1 _ _ _ HV.out).mono ?_)
        rintro e w6 ⟨⟨sx, er, rfl, hor⟩, hb6⟩
        have H6 : Hid (Below w.heap.size w w6) := hid ((H1.out.2.trans (HV.out.bel.mono HC.out.2)).trans (hb6.mono (Nat.le_trans H1.out.2.size (Nat.le_trans HC.out.1 (Nat.le_of_lt HV.out.lt)))))
        clear y0 y1 y2 y3 y4
        rcases hor with ⟨ho, rfl, rfl⟩ | ⟨ho, hne⟩
        · have HO := hid ho
          clear ho hb6
          go_wp2
          go_ret2
          exact ⟨by rw [chT_yes HFt.out HO.out, chE_yes HFt.out HO.out]; rfl, H6.out⟩
        · have HO := hid ho
          have hnb : (er != 0) = true := by simpa using hne
          clear ho hb6 hne
          go_wp2
          go_ret2
          exact ⟨by rw [chT_no (by rw [chE_long HFt.out HO.out]; decide), chE_long HFt.out HO.out]; rfl, H6.out⟩
      · have hj1 : (j : Int) < (n : Int) := by omega
        have hjl : j < z.2.2.1.length := by have := HN.out; omega
        have hR2 := HR1.out
        rw [← HN.out] at hR2
        obtain ⟨g, off, cp, a8, kc, hv, hP, hg, hcl⟩ := ct_at hR2 j hjl
        cases hv
        have hcr : ∀ (q : Nat) (u : Value), (ctC (z.2.2.1.getD j ct0) (.slice a8 (z.2.2.1.getD j ct0).2.2.2.length kc))[q]? = some u → wr.cell? ⟨g, off + j * 9 + q, none⟩ = some u := fun q u hq => (World.cell?_of_block (a := ⟨g, off + j * 9 + q, none⟩) (HV.out.bel.block g (Nat.lt_of_lt_of_le hg HC.out.1))).trans (hcl q u hq)
        have HJ := hid (And.intro hj hjn)
        have HS := hid (flat_snoc (f := ctL) (d := ct0) j hjl)
        have HBj := hid (HW.out (z.2.2.1.getD j ct0) (by rw [List.getD_eq_getElem?_getD, List.getElem?_eq_getElem hjl]; exact List.getElem_mem hjl))
        generalize z.2.2.1.getD j ct0 = y at hcr hP HS HBj
        have HP := hid hP
        have k0 : wr.cell? ⟨g, off + j * 9, none⟩ = some (.int .i64 y.1) := hcr 0 _ rfl
        have k1 : wr.cell? ⟨g, off + j * 9 + 1, none⟩ = some (.int .i64 y.2.1) := hcr 1 _ rfl
        have k2 : wr.cell? ⟨g, off + j * 9 + 2, none⟩ = some (.int .i64 y.2.2.1.c) := hcr 2 _ rfl
        have k3 : wr.cell? ⟨g, off + j * 9 + 3, none⟩ = some (.int .i64 y.2.2.1.st) := hcr 3 _ rfl
        have k4 : wr.cell? ⟨g, off + j * 9 + 4, none⟩ = some (.int .i64 y.2.2.1.k) := hcr 4 _ rfl
        have k5 : wr.cell? ⟨g, off + j * 9 + 5, none⟩ = some (.string y.2.2.1.key) := hcr 5 _ rfl
        have k6 : wr.cell? ⟨g, off + j * 9 + 6, none⟩ = some (.float .f64 y.2.2.1.b) := hcr 6 _ rfl
        have k7 : wr.cell? ⟨g, off + j * 9 + 7, none⟩ = some (.int .i64 y.2.2.1.id) := hcr 7 _ rfl
        have k8 : wr.cell? ⟨g, off + j * 9 + 8, none⟩ = some (.slice a8 y.2.2.2.length kc) := hcr 8 _ rfl
        have hj256 : (j : Int) ≤ 256 := by omega
        obtain ⟨L0, eL0⟩ : ∃ L0, L0 = be 1 86 ++ be 2 ep.toNat ++ be 1 z.1.toNat ++ be 1 z.2.1.toNat ++ be 1 n ++ (z.2.2.1.take j).flatMap ctL := ⟨_, rfl⟩
        rw [← eL0] at HV
        have HL0 := hid eL0
        obtain ⟨m, em⟩ : ∃ m, m = y.2.2.2.length := ⟨_, rfl⟩
        have HM := hid em
        have hm0 : (0 : Int) ≤ (m : Int) := Int.natCast_nonneg _
        have hm1 : (m : Int) < 256 := by have := HBj.out.2.2.2.1; omega
        rw [← em] at k8
        obtain ⟨q0, eq0⟩ : ∃ q0, q0 = wr.heap.size := ⟨_, rfl⟩
        have HQ0 := hid eq0
        obtain ⟨H2, eH2⟩ : ∃ H2, H2 = (q0, Obj.cells #[.int .i64 y.1, .int .i64 y.2.1, .int .i64 y.2.2.1.c, .int .i64 y.2.2.1.st, .int .i64 y.2.2.1.k, .string y.2.2.1.key, .float .f64 y.2.2.1.b, .int .i64 y.2.2.1.id, .slice a8 m kc] 52 (0, 0)) :: HH := ⟨_, rfl⟩
        have HBy : Hid (∀ (u : World) (l : List UInt8), Dv 65535 c w1 H2 u l → BxAt u q0 [.int .i64 y.1, .int .i64 y.2.1, .int .i64 y.2.2.1.c, .int .i64 y.2.2.1.st, .int .i64 y.2.2.1.k, .string y.2.2.1.key, .float .f64 y.2.2.1.b, .int .i64 y.2.2.1.id, .slice a8 m kc] 52) := hid (fun u l hu => by rw [eH2] at hu; exact hu.box)
        have HPop : Hid (∀ (u : World) (l : List UInt8), Dv 65535 c w1 H2 u l → Dv 65535 c w1 HH u l) := hid (fun u l hu => by rw [eH2] at hu; exact hu.pop)
        have HH2 := hid eH2
        clear hj hjn hjl hP hg hcl hcr hR2 eL0 em eq0 eH2
        go_wp2_with (first
          | (have := Q5; go_at_call 37; go_must (refine (dvnum 1 (by decide) 65535 (by decide) c w1 _ _ _ _ hm0 (by omega) Q5.out).mono ?_); rintro e v5 ⟨rfl, h6⟩; have Q6 := hid h6; clear h6 x0 x1 x2 x3 x4 x5 x6 x7 x8; have x0 := (HBy.out _ _ Q6.out).cell 0 _ rfl; have x1 := (HBy.out _ _ Q6.out).cell 1 _ rfl; have x2 := (HBy.out _ _ Q6.out).cell 2 _ rfl; have x3 := (HBy.out _ _ Q6.out).cell 3 _ rfl; have x4 := (HBy.out _ _ Q6.out).cell 4 _ rfl; have x5 := (HBy.out _ _ Q6.out).cell 5 _ rfl; have x6 := (HBy.out _ _ Q6.out).cell 6 _ rfl; have x7 := (HBy.out _ _ Q6.out).cell 7 _ rfl; have x8 := (HBy.out _ _ Q6.out).cell 8 _ rfl)
          | (have := Q4; go_at_call 39; go_must (refine (dvtext 65535 (by decide) c w1 _ _ _ _ Q4.out).mono ?_); rintro e v4 ⟨rfl, h5⟩; have Q5 := hid h5; clear h5 x0 x1 x2 x3 x4 x5 x6 x7 x8; have x0 := (HBy.out _ _ Q5.out).cell 0 _ rfl; have x1 := (HBy.out _ _ Q5.out).cell 1 _ rfl; have x2 := (HBy.out _ _ Q5.out).cell 2 _ rfl; have x3 := (HBy.out _ _ Q5.out).cell 3 _ rfl; have x4 := (HBy.out _ _ Q5.out).cell 4 _ rfl; have x5 := (HBy.out _ _ Q5.out).cell 5 _ rfl; have x6 := (HBy.out _ _ Q5.out).cell 6 _ rfl; have x7 := (HBy.out _ _ Q5.out).cell 7 _ rfl; have x8 := (HBy.out _ _ Q5.out).cell 8 _ rfl)
          | (have := Q3; go_at_call 38; go_must (refine (qtext_any y.2.2.1 HBj.out.2.2.1 _).mono ?_); rintro e v3 ⟨rfl, h4⟩; have Q4 := hid (Q3.out.under h4); clear h4 x0 x1 x2 x3 x4 x5 x6 x7 x8; have x0 := (HBy.out _ _ Q4.out).cell 0 _ rfl; have x1 := (HBy.out _ _ Q4.out).cell 1 _ rfl; have x2 := (HBy.out _ _ Q4.out).cell 2 _ rfl; have x3 := (HBy.out _ _ Q4.out).cell 3 _ rfl; have x4 := (HBy.out _ _ Q4.out).cell 4 _ rfl; have x5 := (HBy.out _ _ Q4.out).cell 5 _ rfl; have x6 := (HBy.out _ _ Q4.out).cell 6 _ rfl; have x7 := (HBy.out _ _ Q4.out).cell 7 _ rfl; have x8 := (HBy.out _ _ Q4.out).cell 8 _ rfl)
          | (have := Q2; go_at_call 37; go_must (refine (dvnum 2 (by decide) 65535 (by decide) c w1 _ _ _ _ HBj.out.2.1.1 HBj.out.2.1.2 Q2.out).mono ?_); rintro e v2 ⟨rfl, h3⟩; have Q3 := hid h3; clear h3 x0 x1 x2 x3 x4 x5 x6 x7 x8; have x0 := (HBy.out _ _ Q3.out).cell 0 _ rfl; have x1 := (HBy.out _ _ Q3.out).cell 1 _ rfl; have x2 := (HBy.out _ _ Q3.out).cell 2 _ rfl; have x3 := (HBy.out _ _ Q3.out).cell 3 _ rfl; have x4 := (HBy.out _ _ Q3.out).cell 4 _ rfl; have x5 := (HBy.out _ _ Q3.out).cell 5 _ rfl; have x6 := (HBy.out _ _ Q3.out).cell 6 _ rfl; have x7 := (HBy.out _ _ Q3.out).cell 7 _ rfl; have x8 := (HBy.out _ _ Q3.out).cell 8 _ rfl)
          | (have := Q1; go_at_call 37; go_must (refine (dvnum 1 (by decide) 65535 (by decide) c w1 _ _ _ _ HBj.out.1.1 HBj.out.1.2 Q1.out).mono ?_); rintro e v1 ⟨rfl, h2⟩; have Q2 := hid h2; clear h2 x0 x1 x2 x3 x4 x5 x6 x7 x8; have x0 := (HBy.out _ _ Q2.out).cell 0 _ rfl; have x1 := (HBy.out _ _ Q2.out).cell 1 _ rfl; have x2 := (HBy.out _ _ Q2.out).cell 2 _ rfl; have x3 := (HBy.out _ _ Q2.out).cell 3 _ rfl; have x4 := (HBy.out _ _ Q2.out).cell 4 _ rfl; have x5 := (HBy.out _ _ Q2.out).cell 5 _ rfl; have x6 := (HBy.out _ _ Q2.out).cell 6 _ rfl; have x7 := (HBy.out _ _ Q2.out).cell 7 _ rfl; have x8 := (HBy.out _ _ Q2.out).cell 8 _ rfl)
          | (refine wl_store_blk rfl 52 _ _ rfl wr.heap.size 0 rfl #[.int .i64 y.1, .int .i64 y.2.1, .int .i64 y.2.2.1.c, .int .i64 y.2.2.1.st, .int .i64 y.2.2.1.k, .string y.2.2.1.key, .float .f64 y.2.2.1.b, .int .i64 y.2.2.1.id, .slice a8 m kc] rfl [.int .i64 0, .int .i64 0, .int .i64 0, .int .i64 0, .int .i64 0, .string ⟨#[]⟩, .float .f64 0, .int .i64 0, .slice none 0 0] 52 (heap_alloc_last wr _) (by simp) (by kernel_rfl) (by simp [Value.oneCell']) ?_; intro wx Hz; go_must (have Q1 : Hid (Dv 65535 c w1 H2 wx L0) := hid (by rw [HH2.out, HQ0.out]; exact HV.out.put (Hz.out.2.below ((Below.refl wr.heap.size wr).alloc (Nat.le_refl _) _) (Nat.le_refl _)) Hz.out.1)); clear Hz k0 k1 k2 k3 k4 k5 k6 k7 k8 y0 y1 y2 y3 y4; rw [← HQ0.out]; have x0 := (HBy.out _ _ Q1.out).cell 0 _ rfl; have x1 := (HBy.out _ _ Q1.out).cell 1 _ rfl; have x2 := (HBy.out _ _ Q1.out).cell 2 _ rfl; have x3 := (HBy.out _ _ Q1.out).cell 3 _ rfl; have x4 := (HBy.out _ _ Q1.out).cell 4 _ rfl; have x5 := (HBy.out _ _ Q1.out).cell 5 _ rfl; have x6 := (HBy.out _ _ Q1.out).cell 6 _ rfl; have x7 := (HBy.out _ _ Q1.out).cell 7 _ rfl; have x8 := (HBy.out _ _ Q1.out).cell 8 _ rfl))
        clear x0 x1 x2 x3 x4 x5 x6 x7 x8
        rename World => wq
        go_loopw [12] (fun i wr => ∃ q : Nat, q ≤ m ∧ i = .int .i64 (q : Int) ∧ Dv 65535 c w1 H2 wr (L0 ++ be 1 y.1.toNat ++ be 2 y.2.1.toNat ++ txL (rqT y.2.2.1) ++ be 1 m ++ (y.2.2.2.take q).flatMap sigL))
          (fun i _ => ((m : Int) - intOf i).toNat)
        case atStart => exact ⟨0, Nat.zero_le _, rfl, by have := Q6.out; simpa using this⟩
        case round =>
          obtain ⟨q, hq, rfl, hpw⟩ := hrel
          have HX := hid hpw
          clear hpw
          have x0 := (HBy.out _ _ HX.out).cell 0 _ rfl; have x1 := (HBy.out _ _ HX.out).cell 1 _ rfl; have x2 := (HBy.out _ _ HX.out).cell 2 _ rfl; have x3 := (HBy.out _ _ HX.out).cell 3 _ rfl; have x4 := (HBy.out _ _ HX.out).cell 4 _ rfl; have x5 := (HBy.out _ _ HX.out).cell 5 _ rfl; have x6 := (HBy.out _ _ HX.out).cell 6 _ rfl; have x7 := (HBy.out _ _ HX.out).cell 7 _ rfl; have x8 := (HBy.out _ _ HX.out).cell 8 _ rfl
          have hq0 : (0 : Int) ≤ (q : Int) := Int.natCast_nonneg _
          by_cases hqn : q = m
          · have hq1 : ¬ ((q : Int) < (m : Int)) := by omega
            have HE : Hid (q = m) := hid hqn
            clear hq hqn
            go_wp2
            go_roundw
            case rel =>
              refine ⟨j + 1, by have := HJ.out; omega, by go_num, ?_⟩
              have := HPop.out _ _ HX.out
              rw [HE.out, HM.out, List.take_length, HL0.out] at this
              rw [← HS.out]
              simp only [ctL, rqX, sgsL, lsL, List.append_assoc] at this ⊢
              exact this
            case measure => simp [intOf]; omega
          · have hq1 : (q : Int) < (m : Int) := by omega
            have hql : q < y.2.2.2.length := by have := HM.out; omega
            obtain ⟨g2, off2, rfl, hc1, hc2⟩ : ∃ g off, a8 = some ⟨g, off, none⟩ ∧ wr.cell? ⟨g, off + q * 2, none⟩ = some (.int .i64 (y.2.2.2.getD q sg0).1) ∧ wr.cell? ⟨g, off + q * 2 + 1, none⟩ = some (.string (y.2.2.2.getD q sg0).2) := by
              rcases HP.out.keep HX.out.bel HC.out.1 with e | ⟨g, off, ha, hg, hc⟩
              · rw [e] at hql; simp at hql
              · have hx : y.2.2.2[q]? = some (y.2.2.2.getD q sg0) := by simp [hql]
                obtain ⟨k1, k2⟩ := hc q _ hx
                exact ⟨g, off, ha, k1, k2⟩
            have HK := hid (And.intro hq hqn)
            have HSq := hid (flat_snoc (f := sigL) (d := sg0) q hql)
            have HBq := hid (HBj.out.2.2.2.2 (y.2.2.2.getD q sg0) (by rw [List.getD_eq_getElem?_getD, List.getElem?_eq_getElem hql]; exact List.getElem_mem hql))
            have HCl : Hid (∀ (u : World) (l : List UInt8), Dv 65535 c w1 H2 u l → u.cell? ⟨g2, off2 + q * 2 + 1, none⟩ = some (.string (y.2.2.2.getD q sg0).2)) := hid (fun u l hu => by
              rcases HP.out.keep hu.bel HC.out.1 with e | ⟨g, off, ha, hg, hc⟩
              · rw [e] at hql; simp at hql
              · have hx : y.2.2.2[q]? = some (y.2.2.2.getD q sg0) := by simp [hql]
                cases ha
                exact (hc q _ hx).2)
            generalize y.2.2.2.getD q sg0 = p at hc1 hc2 HSq HBq HCl
            have hq256 : (q : Int) ≤ 256 := by omega
            clear hq hqn hql
            go_wp2_with (first
              | (have := R1; go_at_call 39; go_must (refine (dvtext 65535 (by decide) c w1 _ _ _ _ R1.out).mono ?_); rintro e r2 ⟨rfl, h3⟩; have R2 := hid h3; clear h3 hc2 x0 x1 x2 x3 x4 x5 x6 x7 x8)
              | (go_at_call 37; go_must (refine (dvnum 1 (by decide) 65535 (by decide) c w1 _ _ _ _ HBq.out.1 HBq.out.2 HX.out).mono ?_); rintro e r1 ⟨rfl, h2⟩; have R1 := hid h2; clear h2 hc1 hc2 x0 x1 x2 x3 x4 x5 x6 x7 x8; have hc2 := HCl.out _ _ R1.out; have x0 := (HBy.out _ _ R1.out).cell 0 _ rfl; have x1 := (HBy.out _ _ R1.out).cell 1 _ rfl; have x2 := (HBy.out _ _ R1.out).cell 2 _ rfl; have x3 := (HBy.out _ _ R1.out).cell 3 _ rfl; have x4 := (HBy.out _ _ R1.out).cell 4 _ rfl; have x5 := (HBy.out _ _ R1.out).cell 5 _ rfl; have x6 := (HBy.out _ _ R1.out).cell 6 _ rfl; have x7 := (HBy.out _ _ R1.out).cell 7 _ rfl; have x8 := (HBy.out _ _ R1.out).cell 8 _ rfl))
            go_roundw
            case rel => exact ⟨q + 1, by have := HK.out; omega, by go_num, by have := R2.out; rw [← HSq.out]; simp only [sigL, List.append_assoc] at this ⊢; exact this⟩
            case measure => simp [intOf]; omega
end Go.Proofs.Ythoofboegchodaa
