/- The program's writer of certificates, and Text. -/
import Derived.Test.YthoofboegchodaaChMM
import Derived.Test.YthoofboegchodaaChBM
import Derived.Test.YthoofboegchodaaKd1
namespace Go.Proofs.Ythoofboegchodaa
open Go.RowKit

/-- What can be written. -/
def wSg (ps : List Sg) : Prop := ps.length < 256 ∧ ∀ p, p ∈ ps → 0 ≤ p.1 ∧ p.1 < 256
def wCt (c : Ct) : Prop := (0 ≤ c.1 ∧ c.1 < 256) ∧ (0 ≤ c.2.1 ∧ c.2.1 < 65536) ∧ c.2.2.1.b < 18446744073709551616 ∧ wSg c.2.2.2
theorem ct_writes {e : Int} {c : Ct} (h : ctB e c = true) (he : inB e 0 60 = true) (hb : ctR c) : wCt c := by
  obtain ⟨h1, h2, h3, h4⟩ := ct_parts h
  have he := inB_iff he
  have h1 := inB_iff h1
  refine ⟨⟨by omega, by omega⟩, ⟨by omega, by omega⟩, hb.2.1.2.2.2, ?_⟩
  simp only [sigsB, Bool.and_eq_true, decide_eq_true_eq] at h4
  refine ⟨by omega, fun p hp => ?_⟩
  obtain ⟨i, hi, rfl⟩ := getD_mem (d := sg0) hp
  have := inB_iff (allTo_at h4.2 i hi)
  omega
set_option maxRecDepth 100000 in
set_option maxHeartbeats 6400000 in
theorem zwcert_any (c : Nat) (w0 : World) (hc : w0.heap.size ≤ c) (H : List (Nat × Obj)) (y : Ct) (a8 : Option Addr) (kc : Nat) (hy : wCt y) (hP : PairsIn w0 a8 y.2.2.2) (w : World) (l : List UInt8) (h : Qv 65535 c w0 H w l) :
    Calls Try.prog 33 #[.pointer (some ⟨c, 0, none⟩), .agg #[.int .i64 y.1, .int .i64 y.2.1, .int .i64 y.2.2.1.c, .int .i64 y.2.2.1.st, .int .i64 y.2.2.1.k, .string y.2.2.1.key, .float .f64 y.2.2.1.b, .int .i64 y.2.2.1.id, .slice a8 y.2.2.2.length kc]] w fun e w' => e = .returned (.tuple #[]) ∧ Qv 65535 c w0 H w' (l ++ ctL y) := by
  obtain ⟨H1, eH1⟩ : ∃ H1, H1 = (w.heap.size, Obj.cells #[.int .i64 y.1, .int .i64 y.2.1, .int .i64 y.2.2.1.c, .int .i64 y.2.2.1.st, .int .i64 y.2.2.1.k, .string y.2.2.1.key, .float .f64 y.2.2.1.b, .int .i64 y.2.2.1.id, .slice a8 y.2.2.2.length kc] 52 (0, 0)) :: H := ⟨_, rfl⟩
  have P1 : Hid (Qv 65535 c w0 H1 (w.alloc (.cells #[.int .i64 y.1, .int .i64 y.2.1, .int .i64 y.2.2.1.c, .int .i64 y.2.2.1.st, .int .i64 y.2.2.1.k, .string y.2.2.1.key, .float .f64 y.2.2.1.b, .int .i64 y.2.2.1.id, .slice a8 y.2.2.2.length kc] 52)) l) := hid (by rw [eH1]; exact h.push _)
  have HBx : Hid (∀ (u : World) (l : List UInt8), Qv 65535 c w0 H1 u l → BxAt u w.heap.size [.int .i64 y.1, .int .i64 y.2.1, .int .i64 y.2.2.1.c, .int .i64 y.2.2.1.st, .int .i64 y.2.2.1.k, .string y.2.2.1.key, .float .f64 y.2.2.1.b, .int .i64 y.2.2.1.id, .slice a8 y.2.2.2.length kc] 52) := hid (fun u l hu => by rw [eH1] at hu; exact hu.box)
  have HPop : Hid (∀ (u : World) (l : List UInt8), Qv 65535 c w0 H1 u l → Qv 65535 c w0 H u l) := hid (fun u l hu => by rw [eH1] at hu; exact hu.pop)
  obtain ⟨n, en⟩ : ∃ n, n = y.2.2.2.length := ⟨_, rfl⟩
  have HY := hid hy
  have HP := hid hP
  have HC := hid hc
  have hn0 : (0 : Int) ≤ (n : Int) := Int.natCast_nonneg _
  have hn1 : (n : Int) < 256 := by have := hy.2.2.2.1; omega
  rw [← en] at P1 HBx ⊢
  have HN := hid en
  clear h hc hy hP eH1 en
  have y0 := (HBx.out _ _ P1.out).cell 0 _ rfl; have y1 := (HBx.out _ _ P1.out).cell 1 _ rfl; have y2 := (HBx.out _ _ P1.out).cell 2 _ rfl; have y3 := (HBx.out _ _ P1.out).cell 3 _ rfl; have y4 := (HBx.out _ _ P1.out).cell 4 _ rfl; have y5 := (HBx.out _ _ P1.out).cell 5 _ rfl; have y6 := (HBx.out _ _ P1.out).cell 6 _ rfl; have y7 := (HBx.out _ _ P1.out).cell 7 _ rfl; have y8 := (HBx.out _ _ P1.out).cell 8 _ rfl
  go_enter Try.func33, Try.ntmps33
  go_wp2_with (first
    | (have := P5; go_at_call 31; go_must (refine (qvbyte 65535 (by decide) c w0 _ _ _ _ hn0 hn1 P5.out).mono ?_); rintro e w5 ⟨rfl, h6⟩; have P6 := hid h6; clear h6 y0 y1 y2 y3 y4 y5 y6 y7 y8; have y0 := (HBx.out _ _ P6.out).cell 0 _ rfl; have y1 := (HBx.out _ _ P6.out).cell 1 _ rfl; have y2 := (HBx.out _ _ P6.out).cell 2 _ rfl; have y3 := (HBx.out _ _ P6.out).cell 3 _ rfl; have y4 := (HBx.out _ _ P6.out).cell 4 _ rfl; have y5 := (HBx.out _ _ P6.out).cell 5 _ rfl; have y6 := (HBx.out _ _ P6.out).cell 6 _ rfl; have y7 := (HBx.out _ _ P6.out).cell 7 _ rfl; have y8 := (HBx.out _ _ P6.out).cell 8 _ rfl)
    | (have := P4; go_at_call 61; go_must (refine (qvtext 65535 (by decide) c w0 _ _ _ _ P4.out).mono ?_); rintro e w4 ⟨rfl, h5⟩; have P5 := hid h5; clear h5 y0 y1 y2 y3 y4 y5 y6 y7 y8; have y0 := (HBx.out _ _ P5.out).cell 0 _ rfl; have y1 := (HBx.out _ _ P5.out).cell 1 _ rfl; have y2 := (HBx.out _ _ P5.out).cell 2 _ rfl; have y3 := (HBx.out _ _ P5.out).cell 3 _ rfl; have y4 := (HBx.out _ _ P5.out).cell 4 _ rfl; have y5 := (HBx.out _ _ P5.out).cell 5 _ rfl; have y6 := (HBx.out _ _ P5.out).cell 6 _ rfl; have y7 := (HBx.out _ _ P5.out).cell 7 _ rfl; have y8 := (HBx.out _ _ P5.out).cell 8 _ rfl)
    | (have := P3; go_at_call 32; go_must (refine (qvword 65535 (by decide) c w0 _ _ _ _ HY.out.2.1.1 HY.out.2.1.2 P3.out).mono ?_); rintro e w3 ⟨rfl, h4⟩; have P4 := hid h4; clear h4 y0 y1 y2 y3 y4 y5 y6 y7 y8; have y0 := (HBx.out _ _ P4.out).cell 0 _ rfl; have y1 := (HBx.out _ _ P4.out).cell 1 _ rfl; have y2 := (HBx.out _ _ P4.out).cell 2 _ rfl; have y3 := (HBx.out _ _ P4.out).cell 3 _ rfl; have y4 := (HBx.out _ _ P4.out).cell 4 _ rfl; have y5 := (HBx.out _ _ P4.out).cell 5 _ rfl; have y6 := (HBx.out _ _ P4.out).cell 6 _ rfl; have y7 := (HBx.out _ _ P4.out).cell 7 _ rfl; have y8 := (HBx.out _ _ P4.out).cell 8 _ rfl)
    | (have := P2; go_at_call 31; go_must (refine (qvbyte 65535 (by decide) c w0 _ _ _ _ HY.out.1.1 HY.out.1.2 P2.out).mono ?_); rintro e w2 ⟨rfl, h3⟩; have P3 := hid h3; clear h3 y0 y1 y2 y3 y4 y5 y6 y7 y8; have y0 := (HBx.out _ _ P3.out).cell 0 _ rfl; have y1 := (HBx.out _ _ P3.out).cell 1 _ rfl; have y2 := (HBx.out _ _ P3.out).cell 2 _ rfl; have y3 := (HBx.out _ _ P3.out).cell 3 _ rfl; have y4 := (HBx.out _ _ P3.out).cell 4 _ rfl; have y5 := (HBx.out _ _ P3.out).cell 5 _ rfl; have y6 := (HBx.out _ _ P3.out).cell 6 _ rfl; have y7 := (HBx.out _ _ P3.out).cell 7 _ rfl; have y8 := (HBx.out _ _ P3.out).cell 8 _ rfl)
    | (go_at_call 60; go_must (refine (dtext_any y.2.2.1 HY.out.2.2.1 _).mono ?_); rintro e w1 ⟨rfl, h2⟩; have P2 := hid (P1.out.under h2); clear h2 y0 y1 y2 y3 y4 y5 y6 y7 y8; have y0 := (HBx.out _ _ P2.out).cell 0 _ rfl; have y1 := (HBx.out _ _ P2.out).cell 1 _ rfl; have y2 := (HBx.out _ _ P2.out).cell 2 _ rfl; have y3 := (HBx.out _ _ P2.out).cell 3 _ rfl; have y4 := (HBx.out _ _ P2.out).cell 4 _ rfl; have y5 := (HBx.out _ _ P2.out).cell 5 _ rfl; have y6 := (HBx.out _ _ P2.out).cell 6 _ rfl; have y7 := (HBx.out _ _ P2.out).cell 7 _ rfl; have y8 := (HBx.out _ _ P2.out).cell 8 _ rfl))
  clear y0 y1 y2 y3 y4 y5 y6 y7 y8
  go_loopw [33] (fun i wr => ∃ j : Nat, j ≤ n ∧ i = .int .i64 (j : Int) ∧ Qv 65535 c w0 H1 wr (l ++ be 1 y.1.toNat ++ be 2 y.2.1.toNat ++ txL (rqT y.2.2.1) ++ be 1 n ++ (y.2.2.2.take j).flatMap sigL))
    (fun i _ => ((n : Int) - intOf i).toNat)
  case atStart => exact ⟨0, Nat.zero_le _, rfl, by have := P6.out; simpa using this⟩
  case round =>
    obtain ⟨j, hj, rfl, hpv⟩ := hrel
    have HV := hid hpv
    clear hpv
    have hj0 : (0 : Int) ≤ (j : Int) := Int.natCast_nonneg _
    by_cases hjn : j = n
    · have hj1 : ¬ ((j : Int) < (n : Int)) := by omega
      have HE : Hid (j = n) := hid hjn
      clear hj hjn
      go_wp2
      go_end0
      refine ⟨rfl, ?_⟩
      have := HPop.out _ _ HV.out
      rw [HE.out, HN.out, List.take_length] at this
      simp only [ctL, rqX, sgsL, lsL, List.append_assoc] at this ⊢
      exact this
    · have hj1 : (j : Int) < (n : Int) := by omega
      have hjl : j < y.2.2.2.length := by have := HN.out; omega
      obtain ⟨g, off, rfl, hc1, hc2⟩ : ∃ g off, a8 = some ⟨g, off, none⟩ ∧ wr.cell? ⟨g, off + j * 2, none⟩ = some (.int .i64 (y.2.2.2.getD j sg0).1) ∧ wr.cell? ⟨g, off + j * 2 + 1, none⟩ = some (.string (y.2.2.2.getD j sg0).2) := by
        rcases HP.out.keep HV.out.bel HC.out with e | ⟨g, off, ha, hg, hc⟩
        · rw [e] at hjl; simp at hjl
        · have hx : y.2.2.2[j]? = some (y.2.2.2.getD j sg0) := by simp [hjl]
          obtain ⟨k1, k2⟩ := hc j _ hx
          exact ⟨g, off, ha, k1, k2⟩
      have HJ := hid (And.intro hj hjn)
      have HS := hid (flat_snoc (f := sigL) (d := sg0) j hjl)
      have HBj := hid (HY.out.2.2.2.2 (y.2.2.2.getD j sg0) (by rw [List.getD_eq_getElem?_getD, List.getElem?_eq_getElem hjl]; exact List.getElem_mem hjl))
      generalize y.2.2.2.getD j sg0 = p at hc1 hc2 HS HBj
      have Q1 : Hid (Qv 65535 c w0 ((wr.heap.size, .cells #[.int .i64 p.1, .string p.2] 24 (0, 0)) :: H1) (wr.alloc (.cells #[.int .i64 p.1, .string p.2] 24)) _) := hid (HV.out.push _)
      clear hj hjn hjl
      go_wp2_with (first
        | (have := Q2; go_at_call 61; go_must (refine (qvtext 65535 (by decide) c w0 _ _ _ _ Q2.out).mono ?_); rintro e v2 ⟨rfl, h3⟩; have Q3 := hid h3; clear h3 x0 x1)
        | (go_at_call 31; go_must (refine (qvbyte 65535 (by decide) c w0 _ _ _ _ HBj.out.1 HBj.out.2 Q1.out).mono ?_); rintro e v1 ⟨rfl, h2⟩; have Q2 := hid h2; clear h2; have x0 := (Q2.out.box (L := [.int .i64 p.1, .string p.2])).cell 0 _ rfl; have x1 := (Q2.out.box (L := [.int .i64 p.1, .string p.2])).cell 1 _ rfl))
      go_roundw
      case rel => exact ⟨j + 1, by have := HJ.out; omega, by go_num, by have := Q3.out.pop; rw [← HS.out]; simp only [sigL, List.append_assoc] at this ⊢; exact this⟩
      case measure => simp [intOf]; omega
set_option maxRecDepth 100000 in
set_option maxHeartbeats 6400000 in
theorem ztext_any {F : Nat → Prop} (ep : Int) (z : Cg) (a : Option Addr) (n cap : Nat) (hl : z.2.2.1.length ≤ maxLen) (hb : ∀ x, x ∈ z.2.2.1 → ctR x) (w : World) (hR : Reads F w (.slice a n cap) (dCts z.2.2.1)) :
    Calls Try.prog 10 #[.int .i64 ep, .agg #[.int .i64 z.1, .int .i64 z.2.1, .slice a n cap, .int .i64 z.2.2.2.1, .string z.2.2.2.2]] w fun e w' => e = .returned (.tuple #[.string (chT ep z), .int .i64 (chE ep z)]) ∧ Below w.heap.size w w' := by
  obtain ⟨wa, ea⟩ : ∃ wa, wa = w.alloc (.cells #[.int .i64 z.1, .int .i64 z.2.1, .slice a n cap, .int .i64 z.2.2.2.1, .string z.2.2.2.2] 26) := ⟨_, rfl⟩
  have hba : Below w.heap.size w wa := by rw [ea]; exact (Below.refl _ _).alloc (Nat.le_refl _) _
  have hXa : BxAt wa w.heap.size [.int .i64 z.1, .int .i64 z.2.1, .slice a n cap, .int .i64 z.2.2.2.1, .string z.2.2.2.2] 26 := by rw [ea]; exact heap_alloc_last w _
  have HA := hid (And.intro hXa hba)
  have HEa := hid ea
  have HFi : Hid (∀ u : World, Below w.heap.size w u → Calls Try.prog 29 #[.int .i64 ep, .agg #[.int .i64 z.1, .int .i64 z.2.1, .slice a n cap, .int .i64 z.2.2.2.1, .string z.2.2.2.2]] u fun e w' => e = .returned (.bool (fiB ep z)) ∧ Below u.heap.size u w') := hid (fun u hu => zfits_any ep z a n cap hl hb u (hR.under hu (Nat.le_refl _)))
  have hn : z.2.2.1.length = n := by
    obtain ⟨ad, cp, hv⟩ := hR.form
    rw [List.length_map] at hv
    cases hv
    rfl
  cases hfi : fiB ep z with
  | false =>
    rw [hfi] at HFi
    rw [chT_no (by rw [chE_no hfi]; decide), chE_no hfi]
    clear hR hl hb ea hba hXa hfi hn
    have y0 := HA.out.1.cell 0 _ rfl; have y1 := HA.out.1.cell 1 _ rfl; have y2 := HA.out.1.cell 2 _ rfl; have y3 := HA.out.1.cell 3 _ rfl; have y4 := HA.out.1.cell 4 _ rfl
    go_enter Try.func10, Try.ntmps10
    go_wp2_with (first
      | (go_at_call 29; go_must (refine (HFi.out _ (by first | exact HA.out.2 | (rw [← HEa.out]; exact HA.out.2))).mono ?_); rintro e w1 ⟨rfl, hb⟩; have H1 := hid hb; clear hb))
    go_ret2
    exact ⟨rfl, HA.out.2.trans ((by rw [HEa.out] at *; exact H1.out : Below wa.heap.size wa _).mono HA.out.2.size)⟩
  | true =>
    rw [hfi] at HFi
    obtain ⟨f1, f2, f3, f4⟩ := fi_parts hfi
    have g1 := inB_iff f1
    have g2 := inB_iff f2
    have g3 := inB_iff f3
    have HW : Hid (∀ x, x ∈ z.2.2.1 → wCt x) := hid (fun x hx => ct_writes (cts_mem f4 hx) f1 (hb x hx))
    have hn4 : (n : Int) < 256 := by have := (cts_parts f4).1; omega
    have hn0 : (0 : Int) ≤ (n : Int) := Int.natCast_nonneg _
    have HN := hid hn
    have HR := hid hR
    have HG : Hid ((0 ≤ ep ∧ ep < 65536) ∧ (0 ≤ z.1 ∧ z.1 < 256) ∧ (0 ≤ z.2.1 ∧ z.2.1 < 256)) := hid ⟨⟨by omega, by omega⟩, ⟨by omega, by omega⟩, ⟨by omega, by omega⟩⟩
    have HFt := hid hfi
    clear hR hl hb ea hba hXa hfi hn f1 f2 f3 f4 g1 g2 g3
    have y0 := HA.out.1.cell 0 _ rfl; have y1 := HA.out.1.cell 1 _ rfl; have y2 := HA.out.1.cell 2 _ rfl; have y3 := HA.out.1.cell 3 _ rfl; have y4 := HA.out.1.cell 4 _ rfl
    go_enter Try.func10, Try.ntmps10
    go_wp2_with fail
    rw [← HEa.out]
    go_must (refine (HFi.out _ HA.out.2).mono ?_)
    rintro e w1 ⟨rfl, hb1⟩
    have H1 : Hid (BxAt w1 w.heap.size [.int .i64 z.1, .int .i64 z.2.1, .slice a n cap, .int .i64 z.2.2.2.1, .string z.2.2.2.2] 26 ∧ Below w.heap.size w w1) := hid ⟨HA.out.1.keep hb1, HA.out.2.trans (hb1.mono HA.out.2.size)⟩
    clear hb1 y0 y1 y2 y3 y4
    have y0 := H1.out.1.cell 0 _ rfl; have y1 := H1.out.1.cell 1 _ rfl; have y2 := H1.out.1.cell 2 _ rfl; have y3 := H1.out.1.cell 3 _ rfl; have y4 := H1.out.1.cell 4 _ rfl
    go_wp2_with fail
    go_must (refine (qvnew 65535 [(w.heap.size, .cells #[.int .i64 z.1, .int .i64 z.2.1, .slice a n cap, .int .i64 z.2.2.2.1, .string z.2.2.2.2] 26 (0, 0))] _ (fun p hp => by rw [List.mem_singleton.1 hp]; exact H1.out.1)).mono ?_)
    rintro e w2 ⟨rfl, h2⟩
    obtain ⟨HH, eHH⟩ : ∃ HH : List (Nat × Obj), HH = [(w.heap.size, .cells #[.int .i64 z.1, .int .i64 z.2.1, .slice a n cap, .int .i64 z.2.2.2.1, .string z.2.2.2.2] 26 (0, 0))] := ⟨_, rfl⟩
    obtain ⟨c, ec⟩ : ∃ c, c = w1.heap.size := ⟨_, rfl⟩
    rw [← ec]
    rw [← ec, ← eHH] at h2
    have HBx : Hid (∀ (u : World) (l : List UInt8), Qv 65535 c w1 HH u l → BxAt u w.heap.size [.int .i64 z.1, .int .i64 z.2.1, .slice a n cap, .int .i64 z.2.2.2.1, .string z.2.2.2.2] 26) := hid (fun u l hu => by rw [eHH] at hu; exact hu.box)
    have HC : Hid (w1.heap.size ≤ c ∧ w.heap.size ≤ c) := hid ⟨by rw [ec]; exact Nat.le_refl _, by rw [ec]; exact H1.out.2.size⟩
    have HR1 : Hid (Reads F w1 (.slice a n cap) (dCts z.2.2.1)) := hid (HR.out.under H1.out.2 (Nat.le_refl _))
    have P0 := hid h2
    clear h2 eHH ec y0 y1 y2 y3 y4
    have y0 := (HBx.out _ _ P0.out).cell 0 _ rfl; have y1 := (HBx.out _ _ P0.out).cell 1 _ rfl; have y2 := (HBx.out _ _ P0.out).cell 2 _ rfl; have y3 := (HBx.out _ _ P0.out).cell 3 _ rfl; have y4 := (HBx.out _ _ P0.out).cell 4 _ rfl
    go_wp2_with (first
      | (have := P4; go_at_call 31; go_must (refine (qvbyte 65535 (by decide) c w1 _ _ _ _ hn0 hn4 P4.out).mono ?_); rintro e u5 ⟨rfl, h6⟩; have P5 := hid h6; clear h6 y0 y1 y2 y3 y4; have y0 := (HBx.out _ _ P5.out).cell 0 _ rfl; have y1 := (HBx.out _ _ P5.out).cell 1 _ rfl; have y2 := (HBx.out _ _ P5.out).cell 2 _ rfl; have y3 := (HBx.out _ _ P5.out).cell 3 _ rfl; have y4 := (HBx.out _ _ P5.out).cell 4 _ rfl)
      | (have := P3; go_at_call 31; go_must (refine (qvbyte 65535 (by decide) c w1 _ _ _ _ HG.out.2.2.1 HG.out.2.2.2 P3.out).mono ?_); rintro e u4 ⟨rfl, h5⟩; have P4 := hid h5; clear h5 y0 y1 y2 y3 y4; have y0 := (HBx.out _ _ P4.out).cell 0 _ rfl; have y1 := (HBx.out _ _ P4.out).cell 1 _ rfl; have y2 := (HBx.out _ _ P4.out).cell 2 _ rfl; have y3 := (HBx.out _ _ P4.out).cell 3 _ rfl; have y4 := (HBx.out _ _ P4.out).cell 4 _ rfl)
      | (have := P2; go_at_call 31; go_must (refine (qvbyte 65535 (by decide) c w1 _ _ _ _ HG.out.2.1.1 HG.out.2.1.2 P2.out).mono ?_); rintro e u3 ⟨rfl, h4⟩; have P3 := hid h4; clear h4 y0 y1 y2 y3 y4; have y0 := (HBx.out _ _ P3.out).cell 0 _ rfl; have y1 := (HBx.out _ _ P3.out).cell 1 _ rfl; have y2 := (HBx.out _ _ P3.out).cell 2 _ rfl; have y3 := (HBx.out _ _ P3.out).cell 3 _ rfl; have y4 := (HBx.out _ _ P3.out).cell 4 _ rfl)
      | (have := P1; go_at_call 32; go_must (refine (qvword 65535 (by decide) c w1 _ _ _ _ HG.out.1.1 HG.out.1.2 P1.out).mono ?_); rintro e u2 ⟨rfl, h3⟩; have P2 := hid h3; clear h3 y0 y1 y2 y3 y4; have y0 := (HBx.out _ _ P2.out).cell 0 _ rfl; have y1 := (HBx.out _ _ P2.out).cell 1 _ rfl; have y2 := (HBx.out _ _ P2.out).cell 2 _ rfl; have y3 := (HBx.out _ _ P2.out).cell 3 _ rfl; have y4 := (HBx.out _ _ P2.out).cell 4 _ rfl)
      | (go_at_call 31; go_must (refine (qvbyte 65535 (by decide) c w1 _ _ _ _ (by decide) (by decide) P0.out).mono ?_); rintro e u1 ⟨rfl, h2⟩; have P1 := hid h2; clear h2 y0 y1 y2 y3 y4; have y0 := (HBx.out _ _ P1.out).cell 0 _ rfl; have y1 := (HBx.out _ _ P1.out).cell 1 _ rfl; have y2 := (HBx.out _ _ P1.out).cell 2 _ rfl; have y3 := (HBx.out _ _ P1.out).cell 3 _ rfl; have y4 := (HBx.out _ _ P1.out).cell 4 _ rfl))
    clear y0 y1 y2 y3 y4
    go_loopw [37] (fun i wr => ∃ j : Nat, j ≤ n ∧ i = .int .i64 (j : Int) ∧ Qv 65535 c w1 HH wr (be 1 86 ++ be 2 ep.toNat ++ be 1 z.1.toNat ++ be 1 z.2.1.toNat ++ be 1 n ++ (z.2.2.1.take j).flatMap ctL))
      (fun i _ => ((n : Int) - intOf i).toNat)
    case atStart => exact ⟨0, Nat.zero_le _, rfl, by have := P5.out; simpa using this⟩
    case round =>
      obtain ⟨j, hj, rfl, hpv⟩ := hrel
      have HV := hid hpv
      clear hpv
      have hj0 : (0 : Int) ≤ (j : Int) := Int.natCast_nonneg _
      by_cases hjn : j = n
      · have hj1 : ¬ ((j : Int) < (n : Int)) := by omega
        have HE : Hid (be 1 86 ++ be 2 ep.toNat ++ be 1 z.1.toNat ++ be 1 z.2.1.toNat ++ be 1 n ++ (z.2.2.1.take j).flatMap ctL = chL ep z) := hid (by
          rw [hjn, ← HN.out, List.take_length]
          simp only [chL, lsL, List.append_assoc])
        rw [HE.out] at HV
        clear hj hjn
        go_wp2_with fail
        go_must (refine (qvdone 65535 c w1 _ _ _ HV.out).mono ?_)
        rintro e w6 ⟨⟨sx, er, rfl, hor⟩, hb6⟩
        have H6 : Hid (Below w.heap.size w w6) := hid ((H1.out.2.trans (HV.out.bel.mono HC.out.2)).trans (hb6.mono (Nat.le_trans H1.out.2.size (Nat.le_trans HC.out.1 (Nat.le_of_lt HV.out.lt)))))
        rcases hor with ⟨ho, rfl, rfl⟩ | ⟨ho, hne⟩
        · have HO := hid ho
          clear ho hb6
          go_wp2
          go_ret2
          exact ⟨by rw [chT_yes HFt.out HO.out, chE_yes HFt.out HO.out]; rfl, H6.out⟩
        · have HO := hid ho
          have hnb : (er != 0) = true := by simpa using hne
          clear ho hb6 hne
          go_wp2
          go_ret2
          exact ⟨by rw [chT_no (by rw [chE_long HFt.out HO.out]; decide), chE_long HFt.out HO.out]; rfl, H6.out⟩
      · have hj1 : (j : Int) < (n : Int) := by omega
        have hjl : j < z.2.2.1.length := by have := HN.out; omega
        obtain ⟨g, off, cp, a8, kc, hv, hP, hg, hcl⟩ := ct_at HR1.out j hjl
        cases hv
        have hcr : ∀ (q : Nat) (u : Value), (ctC (z.2.2.1.getD j ct0) (.slice a8 (z.2.2.1.getD j ct0).2.2.2.length kc))[q]? = some u → wr.cell? ⟨g, off + j * 9 + q, none⟩ = some u := fun q u hq => (World.cell?_of_block (a := ⟨g, off + j * 9 + q, none⟩) (HV.out.bel.block g (Nat.lt_of_lt_of_le hg HC.out.1))).trans (hcl q u hq)
        have HJ := hid (And.intro hj hjn)
        have HS := hid (flat_snoc (f := ctL) (d := ct0) j hjl)
        have HBj := hid (HW.out (z.2.2.1.getD j ct0) (by rw [List.getD_eq_getElem?_getD, List.getElem?_eq_getElem hjl]; exact List.getElem_mem hjl))
        generalize z.2.2.1.getD j ct0 = y at hcr hP HS HBj
        have HP := hid hP
        have k0 : wr.cell? ⟨g, off + j * 9, none⟩ = some (.int .i64 y.1) := hcr 0 _ rfl
        have k1 : wr.cell? ⟨g, off + j * 9 + 1, none⟩ = some (.int .i64 y.2.1) := hcr 1 _ rfl
        have k2 : wr.cell? ⟨g, off + j * 9 + 2, none⟩ = some (.int .i64 y.2.2.1.c) := hcr 2 _ rfl
        have k3 : wr.cell? ⟨g, off + j * 9 + 3, none⟩ = some (.int .i64 y.2.2.1.st) := hcr 3 _ rfl
        have k4 : wr.cell? ⟨g, off + j * 9 + 4, none⟩ = some (.int .i64 y.2.2.1.k) := hcr 4 _ rfl
        have k5 : wr.cell? ⟨g, off + j * 9 + 5, none⟩ = some (.string y.2.2.1.key) := hcr 5 _ rfl
        have k6 : wr.cell? ⟨g, off + j * 9 + 6, none⟩ = some (.float .f64 y.2.2.1.b) := hcr 6 _ rfl
        have k7 : wr.cell? ⟨g, off + j * 9 + 7, none⟩ = some (.int .i64 y.2.2.1.id) := hcr 7 _ rfl
        have k8 : wr.cell? ⟨g, off + j * 9 + 8, none⟩ = some (.slice a8 y.2.2.2.length kc) := hcr 8 _ rfl
        clear hj hjn hjl hP hg hcl hcr
        go_wp2_with (first
          | (have := Q1; go_at_call 33; go_must (refine (zwcert_any c w1 HC.out.1 _ y a8 kc HBj.out HP.out _ _ Q1.out).mono ?_); rintro e v1 ⟨rfl, h2⟩; have Q2 := hid h2; clear h2 x0 x1 x2 x3 x4 x5 x6 x7 x8)
          | (refine wl_store_blk rfl 52 _ _ rfl wr.heap.size 0 rfl #[.int .i64 y.1, .int .i64 y.2.1, .int .i64 y.2.2.1.c, .int .i64 y.2.2.1.st, .int .i64 y.2.2.1.k, .string y.2.2.1.key, .float .f64 y.2.2.1.b, .int .i64 y.2.2.1.id, .slice a8 y.2.2.2.length kc] rfl [.int .i64 0, .int .i64 0, .int .i64 0, .int .i64 0, .int .i64 0, .string ⟨#[]⟩, .float .f64 0, .int .i64 0, .slice none 0 0] 52 (heap_alloc_last wr _) (by simp) (by kernel_rfl) (by simp [Value.oneCell']) ?_; intro wx Hz; have Q1 : Hid (Qv 65535 c w1 ((wr.heap.size, .cells #[.int .i64 y.1, .int .i64 y.2.1, .int .i64 y.2.2.1.c, .int .i64 y.2.2.1.st, .int .i64 y.2.2.1.k, .string y.2.2.1.key, .float .f64 y.2.2.1.b, .int .i64 y.2.2.1.id, .slice a8 y.2.2.2.length kc] 52 (0, 0)) :: HH) wx _) := hid (HV.out.put (Hz.out.2.below ((Below.refl wr.heap.size wr).alloc (Nat.le_refl _) _) (Nat.le_refl _)) Hz.out.1); clear Hz k0 k1 k2 k3 k4 k5 k6 k7 k8; have x0 := (Q1.out.box (L := [.int .i64 y.1, .int .i64 y.2.1, .int .i64 y.2.2.1.c, .int .i64 y.2.2.1.st, .int .i64 y.2.2.1.k, .string y.2.2.1.key, .float .f64 y.2.2.1.b, .int .i64 y.2.2.1.id, .slice a8 y.2.2.2.length kc])).cell 0 _ rfl; have x1 := (Q1.out.box (L := [.int .i64 y.1, .int .i64 y.2.1, .int .i64 y.2.2.1.c, .int .i64 y.2.2.1.st, .int .i64 y.2.2.1.k, .string y.2.2.1.key, .float .f64 y.2.2.1.b, .int .i64 y.2.2.1.id, .slice a8 y.2.2.2.length kc])).cell 1 _ rfl; have x2 := (Q1.out.box (L := [.int .i64 y.1, .int .i64 y.2.1, .int .i64 y.2.2.1.c, .int .i64 y.2.2.1.st, .int .i64 y.2.2.1.k, .string y.2.2.1.key, .float .f64 y.2.2.1.b, .int .i64 y.2.2.1.id, .slice a8 y.2.2.2.length kc])).cell 2 _ rfl; have x3 := (Q1.out.box (L := [.int .i64 y.1, .int .i64 y.2.1, .int .i64 y.2.2.1.c, .int .i64 y.2.2.1.st, .int .i64 y.2.2.1.k, .string y.2.2.1.key, .float .f64 y.2.2.1.b, .int .i64 y.2.2.1.id, .slice a8 y.2.2.2.length kc])).cell 3 _ rfl; have x4 := (Q1.out.box (L := [.int .i64 y.1, .int .i64 y.2.1, .int .i64 y.2.2.1.c, .int .i64 y.2.2.1.st, .int .i64 y.2.2.1.k, .string y.2.2.1.key, .float .f64 y.2.2.1.b, .int .i64 y.2.2.1.id, .slice a8 y.2.2.2.length kc])).cell 4 _ rfl; have x5 := (Q1.out.box (L := [.int .i64 y.1, .int .i64 y.2.1, .int .i64 y.2.2.1.c, .int .i64 y.2.2.1.st, .int .i64 y.2.2.1.k, .string y.2.2.1.key, .float .f64 y.2.2.1.b, .int .i64 y.2.2.1.id, .slice a8 y.2.2.2.length kc])).cell 5 _ rfl; have x6 := (Q1.out.box (L := [.int .i64 y.1, .int .i64 y.2.1, .int .i64 y.2.2.1.c, .int .i64 y.2.2.1.st, .int .i64 y.2.2.1.k, .string y.2.2.1.key, .float .f64 y.2.2.1.b, .int .i64 y.2.2.1.id, .slice a8 y.2.2.2.length kc])).cell 6 _ rfl; have x7 := (Q1.out.box (L := [.int .i64 y.1, .int .i64 y.2.1, .int .i64 y.2.2.1.c, .int .i64 y.2.2.1.st, .int .i64 y.2.2.1.k, .string y.2.2.1.key, .float .f64 y.2.2.1.b, .int .i64 y.2.2.1.id, .slice a8 y.2.2.2.length kc])).cell 7 _ rfl; have x8 := (Q1.out.box (L := [.int .i64 y.1, .int .i64 y.2.1, .int .i64 y.2.2.1.c, .int .i64 y.2.2.1.st, .int .i64 y.2.2.1.k, .string y.2.2.1.key, .float .f64 y.2.2.1.b, .int .i64 y.2.2.1.id, .slice a8 y.2.2.2.length kc])).cell 8 _ rfl))
        go_roundw
        case rel => exact ⟨j + 1, by have := HJ.out; omega, by go_num, by have := Q2.out.pop; rw [← HS.out]; simp only [List.append_assoc] at this ⊢; exact this⟩
        case measure => simp [intOf]; omega
end Go.Proofs.Ythoofboegchodaa
