/- PapersWalks: the walk. -/
import Derived.Test.YtchlmcpnjpllnaaPaMM
namespace Go.Proofs.Ytchlmcpnjpllnaa
open Go.RowKit

theorem StrsIn.alloc {w : World} {a : Option Addr} {l : List ByteArray} (h : StrsIn w a l) (o : Obj) : StrsIn (w.alloc o) a l := h.keep ((Below.refl w.heap.size w).alloc (Nat.le_refl _) o) (Nat.le_refl _)
theorem walkF_len (ep : Int) (ps : List (Int × ByteArray)) (cs : List ByteArray) : (walkF ep ps cs).1.2.length ≤ 255 := by
  rw [walkF]
  split
  · next h =>
    have := (rightP_parts (walkR_right cs ep ps 0 h)).2.1
    omega
  · exact Nat.zero_le _
/-- One's own copy of a paper, at block b. -/
structure OwSt (w0 w : World) (b : Nat) (ep : Int) (ad : Option Addr) (n cp : Nat) (ps : List (Int × ByteArray)) : Prop where
  pp : PpAt w b ep (.slice ad n cp) 24
  own : PairsIn w ad ps
  bel : Below w0.heap.size w0 w
theorem OwSt.a {w0 w1 w2 : World} {ep : Int} {ad : Option Addr} {n cp : Nat} {ps : List (Int × ByteArray)} (h1 : Below w0.heap.size w0 w1) (h2 : PairsIn w2 ad ps ∧ Below w1.drew.heap.size w1.drew w2) :
    OwSt w0 (w2.alloc (.cells #[.int .i64 ep, .slice ad n cp] 24)) w2.heap.size ep ad n cp ps := by
  have hb : Below w0.heap.size w0 w2 := h1.drew.trans (h2.2.mono h1.size)
  exact ⟨PpAt.new _ _ _ _, h2.1.alloc _, hb.alloc hb.size _⟩
theorem OwSt.b {w0 w1 w2 : World} {ep : Int} {ad : Option Addr} {n cp : Nat} {ps : List (Int × ByteArray)} (h1 : Below w0.heap.size w0 w1)
    (h2 : PairsIn w2 ad ps ∧ Below (w1.alloc (.cells #[.int .i64 0, .slice none 0 0] 24)).drew.heap.size (w1.alloc (.cells #[.int .i64 0, .slice none 0 0] 24)).drew w2) (hf : ∀ x, ad = some x → x.block ≠ w1.heap.size) :
    OwSt w0 ((w2.setCell ⟨w1.heap.size, 0, none⟩ (.int .i64 ep)).setCell ⟨w1.heap.size, 1, none⟩ (.slice ad n cp)) w1.heap.size ep ad n cp ps := by
  have hb : Below w0.heap.size w0 w2 := (h1.alloc h1.size _).drew.trans (h2.2.mono (by have := h1.size; simp; omega))
  have hk : w2.heap[w1.heap.size]? = some (.cells #[.int .i64 0, .slice none 0 0] 24 (0, 0)) := (h2.2.block w1.heap.size (by simp)).trans (heap_alloc_last w1 _)
  exact ⟨res_put hk, pairs_put (pairs_put h2.1 _ _ _ hf) _ _ _ hf, (hb.setCell (p := ⟨w1.heap.size, 0, none⟩) h1.size _).setCell (p := ⟨w1.heap.size, 1, none⟩) h1.size _⟩
/-- What was answered, while its seats are written on. -/
structure LpSt (wz wr : World) (c : Nat) (Z : Int) (ad : Option Addr) (N cp : Nat) : Prop where
  pp : PpAt wr c Z (.slice ad N cp) 24
  row : RowP wr wz.heap.size ad N
  bel : Below wz.heap.size wz wr
theorem LpSt.keep {wz wr w' : World} {c : Nat} {Z : Int} {ad : Option Addr} {N cp : Nat} (h : LpSt wz wr c Z ad N cp) (hb : Below wr.heap.size wr w') : LpSt wz w' c Z ad N cp :=
  ⟨h.pp.keep hb, h.row.keep hb, h.bel.trans (hb.mono h.bel.size)⟩
theorem LpSt.put {wz wr : World} {c : Nat} {Z : Int} {ad : Option Addr} {N cp : Nat} (h : LpSt wz wr c Z ad N cp) (g j : Nat) (v : Value) (hg : wz.heap.size ≤ g) (hc : c ≠ g) : LpSt wz (wr.setCell ⟨g, j, none⟩ v) c Z ad N cp :=
  ⟨(Below.heap_setCell _ _ _ _ hc).trans h.pp, h.row.put g j v, h.bel.setCell (p := ⟨g, j, none⟩) hg v⟩
theorem RowP.lt {w : World} {B g : Nat} {m : Nat} (h : RowP w B (some ⟨g, 0, none⟩) m) (hm : 0 < m) : g < w.heap.size := by
  rcases h with h | ⟨g', cs, h1, h2, h3, h4⟩
  · omega
  · cases h1
    exact lt_of_blk h3
set_option maxRecDepth 100000 in
set_option maxHeartbeats 3200000 in
theorem papersWalks_walk (ep : Int) (a : Option Addr) (n cap : Nat) (ps : List (Int × ByteArray)) (hn : ps.length = n) (hm : n ≤ maxLen) (hr : n * 24 ≤ 140737488351232) (ca : Option Addr) (m cc : Nat) (cs : List ByteArray) (hcn : cs.length = m) (hcm : m ≤ maxLen) (hcz : ∀ c, c ∈ cs → c.size ≤ maxLen) (w : World) (hP : PairsIn w a ps) (hC : StrsIn w ca cs) :
    Calls Try.prog 6 #[.agg #[.int .i64 ep, .slice a n cap], .slice ca m cc] w fun e w' => e = .returned (.bool true) ∧ Below w.heap.size w w' := by
  have hm63 : (m : Int) ≤ 9223372036854775807 := by unfold maxLen at hcm; omega
  by_cases h20 : 20 < m
  · have k20 : (20 : Int) < (m : Int) := by omega
    clear hP hC hn hm hcn hcm hcz hr
    go_enter Try.func6, Try.ntmps6
    go_wp2_with (first
      | (go_at_call 9; have := H1; refine (alives_any _).mono ?_; rintro e w2 ⟨rfl, hb2⟩; have H2 := hid (H1.out.trans (hb2.mono H1.out.size)); clear hb2)
      | (go_at_call 9; refine (alives_any _).mono ?_; rintro e w1 ⟨rfl, hb1⟩; have H1 := hid hb1; clear hb1))
    go_ret
    exact ⟨rfl, ((Below.refl w.heap.size w).alloc (Nat.le_refl _) _).trans (H2.out.mono (by simp))⟩
  · have k20 : ¬ ((20 : Int) < (m : Int)) := by omega
    have hD : ∀ (u : World) (ad : Option Addr) (cp : Nat), PairsIn u ad ps → StrsIn u ca cs → Calls Try.prog 20 #[.agg #[.int .i64 ep, .slice ad n cp], .slice ca m cc] u fun e w' => ∃ ad' cp', e = .returned (.tuple #[.agg #[.int .i64 (walkF ep ps cs).1.1, .slice ad' (walkF ep ps cs).1.2.length cp'], .int .i64 ((walkF ep ps cs).2.1 : Int), .int .i64 (walkF ep ps cs).2.2]) ∧ PairsIn w' ad' (walkF ep ps cs).1.2 ∧ RowP w' u.heap.size ad' (walkF ep ps cs).1.2.length ∧ Below u.heap.size u w' := fun u ad cp hu hv =>
      (ywalk_any ep ad n cp ps hn hm ca m cc cs hcn hcm hcz u hu hv).mono fun e w' ⟨v, he, ho, hb⟩ => by
        obtain ⟨ad', cp', hv, hi, hrw⟩ := own_rowP ho
        exact ⟨ad', cp', by rw [he, hv], hi, hrw, hb⟩
    have hE : ∀ (u : World), PairsIn u a ps → StrsIn u ca cs → Calls Try.prog 21 #[.agg #[.int .i64 ep, .slice a n cap], .slice ca m cc] u fun e w' => ∃ ad' cp', e = .returned (.tuple #[.agg #[.int .i64 (walkF ep ps cs).1.1, .slice ad' (walkF ep ps cs).1.2.length cp'], .int .i64 ((walkF ep ps cs).2.1 : Int), .int .i64 (walkF ep ps cs).2.2]) ∧ PairsIn w' ad' (walkF ep ps cs).1.2 ∧ Below u.heap.size u w' := fun u hu hv => xwalk_any ep a n cap ps hn hm ca m cc cs hcn hcm hcz u hu hv
    have hN := walkF_len ep ps cs
    generalize (walkF ep ps cs).1.2 = M at hD hE hN
    generalize (walkF ep ps cs).1.1 = Z at hD hE
    generalize (walkF ep ps cs).2.1 = k at hD hE
    generalize (walkF ep ps cs).2.2 = G at hD hE
    obtain ⟨N, eN⟩ : ∃ N, N = M.length := ⟨_, rfl⟩
    rw [← eN] at hD hE hN
    have HD := hid hD
    have HE := hid hE
    have hN2 : (N : Int) ≤ 255 := by omega
    have HN : Hid (M.length = N ∧ N ≤ maxLen) := hid ⟨eN.symm, by unfold maxLen; omega⟩
    have HM := hid (And.intro hn (And.intro hm hr))
    have HF := hid (PpAt.new w ep (.slice a n cap) 24)
    have HJ := hid (hP.alloc (.cells #[.int .i64 ep, .slice a n cap] 24))
    have HK := hid (hC.alloc (.cells #[.int .i64 ep, .slice a n cap] 24))
    clear hP hC hn hm hcn hcm hcz hD hE hN eN hr h20
    go_enter Try.func6, Try.ntmps6
    go_wp2_with (first
      | (go_at_call 9; refine (alives_any _).mono ?_; rintro e w1 ⟨rfl, hb1⟩; have H1 := hid hb1; clear hb1; have c1 := (HF.out.keep H1.out).c0; have d1 := (HF.out.keep H1.out).c1))
    have hlt : w.heap.size < w1.heap.size := Nat.lt_of_lt_of_le (by simp) H1.out.size
    have HL := hid hlt
    clear hlt
    have c1a : ∀ o : Obj, (w1.alloc o).cell? ⟨w.heap.size, 0, none⟩ = some (.int .i64 ep) := fun o => (World.cell?_of_block (Below.heap_alloc w1 o _ HL.out)).trans c1
    have d1a : ∀ o : Obj, (w1.alloc o).cell? ⟨w.heap.size, 1, none⟩ = some (.slice a n cap) := fun o => (World.cell?_of_block (Below.heap_alloc w1 o _ HL.out)).trans d1
    go_region_law
      (refine step_of rfl (owp_ownP _ _ rfl rfl a n cap ps rfl HM.out.1 (by first | exact HJ.out.keep H1.out (Nat.le_refl _) | exact HJ.out.keep H1.out.drew (Nat.le_refl _) | exact (HJ.out.keep H1.out.drew (Nat.le_refl _)).alloc _ | exact (HJ.out.keep H1.out (Nat.le_refl _)).alloc _ | exact HJ.out.keep ((H1.out.alloc H1.out.size _).drew) (Nat.le_refl _)) (by have := HM.out.2.2; omega) ?_); intro ad2 cp2 w2 hf2; have h2 := hid hf2.out.1; have c2 : w2.cell? ⟨w.heap.size, 0, none⟩ = some (.int .i64 ep) := (by first | exact (h2.out.2.cell (p := ⟨w.heap.size, 0, none⟩) (by have := HL.out; simp; omega)).trans c1 | exact (h2.out.2.cell (p := ⟨w.heap.size, 0, none⟩) (by have := HL.out; simp; omega)).trans ((World.cell?_of_block (Below.heap_alloc w1 _ _ HL.out)).trans c1)); have c2a : ∀ o : Obj, (w2.alloc o).cell? ⟨w.heap.size, 0, none⟩ = some (.int .i64 ep) := (fun o => (World.cell?_of_block (Below.heap_alloc w2 o _ (by have := HL.out; have h5 := h2.out.2.size; simp at h5; show w.heap.size < w2.heap.size; omega))).trans c2); (first | (have b0 : w2.cell? ⟨w1.heap.size, 0, none⟩ = some (.int .i64 0) := (h2.out.2.cell (p := ⟨w1.heap.size, 0, none⟩) (by simp)).trans (cell_two (heap_alloc_last w1 (.cells #[.int .i64 0, .slice none 0 0] 24))).1; have b1 : w2.cell? ⟨w1.heap.size, 1, none⟩ = some (.slice none 0 0) := (h2.out.2.cell (p := ⟨w1.heap.size, 1, none⟩) (by simp)).trans (cell_two (heap_alloc_last w1 (.cells #[.int .i64 0, .slice none 0 0] 24))).2; have f0 : w2.frozen? ⟨w1.heap.size, 0, none⟩ = false := free_at ((h2.out.2.block w1.heap.size (by simp)).trans (heap_alloc_last w1 (.cells #[.int .i64 0, .slice none 0 0] 24))) 0; have f1 : w2.frozen? ⟨w1.heap.size, 1, none⟩ = false := free_at ((h2.out.2.block w1.heap.size (by simp)).trans (heap_alloc_last w1 (.cells #[.int .i64 0, .slice none 0 0] 24))) 1) | skip))
    all_goals
      first
        | (have hZ := OwSt.a (ep := ep) (n := n) (cp := cp2) H1.out h2.out
           obtain ⟨b, eb⟩ : ∃ b, b = w2.heap.size := ⟨_, rfl⟩
           obtain ⟨wz, ez⟩ : ∃ wz, wz = w2.alloc (.cells #[.int .i64 ep, .slice ad2 n cp2] 24) := ⟨_, rfl⟩
           rw [← eb, ← ez] at hZ
           rw [← eb, ← ez]
           have HZ := hid hZ
           clear hZ eb ez)
        | (have hZ := OwSt.b (ep := ep) (n := n) (cp := cp2) H1.out h2.out (fun x hx => by have := hf2.out.2 x hx; simp at this; omega)
           obtain ⟨b, eb⟩ : ∃ b, b = w1.heap.size := ⟨_, rfl⟩
           obtain ⟨wz, ez⟩ : ∃ wz, wz = (w2.setCell ⟨w1.heap.size, 0, none⟩ (.int .i64 ep)).setCell ⟨w1.heap.size, 1, none⟩ (.slice ad2 n cp2) := ⟨_, rfl⟩
           rw [← ez, ← eb] at hZ
           rw [← ez, ← eb]
           have HZ := hid hZ
           clear hZ eb ez)
      clear c1 d1 c1a d1a HL
    all_goals
      have z0 := HZ.out.pp.c0
      have z1 := HZ.out.pp.c1
      go_wp2_with (first
        | (go_at_call 20; refine (HD.out _ _ _ (by exact HZ.out.own) (by exact HK.out.keep HZ.out.bel (Nat.le_refl _))).mono ?_; rintro e w4 ⟨ad4, cp4, rfl, hi4, hr4, hb4⟩; have H4 := hid (And.intro hi4 (And.intro hr4 hb4)); clear hi4 hr4 hb4 z0 z1
           have y0 := ((HF.out.keep (HZ.out.bel.trans (H4.out.2.2.mono HZ.out.bel.size))).alloc (.cells #[.int .i64 Z, .slice ad4 N cp4] 24)).c0
           have y1 := ((HF.out.keep (HZ.out.bel.trans (H4.out.2.2.mono HZ.out.bel.size))).alloc (.cells #[.int .i64 Z, .slice ad4 N cp4] 24)).c1)
        | (go_at_call 21; refine (HE.out _ (by exact (HJ.out.keep (HZ.out.bel.trans (H4.out.2.2.mono HZ.out.bel.size)) (Nat.le_refl _)).alloc _) (by exact (HK.out.keep (HZ.out.bel.trans (H4.out.2.2.mono HZ.out.bel.size)) (Nat.le_refl _)).alloc _)).mono ?_; rintro e w5 ⟨ad5, cp5, rfl, hi5, hb5⟩; have H5 := hid (And.intro hi5 hb5); clear hi5 hb5 y0 y1
           have x0 := (((PpAt.new w4 Z (.slice ad4 N cp4) 24).keep H5.out.2).alloc (.cells #[.int .i64 Z, .slice ad5 N cp5] 24)).c0
           have x1 := (((PpAt.new w4 Z (.slice ad4 N cp4) 24).keep H5.out.2).alloc (.cells #[.int .i64 Z, .slice ad5 N cp5] 24)).c1)
        | (go_at_call 14; refine (xsame_yes _ _ _ _ _ _ M HN.out.1 HN.out.2 _ (by exact ((H4.out.1.alloc _).keep H5.out.2 (Nat.le_refl _)).alloc _) (by exact H5.out.1.alloc _)).mono ?_; rintro e w6 ⟨rfl, hb6⟩; have H6 := hid hb6; clear hb6 x0 x1))
      have HT : Hid (LpSt wz w6 w4.heap.size Z ad4 N cp4) := hid (((LpSt.keep ⟨PpAt.new w4 Z (.slice ad4 N cp4) 24, H4.out.2.1.keep ((Below.refl _ _).alloc (Nat.le_refl _) _), H4.out.2.2.alloc H4.out.2.2.size _⟩ H5.out.2).keep ((Below.refl _ _).alloc (Nat.le_refl _) _)).keep H6.out)
      obtain ⟨c, ec⟩ : ∃ c, c = w4.heap.size := ⟨_, rfl⟩
      have HG : Hid (∀ g, ad4 = some ⟨g, 0, none⟩ → 0 < N → c ≠ g) := hid (fun g hg h0 => by have h := H4.out.2.1; rw [hg] at h; have := h.lt h0; omega)
      rw [← ec] at HT ⊢
      clear ec
      go_loopw [12] (fun i wr => ∃ j : Nat, j ≤ N ∧ i = .int .i64 (j : Int) ∧ LpSt wz wr c Z ad4 N cp4)
        (fun i _ => ((N : Int) - intOf i).toNat)
      case atStart => exact ⟨0, Nat.zero_le _, rfl, HT.out⟩
      case round =>
        obtain ⟨j, hj, rfl, hst⟩ := hrel
        clear HT
        have HT := hid hst
        clear hst
        have p0 := HT.out.pp.c0
        have p1 := HT.out.pp.c1
        by_cases hjn : j = N
        · have hj1 : ¬ ((j : Int) < (N : Int)) := by omega
          clear hj hjn
          have o0 := (HZ.out.pp.keep HT.out.bel).c0
          have o1 := (HZ.out.pp.keep HT.out.bel).c1
          have q0 := (HF.out.keep (HZ.out.bel.trans (HT.out.bel.mono HZ.out.bel.size))).c0
          have q1 := (HF.out.keep (HZ.out.bel.trans (HT.out.bel.mono HZ.out.bel.size))).c1
          go_wp2_with (go_at_call 14; refine (xsame_yes _ _ _ _ _ _ ps HM.out.1 HM.out.2.1 _ (by exact HZ.out.own.keep HT.out.bel (Nat.le_refl _)) (by exact HJ.out.keep (HZ.out.bel.trans (HT.out.bel.mono HZ.out.bel.size)) (Nat.le_refl _))).mono ?_; rintro e w9 ⟨rfl, hb9⟩; have H9 := hid hb9; clear hb9)
          go_ret
          have k1 := ((Below.refl w.heap.size w).alloc (Nat.le_refl _) (.cells #[.int .i64 ep, .slice a n cap] 24)).trans ((HZ.out.bel.trans (HT.out.bel.mono HZ.out.bel.size)).mono (by simp))
          exact ⟨rfl, k1.trans (H9.out.mono k1.size)⟩
        · have hj1 : (j : Int) < (N : Int) := by omega
          have hj0 : (0 : Int) ≤ (j : Int) := Int.natCast_nonneg _
          obtain ⟨gg, v0, rfl, hB, hc0, hf0⟩ := HT.out.row.at j (by omega)
          have HB := hid (And.intro hB (HG.out gg rfl (by omega)))
          have HJn := hid (And.intro hj hjn)
          clear hB hj hjn
          go_wp2
          go_roundw
          case rel => exact ⟨j + 1, by have := HJn.out; omega, rfl, HT.out.put gg (j * 2) _ HB.out.1 HB.out.2⟩
          case measure => simp [intOf]; omega
end Go.Proofs.Ytchlmcpnjpllnaa
