/- The document's best. -/
import Derived.Test.YtpflcneoojakdaaGtAM
import Derived.Test.YtpflcneoojakdaaChKM
namespace Go.Proofs.Ytpflcneoojakdaa
open Go.RowKit

def upB (o : Option Ct) (y : Ct) : Option Ct := match o with | none => some y | some z => if z.1 < y.1 then some y else some z
theorem bst_up (slot : Int) (a : List Ct) (y : Ct) : bstOf slot (a ++ [y]) = if y.2.1 = slot then upB (bstOf slot a) y else bstOf slot a := bstOf_snoc slot a y
theorem allC_more (l : List Cg) (j : Nat) (hj : j < l.length) : allC (l.take (j + 1)) = allC (l.take j) ++ (l.getD j cg0).2.2.1 := by
  rw [allC, allC, List.take_succ_eq_append_getElem hj, List.flatMap_append]
  simp [hj]
set_option maxRecDepth 100000 in
set_option maxHeartbeats 1600000 in
theorem wbest_any {F : Nat → Prop} (sl : Int) (a : Option Addr) (n cap : Nat) (l : List Cg) (hl : l.length ≤ maxLen) (hb : ∀ x, x ∈ l → cgR x) (w : World) (hR : Reads F w (.slice a n cap) (dCgs l)) :
    Calls Try.prog 50 #[.slice a n cap, .int .i64 sl] w fun e w' => ∃ az kz, e = .returned (.tuple #[.agg (ctC ((bstOf sl (allC l)).getD ct0) (.slice az ((bstOf sl (allC l)).getD ct0).2.2.2.length kz)).toArray, .bool (bstOf sl (allC l)).isSome]) ∧ Below w.heap.size w w' := by
  have hnl : l.length = n := by
    obtain ⟨ad, cp, hv⟩ := hR.form
    rw [List.length_map] at hv
    cases hv
    rfl
  have hmi : (n : Int) ≤ 9223372036854775807 := by unfold maxLen at hl; omega
  have HR := hid hR
  have HN := hid hnl
  have HBd := hid hb
  obtain ⟨wa, ea⟩ : ∃ wa, wa = (w.alloc (.cells #[.int .i64 0, .int .i64 0, .int .i64 0, .int .i64 0, .int .i64 0, .string ⟨#[]⟩, .float .f64 0, .int .i64 0, .slice none 0 0] 52)).alloc (.cells #[.int .i64 0, .int .i64 0, .int .i64 0, .int .i64 0, .int .i64 0, .string ⟨#[]⟩, .float .f64 0, .int .i64 0, .slice none 0 0] 52) := ⟨_, rfl⟩
  have hba : Below w.heap.size w wa := by rw [ea]; exact ((Below.refl _ _).alloc (Nat.le_refl _) _).alloc (by simp) _
  have hX1 : BxAt wa w.heap.size [.int .i64 0, .int .i64 0, .int .i64 0, .int .i64 0, .int .i64 0, .string ⟨#[]⟩, .float .f64 0, .int .i64 0, .slice none 0 0] 52 := by rw [ea]; exact (Below.heap_alloc _ _ _ (by simp)).trans (heap_alloc_last w _)
  have hX2 : BxAt wa (w.heap.size + 1) [.int .i64 0, .int .i64 0, .int .i64 0, .int .i64 0, .int .i64 0, .string ⟨#[]⟩, .float .f64 0, .int .i64 0, .slice none 0 0] 52 := by rw [ea]; exact alloc_two _ _ _
  have H0 := hid (And.intro hX2 (And.intro hX1 hba))
  have HEa := hid ea
  clear hR hnl hb hl ea hba hX1 hX2
  go_enter Try.func50, Try.ntmps50
  go_wp2
  rw [← HEa.out]
  go_loopw [7, 8] (fun f i wr => ∃ j : Nat, j ≤ n ∧ i = .int .i64 (j : Int) ∧ f = .bool (bstOf sl (allC (l.take j))).isSome ∧ ∃ az kz, BxAt wr (w.heap.size + 1) (ctC ((bstOf sl (allC (l.take j))).getD ct0) (.slice az ((bstOf sl (allC (l.take j))).getD ct0).2.2.2.length kz)) 52 ∧ BxAt wr w.heap.size [.int .i64 0, .int .i64 0, .int .i64 0, .int .i64 0, .int .i64 0, .string ⟨#[]⟩, .float .f64 0, .int .i64 0, .slice none 0 0] 52 ∧ Below w.heap.size w wr)
    (fun _ i _ => ((n : Int) - intOf i).toNat)
  case atStart => exact ⟨0, Nat.zero_le _, rfl, rfl, none, 0, H0.out.1, H0.out.2.1, H0.out.2.2⟩
  case round =>
    obtain ⟨j, hj, rfl, rfl, az, kz, hX, hX0, hB⟩ := hrel
    obtain ⟨o, eo⟩ : ∃ o, o = bstOf sl (allC (l.take j)) := ⟨_, rfl⟩
    rw [← eo] at hX ⊢
    obtain ⟨fb, efb⟩ : ∃ fb, fb = o.isSome := ⟨_, rfl⟩
    rw [← efb]
    have HX := hid (And.intro hX (And.intro hX0 hB))
    have HO := hid (And.intro eo efb)
    clear hX hX0 hB eo efb
    have hj0 : (0 : Int) ≤ (j : Int) := Int.natCast_nonneg _
    by_cases hjn : j = n
    · have hj1 : ¬ ((j : Int) < (n : Int)) := by omega
      have HE : Hid (o = bstOf sl (allC l)) := hid (by rw [HO.out.1, hjn, ← HN.out, List.take_length])
      obtain ⟨z, ez⟩ : ∃ z, z = o.getD ct0 := ⟨_, rfl⟩
      rw [← ez] at HX
      have HZ := hid ez
      clear hj hjn ez
      have HX1 : Hid (BxAt wr (w.heap.size + 1) [.int .i64 z.1, .int .i64 z.2.1, .int .i64 z.2.2.1.c, .int .i64 z.2.2.1.st, .int .i64 z.2.2.1.k, .string z.2.2.1.key, .float .f64 z.2.2.1.b, .int .i64 z.2.2.1.id, .slice az z.2.2.2.length kz] 52) := hid HX.out.1
      have u0 := HX1.out.cell 0 _ rfl; have u1 := HX1.out.cell 1 _ rfl; have u2 := HX1.out.cell 2 _ rfl; have u3 := HX1.out.cell 3 _ rfl; have u4 := HX1.out.cell 4 _ rfl; have u5 := HX1.out.cell 5 _ rfl; have u6 := HX1.out.cell 6 _ rfl; have u7 := HX1.out.cell 7 _ rfl; have u8 := HX1.out.cell 8 _ rfl
      go_wp2_with (refine wl_store_blk rfl 52 _ _ rfl w.heap.size 0 rfl #[.int .i64 z.1, .int .i64 z.2.1, .int .i64 z.2.2.1.c, .int .i64 z.2.2.1.st, .int .i64 z.2.2.1.k, .string z.2.2.1.key, .float .f64 z.2.2.1.b, .int .i64 z.2.2.1.id, .slice az z.2.2.2.length kz] rfl [.int .i64 0, .int .i64 0, .int .i64 0, .int .i64 0, .int .i64 0, .string ⟨#[]⟩, .float .f64 0, .int .i64 0, .slice none 0 0] 52 HX.out.2.1 (by simp) (by kernel_rfl) (by simp [Value.oneCell']) ?_; intro w9 Hz; go_must (have H9 : Hid (BxAt w9 w.heap.size [.int .i64 z.1, .int .i64 z.2.1, .int .i64 z.2.2.1.c, .int .i64 z.2.2.1.st, .int .i64 z.2.2.1.k, .string z.2.2.1.key, .float .f64 z.2.2.1.b, .int .i64 z.2.2.1.id, .slice az z.2.2.2.length kz] 52 ∧ Below w.heap.size w w9) := hid ⟨Hz.out.1, Hz.out.2.below HX.out.2.2 (Nat.le_refl _)⟩); clear Hz u0 u1 u2 u3 u4 u5 u6 u7 u8)
      refine ret_pair (s := 4) (s2 := 5) (ad := ⟨w.heap.size, 0, none⟩) rfl rfl (load_blk H9.out.1 _ Try.underlying52 rfl (by kernel_rfl)) rfl rfl ?_
      exact ⟨⟨az, kz, by rw [← HE.out, ← HZ.out, ← HO.out.2]; rfl⟩, H9.out.2⟩
    · have hj1 : (j : Int) < (n : Int) := by omega
      have hjl : j < l.length := by have := HN.out; omega
      have hR2 := HR.out
      rw [← HN.out] at hR2
      obtain ⟨g, off, cp, a2, n2, k2, hv, hp, hg, hcl⟩ := cg_at hR2 j hjl
      cases hv
      have HJ := hid (And.intro hj hjn)
      have HAc := hid (allC_more l j hjl)
      have hym : l.getD j cg0 ∈ l := by rw [List.getD_eq_getElem?_getD, List.getElem?_eq_getElem hjl]; exact List.getElem_mem hjl
      have HYb := hid (HBd.out _ hym)
      have HC2 : Hid (∀ u : World, Below w.heap.size w u → u.cell? ⟨g, off + j * 5 + 2, none⟩ = some (.slice a2 n2 k2)) := hid (fun u hu => (hu.cell (p := ⟨g, off + j * 5 + 2, none⟩) hg).trans (hcl 2 _ rfl))
      generalize l.getD j cg0 = x at hp HAc HYb hcl hym
      have hn2 : x.2.2.1.length = n2 := by
        obtain ⟨ad, cp, hv⟩ := hp.form
        rw [List.length_map] at hv
        cases hv
        rfl
      have HP := hid hp
      have HN2 := hid hn2
      have hm2 : (n2 : Int) ≤ 9223372036854775807 := by have := HYb.out.2.1.1; unfold maxLen at this; omega
      have hjb : (j : Int) ≤ 9223372036854775806 := by omega
      clear hj hjn hjl hR2 hp hg hcl hym hn2
      obtain ⟨C, eC⟩ : ∃ C, C = allC (l.take j) := ⟨_, rfl⟩
      rw [← eC] at HO HAc
      have c2 := HC2.out _ HX.out.2.2
      clear eC
      go_wp2
      clear c2
      go_loopw [7, 9] (fun f i wr => ∃ q : Nat, q ≤ n2 ∧ i = .int .i64 (q : Int) ∧ f = .bool (bstOf sl (C ++ x.2.2.1.take q)).isSome ∧ ∃ az kz, BxAt wr (w.heap.size + 1) (ctC ((bstOf sl (C ++ x.2.2.1.take q)).getD ct0) (.slice az ((bstOf sl (C ++ x.2.2.1.take q)).getD ct0).2.2.2.length kz)) 52 ∧ BxAt wr w.heap.size [.int .i64 0, .int .i64 0, .int .i64 0, .int .i64 0, .int .i64 0, .string ⟨#[]⟩, .float .f64 0, .int .i64 0, .slice none 0 0] 52 ∧ Below w.heap.size w wr)
        (fun _ i _ => ((n2 : Int) - intOf i).toNat)
      case atStart => exact ⟨0, Nat.zero_le _, rfl, by rw [List.take_zero, List.append_nil, HO.out.2, HO.out.1], az, kz, by rw [List.take_zero, List.append_nil, ← HO.out.1]; exact HX.out.1, HX.out.2.1, HX.out.2.2⟩
      case round =>
        clear HX HO
        obtain ⟨q, hq, rfl, rfl, az, kz, hX, hX0, hB⟩ := hrel
        obtain ⟨o, eo⟩ : ∃ o, o = bstOf sl (C ++ x.2.2.1.take q) := ⟨_, rfl⟩
        obtain ⟨fb, efb⟩ : ∃ fb, fb = o.isSome := ⟨_, rfl⟩
        obtain ⟨z, ez⟩ : ∃ z, z = o.getD ct0 := ⟨_, rfl⟩
        rw [← eo, ← ez] at hX
        rw [← eo, ← efb]
        have HX : Hid (BxAt wr (w.heap.size + 1) [.int .i64 z.1, .int .i64 z.2.1, .int .i64 z.2.2.1.c, .int .i64 z.2.2.1.st, .int .i64 z.2.2.1.k, .string z.2.2.1.key, .float .f64 z.2.2.1.b, .int .i64 z.2.2.1.id, .slice az z.2.2.2.length kz] 52 ∧ BxAt wr w.heap.size [.int .i64 0, .int .i64 0, .int .i64 0, .int .i64 0, .int .i64 0, .string ⟨#[]⟩, .float .f64 0, .int .i64 0, .slice none 0 0] 52 ∧ Below w.heap.size w wr) := hid ⟨hX, hX0, hB⟩
        have HO := hid (And.intro eo (And.intro efb ez))
        have c2 := HC2.out _ hB
        clear hX hX0 hB eo efb ez
        have hq0 : (0 : Int) ≤ (q : Int) := Int.natCast_nonneg _
        by_cases hqn : q = n2
        · have hq1 : ¬ ((q : Int) < (n2 : Int)) := by omega
          have HE : Hid (o = bstOf sl (allC (l.take (j + 1)))) := hid (by rw [HO.out.1, HAc.out, hqn, ← HN2.out, List.take_length])
          clear hq hqn
          go_wp2
          go_roundw
          case rel => exact ⟨j + 1, by have := HJ.out; omega, by go_num, by rw [← HE.out, HO.out.2.1], az, kz, by rw [← HE.out, ← HO.out.2.2]; exact HX.out.1, HX.out.2.1, HX.out.2.2⟩
          case measure => simp [intOf]; omega
        · have hq1 : (q : Int) < (n2 : Int) := by omega
          have hql : q < x.2.2.1.length := by have := HN2.out; omega
          have hp2 := HP.out
          rw [← HN2.out] at hp2
          obtain ⟨g2, off2, cp2, a8, kc, hv2, _, hg2, hcl2⟩ := ct_at (hp2.under HX.out.2.2 (Nat.le_refl _)) q hql
          cases hv2
          have HQ := hid (And.intro hq hqn)
          have HSn : Hid (bstOf sl (C ++ x.2.2.1.take (q + 1)) = bstOf sl (C ++ x.2.2.1.take q ++ [x.2.2.1.getD q ct0])) := hid (by rw [List.append_assoc, List.take_succ_eq_append_getElem hql]; simp [hql])
          generalize x.2.2.1.getD q ct0 = y at hcl2 HSn
          have HSt0 : Hid (bstOf sl (C ++ x.2.2.1.take q ++ [y]) = if y.2.1 = sl then upB o y else o) := hid (by rw [bst_up, ← HO.out.1])
          have HZe : Hid (z = o.getD ct0) := hid HO.out.2.2
          have HFd : Hid (o.isSome = fb) := hid HO.out.2.1.symm
          have k0 : wr.cell? ⟨g2, off2 + q * 9, none⟩ = some (.int .i64 y.1) := hcl2 0 _ rfl
          have k1 : wr.cell? ⟨g2, off2 + q * 9 + 1, none⟩ = some (.int .i64 y.2.1) := hcl2 1 _ rfl
          have k2 : wr.cell? ⟨g2, off2 + q * 9 + 2, none⟩ = some (.int .i64 y.2.2.1.c) := hcl2 2 _ rfl
          have k3 : wr.cell? ⟨g2, off2 + q * 9 + 3, none⟩ = some (.int .i64 y.2.2.1.st) := hcl2 3 _ rfl
          have k4 : wr.cell? ⟨g2, off2 + q * 9 + 4, none⟩ = some (.int .i64 y.2.2.1.k) := hcl2 4 _ rfl
          have k5 : wr.cell? ⟨g2, off2 + q * 9 + 5, none⟩ = some (.string y.2.2.1.key) := hcl2 5 _ rfl
          have k6 : wr.cell? ⟨g2, off2 + q * 9 + 6, none⟩ = some (.float .f64 y.2.2.1.b) := hcl2 6 _ rfl
          have k7 : wr.cell? ⟨g2, off2 + q * 9 + 7, none⟩ = some (.int .i64 y.2.2.1.id) := hcl2 7 _ rfl
          have k8 : wr.cell? ⟨g2, off2 + q * 9 + 8, none⟩ = some (.slice a8 y.2.2.2.length kc) := hcl2 8 _ rfl
          have z0 := HX.out.1.cell 0 _ rfl
          have hqb : (q : Int) ≤ 9223372036854775806 := by omega
          clear hq hqn hql hp2 hg2 hcl2
          by_cases hsl : ¬ y.2.1 = sl
          · have hslb : (y.2.1 == sl) = false := by simpa using hsl
            have HSt : Hid (bstOf sl (C ++ x.2.2.1.take q ++ [y]) = o) := hid (by rw [HSt0.out, if_neg hsl])
            clear hsl
            go_wp2_with (refine wl_store_blk rfl 52 _ _ rfl wr.heap.size 0 rfl #[.int .i64 y.1, .int .i64 y.2.1, .int .i64 y.2.2.1.c, .int .i64 y.2.2.1.st, .int .i64 y.2.2.1.k, .string y.2.2.1.key, .float .f64 y.2.2.1.b, .int .i64 y.2.2.1.id, .slice a8 y.2.2.2.length kc] rfl [.int .i64 0, .int .i64 0, .int .i64 0, .int .i64 0, .int .i64 0, .string ⟨#[]⟩, .float .f64 0, .int .i64 0, .slice none 0 0] 52 (heap_alloc_last wr _) (by simp) (by kernel_rfl) (by simp [Value.oneCell']) ?_; intro w1 Hz; go_must (have hb1 := Hz.out.2.below ((Below.refl wr.heap.size wr).alloc (Nat.le_refl _) _) (Nat.le_refl _); have H1 : Hid (BxAt w1 (w.heap.size + 1) [.int .i64 z.1, .int .i64 z.2.1, .int .i64 z.2.2.1.c, .int .i64 z.2.2.1.st, .int .i64 z.2.2.1.k, .string z.2.2.1.key, .float .f64 z.2.2.1.b, .int .i64 z.2.2.1.id, .slice az z.2.2.2.length kz] 52 ∧ BxAt w1 w.heap.size [.int .i64 0, .int .i64 0, .int .i64 0, .int .i64 0, .int .i64 0, .string ⟨#[]⟩, .float .f64 0, .int .i64 0, .slice none 0 0] 52 ∧ BxAt w1 wr.heap.size [.int .i64 y.1, .int .i64 y.2.1, .int .i64 y.2.2.1.c, .int .i64 y.2.2.1.st, .int .i64 y.2.2.1.k, .string y.2.2.1.key, .float .f64 y.2.2.1.b, .int .i64 y.2.2.1.id, .slice a8 y.2.2.2.length kc] 52 ∧ Below w.heap.size w w1) := hid ⟨HX.out.1.keep hb1, HX.out.2.1.keep hb1, Hz.out.1, HX.out.2.2.trans (hb1.mono HX.out.2.2.size)⟩); clear Hz hb1 k0 k1 k2 k3 k4 k5 k6 k7 k8 z0 c2; have u0 := H1.out.2.2.1.cell 0 _ rfl; have u1 := H1.out.2.2.1.cell 1 _ rfl; have u2 := H1.out.2.2.1.cell 2 _ rfl; have u3 := H1.out.2.2.1.cell 3 _ rfl; have u4 := H1.out.2.2.1.cell 4 _ rfl; have u5 := H1.out.2.2.1.cell 5 _ rfl; have u6 := H1.out.2.2.1.cell 6 _ rfl; have u7 := H1.out.2.2.1.cell 7 _ rfl; have u8 := H1.out.2.2.1.cell 8 _ rfl; have z0 := H1.out.1.cell 0 _ rfl)
            go_roundw
            case rel => exact ⟨q + 1, by have := HQ.out; omega, by go_num, by rw [HSn.out, HSt.out, HFd.out], az, kz, by rw [HSn.out, HSt.out, ← HZe.out]; exact H1.out.1, H1.out.2.1, H1.out.2.2.2⟩
            case measure => simp [intOf]; omega
          have hsl : y.2.1 = sl := Classical.not_not.1 hsl
          have hslb : (y.2.1 == sl) = true := by simpa using hsl
          cases o with
          | none =>
            have hfb : fb = false := HFd.out.symm
            subst hfb
            have HSt : Hid (bstOf sl (C ++ x.2.2.1.take q ++ [y]) = some y) := hid (by rw [HSt0.out, if_pos hsl]; rfl)
            clear hsl
            go_wp2_with (first
              | (have := H1; refine wl_store_blk rfl 52 _ _ rfl (w.heap.size + 1) 0 rfl #[.int .i64 y.1, .int .i64 y.2.1, .int .i64 y.2.2.1.c, .int .i64 y.2.2.1.st, .int .i64 y.2.2.1.k, .string y.2.2.1.key, .float .f64 y.2.2.1.b, .int .i64 y.2.2.1.id, .slice a8 y.2.2.2.length kc] rfl [.int .i64 z.1, .int .i64 z.2.1, .int .i64 z.2.2.1.c, .int .i64 z.2.2.1.st, .int .i64 z.2.2.1.k, .string z.2.2.1.key, .float .f64 z.2.2.1.b, .int .i64 z.2.2.1.id, .slice az z.2.2.2.length kz] 52 H1.out.1 (by simp) (by kernel_rfl) (by simp [Value.oneCell']) ?_; intro w2 Hz; go_must (have H2 : Hid (BxAt w2 (w.heap.size + 1) [.int .i64 y.1, .int .i64 y.2.1, .int .i64 y.2.2.1.c, .int .i64 y.2.2.1.st, .int .i64 y.2.2.1.k, .string y.2.2.1.key, .float .f64 y.2.2.1.b, .int .i64 y.2.2.1.id, .slice a8 y.2.2.2.length kc] 52 ∧ BxAt w2 w.heap.size [.int .i64 0, .int .i64 0, .int .i64 0, .int .i64 0, .int .i64 0, .string ⟨#[]⟩, .float .f64 0, .int .i64 0, .slice none 0 0] 52 ∧ Below w.heap.size w w2) := hid ⟨Hz.out.1, (Hz.out.2.block _ (by omega)).trans H1.out.2.1, Hz.out.2.below H1.out.2.2.2 (by omega)⟩); clear Hz u0 u1 u2 u3 u4 u5 u6 u7 u8 z0)
              | (refine wl_store_blk rfl 52 _ _ rfl wr.heap.size 0 rfl #[.int .i64 y.1, .int .i64 y.2.1, .int .i64 y.2.2.1.c, .int .i64 y.2.2.1.st, .int .i64 y.2.2.1.k, .string y.2.2.1.key, .float .f64 y.2.2.1.b, .int .i64 y.2.2.1.id, .slice a8 y.2.2.2.length kc] rfl [.int .i64 0, .int .i64 0, .int .i64 0, .int .i64 0, .int .i64 0, .string ⟨#[]⟩, .float .f64 0, .int .i64 0, .slice none 0 0] 52 (heap_alloc_last wr _) (by simp) (by kernel_rfl) (by simp [Value.oneCell']) ?_; intro w1 Hz; go_must (have hb1 := Hz.out.2.below ((Below.refl wr.heap.size wr).alloc (Nat.le_refl _) _) (Nat.le_refl _); have H1 : Hid (BxAt w1 (w.heap.size + 1) [.int .i64 z.1, .int .i64 z.2.1, .int .i64 z.2.2.1.c, .int .i64 z.2.2.1.st, .int .i64 z.2.2.1.k, .string z.2.2.1.key, .float .f64 z.2.2.1.b, .int .i64 z.2.2.1.id, .slice az z.2.2.2.length kz] 52 ∧ BxAt w1 w.heap.size [.int .i64 0, .int .i64 0, .int .i64 0, .int .i64 0, .int .i64 0, .string ⟨#[]⟩, .float .f64 0, .int .i64 0, .slice none 0 0] 52 ∧ BxAt w1 wr.heap.size [.int .i64 y.1, .int .i64 y.2.1, .int .i64 y.2.2.1.c, .int .i64 y.2.2.1.st, .int .i64 y.2.2.1.k, .string y.2.2.1.key, .float .f64 y.2.2.1.b, .int .i64 y.2.2.1.id, .slice a8 y.2.2.2.length kc] 52 ∧ Below w.heap.size w w1) := hid ⟨HX.out.1.keep hb1, HX.out.2.1.keep hb1, Hz.out.1, HX.out.2.2.trans (hb1.mono HX.out.2.2.size)⟩); clear Hz hb1 k0 k1 k2 k3 k4 k5 k6 k7 k8 z0 c2; have u0 := H1.out.2.2.1.cell 0 _ rfl; have u1 := H1.out.2.2.1.cell 1 _ rfl; have u2 := H1.out.2.2.1.cell 2 _ rfl; have u3 := H1.out.2.2.1.cell 3 _ rfl; have u4 := H1.out.2.2.1.cell 4 _ rfl; have u5 := H1.out.2.2.1.cell 5 _ rfl; have u6 := H1.out.2.2.1.cell 6 _ rfl; have u7 := H1.out.2.2.1.cell 7 _ rfl; have u8 := H1.out.2.2.1.cell 8 _ rfl; have z0 := H1.out.1.cell 0 _ rfl))
            go_roundw
            case rel => exact ⟨q + 1, by have := HQ.out; omega, by go_num, by rw [HSn.out, HSt.out]; rfl, a8, kc, by rw [HSn.out, HSt.out]; exact H2.out.1, H2.out.2.1, H2.out.2.2⟩
            case measure => simp [intOf]; omega
          | some z2 =>
            have hfb : fb = true := HFd.out.symm
            subst hfb
            have hz2 : z = z2 := HZe.out
            subst hz2
            by_cases hvw : z.1 < y.1
            · have HSt : Hid (bstOf sl (C ++ x.2.2.1.take q ++ [y]) = some y) := hid (by rw [HSt0.out, if_pos hsl]; exact if_pos hvw)
              clear hsl
              go_wp2_with (first
                | (have := H1; refine wl_store_blk rfl 52 _ _ rfl (w.heap.size + 1) 0 rfl #[.int .i64 y.1, .int .i64 y.2.1, .int .i64 y.2.2.1.c, .int .i64 y.2.2.1.st, .int .i64 y.2.2.1.k, .string y.2.2.1.key, .float .f64 y.2.2.1.b, .int .i64 y.2.2.1.id, .slice a8 y.2.2.2.length kc] rfl [.int .i64 z.1, .int .i64 z.2.1, .int .i64 z.2.2.1.c, .int .i64 z.2.2.1.st, .int .i64 z.2.2.1.k, .string z.2.2.1.key, .float .f64 z.2.2.1.b, .int .i64 z.2.2.1.id, .slice az z.2.2.2.length kz] 52 H1.out.1 (by simp) (by kernel_rfl) (by simp [Value.oneCell']) ?_; intro w2 Hz; go_must (have H2 : Hid (BxAt w2 (w.heap.size + 1) [.int .i64 y.1, .int .i64 y.2.1, .int .i64 y.2.2.1.c, .int .i64 y.2.2.1.st, .int .i64 y.2.2.1.k, .string y.2.2.1.key, .float .f64 y.2.2.1.b, .int .i64 y.2.2.1.id, .slice a8 y.2.2.2.length kc] 52 ∧ BxAt w2 w.heap.size [.int .i64 0, .int .i64 0, .int .i64 0, .int .i64 0, .int .i64 0, .string ⟨#[]⟩, .float .f64 0, .int .i64 0, .slice none 0 0] 52 ∧ Below w.heap.size w w2) := hid ⟨Hz.out.1, (Hz.out.2.block _ (by omega)).trans H1.out.2.1, Hz.out.2.below H1.out.2.2.2 (by omega)⟩); clear Hz u0 u1 u2 u3 u4 u5 u6 u7 u8 z0)
                | (refine wl_store_blk rfl 52 _ _ rfl wr.heap.size 0 rfl #[.int .i64 y.1, .int .i64 y.2.1, .int .i64 y.2.2.1.c, .int .i64 y.2.2.1.st, .int .i64 y.2.2.1.k, .string y.2.2.1.key, .float .f64 y.2.2.1.b, .int .i64 y.2.2.1.id, .slice a8 y.2.2.2.length kc] rfl [.int .i64 0, .int .i64 0, .int .i64 0, .int .i64 0, .int .i64 0, .string ⟨#[]⟩, .float .f64 0, .int .i64 0, .slice none 0 0] 52 (heap_alloc_last wr _) (by simp) (by kernel_rfl) (by simp [Value.oneCell']) ?_; intro w1 Hz; go_must (have hb1 := Hz.out.2.below ((Below.refl wr.heap.size wr).alloc (Nat.le_refl _) _) (Nat.le_refl _); have H1 : Hid (BxAt w1 (w.heap.size + 1) [.int .i64 z.1, .int .i64 z.2.1, .int .i64 z.2.2.1.c, .int .i64 z.2.2.1.st, .int .i64 z.2.2.1.k, .string z.2.2.1.key, .float .f64 z.2.2.1.b, .int .i64 z.2.2.1.id, .slice az z.2.2.2.length kz] 52 ∧ BxAt w1 w.heap.size [.int .i64 0, .int .i64 0, .int .i64 0, .int .i64 0, .int .i64 0, .string ⟨#[]⟩, .float .f64 0, .int .i64 0, .slice none 0 0] 52 ∧ BxAt w1 wr.heap.size [.int .i64 y.1, .int .i64 y.2.1, .int .i64 y.2.2.1.c, .int .i64 y.2.2.1.st, .int .i64 y.2.2.1.k, .string y.2.2.1.key, .float .f64 y.2.2.1.b, .int .i64 y.2.2.1.id, .slice a8 y.2.2.2.length kc] 52 ∧ Below w.heap.size w w1) := hid ⟨HX.out.1.keep hb1, HX.out.2.1.keep hb1, Hz.out.1, HX.out.2.2.trans (hb1.mono HX.out.2.2.size)⟩); clear Hz hb1 k0 k1 k2 k3 k4 k5 k6 k7 k8 z0 c2; have u0 := H1.out.2.2.1.cell 0 _ rfl; have u1 := H1.out.2.2.1.cell 1 _ rfl; have u2 := H1.out.2.2.1.cell 2 _ rfl; have u3 := H1.out.2.2.1.cell 3 _ rfl; have u4 := H1.out.2.2.1.cell 4 _ rfl; have u5 := H1.out.2.2.1.cell 5 _ rfl; have u6 := H1.out.2.2.1.cell 6 _ rfl; have u7 := H1.out.2.2.1.cell 7 _ rfl; have u8 := H1.out.2.2.1.cell 8 _ rfl; have z0 := H1.out.1.cell 0 _ rfl))
              go_roundw
              case rel => exact ⟨q + 1, by have := HQ.out; omega, by go_num, by rw [HSn.out, HSt.out]; rfl, a8, kc, by rw [HSn.out, HSt.out]; exact H2.out.1, H2.out.2.1, H2.out.2.2⟩
              case measure => simp [intOf]; omega
            · have HSt : Hid (bstOf sl (C ++ x.2.2.1.take q ++ [y]) = some z) := hid (by rw [HSt0.out, if_pos hsl]; exact if_neg hvw)
              clear hsl
              go_wp2_with (refine wl_store_blk rfl 52 _ _ rfl wr.heap.size 0 rfl #[.int .i64 y.1, .int .i64 y.2.1, .int .i64 y.2.2.1.c, .int .i64 y.2.2.1.st, .int .i64 y.2.2.1.k, .string y.2.2.1.key, .float .f64 y.2.2.1.b, .int .i64 y.2.2.1.id, .slice a8 y.2.2.2.length kc] rfl [.int .i64 0, .int .i64 0, .int .i64 0, .int .i64 0, .int .i64 0, .string ⟨#[]⟩, .float .f64 0, .int .i64 0, .slice none 0 0] 52 (heap_alloc_last wr _) (by simp) (by kernel_rfl) (by simp [Value.oneCell']) ?_; intro w1 Hz; go_must (have hb1 := Hz.out.2.below ((Below.refl wr.heap.size wr).alloc (Nat.le_refl _) _) (Nat.le_refl _); have H1 : Hid (BxAt w1 (w.heap.size + 1) [.int .i64 z.1, .int .i64 z.2.1, .int .i64 z.2.2.1.c, .int .i64 z.2.2.1.st, .int .i64 z.2.2.1.k, .string z.2.2.1.key, .float .f64 z.2.2.1.b, .int .i64 z.2.2.1.id, .slice az z.2.2.2.length kz] 52 ∧ BxAt w1 w.heap.size [.int .i64 0, .int .i64 0, .int .i64 0, .int .i64 0, .int .i64 0, .string ⟨#[]⟩, .float .f64 0, .int .i64 0, .slice none 0 0] 52 ∧ BxAt w1 wr.heap.size [.int .i64 y.1, .int .i64 y.2.1, .int .i64 y.2.2.1.c, .int .i64 y.2.2.1.st, .int .i64 y.2.2.1.k, .string y.2.2.1.key, .float .f64 y.2.2.1.b, .int .i64 y.2.2.1.id, .slice a8 y.2.2.2.length kc] 52 ∧ Below w.heap.size w w1) := hid ⟨HX.out.1.keep hb1, HX.out.2.1.keep hb1, Hz.out.1, HX.out.2.2.trans (hb1.mono HX.out.2.2.size)⟩); clear Hz hb1 k0 k1 k2 k3 k4 k5 k6 k7 k8 z0 c2; have u0 := H1.out.2.2.1.cell 0 _ rfl; have u1 := H1.out.2.2.1.cell 1 _ rfl; have u2 := H1.out.2.2.1.cell 2 _ rfl; have u3 := H1.out.2.2.1.cell 3 _ rfl; have u4 := H1.out.2.2.1.cell 4 _ rfl; have u5 := H1.out.2.2.1.cell 5 _ rfl; have u6 := H1.out.2.2.1.cell 6 _ rfl; have u7 := H1.out.2.2.1.cell 7 _ rfl; have u8 := H1.out.2.2.1.cell 8 _ rfl; have z0 := H1.out.1.cell 0 _ rfl)
              go_roundw
              case rel => exact ⟨q + 1, by have := HQ.out; omega, by go_num, by rw [HSn.out, HSt.out, HFd.out], az, kz, by rw [HSn.out, HSt.out, ← HZe.out]; exact H1.out.1, H1.out.2.1, H1.out.2.2.2⟩
              case measure => simp [intOf]; omega
end Go.Proofs.Ytpflcneoojakdaa
