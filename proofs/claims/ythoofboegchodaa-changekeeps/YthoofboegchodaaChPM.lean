/- The program's requests: the answer made of the four. -/
import Derived.Test.YthoofboegchodaaChJM
namespace Go.Proofs.Ythoofboegchodaa
open Go.RowKit

/-- Four certificates whose requests can be told. -/
structure GIn (G : List (Ct × Value)) : Prop where
  len : G.length = 4
  all : ∀ i : Nat, i < 4 → ∃ z az kz, G[i]? = some (z, .slice az z.2.2.2.length kz) ∧ askB z.2.2.1 = true ∧ z.2.2.1.b < 18446744073709551616
def pkG (G : List (Ct × Value)) : List Rq := (List.range (cntTo G 4)).map fun (i : Nat) => normR (G.getD i (ct0, nilV)).1.2.2.1
theorem infoRq : (Try.prog.info? 49).map (fun i => (i.zero, i.size, i.bytes)) = some (some (.agg #[.int .i64 0, .int .i64 0, .int .i64 0, .string ⟨#[]⟩, .float .f64 0, .int .i64 0]), 6, 56) := by kernel_rfl
theorem undRq : Try.prog.underlying 38 = some (.slice 49) := by kernel_rfl
theorem made_rq (n : Nat) (h : n ≤ 4) : (madeCells (Value.agg #[.int .i64 0, .int .i64 0, .int .i64 0, .string ⟨#[]⟩, .float .f64 0, .int .i64 0]).cells (n * 6)).toList = rC (List.replicate n zeroQ) := by
  rcases (by omega : n = 0 ∨ n = 1 ∨ n = 2 ∨ n = 3 ∨ n = 4) with rfl | rfl | rfl | rfl | rfl <;> kernel_rfl
set_option maxRecDepth 100000 in
set_option maxHeartbeats 1600000 in
theorem zrequests_any (G : List (Ct × Value)) (hG : GIn G) (w : World) : Calls Try.prog 48 #[.agg (gC G).toArray] w fun e w' => ∃ g2, e = .returned (.slice (some ⟨g2, 0, none⟩) (cntTo G 4) (cntTo G 4)) ∧ BxAt w' g2 (rC (pkG G)) 49 ∧ w.heap.size ≤ g2 ∧ Below w.heap.size w w' := by
  obtain ⟨iv, hv0, hvz0, hvz1, hvz2⟩ := info_parts infoRq
  obtain ⟨A, eA⟩ : ∃ A, A = (gC G).toArray := ⟨_, rfl⟩
  obtain ⟨wa, ea⟩ : ∃ wa, wa = w.alloc (.cells A 86) := ⟨_, rfl⟩
  have hba : Below w.heap.size w wa := by rw [ea]; exact (Below.refl _ _).alloc (Nat.le_refl _) _
  have hXa : BxAt wa w.heap.size (gC G) 86 := by rw [ea, eA]; exact heap_alloc_last w _
  have HA := hid (And.intro hXa hba)
  have HEa := hid ea
  have HEA := hid eA
  have HG := hid hG
  have HGl : Hid ((gC G).length = 36) := hid (by rw [gC, row_len gcF_len, hG.len])
  rw [← eA]
  obtain ⟨n, en⟩ : ∃ n, n = cntTo G 4 := ⟨_, rfl⟩
  have hn4 : n ≤ 4 := by rw [en]; exact cntTo_le G 4
  have HN := hid (And.intro en hn4)
  have HI : Hid ((Try.prog.info? 86).map (·.size) = some (gC G).length) := hid (by rw [HGl.out]; kernel_rfl)
  rw [← en]
  clear eA ea hba hXa hG en hn4
  go_enter Try.func48, Try.ntmps48
  go_wp2_with (first
    | (refine wl_load_arr rfl 86 _ rfl w.heap.size 0 rfl (gC G) 86 (by first | exact HA.out.1 | (rw [← HEa.out]; exact HA.out.1)) _ Try.underlying86 rfl HI.out rfl ?_)
    | (refine wl_box_arr rfl 86 _ rfl A rfl ?_))
  go_loopw [3, 9] (fun c i wr => ∃ j : Nat, j ≤ 4 ∧ i = .int .i64 (j : Int) ∧ c = .int .i64 ((cntTo G j : Nat) : Int) ∧ Below wa.heap.size wa wr) (fun _ i _ => ((4 : Int) - intOf i).toNat)
  case atStart => exact ⟨0, Nat.zero_le _, rfl, rfl, by rw [← HEa.out]; exact Below.refl _ _⟩
  case round =>
    obtain ⟨j, hj, rfl, rfl, hB⟩ := hrel
    have HB := hid hB
    clear hB
    have hj0 : (0 : Int) ≤ (j : Int) := Int.natCast_nonneg _
    by_cases hjn : j = 4
    · have hj1 : ¬ ((j : Int) < 4) := by omega
      have HJn : Hid (cntTo G j = n) := hid (by rw [hjn, HN.out.1])
      rw [HJn.out]
      clear hj hjn
      have hn4i : (n : Int) ≤ 4 := by have := HN.out.2; omega
      have hn0i : (0 : Int) ≤ (n : Int) := Int.natCast_nonneg _
      have HX1 : Hid (BxAt wr w.heap.size (gC G) 86 ∧ Below w.heap.size w wr) := hid ⟨HA.out.1.keep HB.out, HA.out.2.trans (HB.out.mono HA.out.2.size)⟩
      go_wp2_with (refine wpList_make_full _ rfl _ _ 38 rfl 0 49 iv (.agg #[.int .i64 0, .int .i64 0, .int .i64 0, .string ⟨#[]⟩, .float .f64 0, .int .i64 0]) 6 undRq hv0 hvz0 hvz1 .i64 .i64 _ _ n rfl rfl rfl rfl (by rw [hvz2]; have := HN.out.2; omega) (by have := HN.out.2; unfold maxLen; omega) (Nat.zero_le _) ?_; intro w3 hown hgrow; go_must (have H3 : Hid (BxAt w3 wr.heap.size (rC (List.replicate n zeroQ)) 49 ∧ BxAt w3 w.heap.size (gC G) 86 ∧ Below w.heap.size w w3) := hid (by
        have hbl : Below wr.heap.size wr w3 := ⟨hgrow.os, hgrow.tape, hgrow.output, hgrow.size, fun k hk => hgrow.block k hk (by simp)⟩
        refine ⟨?_, HX1.out.1.keep hbl, HX1.out.2.trans (hbl.mono HX1.out.2.size)⟩
        rcases hown.2 with ⟨hv, _⟩ | ⟨g, cap, cur, hv, _, hh, _, _, hcs, htk⟩
        · cases hv
        · cases hv
          rw [made_rq n HN.out.2, List.take_of_length_le (by rw [Array.length_toList]; omega)] at htk
          show w3.heap[_]? = _
          rw [hh, ← htk])); clear hown hgrow)
      obtain ⟨g2, eg2⟩ : ∃ g2, g2 = wr.heap.size := ⟨_, rfl⟩
      rw [← eg2]
      have H4 : Hid (BxAt w3 g2 (rC (List.replicate n zeroQ)) 49 ∧ BxAt w3 w.heap.size (gC G) 86 ∧ Below w.heap.size w w3 ∧ w.heap.size < g2) := hid (by rw [eg2]; exact ⟨H3.out.1, H3.out.2.1, H3.out.2.2, lt_of_blk HX1.out.1⟩)
      clear eg2 H3 HX1 HB
      go_loopw [23] (fun i wr => ∃ j : Nat, j ≤ n ∧ i = .int .i64 (j : Int) ∧ ∃ L : List Rq, L.length = n ∧ (∀ q, q < j → L[q]? = some (normR (G.getD q (ct0, nilV)).1.2.2.1)) ∧ BxAt wr g2 (rC L) 49 ∧ BxAt wr w.heap.size (gC G) 86 ∧ Below w.heap.size w wr) (fun i _ => ((n : Int) - intOf i).toNat)
      case atStart => exact ⟨0, Nat.zero_le _, rfl, _, List.length_replicate, fun q hq => by omega, H4.out.1, H4.out.2.1, H4.out.2.2.1⟩
      case round =>
        obtain ⟨q, hq, rfl, L, hL, hLq, hX, hXg, hB⟩ := hrel
        have HL := hid (And.intro hL hLq)
        have HX := hid hX
        have HXg := hid hXg
        have HBw := hid hB
        have hq0 : (0 : Int) ≤ (q : Int) := Int.natCast_nonneg _
        clear hL hLq hX hXg hB
        by_cases hqn : q = n
        · have hq1 : ¬ ((q : Int) < (n : Int)) := by omega
          have HP : Hid (L = pkG G) := hid (by
            apply List.ext_getElem?
            intro i
            rcases Nat.lt_or_ge i n with h | h
            · rw [HL.out.2 i (by omega), pkG, List.getElem?_map, List.getElem?_range (by rw [← HN.out.1]; exact h)]
              rfl
            · rw [List.getElem?_eq_none (by rw [HL.out.1]; exact h), List.getElem?_eq_none (by rw [pkG, List.length_map, List.length_range, ← HN.out.1]; exact h)])
          clear hq hqn
          go_wp2
          go_ret
          exact ⟨g2, rfl, by rw [← HP.out]; exact HX.out, Nat.le_of_lt H4.out.2.2.2, HBw.out⟩
        · have hq1 : (q : Int) < (n : Int) := by omega
          have hq4 : (q : Int) < 4 := by omega
          obtain ⟨z, az, kz, hz, ha, hb⟩ := HG.out.all q (by omega)
          have HZ := hid (And.intro ha hb)
          have HQ := hid (And.intro hq hqn)
          have HQz : Hid (normR (G.getD q (ct0, nilV)).1.2.2.1 = normR z.2.2.1) := hid (by rw [List.getD_eq_getElem?_getD, hz]; rfl)
          have HC : Hid (∀ k v, k < 9 → (ctC z (.slice az z.2.2.2.length kz))[k]? = some v → (gC G)[q * 9 + k]? = some v) := hid (fun k v hk hv => by rw [gC, row_at gcF_len hz k hk]; exact hv)
          have k0 : wr.cell? ⟨w.heap.size, q * 9, none⟩ = some (.int .i64 z.1) := HXg.out.cell (q * 9) _ (HC.out 0 _ (by decide) rfl)
          have k1 : wr.cell? ⟨w.heap.size, q * 9 + 1, none⟩ = some (.int .i64 z.2.1) := HXg.out.cell (q * 9 + 1) _ (HC.out 1 _ (by decide) rfl)
          have k2 : wr.cell? ⟨w.heap.size, q * 9 + 2, none⟩ = some (.int .i64 z.2.2.1.c) := HXg.out.cell (q * 9 + 2) _ (HC.out 2 _ (by decide) rfl)
          have k3 : wr.cell? ⟨w.heap.size, q * 9 + 3, none⟩ = some (.int .i64 z.2.2.1.st) := HXg.out.cell (q * 9 + 3) _ (HC.out 3 _ (by decide) rfl)
          have k4 : wr.cell? ⟨w.heap.size, q * 9 + 4, none⟩ = some (.int .i64 z.2.2.1.k) := HXg.out.cell (q * 9 + 4) _ (HC.out 4 _ (by decide) rfl)
          have k5 : wr.cell? ⟨w.heap.size, q * 9 + 5, none⟩ = some (.string z.2.2.1.key) := HXg.out.cell (q * 9 + 5) _ (HC.out 5 _ (by decide) rfl)
          have k6 : wr.cell? ⟨w.heap.size, q * 9 + 6, none⟩ = some (.float .f64 z.2.2.1.b) := HXg.out.cell (q * 9 + 6) _ (HC.out 6 _ (by decide) rfl)
          have k7 : wr.cell? ⟨w.heap.size, q * 9 + 7, none⟩ = some (.int .i64 z.2.2.1.id) := HXg.out.cell (q * 9 + 7) _ (HC.out 7 _ (by decide) rfl)
          have k8 : wr.cell? ⟨w.heap.size, q * 9 + 8, none⟩ = some (.slice az z.2.2.2.length kz) := HXg.out.cell (q * 9 + 8) _ (HC.out 8 _ (by decide) rfl)
          have HOw : Hid (∀ u : World, Calls Try.prog 76 #[.agg #[.int .i64 z.2.2.1.c, .int .i64 z.2.2.1.st, .int .i64 z.2.2.1.k, .string z.2.2.1.key, .float .f64 z.2.2.1.b, .int .i64 z.2.2.1.id]] u fun e w' => e = .returned (.agg #[.int .i64 (normR z.2.2.1).c, .int .i64 (normR z.2.2.1).st, .int .i64 (normR z.2.2.1).k, .string (normR z.2.2.1).key, .float .f64 (normR z.2.2.1).b, .int .i64 (normR z.2.2.1).id]) ∧ Below u.heap.size u w') := hid (fun u => zown_any z.2.2.1 HZ.out.1 HZ.out.2 u)
          obtain ⟨qq, eqq⟩ : ∃ qq, qq = normR z.2.2.1 := ⟨_, rfl⟩
          rw [← eqq] at HOw HQz
          have HRoom : Hid (q * 6 + (#[.int .i64 qq.c, .int .i64 qq.st, .int .i64 qq.k, .string qq.key, .float .f64 qq.b, .int .i64 qq.id] : Array Value).size ≤ (rC L).length) := hid (by rw [rC, row_len rqC_len, HL.out.1]; show q * 6 + 6 ≤ n * 6; omega)
          have HOne : Hid ((#[.int .i64 qq.c, .int .i64 qq.st, .int .i64 qq.k, .string qq.key, .float .f64 qq.b, .int .i64 qq.id] : Array Value).all (·.oneCell') = true) := hid (by simp [Value.oneCell'])
          have HSet : Hid (setAt (rC L) (q * 6) (rqC qq) = rC (L.set q qq)) := hid (row_set rqC_len (by rw [HL.out.1]; omega) qq)
          clear hq hqn hz ha hb eqq
          go_wp2_with (first
            | (have := H6; refine wl_store_blk rfl 49 _ _ rfl g2 (q * 6) rfl #[.int .i64 qq.c, .int .i64 qq.st, .int .i64 qq.k, .string qq.key, .float .f64 qq.b, .int .i64 qq.id] rfl (rC L) 49 H6.out.1 HRoom.out (by kernel_rfl) HOne.out ?_; intro w7 Hz; go_must (have H7 : Hid (BxAt w7 g2 (rC (L.set q qq)) 49 ∧ BxAt w7 w.heap.size (gC G) 86 ∧ Below w.heap.size w w7) := hid ⟨by have h5 := Hz.out.1; rw [← HSet.out]; exact h5, (Hz.out.2.block _ (Nat.ne_of_lt H4.out.2.2.2)).trans H6.out.2.1, Hz.out.2.below H6.out.2.2 (Nat.le_of_lt H4.out.2.2.2)⟩); clear Hz)
            | (go_at_call 76; go_must (refine (HOw.out _).mono ?_); rintro e w6 ⟨rfl, hb⟩; have H6 : Hid (BxAt w6 g2 (rC L) 49 ∧ BxAt w6 w.heap.size (gC G) 86 ∧ Below w.heap.size w w6) := hid ⟨HX.out.keep hb, HXg.out.keep hb, HBw.out.trans (hb.mono HBw.out.size)⟩; clear hb k0 k1 k2 k3 k4 k5 k6 k7 k8))
          go_roundw
          case rel => exact ⟨q + 1, by have := HQ.out; omega, by go_num, L.set q qq, by rw [List.length_set]; exact HL.out.1, fun i hi => (by
            by_cases e : i = q
            · subst e
              rw [HQz.out]
              have := HQ.out
              have := HL.out.1
              simp [show i < L.length by omega]
            · rw [List.getElem?_set_ne (fun e2 => e e2.symm)]
              exact HL.out.2 i (by omega)), H7.out.1, H7.out.2.1, H7.out.2.2⟩
          case measure => simp [intOf]; omega
    · have hj1 : (j : Int) < 4 := by omega
      obtain ⟨z, az, kz, hz, _, _⟩ := HG.out.all j (by omega)
      have HJ := hid (And.intro hj hjn)
      have HExt : Hid (A.extract ((j : Int).toNat * 9) ((j : Int).toNat * 9 + 9) = #[.int .i64 z.1, .int .i64 z.2.1, .int .i64 z.2.2.1.c, .int .i64 z.2.2.1.st, .int .i64 z.2.2.1.k, .string z.2.2.1.key, .float .f64 z.2.2.1.b, .int .i64 z.2.2.1.id, .slice az z.2.2.2.length kz]) := hid (by rw [HEA.out, Int.toNat_natCast]; exact row_ext gcF_len hz)
      have HCn : Hid (cntTo G (j + 1) = if z.2.2.2.length = 0 then cntTo G j else j + 1) := hid (by rw [cntTo, List.getD_eq_getElem?_getD, hz]; rfl)
      have HNo0 : Hid (∀ u : World, Calls Try.prog 75 #[.agg #[.int .i64 z.1, .int .i64 z.2.1, .int .i64 z.2.2.1.c, .int .i64 z.2.2.1.st, .int .i64 z.2.2.1.k, .string z.2.2.1.key, .float .f64 z.2.2.1.b, .int .i64 z.2.2.1.id, .slice az z.2.2.2.length kz]] u fun e w' => e = .returned (.bool (decide (z.2.2.2.length = 0))) ∧ Below u.heap.size u w') := hid (fun u => znone_any z az kz u)
      clear hj hjn hz
      rw [← HEA.out]
      by_cases hzn : z.2.2.2.length = 0
      · have HNo := HNo0
        rw [decide_eq_true hzn] at HNo
        have HCj : Hid (cntTo G (j + 1) = cntTo G j) := hid (by rw [HCn.out, if_pos hzn])
        generalize z.2.2.2.length = zl at HExt HNo HNo0 HCn hzn
        clear HNo0 HCn hzn
        go_wp2_with (first
          | (have := H5; go_at_call 75; go_must (refine (HNo.out _).mono ?_); rintro e w6 ⟨rfl, hb⟩; have H6 := hid (HB.out.trans ((H5.out.2.trans (hb.mono H5.out.2.size)).mono HB.out.size)); clear hb u0 u1 u2 u3 u4 u5 u6 u7 u8)
          | (refine wl_store_blk rfl 52 _ _ rfl wr.heap.size 0 rfl #[.int .i64 z.1, .int .i64 z.2.1, .int .i64 z.2.2.1.c, .int .i64 z.2.2.1.st, .int .i64 z.2.2.1.k, .string z.2.2.1.key, .float .f64 z.2.2.1.b, .int .i64 z.2.2.1.id, .slice az zl kz] rfl [.int .i64 0, .int .i64 0, .int .i64 0, .int .i64 0, .int .i64 0, .string ⟨#[]⟩, .float .f64 0, .int .i64 0, .slice none 0 0] 52 (heap_alloc_last wr _) (by simp) (by kernel_rfl) (by simp [Value.oneCell']) ?_; intro w5 Hz; go_must (have H5 : Hid (BxAt w5 wr.heap.size [.int .i64 z.1, .int .i64 z.2.1, .int .i64 z.2.2.1.c, .int .i64 z.2.2.1.st, .int .i64 z.2.2.1.k, .string z.2.2.1.key, .float .f64 z.2.2.1.b, .int .i64 z.2.2.1.id, .slice az zl kz] 52 ∧ Below wr.heap.size wr w5) := hid ⟨Hz.out.1, Hz.out.2.below ((Below.refl wr.heap.size wr).alloc (Nat.le_refl _) _) (Nat.le_refl _)⟩); clear Hz; have u0 := H5.out.1.cell 0 _ rfl; have u1 := H5.out.1.cell 1 _ rfl; have u2 := H5.out.1.cell 2 _ rfl; have u3 := H5.out.1.cell 3 _ rfl; have u4 := H5.out.1.cell 4 _ rfl; have u5 := H5.out.1.cell 5 _ rfl; have u6 := H5.out.1.cell 6 _ rfl; have u7 := H5.out.1.cell 7 _ rfl; have u8 := H5.out.1.cell 8 _ rfl)
          | (refine wl_index_agg rfl 86 _ _ rfl A rfl .i64 (j : Int) rfl 4 52 (by kernel_rfl) _ Try.underlying52 rfl 9 (by kernel_rfl) hj0 hj1 #[.int .i64 z.1, .int .i64 z.2.1, .int .i64 z.2.2.1.c, .int .i64 z.2.2.1.st, .int .i64 z.2.2.1.k, .string z.2.2.1.key, .float .f64 z.2.2.1.b, .int .i64 z.2.2.1.id, .slice az zl kz] HExt.out ?_))
        go_roundw
        case rel => exact ⟨j + 1, by have := HJ.out; omega, by go_num, by rw [HCj.out], H6.out⟩
        case measure => simp [intOf]; omega
      · have HNo := HNo0
        rw [decide_eq_false hzn] at HNo
        have HCj : Hid (cntTo G (j + 1) = j + 1) := hid (by rw [HCn.out, if_neg hzn])
        generalize z.2.2.2.length = zl at HExt HNo HNo0 HCn hzn
        clear HNo0 HCn hzn
        go_wp2_with (first
          | (have := H5; go_at_call 75; go_must (refine (HNo.out _).mono ?_); rintro e w6 ⟨rfl, hb⟩; have H6 := hid (HB.out.trans ((H5.out.2.trans (hb.mono H5.out.2.size)).mono HB.out.size)); clear hb u0 u1 u2 u3 u4 u5 u6 u7 u8)
          | (refine wl_store_blk rfl 52 _ _ rfl wr.heap.size 0 rfl #[.int .i64 z.1, .int .i64 z.2.1, .int .i64 z.2.2.1.c, .int .i64 z.2.2.1.st, .int .i64 z.2.2.1.k, .string z.2.2.1.key, .float .f64 z.2.2.1.b, .int .i64 z.2.2.1.id, .slice az zl kz] rfl [.int .i64 0, .int .i64 0, .int .i64 0, .int .i64 0, .int .i64 0, .string ⟨#[]⟩, .float .f64 0, .int .i64 0, .slice none 0 0] 52 (heap_alloc_last wr _) (by simp) (by kernel_rfl) (by simp [Value.oneCell']) ?_; intro w5 Hz; go_must (have H5 : Hid (BxAt w5 wr.heap.size [.int .i64 z.1, .int .i64 z.2.1, .int .i64 z.2.2.1.c, .int .i64 z.2.2.1.st, .int .i64 z.2.2.1.k, .string z.2.2.1.key, .float .f64 z.2.2.1.b, .int .i64 z.2.2.1.id, .slice az zl kz] 52 ∧ Below wr.heap.size wr w5) := hid ⟨Hz.out.1, Hz.out.2.below ((Below.refl wr.heap.size wr).alloc (Nat.le_refl _) _) (Nat.le_refl _)⟩); clear Hz; have u0 := H5.out.1.cell 0 _ rfl; have u1 := H5.out.1.cell 1 _ rfl; have u2 := H5.out.1.cell 2 _ rfl; have u3 := H5.out.1.cell 3 _ rfl; have u4 := H5.out.1.cell 4 _ rfl; have u5 := H5.out.1.cell 5 _ rfl; have u6 := H5.out.1.cell 6 _ rfl; have u7 := H5.out.1.cell 7 _ rfl; have u8 := H5.out.1.cell 8 _ rfl)
          | (refine wl_index_agg rfl 86 _ _ rfl A rfl .i64 (j : Int) rfl 4 52 (by kernel_rfl) _ Try.underlying52 rfl 9 (by kernel_rfl) hj0 hj1 #[.int .i64 z.1, .int .i64 z.2.1, .int .i64 z.2.2.1.c, .int .i64 z.2.2.1.st, .int .i64 z.2.2.1.k, .string z.2.2.1.key, .float .f64 z.2.2.1.b, .int .i64 z.2.2.1.id, .slice az zl kz] HExt.out ?_))
        go_roundw
        case rel => exact ⟨j + 1, by have := HJ.out; omega, by go_num, by rw [HCj.out]; go_num, H6.out⟩
        case measure => simp [intOf]; omega
end Go.Proofs.Ythoofboegchodaa
