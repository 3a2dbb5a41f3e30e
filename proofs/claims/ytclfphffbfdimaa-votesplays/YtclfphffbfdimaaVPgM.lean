/- The document's votes that are as one. -/
import Derived.Test.YtclfphffbfdimaaVPfM
import Derived.Test.YtclfphffbfdimaaKf1
namespace Go.Proofs.Ytclfphffbfdimaa
open Go.RowKit

set_option maxRecDepth 100000 in
set_option maxHeartbeats 1600000 in
theorem wlike_any (R : Nat → Prop) (g : Nat) (am : Option Addr) (cm : Nat) (y : Value) (ep : Int) (l : List Int) (xs : List RtM) (hml : l.length ≤ 10) (hxl : xs.length ≤ 1000) (VF : Int) (VT : ByteArray) (VN : List Int) (VS : List (Int × ByteArray)) (an : Option Addr) (cn : Nat) (a5 : Option Addr) (cs : Nat) (w : World) (h : DtA R w g am cm y ep l xs) (hbn : VN.length ≤ maxLen) (hbx : ∀ x ∈ xs, x.1.2.2.1.length ≤ maxLen) (hv : IntsIn w an VN) :
    Calls Try.prog 44 #[.pointer (some ⟨g, 0, none⟩), .agg #[.int .i64 VF, .string VT, .slice an VN.length cn, .slice a5 VS.length cs]] w fun e w' => ∃ u, e = .returned u ∧ OwnedV w.heap.size w w' u (likeX l xs (VF, VT, VN, VS)) := by
  obtain ⟨iv, hv0, hvz0, hvz1, hvz2⟩ := info_parts infoRV
  have hys : ∃ af cf, y = .slice af xs.length cf := by
    rcases h.row.2 with ⟨hv, h0⟩ | ⟨gg, cap2, cur, hv, _⟩
    · exact ⟨none, 0, by rw [hv, h0]⟩
    · exact ⟨_, _, hv⟩
  obtain ⟨af, cf, rfl⟩ := hys
  obtain ⟨wa, ea⟩ : ∃ wa, wa = w.alloc (.cells #[.int .i64 VF, .string VT, .slice an VN.length cn, .slice a5 VS.length cs] 85) := ⟨_, rfl⟩
  have hba : Below w.heap.size w wa := by rw [ea]; exact (Below.refl _ _).alloc (Nat.le_refl _) _
  have HA : Hid (DtA R wa g am cm (.slice af xs.length cf) ep l xs ∧ wa.heap[w.heap.size]? = some (.cells #[.int .i64 VF, .string VT, .slice an VN.length cn, .slice a5 VS.length cs] 85 (0, 0)) ∧ Below w.heap.size w wa ∧ IntsIn wa an VN) := hid ⟨h.keep hba, by rw [ea]; exact heap_alloc_last w _, hba, hv.keep hba (Nat.le_refl _)⟩
  have HE := hid ea
  have HL := hid (And.intro hml (And.intro hxl (And.intro hbn hbx)))
  have hl10 : (l.length : Int) ≤ 10 := by omega
  have hx1k : (xs.length : Int) ≤ 1000 := by omega
  clear h hv ea hba hml hxl hbn hbx
  go_enter Try.func44, Try.ntmps44
  go_wp2
  rw [← HE.out]
  go_loopw [5, 6] (fun o m wr => ∃ j : Nat, j ≤ l.length ∧ m = .int .i64 (j : Int) ∧ OwnedV wa.heap.size wa wr o (likeX (l.take j) xs (VF, VT, VN, VS))) (fun _ m _ => ((l.length : Int) - intOf m).toNat)
  case atStart => exact ⟨0, by omega, rfl, OwnedV.nil (Below.refl _ _) (Nat.le_refl _)⟩
  case round =>
    obtain ⟨j, hj, rfl, hst⟩ := hrel
    have hd := HA.out.1.keep hst.bel
    have k1 := cell_at (L := [_, _, _]) hd.blk 1 _ rfl
    have hj0 : (0 : Int) ≤ (j : Int) := Int.natCast_nonneg _
    by_cases hjn : j = l.length
    · have hj1 : ¬ ((j : Int) < (l.length : Int)) := by omega
      rw [List.take_of_length_le (by omega)] at hst
      have HS := hid hst
      clear hst hj hjn hd
      go_wp2
      go_ret
      exact ⟨_, rfl, ownsRow_low HS.out.own HA.out.2.2.1.size, HA.out.2.2.1.trans (HS.out.bel.mono HA.out.2.2.1.size), Nat.le_trans HA.out.2.2.1.size HS.out.le⟩
    · have hj1 : (j : Int) < (l.length : Int) := by omega
      have hjl : j < l.length := by omega
      have hlen := likeX_len xs (VF, VT, VN, VS) (l.take j)
      have HSu := hid (likeX_succ xs (VF, VT, VN, VS) l j hjl)
      have HJ := hid (And.intro hj hjn)
      obtain ⟨A, eA⟩ : ∃ A, A = likeX (l.take j) xs (VF, VT, VN, VS) := ⟨_, rfl⟩
      rw [← eA] at HSu hst hlen
      have HLa : Hid (A.length ≤ 10000) := hid (Nat.le_trans hlen (by
        have h1 : (l.take j).length ≤ 10 := by rw [List.length_take]; have := HL.out.1; omega
        exact Nat.le_trans (Nat.mul_le_mul h1 HL.out.2.1) (by decide)))
      obtain ⟨M, eM⟩ : ∃ M, M = l.getD j 0 := ⟨_, rfl⟩
      have HM := hid (And.intro eM hjl)
      rw [← eM] at HSu
      have HO := hid hst
      clear hst hd hj hjn eA eM hlen
      go_wp2
      clear k1
      go_loopw [5, 7] (fun o i ws => ∃ q : Nat, q ≤ xs.length ∧ i = .int .i64 (q : Int) ∧ OwnedV wa.heap.size wa ws o (A ++ (xs.take q).filter (pX M (VF, VT, VN, VS)))) (fun _ i _ => ((xs.length : Int) - intOf i).toNat)
      case atStart => exact ⟨0, by omega, rfl, by simpa using HO.out⟩
      case round =>
        obtain ⟨q, hq, rfl, hst⟩ := hrel
        have hd := HA.out.1.keep hst.bel
        have k2 := cell_at (L := [_, _, _]) hd.blk 2 _ rfl
        have hq0 : (0 : Int) ≤ (q : Int) := Int.natCast_nonneg _
        by_cases hqn : q = xs.length
        · have hq1 : ¬ ((q : Int) < (xs.length : Int)) := by omega
          rw [List.take_of_length_le (by omega)] at hst
          have HS := hid hst
          clear hst hq hqn hd
          go_wp2
          go_roundw
          case rel => exact ⟨j + 1, by have := HJ.out; omega, by go_num, by rw [HSu.out]; exact HS.out⟩
          case measure => simp [intOf]; omega
        · have hq1 : (q : Int) < (xs.length : Int) := by omega
          obtain ⟨x, hx⟩ : ∃ x, xs[q]? = some x := ⟨_, List.getElem?_eq_getElem (by omega)⟩
          obtain ⟨h0, h1, h2, h3⟩ := rtC_at xs q x hx
          have haf : ∃ gf, af = some ⟨gf, 0, none⟩ := by
            rcases hd.row.2 with ⟨hv, h0⟩ | ⟨gg, cap2, cur, hv, _⟩
            · exact absurd h0 (by omega)
            · cases hv; exact ⟨gg, rfl⟩
          obtain ⟨gf, rfl⟩ := haf
          have m0 := hd.row.cells (g := gf) rfl _ _ h0
          have m1 := hd.row.cells (g := gf) rfl _ _ h1
          have m2 := hd.row.cells (g := gf) rfl _ _ h2
          have m3 := hd.row.cells (g := gf) rfl _ _ h3
          rw [Addr.add_lit, Nat.zero_add] at m0 m1 m2 m3
          have hit := (hd.it x (List.mem_of_getElem? hx)).1.1
          have hxb := HL.out.2.2.2 x (List.mem_of_getElem? hx)
          have HFs := hid (filter_succ (pX M (VF, VT, VN, VS)) xs q x hx)
          have HQ := hid (And.intro hq hqn)
          obtain ⟨⟨F, T, X, Y⟩, ⟨ax, kx⟩, ⟨ay, ky⟩⟩ := x
          have HI := hid (And.intro hit hxb)
          obtain ⟨L, eL⟩ : ∃ L, L = A ++ (xs.take q).filter (pX M (VF, VT, VN, VS)) := ⟨_, rfl⟩
          have hLl : L.length ≤ 11000 := by
            rw [eL, List.length_append]
            have h1 := List.length_filter_le (pX M (VF, VT, VN, VS)) (xs.take q)
            have h2 : (xs.take q).length ≤ xs.length := by rw [List.length_take]; omega
            have := HLa.out
            have := HL.out.2.1
            omega
          have HLl := hid hLl
          rw [← eL] at hst
          have HFi0 : Hid (A ++ (xs.take (q + 1)).filter (pX M (VF, VT, VN, VS)) = L ++ (if pX M (VF, VT, VN, VS) (((F, T, X, Y), (ax, kx), (ay, ky)) : RtM) then [(((F, T, X, Y), (ax, kx), (ay, ky)) : RtM)] else [])) := hid (by rw [HFs.out, ← List.append_assoc, ← eL])
          obtain ⟨ao, co, rfl⟩ := hst.slice
          obtain ⟨ga, off, rfl, hga, hcell⟩ := HA.out.1.im.at j _ (getD_some HM.out.2)
          rw [← HM.out.1] at hcell
          obtain ⟨wb, eb⟩ : ∃ wb, wb = wr.alloc (.cells #[.int .i64 F, .string T, .slice ax X.length kx, .slice ay Y.length ky] 85) := ⟨_, rfl⟩
          have hbb : Below wr.heap.size wr wb := by rw [eb]; exact (Below.refl _ _).alloc (Nat.le_refl _) _
          have HW : Hid (OwnedV wa.heap.size wa wb (.slice ao L.length co) L ∧ wb.heap[wr.heap.size]? = some (.cells #[.int .i64 F, .string T, .slice ax X.length kx, .slice ay Y.length ky] 85 (0, 0)) ∧ IntsIn wb ax X ∧ DtA R wb g (some ⟨ga, off, none⟩) cm (.slice (some ⟨gf, 0, none⟩) xs.length cf) ep l xs ∧ Below wa.heap.size wa wb) := hid ⟨hst.keep hbb, by rw [eb]; exact heap_alloc_last wr _, HI.out.1.keep hbb (Nat.le_refl _), hd.keep hbb, hst.bel.trans (hbb.mono hst.le)⟩
          have HEb := hid eb
          have HGa := hid (And.intro hga hcell)
          clear hst hd hq hqn hx h0 h1 h2 h3 hit hxb eL eb hbb hga hcell hLl
          go_wp2_with fail
          rw [← HEb.out]
          obtain ⟨pb, epb⟩ : ∃ pb, pb = wr.heap.size := ⟨_, rfl⟩
          rw [← epb]
          have HPb := hid epb
          have HSi : Hid (∀ u : World, Below wb.heap.size wb u → Calls Try.prog 46 #[.slice ax X.length kx, .slice an VN.length cn] u fun e w' => e = .returned (.bool (decide (X = VN))) ∧ Below u.heap.size u w') := hid (fun u hu => sameInts_dec ax an _ _ kx cn X VN rfl rfl HI.out.2 HL.out.2.2.1 u (HW.out.2.2.1.keep hu (Nat.le_refl _)) ((HA.out.2.2.2.keep HW.out.2.2.2.2 (Nat.le_refl _)).keep hu (Nat.le_refl _)))
          have p0 : ∀ cx : Cls wb, cx.1.cell? ⟨pb, 0, none⟩ = some (.int .i64 F) := fun cx => cell_at (L := [_, _, _, _]) ((cx.2.block _ (by rw [HPb.out]; exact lt_of_blk HW.out.2.1)).trans (by rw [HPb.out]; exact HW.out.2.1)) 0 _ rfl
          have p1 : ∀ cx : Cls wb, cx.1.cell? ⟨pb, 1, none⟩ = some (.string T) := fun cx => cell_at (L := [_, _, _, _]) ((cx.2.block _ (by rw [HPb.out]; exact lt_of_blk HW.out.2.1)).trans (by rw [HPb.out]; exact HW.out.2.1)) 1 _ rfl
          have p2 : ∀ cx : Cls wb, cx.1.cell? ⟨pb, 2, none⟩ = some (.slice ax X.length kx) := fun cx => cell_at (L := [_, _, _, _]) ((cx.2.block _ (by rw [HPb.out]; exact lt_of_blk HW.out.2.1)).trans (by rw [HPb.out]; exact HW.out.2.1)) 2 _ rfl
          have p3 : ∀ cx : Cls wb, cx.1.cell? ⟨pb, 3, none⟩ = some (.slice ay Y.length ky) := fun cx => cell_at (L := [_, _, _, _]) ((cx.2.block _ (by rw [HPb.out]; exact lt_of_blk HW.out.2.1)).trans (by rw [HPb.out]; exact HW.out.2.1)) 3 _ rfl
          have HVb : Hid (∀ cx : Cls wb, cx.1.heap[w.heap.size]? = some (.cells #[.int .i64 VF, .string VT, .slice an VN.length cn, .slice a5 VS.length cs] 85 (0, 0))) := hid (fun cx => by
            have h1 := (HW.out.2.2.2.2.block _ (lt_of_blk HA.out.2.1)).trans HA.out.2.1
            exact (cx.2.block _ (lt_of_blk h1)).trans h1)
          have v1 : ∀ cx : Cls wb, cx.1.cell? ⟨w.heap.size, 1, none⟩ = some (.string VT) := fun cx => cell_at (L := [_, _, _, _]) (HVb.out cx) 1 _ rfl
          have v2 : ∀ cx : Cls wb, cx.1.cell? ⟨w.heap.size, 2, none⟩ = some (.slice an VN.length cn) := fun cx => cell_at (L := [_, _, _, _]) (HVb.out cx) 2 _ rfl
          have g1 : ∀ cx : Cls wb, cx.1.cell? ⟨g, 1, none⟩ = some (.slice (some ⟨ga, off, none⟩) l.length cm) := fun cx => cell_at (L := [_, _, _]) (HW.out.2.2.2.1.keep cx.2).blk 1 _ rfl
          have gj : ∀ cx : Cls wb, cx.1.cell? ⟨ga, off + j, none⟩ = some (.int .i64 M) := fun cx => (cx.2.cell (p := ⟨ga, off + j, none⟩) (Nat.lt_of_lt_of_le HGa.out.1 (Nat.le_trans HW.out.2.2.2.2.size (Nat.le_refl _)))).trans ((HW.out.2.2.2.2.cell (p := ⟨ga, off + j, none⟩) HGa.out.1).trans HGa.out.2)
          clear m0 m1 m2 m3 k2 epb
          by_cases hf : ¬ F = M
          · have hb : (F == M) = false := by simpa using hf
            have HFi : Hid (A ++ (xs.take (q + 1)).filter (pX M (VF, VT, VN, VS)) = L ++ []) := hid (by rw [HFi0.out, if_neg (by simp [pX, hf])])
            clear hf
            haveI := Cls.ne wb
            refine wp_region_cls wb (by kernel_rfl) (by kernel_rfl) ?_
            repeat (go_big_quiet_step ((go_at_call 46; exact Cls.of _ (fun u hu => HSi.out u hu))))
            refine wpQuiet_nil ?_
            rintro _ ⟨cx, rfl⟩
            go_wp2
            go_roundw
            case rel => exact ⟨q + 1, by have := HQ.out; omega, by go_num, by rw [HFi.out, List.append_nil]; exact HW.out.1.keep cx.2⟩
            case measure => simp [intOf]; omega
          have hf : F = M := Classical.not_not.1 hf
          have hb : (F == M) = true := by simpa using hf
          by_cases htx : ¬ T = VT
          · have hb2 : (T.toList == VT.toList) = false := by
              cases e : (T.toList == VT.toList) with
              | false => rfl
              | true => simp only [ByteArray.toList_eq, beq_iff_eq] at e; exact absurd (bytes_eq e) htx
            have HFi : Hid (A ++ (xs.take (q + 1)).filter (pX M (VF, VT, VN, VS)) = L ++ []) := hid (by rw [HFi0.out, if_neg (by simp [pX, htx])])
            clear hf htx
            haveI := Cls.ne wb
            refine wp_region_cls wb (by kernel_rfl) (by kernel_rfl) ?_
            repeat (go_big_quiet_step ((go_at_call 46; exact Cls.of _ (fun u hu => HSi.out u hu))))
            refine wpQuiet_nil ?_
            rintro _ ⟨cx, rfl⟩
            go_wp2
            go_roundw
            case rel => exact ⟨q + 1, by have := HQ.out; omega, by go_num, by rw [HFi.out, List.append_nil]; exact HW.out.1.keep cx.2⟩
            case measure => simp [intOf]; omega
          have htx : T = VT := Classical.not_not.1 htx
          have hb2 : (T.toList == VT.toList) = true := by rw [htx]; simp
          by_cases hnx : ¬ X = VN
          · rw [decide_eq_false hnx] at HSi
            have HFi : Hid (A ++ (xs.take (q + 1)).filter (pX M (VF, VT, VN, VS)) = L ++ []) := hid (by rw [HFi0.out, if_neg (by simp [pX, hnx])])
            clear hf htx hnx
            haveI := Cls.ne wb
            refine wp_region_cls wb (by kernel_rfl) (by kernel_rfl) ?_
            repeat (go_big_quiet_step ((go_at_call 46; exact Cls.of _ (fun u hu => HSi.out u hu))))
            refine wpQuiet_nil ?_
            rintro _ ⟨cx, rfl⟩
            go_wp2
            go_roundw
            case rel => exact ⟨q + 1, by have := HQ.out; omega, by go_num, by rw [HFi.out, List.append_nil]; exact HW.out.1.keep cx.2⟩
            case measure => simp [intOf]; omega
          have hnx : X = VN := Classical.not_not.1 hnx
          rw [decide_eq_true hnx] at HSi
          have HFi : Hid (A ++ (xs.take (q + 1)).filter (pX M (VF, VT, VN, VS)) = L ++ [(((F, T, X, Y), (ax, kx), (ay, ky)) : RtM)]) := hid (by rw [HFi0.out, if_pos (by simp [pX, hf, htx, hnx])])
          clear hf htx hnx
          haveI := Cls.ne wb
          refine wp_region_cls wb (by kernel_rfl) (by kernel_rfl) ?_
          repeat (go_big_quiet_step ((go_at_call 46; exact Cls.of _ (fun u hu => HSi.out u hu))))
          refine wpQuiet_nil ?_
          rintro _ ⟨cx, rfl⟩
          have P0 := p0 cx
          have P1 := p1 cx
          have P2 := p2 cx
          have P3 := p3 cx
          clear p0 p1 p2 p3 v1 v2 g1 gj
          go_wp2_with (at_builtin; refine wpList_append_own_at _ rfl _ _ 43 rfl wa.heap.size 85 iv (.agg #[.int .i64 0, .string ⟨#[]⟩, .slice none 0 0, .slice none 0 0]) 4 72 undRV hv0 hvz0 hvz1 hvz2 rfl (by decide) _ L.length _ rfl (by exact ((HW.out.1.keep cx.2).own.alloc _)) ⟨_, 0, none⟩ 1 1 (rvC (((F, T, X, Y), (ax, kx), (ay, ky)) : RtM)) rfl rfl (World.news_of_block (t := 85) (fr := (0, 0)) (heap_alloc_last _ _)) (by simp [rvC, Value.oneCell']) (by have := HLl.out; unfold maxLen; omega) (by have := HLl.out; omega) (by have := (HW.out.1.keep cx.2).le; simp; omega) ?_; intro v9 w9 hown9 hgrow9 hnil9 hob9; go_must (have H9 : Hid (OwnedV wa.heap.size wa w9 v9 (L ++ [(((F, T, X, Y), (ax, kx), (ay, ky)) : RtM)])) := hid (((HW.out.1.keep cx.2).keep ((Below.refl _ _).alloc (Nat.le_refl _) _)).grow hown9 hgrow9); clear hown9 hgrow9 hnil9 hob9))
          go_roundw
          case rel => exact ⟨q + 1, by have := HQ.out; omega, by go_num, by rw [HFi.out]; exact H9.out⟩
          case measure => simp [intOf]; omega
end Go.Proofs.Ytclfphffbfdimaa
