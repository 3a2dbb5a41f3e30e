/- Texts laid together: LrR LrS LrT. -/
import Derived.Test.YtecidbdbdnnglaaGreatMy9
import Derived.Test.YtecidbdbdnnglaaGreatTxAM
import Derived.Test.YtecidbdbdnnglaaGreatMy5
import Derived.Test.YtecidbdbdnnglaaGreatMy11
/- The document's ledger as bytes: Text. -/
namespace Go.Proofs.YtecidbdbdnnglaaGreat
open Go.RowKit

theorem tx_keepR {lim : Int} {c : Nat} {w0 w w' : World} {l : List UInt8} (h : TxAt lim c w0 w l) (hb : Below w.heap.size w w') : TxAt lim c w0 w' l := by
  obtain ⟨⟨v, hv⟩, hz⟩ := h
  have hl := hv.lt
  refine ⟨⟨v, ⟨(hb.block c hl).trans hv.blk, ?_⟩⟩, hz.trans (hb.mono (Nat.le_of_lt hl))⟩
  exact own_stay hv.own (fun k _ h2 => hb.block k h2)
theorem itsB_snocR (L : List Kb) (j : Nat) (hj : j < L.length) : itsB (L.take (j + 1)) = itsB (L.take j) ++ itB (L.getD j (kEm, 0)) := by
  rw [take_snocR hj, itsB_app, itsB_cons]
  show _ ++ (itB _ ++ []) = _
  rw [List.append_nil]
theorem desB_snocR {s : Ls} (h8 : s.lst.length = 8) (j : Nat) (hj : j < 8) : desB (s.lst.take (j + 1)) = desB (s.lst.take j) ++ dtB (deT (s.at j)) := by
  rw [List.take_add_one, at_get h8 hj, desB_app]
  show _ ++ (dtB (deT (s.at j)) ++ []) = _
  rw [List.append_nil]
theorem itsB_takeR (L : List Kb) (h : ∀ y, y ∈ L → y.1.size ≤ 16) (j : Nat) (hl : L.length ≤ 16) : (itsB (L.take j)).length ≤ 416 := by
  have h1 := itsB_len (L.take j) (fun y hy => h y (List.mem_of_mem_take hy))
  have h2 : (L.take j).length ≤ L.length := by rw [List.length_take]; omega
  omega
theorem desB_takeR {s : Ls} (hok : LOk s) (j : Nat) : (desB (s.lst.take j)).length ≤ 120 := by
  have h1 := desB_len (s.lst.take j) (fun d hd => (hok.deeds d (List.mem_of_mem_take hd)).2.1)
  have h2 : (s.lst.take j).length ≤ s.lst.length := by rw [List.length_take]; omega
  have h3 := hok.eight
  omega
set_option maxRecDepth 100000 in
set_option maxHeartbeats 6400000 in
theorem wtx_any {w : World} {g gs gr : Nat} {am an ai : Option Addr} {cm cn ci : Nat} {s : Ls} (h : LrA w g gs gr am an ai cm cn ci s) (hok : LOk s) :
    Calls Tryz.prog 31 #[.pointer (some ⟨g, 0, none⟩)] w fun e w' => e = .returned (.string (lgT s)) ∧ Below w.heap.size w w' := by
  have H := hid h
  have hml := mem_len hok.mem
  have hnl := mem_len hok.nx
  obtain ⟨T, eT⟩ : ∃ T, T = textC (s.ep : Int) s.mem := ⟨_, rfl⟩
  have hTs : T.size ≤ 14 := by rw [eT, textC_size hok.cf]; omega
  have HVt : Hid (∀ u : World, LrA u g gs gr am an ai cm cn ci s → Calls Tryz.prog 74 #[.agg #[.int .i64 (s.ep : Int), .slice am s.mem.length cm]] u fun e w' => e = .returned (.tuple #[.string T, .int .i64 0]) ∧ Below u.heap.size u w') := hid (fun u k => by
    have := vtext_any (s.ep : Int) am s.mem.length cm s.mem rfl (by unfold maxLen; omega) u k.im
    rw [show textE (s.ep : Int) s.mem = 0 by rw [textE, hok.cf]; rfl, ← eT] at this
    exact this)
  obtain ⟨n, en⟩ : ∃ n, n = s.nxt.length := ⟨_, rfl⟩
  obtain ⟨D, eD⟩ : ∃ n, n = s.dn := ⟨_, rfl⟩
  obtain ⟨K, eK⟩ : ∃ n, n = s.its.length := ⟨_, rfl⟩
  have hn10 : n ≤ 10 := by omega
  have hK16 : K ≤ 16 := by have := hok.few; omega
  have hD : D < 4294967296 := by have := hok.hi; have := hok.ep; omega
  have hni : (n : Int) ≤ 10 := by omega
  have hKi : (K : Int) ≤ 16 := by omega
  obtain ⟨P1, eP1⟩ : ∃ l, l = be 1 76 := ⟨_, rfl⟩
  obtain ⟨P2, eP2⟩ : ∃ l, l = P1 ++ (be 2 T.size ++ T.data.toList) := ⟨_, rfl⟩
  obtain ⟨P3, eP3⟩ : ∃ l, l = P2 ++ be 1 n := ⟨_, rfl⟩
  obtain ⟨P4, eP4⟩ : ∃ l, l = P3 ++ memBytes s.nxt := ⟨_, rfl⟩
  obtain ⟨P5, eP5⟩ : ∃ l, l = P4 ++ be 4 D := ⟨_, rfl⟩
  obtain ⟨P6, eP6⟩ : ∃ l, l = P5 ++ be 1 K := ⟨_, rfl⟩
  obtain ⟨P7, eP7⟩ : ∃ l, l = P6 ++ itsB s.its := ⟨_, rfl⟩
  have l1 : P1.length = 1 := by rw [eP1, be_len]
  have l2 : P2.length ≤ 17 := by rw [eP2, List.length_append, List.length_append, be_len, data_len]; omega
  have l3 : P3.length ≤ 18 := by rw [eP3, List.length_append, be_len]; omega
  have l4 : P4.length ≤ 28 := by rw [eP4, List.length_append, memBytes_len]; omega
  have l5 : P5.length ≤ 32 := by rw [eP5, List.length_append, be_len]; omega
  have l6 : P6.length ≤ 33 := by rw [eP6, List.length_append, be_len]; omega
  have l7 : P7.length ≤ 449 := by
    rw [eP7, List.length_append]
    have := itsB_takeR s.its (fun y hy => (hok.keys y hy).1.2) s.its.length hok.few
    rw [List.take_length] at this
    omega
  have HL := hid (And.intro l1 (And.intro l2 (And.intro l3 (And.intro l4 (And.intro l5 (And.intro l6 l7))))))
  have HP := hid (And.intro eP1 (And.intro eP2 (And.intro eP3 (And.intro eP4 (And.intro eP5 (And.intro eP6 eP7))))))
  have HAll : Hid (P7 ++ desB s.lst = lgL s) := hid (by
    rw [eP7, eP6, eP5, eP4, eP3, eP2, eP1, lgL, eT, en, eD, eK]
    simp only [List.append_assoc])
  have HB := hid (And.intro hn10 (And.intro hK16 (And.intro hD hTs)))
  have HOk := hid hok
  have HNe := hid (And.intro en (And.intro eD eK))
  have HC : Hid (∀ u : World, LrA u g gs gr am an ai cm cn ci s → (u.cell? ⟨g, 0, none⟩ = some (.int .i64 (s.ep : Int)) ∧ u.cell? ⟨g, 1, none⟩ = some (.slice am s.mem.length cm)) ∧ u.cell? ⟨g, 2, none⟩ = some (.slice an n cn) ∧ u.cell? ⟨g, 3, none⟩ = some (.int .i64 (D : Int)) ∧ u.cell? ⟨g, 4, none⟩ = some (.slice ai K ci) ∧ u.cell? ⟨g, 5, none⟩ = some (.slice (some ⟨gs, 0, none⟩) 9 9) ∧ u.cell? ⟨g, 6, none⟩ = some (.slice (some ⟨gr, 0, none⟩) 9 9)) := hid (fun u k => by rw [en, eD, eK]; exact ⟨⟨k.c0, k.c1⟩, k.c2, k.c3, k.c4, k.c5, k.c6⟩)
  have HK : Hid (∀ (u : World) (l : List UInt8), TxAt 1048576 w.heap.size w u l → LrA u g gs gr am an ai cm cn ci s) := hid (fun u l hu => h.keep hu.2)
  clear h hok hml hnl eT en eD eK hn10 hK16 hD hTs l1 l2 l3 l4 l5 l6 l7 eP1 eP2 eP3 eP4 eP5 eP6 eP7
  obtain ⟨V, eV⟩ : ∃ V, V = lgT s := ⟨_, rfl⟩
  have HV := hid eV
  rw [← eV]
  clear eV
  go_enter Tryz.func31, Tryz.ntmps31
  go_wp2_with (first
    | (go_at_call 73; have := H4; refine (txnum 1048576 (by decide) (by decide) _ w _ P2 n 1 (by decide) (by have := HB.out; omega) (by have := HL.out; omega) H4.out).mono ?_; rintro e w5 ⟨rfl, hq⟩; have H5 : Hid (TxAt 1048576 w.heap.size w w5 P3) := hid (by rw [HP.out.2.2.1]; exact hq); clear hq; clear c0 c1 c2 c3 c4 c5 c6)
    | (go_at_call 75; have := H3; refine (txtext 1048576 (by decide) (by decide) _ w _ P1 T (by have := HB.out; omega) (by have := HL.out; have := HB.out; omega) H3.out).mono ?_; rintro e w4 ⟨rfl, hq⟩; have H4 : Hid (TxAt 1048576 w.heap.size w w4 P2) := hid (by rw [HP.out.2.1]; exact hq); clear hq; clear c0 c1 c2 c3 c4 c5 c6; obtain ⟨⟨c0, c1⟩, c2, c3, c4, c5, c6⟩ := HC.out _ (HK.out _ _ H4.out))
    | (go_at_call 74; have := H2; refine (HVt.out _ (HK.out _ _ H2.out)).mono ?_; rintro e w3 ⟨rfl, hq⟩; have H3 := hid (tx_keepR H2.out hq); clear hq)
    | (go_at_call 73; have := H1; refine (txnum 1048576 (by decide) (by decide) _ w _ [] 76 1 (by decide) (by decide) (by decide) H1.out).mono ?_; rintro e w2 ⟨rfl, hq⟩; have H2 : Hid (TxAt 1048576 w.heap.size w w2 P1) := hid (by rw [HP.out.1]; exact hq); clear hq; obtain ⟨⟨c0, c1⟩, c2, c3, c4, c5, c6⟩ := HC.out _ (HK.out _ _ H2.out))
    | (go_at_call 72; refine (txnew 1048576 (by decide) _).mono ?_; rintro e w1 ⟨rfl, hq⟩; have H1 := hid hq; clear hq))
  clear this
  go_loopw [6] (fun i wr => ∃ j : Nat, j ≤ n ∧ i = .int .i64 (j : Int) ∧ TxAt 1048576 w.heap.size w wr (P3 ++ memBytes (s.nxt.take j)))
    (fun i _ => ((n : Int) - intOf i).toNat)
  case atStart => exact ⟨0, Nat.zero_le _, rfl, by rw [List.take_zero, show memBytes [] = [] from rfl, List.append_nil]; exact H5.out⟩
  case round =>
    obtain ⟨j, hj, rfl, hO⟩ := hrel
    have HO := hid hO
    clear hO
    have hj0 : (0 : Int) ≤ (j : Int) := Int.natCast_nonneg _
    obtain ⟨⟨c0, c1⟩, c2, c3, c4, c5, c6⟩ := HC.out _ (HK.out _ _ HO.out)
    by_cases hjn : j = n
    · have hj1 : ¬ ((j : Int) < (n : Int)) := by omega
      have H6 : Hid (TxAt 1048576 w.heap.size w wr P4) := hid (by have h := HO.out; rw [hjn, HNe.out.1, List.take_length] at h; rw [HP.out.2.2.2.1]; exact h)
      clear hj hjn
      go_wp2_with (first
        | (go_at_call 73; have := H7; refine (txnum 1048576 (by decide) (by decide) _ w _ P5 K 1 (by decide) (by have := HB.out; omega) (by have := HL.out; omega) H7.out).mono ?_; rintro e w8 ⟨rfl, hq⟩; have H8 : Hid (TxAt 1048576 w.heap.size w w8 P6) := hid (by rw [HP.out.2.2.2.2.2.1]; exact hq); clear hq; clear c0 c1 c2 c3 c4 c5 c6)
        | (go_at_call 73; have := H6; refine (txnum 1048576 (by decide) (by decide) _ w _ P4 D 4 (by decide) HB.out.2.2.1 (by have := HL.out; omega) H6.out).mono ?_; rintro e w7 ⟨rfl, hq⟩; have H7 : Hid (TxAt 1048576 w.heap.size w w7 P5) := hid (by rw [HP.out.2.2.2.2.1]; exact hq); clear hq; clear c0 c1 c2 c3 c4 c5 c6; obtain ⟨⟨c0, c1⟩, c2, c3, c4, c5, c6⟩ := HC.out _ (HK.out _ _ H7.out)))
      clear this
      go_loopw [7] (fun i wr => ∃ j : Nat, j ≤ K ∧ i = .int .i64 (j : Int) ∧ TxAt 1048576 w.heap.size w wr (P6 ++ itsB (s.its.take j)))
        (fun i _ => ((K : Int) - intOf i).toNat)
      case atStart => exact ⟨0, Nat.zero_le _, rfl, by rw [List.take_zero, show itsB [] = [] from rfl, List.append_nil]; exact H8.out⟩
      case round =>
        obtain ⟨j, hj, rfl, hO⟩ := hrel
        have HO := hid hO
        clear hO
        have hj0 : (0 : Int) ≤ (j : Int) := Int.natCast_nonneg _
        obtain ⟨⟨c0, c1⟩, c2, c3, c4, c5, c6⟩ := HC.out _ (HK.out _ _ HO.out)
        by_cases hjn : j = K
        · have hj1 : ¬ ((j : Int) < (K : Int)) := by omega
          have H9 : Hid (TxAt 1048576 w.heap.size w wr P7) := hid (by have h := HO.out; rw [hjn, HNe.out.2.2, List.take_length] at h; rw [HP.out.2.2.2.2.2.2]; exact h)
          clear hj hjn
          go_wp2
          go_loopw [8] (fun i wr => ∃ j : Nat, j ≤ 8 ∧ i = .int .i64 ((j : Int) + 1) ∧ TxAt 1048576 w.heap.size w wr (P7 ++ desB (s.lst.take j)))
            (fun i _ => ((9 : Int) - intOf i).toNat)
          case atStart => exact ⟨0, Nat.zero_le _, rfl, by rw [List.take_zero, show desB [] = [] from rfl, List.append_nil]; exact H9.out⟩
          case round =>
            obtain ⟨j, hj, rfl, hO⟩ := hrel
            have HO := hid hO
            clear hO
            have hj0 : (0 : Int) ≤ (j : Int) := Int.natCast_nonneg _
            obtain ⟨⟨c0, c1⟩, c2, c3, c4, c5, c6⟩ := HC.out _ (HK.out _ _ HO.out)
            by_cases hjn : j = 8
            · have hj1 : ¬ (((j : Int) + 1) ≤ 8) := by omega
              have H10 : Hid (TxAt 1048576 w.heap.size w wr (lgL s)) := hid (by have h := HO.out; rw [hjn, List.take_of_length_le (by rw [HOk.out.eight]; exact Nat.le_refl _), HAll.out] at h; exact h)
              clear hj hjn
              go_wp2_with (go_at_call 78; refine (txdone 1048576 _ w _ _ H10.out).mono ?_; rintro e w11 ⟨rfl, hq⟩; have H11 := hid hq; clear hq)
              go_ret
              exact ⟨by rw [HV.out]; rfl, H11.out⟩
            · have hj8 : j < 8 := by omega
              have HS := hid (desB_snocR HOk.out.eight j hj8)
              have HD := hid (HOk.out.at hj8).1
              have hcr := fun (u : World) (l : List UInt8) (hu : TxAt 1048576 w.heap.size w u l) => And.intro ((HK.out _ _ hu).cs j hj8) (And.intro ((HK.out _ _ hu).cr j hj8) (HC.out _ (HK.out _ _ hu)).2.2.2.2)
              have HLd : Hid ((P7 ++ desB (s.lst.take j)).length ≤ 1000) := hid (by rw [List.length_append]; have := desB_takeR HOk.out j; have := HL.out; omega)
              generalize s.at j = d at HS HD hcr
              obtain ⟨q, eq⟩ : ∃ q : Nat, q = j + 1 := ⟨_, rfl⟩
              rw [← eq] at hcr
              have HCr := hid hcr
              obtain ⟨k1, ⟨k2, k3⟩, _, _⟩ := HCr.out _ _ HO.out
              have hq1 : ((j : Int) + 1) = (q : Int) := by omega
              have hq0 : (0 : Int) ≤ (q : Int) := Int.natCast_nonneg _
              have hq9 : (q : Int) < 9 := by omega
              have hq8 : (q : Int) ≤ 8 := by omega
              have HJ := hid (And.intro hj8 eq)
              have HRt : Hid (∀ u : World, Calls Tryz.prog 77 #[.agg #[.int .i64 d.2.1, .float .f64 d.2.2]] u fun e w' => e = .returned (.tuple #[.string (rsT d.2.1 d.2.2), .int .i64 0]) ∧ Below u.heap.size u w') := hid (fun u => by have := qresultText_any d.2.1 d.2.2 HD.out.2.2.2.1 u; rw [show rsE d.2.1 = 0 by rw [rsE, HD.out.2.1]; rfl] at this; exact this)
              have HRs : Hid ((rsT d.2.1 d.2.2).size = 9) := hid (rsT_size HD.out.2.1)
              have HSt : Hid (d.1 < 4294967296) := hid (by have := HD.out.1; omega)
              rw [hq1]
              generalize desB (s.lst.take j) = Q at HO HS HLd
              clear hj hjn hj8 eq hcr hq1 hj0
              go_wp2_with (first
                | (go_at_call 75; have := H12; refine (txtext 1048576 (by decide) (by decide) _ w _ (P7 ++ Q ++ be 4 d.1) (rsT d.2.1 d.2.2) (by have := HRs.out; omega) (by rw [List.length_append, be_len]; have := HLd.out; have := HRs.out; omega) H12.out).mono ?_; rintro e w13 ⟨rfl, hq⟩; have H13 := hid hq; clear hq)
                | (go_at_call 77; have := H11; refine (HRt.out _).mono ?_; rintro e w12 ⟨rfl, hq⟩; have H12 := hid (tx_keepR H11.out hq); clear hq)
                | (go_at_call 73; refine (txnum 1048576 (by decide) (by decide) _ w _ (P7 ++ Q) d.1 4 (by decide) HSt.out (by have := HLd.out; omega) HO.out).mono ?_; rintro e w11 ⟨rfl, hq⟩; have H11 := hid hq; clear hq c0 c1 c2 c3 c4 c5 c6 k1 k2 k3; obtain ⟨k1, ⟨k2, k3⟩, c5, c6⟩ := HCr.out _ _ H11.out))
              go_roundw
              case rel => exact ⟨j + 1, by have := HJ.out; omega, by have := HJ.out; go_num, by rw [HS.out, dtB, deT]; have := H13.out; simpa only [List.append_assoc] using this⟩
              case measure => have := HJ.out; simp [intOf]; omega
        · have hj1 : (j : Int) < (K : Int) := by omega
          have hjl : j < s.its.length := by have := HNe.out; omega
          have HJ := hid (And.intro hj hjn)
          obtain ⟨ga, off, rfl, hc1, hc2⟩ := (HK.out _ _ HO.out).it.at j _ (getK_atR hjl)
          have HS := hid (itsB_snocR s.its j hjl)
          have HX : Hid ((s.its.getD j (kEm, 0)).1.size ≤ 16 ∧ (s.its.getD j (kEm, 0)).2 < 18446744073709551616 ∧ P6.length + (itsB (s.its.take j)).length ≤ 1000) := hid (by
            have hm : s.its.getD j (kEm, 0) ∈ s.its := List.mem_of_getElem? (getK_atR hjl)
            have h1 := HOk.out.keys _ hm
            have h2 := itsB_takeR s.its (fun y hy => (HOk.out.keys y hy).1.2) j HOk.out.few
            exact ⟨h1.1.2, h1.2.2, by have := HL.out; omega⟩)
          have HCk : Hid (∀ (u : World) (l : List UInt8), TxAt 1048576 w.heap.size w u l → u.cell? ⟨ga, off + j * 2 + 1, none⟩ = some (.int .u64 ((s.its.getD j (kEm, 0)).2 : Int)) ∧ u.cell? ⟨g, 4, none⟩ = some (.slice (some ⟨ga, off, none⟩) K ci)) := hid (fun u l hu => by
            obtain ⟨g2, o2, e2, _, k2⟩ := (HK.out _ _ hu).it.at j _ (getK_atR hjl)
            cases e2
            exact ⟨k2, (HC.out _ (HK.out _ _ hu)).2.2.2.1⟩)
          generalize s.its.getD j (kEm, 0) = y at hc1 hc2 HS HX HCk
          generalize itsB (s.its.take j) = Q at HO HS HX
          clear hj hjn hjl
          go_wp2_with (first
            | (go_at_call 76; refine (txbits 1048576 (by decide) (by decide) _ w _ _ y.2 HX.out.2.1 (by simp only [List.length_append, be_len, data_len]; have := HX.out; omega) H9.out).mono ?_; rintro e w10 ⟨rfl, hq⟩; have H10 := hid hq; clear hq)
            | (go_at_call 75; refine (txtext 1048576 (by decide) (by decide) _ w _ (P6 ++ Q) y.1 (by have := HX.out; omega) (by simp only [List.length_append]; have := HX.out; omega) HO.out).mono ?_; rintro e w9 ⟨rfl, hq⟩; have H9 := hid hq; clear hq c0 c1 c2 c3 c4 c5 c6 hc1 hc2; obtain ⟨hc2, c4⟩ := HCk.out _ _ H9.out))
          go_roundw
          case rel => exact ⟨j + 1, by have := HJ.out; omega, by go_num, by rw [HS.out, itB]; have := H10.out; simpa only [List.append_assoc] using this⟩
          case measure => simp [intOf]; omega
    · have hj1 : (j : Int) < (n : Int) := by omega
      have hjl : j < s.nxt.length := by have := HNe.out; omega
      have HJ := hid (And.intro hj hjn)
      obtain ⟨ga, off, rfl, hc⟩ : ∃ ga off, an = some ⟨ga, off, none⟩ ∧ wr.cell? ⟨ga, off + j, none⟩ = some (.int .i64 (s.nxt.getD j 0)) := by
        rcases (HK.out _ _ HO.out).ix with e | ⟨ga, off, ha, _, hcc⟩
        · rw [e] at hjl; simp at hjl
        · exact ⟨ga, off, ha, hcc j _ (by rw [List.getD_eq_getElem?_getD, List.getElem?_eq_getElem hjl]; rfl)⟩
      have HS := hid (memBytes_snoc s.nxt j hjl)
      have hx := mem_in HOk.out.nx (s.nxt.getD j 0) (by rw [List.getD_eq_getElem?_getD, List.getElem?_eq_getElem hjl]; exact List.getElem_mem hjl)
      obtain ⟨X, eX⟩ : ∃ X : Nat, s.nxt.getD j 0 = (X : Int) := ⟨(s.nxt.getD j 0).toNat, by omega⟩
      rw [eX] at hc HS hx
      have HX : Hid (X < 256 ∧ ((P3 ++ memBytes (s.nxt.take j)).length : Int) + 1 ≤ 1048576) := hid ⟨by omega, by rw [List.length_append, memBytes_len, List.length_take]; have := HL.out; have := HB.out; have := HNe.out; omega⟩
      clear hj hjn hjl eX hx
      go_wp2_with (go_at_call 73; refine (txnum 1048576 (by decide) (by decide) _ w _ (P3 ++ memBytes (s.nxt.take j)) X 1 (by decide) HX.out.1 HX.out.2 HO.out).mono ?_; rintro e w6 ⟨rfl, hq⟩; have H6 := hid hq; clear hq)
      go_roundw
      case rel => exact ⟨j + 1, by have := HJ.out; omega, by go_num, by rw [HS.out, ← List.append_assoc]; exact H6.out⟩
      case measure => simp [intOf]; omega
theorem wtextT {F : List Nat} {w : World} {v : Value} {s : Ls} (h : LmAt F w v s) (hok : LOk s) : Calls Tryz.prog 31 #[v] w fun e w' => e = .returned (.string (lgT s)) ∧ Below w.heap.size w w' := by
  obtain ⟨g, gs, gr, am, an, ai, cm, cn, ci, rfl, rfl, h⟩ := h
  exact wtx_any h hok
end Go.Proofs.YtecidbdbdnnglaaGreat

/- The program's ledger and the document's, side by side. -/
namespace Go.Proofs.YtecidbdbdnnglaaGreat
open Go.RowKit

/-- The program's ledger at s, the document's at t, and what stays beside them. -/
structure Pr (w0 w : World) (L : List Nat) (R : World → Prop) (Fl : List Nat) (vl : Value) (s : Ls) (Fm : List Nat) (vm : Value) (t : Ls) : Prop where
  a : SgSt w0 w L R Fl vl s
  ld : LmAt Fm w vm t
  nm : ∀ b, b ∈ Fm → w0.heap.size ≤ b
  am : ∀ b, b ∈ Fm → b ∉ Fl
  lm : ∀ b, b ∈ L → b ∉ Fm
section
variable {w0 w w' : World} {L : List Nat} {R : World → Prop} {Fl Fm : List Nat} {vl vm : Value} {s t : Ls}
theorem Pr.keep (h : Pr w0 w L R Fl vl s Fm vm t) (hb : Below w.heap.size w w') : Pr w0 w' L R Fl vl s Fm vm t := ⟨h.a.keep hb, h.ld.keep hb, h.nm, h.am, h.lm⟩
theorem Pr.drew (h : Pr w0 w L R Fl vl s Fm vm t) : Pr w0 w.drew L R Fl vl s Fm vm t := h.keep (Below.refl _ _).drew
theorem Pr.bel (h : Pr w0 w L R Fl vl s Fm vm t) : Below w0.heap.size w0 w := h.a.lv.bel
theorem Pr.toL {s' : Ls} (h : Pr w0 w L R Fl vl s Fm vm t) (ht : LdTo Fl w w' vl s') : ∃ F', Pr w0 w' L R F' vl s' Fm vm t := by
  obtain ⟨F', h1, h2, h3⟩ := ht
  have hbl : Below w0.heap.size w0 w' := h.a.lv.bel.trans (h3.below h.a.lv.bel.size h.a.lv.new)
  refine ⟨F', ⟨⟨h1, fun b hb => ?_, hbl⟩, h.a.st, fun b hm => Nat.lt_of_lt_of_le (h.a.lt b hm) h3.size, h.a.st w w' h.a.r h3.size (fun b hm => h3.block b (h.a.lt b hm) (h.a.ap b hm)), fun b hm hF => ?_⟩, h.ld.out h3 h.am, h.nm, fun b hb ha => ?_, h.lm⟩
  · rcases h2 b hb with h4 | h4
    · exact h.a.lv.new b h4
    · exact Nat.le_trans h.a.lv.bel.size h4
  · rcases h2 b hF with h4 | h4
    · exact h.a.ap b hm h4
    · exact Nat.lt_irrefl _ (Nat.lt_of_lt_of_le (h.a.lt b hm) h4)
  · rcases h2 b ha with h4 | h4
    · exact h.am b hb h4
    · exact Nat.lt_irrefl _ (Nat.lt_of_lt_of_le (h.ld.lt b hb) h4)
theorem Pr.toM {t' : Ls} (h : Pr w0 w L R Fl vl s Fm vm t) (ht : LmTo Fm w w' vm t') : ∃ F', Pr w0 w' L R Fl vl s F' vm t' := by
  obtain ⟨F', h1, h2, h3⟩ := ht
  have hbl : Below w0.heap.size w0 w' := h.a.lv.bel.trans (h3.below h.a.lv.bel.size h.nm)
  refine ⟨F', ⟨⟨h.a.lv.ld.out h3 (fun b hl hm => h.am b hm hl), h.a.lv.new, hbl⟩, h.a.st, fun b hm => Nat.lt_of_lt_of_le (h.a.lt b hm) h3.size, h.a.st w w' h.a.r h3.size (fun b hm => h3.block b (h.a.lt b hm) (h.lm b hm)), h.a.ap⟩, h1, fun b hb => ?_, fun b hb hl => ?_, fun b hm hF => ?_⟩
  · rcases h2 b hb with h4 | h4
    · exact h.nm b h4
    · exact Nat.le_trans h.a.lv.bel.size h4
  · rcases h2 b hb with h4 | h4
    · exact h.am b h4 hl
    · exact Nat.lt_irrefl _ (Nat.lt_of_lt_of_le (h.a.lv.ld.lt b hl) h4)
  · rcases h2 b hF with h4 | h4
    · exact h.lm b hm h4
    · exact Nat.lt_irrefl _ (Nat.lt_of_lt_of_le (h.a.lt b hm) h4)
theorem Pr.fresh {S : World → Prop} (h : Pr w0 w L R Fl vl s Fm vm t) (hb : Below w.heap.size w w') (hs : Stable [w.heap.size] S) (hr : S w') (hl : w.heap.size < w'.heap.size) : Pr w0 w' ([w.heap.size] ++ L) (fun u => S u ∧ R u) Fl vl s Fm vm t :=
  ⟨h.a.fresh hb hs hr hl, h.ld.keep hb, h.nm, h.am, fun b hm hF => by
    rcases List.mem_append.1 hm with e | e
    · rw [List.mem_singleton.1 e] at hF; exact Nat.lt_irrefl _ (h.ld.lt _ hF)
    · exact h.lm b e hF⟩
theorem Pr.res (h : Pr w0 w L R Fl vl s Fm vm t) {c : Int} {f : Nat} (hz : RsAt w' w.heap.size c f ∧ One w.heap.size (w.alloc (.cells #[.int .i64 0, .float .f64 0] 50)) w') : Pr w0 w' ([w.heap.size] ++ L) (fun u => RsAt u w.heap.size c f ∧ R u) Fl vl s Fm vm t :=
  h.fresh (hz.2.below ((Below.refl w.heap.size w).alloc (Nat.le_refl _) _) (Nat.le_refl _)) (stable_rs _ c f) hz.1 (lt_of_blk hz.1)
theorem Pr.drop {M : List Nat} {S : World → Prop} (st : Stable L R) (h : Pr w0 w (M ++ L) (fun u => S u ∧ R u) Fl vl s Fm vm t) : Pr w0 w L R Fl vl s Fm vm t :=
  ⟨⟨h.a.lv, st, fun b hm => h.a.lt b (List.mem_append.2 (.inr hm)), h.a.r.2, fun b hm => h.a.ap b (List.mem_append.2 (.inr hm))⟩, h.ld, h.nm, h.am, fun b hm => h.lm b (List.mem_append.2 (.inr hm))⟩
/-- The last local variable is written. -/
theorem Pr.upd {b : Nat} {S S' : World → Prop} (h : Pr w0 w ([b] ++ L) (fun u => S u ∧ R u) Fl vl s Fm vm t) (st : Stable L R) (hb : b ∉ L) (hw : w0.heap.size ≤ b) (ho : One b w w') (hs : Stable [b] S') (hr : S' w') : Pr w0 w' ([b] ++ L) (fun u => S' u ∧ R u) Fl vl s Fm vm t := by
  have hbm : b ∈ [b] ++ L := List.mem_append.2 (.inl (List.mem_singleton.2 rfl))
  have hz : w.heap.size ≤ w'.heap.size := Nat.le_of_eq ho.size.symm
  exact ⟨⟨⟨h.a.lv.ld.stay hz (fun k hk => ho.block k (fun e => h.a.ap b hbm (e ▸ hk))), h.a.lv.new, ho.below h.a.lv.bel hw⟩, stable_and hs st, fun k hk => Nat.lt_of_lt_of_le (h.a.lt k hk) hz, ⟨hr, st w w' h.a.r.2 hz (fun k hk => ho.block k (fun e => hb (e ▸ hk)))⟩, h.a.ap⟩,
    h.ld.stay hz (fun k hk => ho.block k (fun e => h.lm b hbm (e ▸ hk))), h.nm, h.am, h.lm⟩
end
theorem gtextP {F : List Nat} {w : World} {v : Value} {s : Ls} (h : LdAt F w v s) : Calls Tryz.prog 13 #[v] w fun e w' => e = .returned (.string (lgT s)) ∧ Below w.heap.size w w' := by
  obtain ⟨g, m, am, an, cm, cn, rfl, rfl, h⟩ := h
  exact gtext_any h
theorem glastO {F : List Nat} {w : World} {v : Value} {s : Ls} (h : LdAt F w v s) (z : Int) (hz : z < 1 ∨ 8 < z) : Calls Tryz.prog 34 #[v, .int .i64 z] w fun e w' => e = .returned (.tuple #[.int .i64 0, .agg #[.int .i64 0, .float .f64 0]]) ∧ Below w.heap.size w w' := by
  obtain ⟨g, m, am, an, cm, cn, rfl, rfl, h⟩ := h
  exact glast_out h z hz
/-- A step in a variable. -/
def StA2 (w : World) (b : Nat) (o : Stp) : Prop := w.heap[b]? = some (.cells (opC o).toArray 39 (0, 0))
theorem stable_st (b : Nat) (o : Stp) : Stable [b] (fun u => StA2 u b o) := fun _ _ h _ hb => (hb b (List.mem_singleton.2 rfl)).trans h
theorem StA2.cells {w : World} {b : Nat} {o : Stp} (h : StA2 w b o) : (w.cell? ⟨b, 0, none⟩ = some (.bool o.1) ∧ w.cell? ⟨b, 1, none⟩ = some (.int .i64 o.2.c)) ∧ w.cell? ⟨b, 2, none⟩ = some (.int .i64 o.2.st) ∧ w.cell? ⟨b, 3, none⟩ = some (.int .i64 o.2.k) ∧ w.cell? ⟨b, 4, none⟩ = some (.string o.2.key) ∧ w.cell? ⟨b, 5, none⟩ = some (.int .u64 (o.2.b : Int)) ∧ w.cell? ⟨b, 6, none⟩ = some (.int .i64 o.2.id) :=
  ⟨⟨cell_at h 0 _ rfl, cell_at h 1 _ rfl⟩, cell_at h 2 _ rfl, cell_at h 3 _ rfl, cell_at h 4 _ rfl, cell_at h 5 _ rfl, cell_at h 6 _ rfl⟩
set_option maxRecDepth 100000 in
set_option maxHeartbeats 6400000 in
theorem estep_turn {w0 w : World} {Fl Fm : List Nat} {vl vm : Value} {s : Ls} (h : Pr w0 w [] (fun _ => True) Fl vl s Fm vm s) (r : Rq) :
    Calls Tryz.prog 9 #[vl, vm, .agg (opC (true, r)).toArray] w fun e w' => e = .returned (.bool true) ∧ ∃ Fl' Fm', Pr w0 w' [] (fun _ => True) Fl' vl (turnS s) Fm' vm (turnS s) := by
  have hok := h.a.lv.ld.ok
  have H0 := hid (h.fresh ((Below.refl w.heap.size w).alloc (Nat.le_refl _) (.cells (opC (true, r)).toArray 39 (0, 0))) (stable_st _ (true, r)) (heap_alloc_last w _) (by simp))
  obtain ⟨⟨y0, y1⟩, y2, y3, y4, y5, y6⟩ := H0.out.a.r.1.cells
  obtain ⟨T, eT⟩ : ∃ T, T = turnE s := ⟨_, rfl⟩
  have HL : Hid (∀ (u : World) (F : List Nat), LdAt F u vl s → Calls Tryz.prog 15 #[vl] u fun e w' => e = .returned (.int .i64 T) ∧ LdTo F u w' vl (turnS s)) := hid (fun u F hu => by rw [eT]; exact gturn_any hu)
  have HM : Hid (∀ (u : World) (F : List Nat), LmAt F u vm s → Calls Tryz.prog 24 #[vm] u fun e w' => e = .returned (.int .i64 T) ∧ LmTo F u w' vm (turnS s)) := hid (fun u F hu => by rw [eT]; exact wturnT hu hok)
  clear h hok eT y1 y2 y3 y4 y5 y6
  generalize turnS s = S2 at *
  change Calls Tryz.prog 9 #[vl, vm, .agg #[.bool true, .int .i64 r.c, .int .i64 r.st, .int .i64 r.k, .string r.key, .int .u64 (r.b : Int), .int .i64 r.id]] w _
  go_enter Tryz.func9, Tryz.ntmps9
  go_wp2_with (first
    | (go_at_call 24; refine (HM.out _ _ H1.out.ld).mono ?_; rintro e w2 ⟨rfl, hq⟩; obtain ⟨F2, h2⟩ := H1.out.toM hq; have H2 := hid h2; clear hq h2)
    | (go_at_call 15; refine (HL.out _ _ H0.out.a.lv.ld).mono ?_; rintro e w1 ⟨rfl, hq⟩; obtain ⟨F1, h1⟩ := H0.out.toL hq; have H1 := hid h1; clear hq h1 y0))
  go_ret
  exact ⟨by simp, F1, F2, H2.out.drop stable_true⟩
set_option maxRecDepth 100000 in
set_option maxHeartbeats 6400000 in
theorem estep_do {w0 w : World} {Fl Fm : List Nat} {vl vm : Value} {s : Ls} (h : Pr w0 w [] (fun _ => True) Fl vl s Fm vm s) (r : Rq) (hb : r.b < 18446744073709551616) :
    Calls Tryz.prog 9 #[vl, vm, .agg (opC (false, r)).toArray] w fun e w' => e = .returned (.bool true) ∧ ∃ Fl' Fm', Pr w0 w' [] (fun _ => True) Fl' vl (doS s r) Fm' vm (doS s r) := by
  have hok := h.a.lv.ld.ok
  have H0 := hid (h.fresh ((Below.refl w.heap.size w).alloc (Nat.le_refl _) (.cells (opC (false, r)).toArray 39 (0, 0))) (stable_st _ (false, r)) (heap_alloc_last w _) (by simp))
  obtain ⟨⟨y0, y1⟩, y2, y3, y4, y5, y6⟩ := H0.out.a.r.1.cells
  have HL : Hid (∀ (u : World) (F : List Nat), LdAt F u vl s → Calls Tryz.prog 16 #[vl, .agg #[.int .i64 r.c, .int .i64 r.st, .int .i64 r.k, .string r.key, .float .f64 r.b, .int .i64 r.id]] u fun e w' => e = .returned (.tuple #[.agg #[.int .i64 (doC s r), .float .f64 (doF s r)], .int .i64 (doE s r)]) ∧ LdTo F u w' vl (doS s r)) := hid (fun u F hu => gdo_any hu r hb)
  have HM : Hid (∀ (u : World) (F : List Nat), LmAt F u vm s → Calls Tryz.prog 25 #[vm, .agg #[.int .i64 r.c, .int .i64 r.st, .int .i64 r.k, .string r.key, .float .f64 r.b, .int .i64 r.id]] u fun e w' => e = .returned (.tuple #[.agg #[.int .i64 (doC s r), .float .f64 (doF s r)], .int .i64 (doE s r)]) ∧ LmTo F u w' vm (doS s r)) := hid (fun u F hu => wdoT hu hok r hb)
  have HS : Hid (∀ u : World, Calls Tryz.prog 26 #[.agg #[.int .i64 (doC s r), .float .f64 (doF s r)], .agg #[.int .i64 (doC s r), .float .f64 (doF s r)]] u fun e w' => e = .returned (.bool true) ∧ Below u.heap.size u w') := hid (fun u => by have := qsameResult_any (doC s r) (doF s r) (doC s r) (doF s r) u; rw [sameS_refl] at this; exact this)
  clear h hok hb
  generalize doS s r = S2 at *
  generalize doC s r = C at *
  generalize doF s r = D at *
  generalize doE s r = E at *
  change Calls Tryz.prog 9 #[vl, vm, .agg #[.bool false, .int .i64 r.c, .int .i64 r.st, .int .i64 r.k, .string r.key, .int .u64 (r.b : Int), .int .i64 r.id]] w _
  go_enter Tryz.func9, Tryz.ntmps9
  go_wp2_with (first
    | (go_at_call 26; refine (HS.out _).mono ?_; rintro e w7 ⟨rfl, hq⟩; have H7 := hid (H6.out.keep hq); clear hq)
    | (have := H5; refine wl_store_rs rfl _ _ rfl w5.heap.size rfl 0 C 0 D rfl (heap_alloc_last w5 _) ?_; intro w6 Hz; have H6 := hid (H5.out.res Hz.out); clear Hz; obtain ⟨x0, x1⟩ := H6.out.a.r.1.cells; obtain ⟨z0, z1⟩ := H6.out.a.r.2.1.cells)
    | (go_at_call 25; refine (HM.out _ _ H4.out.ld).mono ?_; rintro e w5 ⟨rfl, hq⟩; obtain ⟨F5, h5⟩ := H4.out.toM hq; have H5 := hid h5; clear hq h5)
    | (have := H3; go_at_call 17; refine (drequest_any r _).mono ?_; rintro e w4 ⟨rfl, hq⟩; have H4 := hid (H3.out.keep hq); clear hq y0 y1 y2 y3 y4 y5 y6)
    | (have := H2; refine wl_store_rs rfl _ _ rfl w2.heap.size rfl 0 C 0 D rfl (heap_alloc_last w2 _) ?_; intro w3 Hz; have H3 := hid (H2.out.res Hz.out); clear Hz; obtain ⟨⟨y0, y1⟩, y2, y3, y4, y5, y6⟩ := H3.out.a.r.2.1.cells)
    | (go_at_call 16; refine (HL.out _ _ H1.out.a.lv.ld).mono ?_; rintro e w2 ⟨rfl, hq⟩; obtain ⟨F2, h2⟩ := H1.out.toL hq; have H2 := hid h2; clear hq h2)
    | (go_at_call 17; refine (drequest_any r _).mono ?_; rintro e w1 ⟨rfl, hq⟩; have H1 := hid (H0.out.keep hq); clear hq y0 y1 y2 y3 y4 y5 y6))
  go_ret
  refine ⟨rfl, F2, F5, ?_⟩
  exact ((H7.out.drop (stable_and (stable_rs _ C D) (stable_and (stable_st _ _) stable_true))).drop (stable_and (stable_st _ _) stable_true)).drop stable_true
theorem estep_any {w0 w : World} {Fl Fm : List Nat} {vl vm : Value} {s : Ls} (h : Pr w0 w [] (fun _ => True) Fl vl s Fm vm s) (o : Stp) (hb : stB o) :
    Calls Tryz.prog 9 #[vl, vm, .agg (opC o).toArray] w fun e w' => e = .returned (.bool true) ∧ ∃ Fl' Fm', Pr w0 w' [] (fun _ => True) Fl' vl (stepS s o) Fm' vm (stepS s o) := by
  obtain ⟨t, r⟩ := o
  cases t with
  | true => exact estep_turn h r
  | false => exact estep_do h r hb.2
end Go.Proofs.YtecidbdbdnnglaaGreat

/- Both ledgers tell the same. -/
namespace Go.Proofs.YtecidbdbdnnglaaGreat
open Go.RowKit

set_option maxRecDepth 100000 in
set_option maxHeartbeats 12800000 in
theorem esame_any {w0 w : World} {Fl Fm : List Nat} {vl vm : Value} {s : Ls} (h : Pr w0 w [] (fun _ => True) Fl vl s Fm vm s) :
    Calls Tryz.prog 10 #[vl, vm] w fun e w' => e = .returned (.bool true) ∧ Below w.heap.size w w' := by
  have hok := h.a.lv.ld.ok
  obtain ⟨g, gs, gr, am, an, ai, cm, cn, ci, rfl, rfl, k⟩ := h.ld
  have HK : Hid (∀ u : World, Below w.heap.size w u → LrA u g gs gr am an ai cm cn ci s) := hid (fun u hu => k.keep hu)
  have hl : ∀ u : World, Below w.heap.size w u → LdAt Fl u vl s := fun u hu => h.a.lv.ld.keep hu
  have hm := mem_len hok.mem
  have hn := mem_len hok.nx
  have HML : Hid (s.mem.length ≤ maxLen ∧ s.nxt.length ≤ maxLen) := hid ⟨by unfold maxLen; omega, by unfold maxLen; omega⟩
  obtain ⟨E, eE⟩ : ∃ z : Int, z = (s.ep : Int) := ⟨_, rfl⟩
  obtain ⟨N, eN⟩ : ∃ z : Int, z = (s.dn : Int) := ⟨_, rfl⟩
  obtain ⟨Fu, eF⟩ : ∃ z, z = fullS s := ⟨_, rfl⟩
  obtain ⟨T, eT⟩ : ∃ z, z = lgT s := ⟨_, rfl⟩
  have HCf : Hid (∀ u : World, Below w.heap.size w u → Calls Tryz.prog 18 #[vl] u fun e w' => ∃ a1 c1, e = .returned (.agg #[.int .i64 E, .slice a1 s.mem.length c1]) ∧ IntsIn w' a1 s.mem ∧ Below u.heap.size u w') := hid (fun u hu => (gconfT (hl u hu)).mono fun e w' ⟨a1, c1, h1, h2, h3⟩ => ⟨a1, c1, by rw [eE]; exact h1, h2.ints, h3⟩)
  have HNx : Hid (∀ u : World, Below w.heap.size w u → Calls Tryz.prog 19 #[vl] u fun e w' => ∃ a1 c1, e = .returned (.slice a1 s.nxt.length c1) ∧ IntsIn w' a1 s.nxt ∧ Below u.heap.size u w') := hid (fun u hu => (gnextT (hl u hu)).mono fun e w' ⟨a1, c1, h1, h2, h3⟩ => ⟨a1, c1, h1, h2.ints, h3⟩)
  have HDn : Hid (∀ u : World, Below w.heap.size w u → Calls Tryz.prog 14 #[vl] u fun e w' => e = .returned (.int .i64 N) ∧ Below u.heap.size u w') := hid (fun u hu => by rw [eN]; exact gdoneT (hl u hu))
  have HFl : Hid (∀ u : World, Below w.heap.size w u → Calls Tryz.prog 29 #[vl] u fun e w' => e = .returned (.bool Fu) ∧ Below u.heap.size u w') := hid (fun u hu => by rw [eF]; exact gfullT (hl u hu))
  have HFm : Hid (∀ u : World, Below w.heap.size w u → Calls Tryz.prog 30 #[.pointer (some ⟨g, 0, none⟩)] u fun e w' => e = .returned (.bool Fu) ∧ Below u.heap.size u w') := hid (fun u hu => by rw [eF]; exact wfull_any (HK.out u hu) (by have := hok.ep; omega))
  have HTl : Hid (∀ u : World, Below w.heap.size w u → Calls Tryz.prog 13 #[vl] u fun e w' => e = .returned (.string T) ∧ Below u.heap.size u w') := hid (fun u hu => by rw [eT]; exact gtextP (hl u hu))
  have HTm : Hid (∀ u : World, Below w.heap.size w u → Calls Tryz.prog 31 #[.pointer (some ⟨g, 0, none⟩)] u fun e w' => e = .returned (.string T) ∧ Below u.heap.size u w') := hid (fun u hu => by rw [eT]; exact wtx_any (HK.out u hu) hok)
  have HC : Hid (∀ u : World, LrA u g gs gr am an ai cm cn ci s → (u.cell? ⟨g, 0, none⟩ = some (.int .i64 E) ∧ u.cell? ⟨g, 1, none⟩ = some (.slice am s.mem.length cm)) ∧ u.cell? ⟨g, 2, none⟩ = some (.slice an s.nxt.length cn) ∧ u.cell? ⟨g, 3, none⟩ = some (.int .i64 N) ∧ u.cell? ⟨g, 4, none⟩ = some (.slice ai s.its.length ci) ∧ u.cell? ⟨g, 5, none⟩ = some (.slice (some ⟨gs, 0, none⟩) 9 9) ∧ u.cell? ⟨g, 6, none⟩ = some (.slice (some ⟨gr, 0, none⟩) 9 9)) := hid (fun u q => by rw [eE, eN]; exact ⟨⟨q.c0, q.c1⟩, q.c2, q.c3, q.c4, q.c5, q.c6⟩)
  have HGt : Hid (∀ (y : Kb), y ∈ s.its → ∀ u : World, Below w.heap.size w u → Calls Tryz.prog 32 #[vl, .string y.1] u fun e w' => e = .returned (.tuple #[.float .f64 y.2, .bool true]) ∧ Below u.heap.size u w') := hid (fun y hy u hu => by
    have hg := get_mem hok.rise hy
    have := ggetT (hl u hu) y.1 (by have := (hok.keys y hy).1.2; unfold maxLen; omega)
    rw [show valK y.1 s.its = y.2 by rw [valK, hg]; rfl, hg] at this
    exact this)
  have HLi : Hid (∀ (c : Nat), c < 8 → ∀ (z : Int), z = (c : Int) + 1 → ∀ u : World, Below w.heap.size w u → Calls Tryz.prog 34 #[vl, .int .i64 z] u fun e w' => e = .returned (.tuple #[.int .i64 ((s.at c).1 : Int), .agg #[.int .i64 (s.at c).2.1, .float .f64 (s.at c).2.2]]) ∧ Below u.heap.size u w') := hid (fun c hc z hz u hu => glastT (hl u hu) c hc z hz)
  have HLo : Hid (∀ (z : Int), (z < 1 ∨ 8 < z) → ∀ u : World, Below w.heap.size w u → Calls Tryz.prog 34 #[vl, .int .i64 z] u fun e w' => e = .returned (.tuple #[.int .i64 0, .agg #[.int .i64 0, .float .f64 0]]) ∧ Below u.heap.size u w') := hid (fun z hz u hu => glastO (hl u hu) z hz)
  have HCan : Hid (∀ y, y ∈ s.its → canW y.2 = y.2) := hid (fun y hy => (hok.keys y hy).2.1)
  have HB0 : Hid (Below w.heap.size w w.drew) := hid (Below.refl _ _).drew
  have HFew := hid hok.few
  clear h hok k hl hm hn eE eN eF eT
  go_enter Tryz.func10, Tryz.ntmps10
  go_wp2
  refine wp_region_G (S := fun ww => LrA ww g gs gr am an ai cm cn ci s) (ex := []) (by kernel_rfl) ?_
  try (change wpAnyG _ _ _ _ _ _ _ _ _ (World.drew _))
  refine wpAnyG_take (i := 0) (v := ?v1) rfl (by kernel_rfl) (fun _ _ _ h => h) (Or.inl ⟨by rfl, ?hy1⟩) (HK.out _ HB0.out) ?rest1
  case hy1 => (intro ww _; go_simp; try with_reducible rfl)
  go_simp
  refine wpAnyG_take (i := 2) (v := ?v2) rfl (by kernel_rfl) (fun _ _ _ h => h) (Or.inl ⟨by rfl, ?hy2⟩) (HK.out _ HB0.out) ?rest2
  case hy2 => (intro ww _; go_simp; try with_reducible rfl)
  go_simp
  refine wpAnyG_take (i := 3) (v := ?v3) rfl (by kernel_rfl) (fun _ _ _ h => h) (Or.inl ⟨by rfl, ?hy3⟩) (HK.out _ HB0.out) ?rest3
  case hy3 => (intro ww _; go_simp; try with_reducible rfl)
  go_simp
  refine wpAnyG_take (i := 4) (v := ?v4) rfl (by kernel_rfl) (fun _ _ _ h => h) (Or.inl ⟨by rfl, ?hy4⟩) (HK.out _ HB0.out) ?rest4
  case hy4 => (intro ww _; go_simp; try with_reducible rfl)
  go_simp
  refine wpAnyG_take (i := 5) (v := ?v5) rfl (by kernel_rfl) (fun _ _ _ h => h) (Or.inl ⟨by rfl, ?hy5⟩) (HK.out _ HB0.out) ?rest5
  case hy5 => (intro ww hS; obtain ⟨⟨c0, c1⟩, c2, c3, c4, c5, c6⟩ := HC.out ww hS; go_simp; try with_reducible rfl)
  go_simp
  refine wpAnyG_all (rs := [1]) (by kernel_rfl) (by simp) ?_
  intro i hi
  obtain rfl := List.mem_singleton.1 hi
  clear hi
  refine wpOp_d rfl (by rfl) (fun K hK => ?_)
  go_simp
  refine (HCf.out _ HB0.out).mono ?_
  rintro e w1 ⟨a1, c1, rfl, hi, hb⟩
  have HB1 := hid (HB0.out.trans (hb.mono HB0.out.size))
  have HI1 := hid hi
  clear hi
  clear hb
  refine hK _ _ ⟨fun _ => (HK.out _ HB1.out), ?_⟩
  clear hK K
  go_simp
  refine wpAnyG_all (rs := [6]) (by kernel_rfl) (by simp) ?_
  intro i hi
  obtain rfl := List.mem_singleton.1 hi
  clear hi
  refine wpOp_d rfl (by rfl) (fun K hK => ?_)
  go_simp
  refine (vsame_yes E a1 am _ c1 cm s.mem rfl HML.out.1 _ HI1.out (HK.out _ HB1.out).im).mono ?_
  rintro e w2 ⟨rfl, hb⟩
  have HB2 := hid (HB1.out.trans (hb.mono HB1.out.size))
  clear hb
  refine hK _ _ ⟨fun _ => (HK.out _ HB2.out), ?_⟩
  clear hK K
  go_simp
  refine wpAnyG_take (i := 7) (v := ?v6) rfl (by kernel_rfl) (fun _ _ _ h => h) (Or.inl ⟨by rfl, ?hy6⟩) (HK.out _ HB2.out) ?rest6
  case hy6 => (intro ww _; go_simp; try with_reducible rfl)
  go_simp
  refine wpAnyG_take (i := 8) (v := ?v7) rfl (by kernel_rfl) (fun _ _ _ h => h) (Or.inl ⟨by rfl, ?hy7⟩) (HK.out _ HB2.out) ?rest7
  case hy7 => (intro ww _; go_simp; try with_reducible rfl)
  go_simp
  refine wpAnyG_take (i := 9) (v := ?v8) rfl (by kernel_rfl) (fun _ _ _ h => h) (Or.inl ⟨by rfl, ?hy8⟩) (HK.out _ HB2.out) ?rest8
  case hy8 => (intro ww _; go_simp; try with_reducible rfl)
  go_simp
  refine wpAnyG_take (i := 11) (v := ?v9) rfl (by kernel_rfl) (fun _ _ _ h => h) (Or.inl ⟨by rfl, ?hy9⟩) (HK.out _ HB2.out) ?rest9
  case hy9 => (intro ww _; go_simp; try with_reducible rfl)
  go_simp
  refine wpAnyG_take (i := 12) (v := ?v10) rfl (by kernel_rfl) (fun _ _ _ h => h) (Or.inl ⟨by rfl, ?hy10⟩) (HK.out _ HB2.out) ?rest10
  case hy10 => (intro ww _; go_simp; try with_reducible rfl)
  go_simp
  refine wpAnyG_take (i := 13) (v := ?v11) rfl (by kernel_rfl) (fun _ _ _ h => h) (Or.inl ⟨by rfl, ?hy11⟩) (HK.out _ HB2.out) ?rest11
  case hy11 => (intro ww _; go_simp; try with_reducible rfl)
  go_simp
  refine wpAnyG_take (i := 14) (v := ?v12) rfl (by kernel_rfl) (fun _ _ _ h => h) (Or.inl ⟨by rfl, ?hy12⟩) (HK.out _ HB2.out) ?rest12
  case hy12 => (intro ww hS; obtain ⟨⟨c0, c1⟩, c2, c3, c4, c5, c6⟩ := HC.out ww hS; go_simp; try with_reducible rfl)
  go_simp
  refine wpAnyG_all (rs := [10]) (by kernel_rfl) (by simp) ?_
  intro i hi
  obtain rfl := List.mem_singleton.1 hi
  clear hi
  refine wpOp_d rfl (by rfl) (fun K hK => ?_)
  go_simp
  refine (HNx.out _ HB2.out).mono ?_
  rintro e w3 ⟨a3, c3, rfl, hi, hb⟩
  have HB3 := hid (HB2.out.trans (hb.mono HB2.out.size))
  have HI3 := hid hi
  clear hi
  clear hb
  refine hK _ _ ⟨fun _ => (HK.out _ HB3.out), ?_⟩
  clear hK K
  go_simp
  refine wpAnyG_all (rs := [15]) (by kernel_rfl) (by simp) ?_
  intro i hi
  obtain rfl := List.mem_singleton.1 hi
  clear hi
  refine wpOp_d rfl (by rfl) (fun K hK => ?_)
  go_simp
  refine (sameInts_any a3 an _ c3 cn s.nxt rfl HML.out.2 _ HI3.out (HK.out _ HB3.out).ix).mono ?_
  rintro e w4 ⟨rfl, hb⟩
  have HB4 := hid (HB3.out.trans (hb.mono HB3.out.size))
  clear hb
  refine hK _ _ ⟨fun _ => (HK.out _ HB4.out), ?_⟩
  clear hK K
  go_simp
  refine wpAnyG_take (i := 16) (v := ?v13) rfl (by kernel_rfl) (fun _ _ _ h => h) (Or.inl ⟨by rfl, ?hy13⟩) (HK.out _ HB4.out) ?rest13
  case hy13 => (intro ww _; go_simp; try with_reducible rfl)
  go_simp
  refine wpAnyG_take (i := 17) (v := ?v14) rfl (by kernel_rfl) (fun _ _ _ h => h) (Or.inl ⟨by rfl, ?hy14⟩) (HK.out _ HB4.out) ?rest14
  case hy14 => (intro ww _; go_simp; try with_reducible rfl)
  go_simp
  refine wpAnyG_take (i := 18) (v := ?v15) rfl (by kernel_rfl) (fun _ _ _ h => h) (Or.inl ⟨by rfl, ?hy15⟩) (HK.out _ HB4.out) ?rest15
  case hy15 => (intro ww _; go_simp; try with_reducible rfl)
  go_simp
  refine wpAnyG_take (i := 19) (v := ?v16) rfl (by kernel_rfl) (fun _ _ _ h => h) (Or.inl ⟨by rfl, ?hy16⟩) (HK.out _ HB4.out) ?rest16
  case hy16 => (intro ww _; go_simp; try with_reducible rfl)
  go_simp
  refine wpAnyG_take (i := 21) (v := ?v17) rfl (by kernel_rfl) (fun _ _ _ h => h) (Or.inl ⟨by rfl, ?hy17⟩) (HK.out _ HB4.out) ?rest17
  case hy17 => (intro ww _; go_simp; try with_reducible rfl)
  go_simp
  refine wpAnyG_take (i := 22) (v := ?v18) rfl (by kernel_rfl) (fun _ _ _ h => h) (Or.inl ⟨by rfl, ?hy18⟩) (HK.out _ HB4.out) ?rest18
  case hy18 => (intro ww _; go_simp; try with_reducible rfl)
  go_simp
  refine wpAnyG_take (i := 23) (v := ?v19) rfl (by kernel_rfl) (fun _ _ _ h => h) (Or.inl ⟨by rfl, ?hy19⟩) (HK.out _ HB4.out) ?rest19
  case hy19 => (intro ww _; go_simp; try with_reducible rfl)
  go_simp
  refine wpAnyG_take (i := 24) (v := ?v20) rfl (by kernel_rfl) (fun _ _ _ h => h) (Or.inl ⟨by rfl, ?hy20⟩) (HK.out _ HB4.out) ?rest20
  case hy20 => (intro ww hS; obtain ⟨⟨c0, c1⟩, c2, c3, c4, c5, c6⟩ := HC.out ww hS; go_simp; try with_reducible rfl)
  go_simp
  refine wpAnyG_all (rs := [20]) (by kernel_rfl) (by simp) ?_
  intro i hi
  obtain rfl := List.mem_singleton.1 hi
  clear hi
  refine wpOp_d rfl (by rfl) (fun K hK => ?_)
  go_simp
  refine (HDn.out _ HB4.out).mono ?_
  rintro e w5 ⟨rfl, hb⟩
  have HB5 := hid (HB4.out.trans (hb.mono HB4.out.size))
  clear hb
  refine hK _ _ ⟨fun _ => (HK.out _ HB5.out), ?_⟩
  clear hK K
  go_simp
  refine wpAnyG_take (i := 25) (v := ?v21) rfl (by kernel_rfl) (fun _ _ _ h => h) (Or.inl ⟨by rfl, ?hy21⟩) (HK.out _ HB5.out) ?rest21
  case hy21 => (intro ww _; go_simp; try with_reducible rfl)
  go_simp
  refine wpAnyG_take (i := 26) (v := ?v22) rfl (by kernel_rfl) (fun _ _ _ h => h) (Or.inl ⟨by rfl, ?hy22⟩) (HK.out _ HB5.out) ?rest22
  case hy22 => (intro ww _; go_simp; try with_reducible rfl)
  go_simp
  refine wpAnyG_take (i := 27) (v := ?v23) rfl (by kernel_rfl) (fun _ _ _ h => h) (Or.inl ⟨by rfl, ?hy23⟩) (HK.out _ HB5.out) ?rest23
  case hy23 => (intro ww _; go_simp; try with_reducible rfl)
  go_simp
  refine wpAnyG_take (i := 28) (v := ?v24) rfl (by kernel_rfl) (fun _ _ _ h => h) (Or.inl ⟨by rfl, ?hy24⟩) (HK.out _ HB5.out) ?rest24
  case hy24 => (intro ww _; go_simp; try with_reducible rfl)
  go_simp
  refine wpAnyG_take (i := 30) (v := ?v25) rfl (by kernel_rfl) (fun _ _ _ h => h) (Or.inl ⟨by rfl, ?hy25⟩) (HK.out _ HB5.out) ?rest25
  case hy25 => (intro ww _; go_simp; try with_reducible rfl)
  go_simp
  refine wpAnyG_all (rs := [29]) (by kernel_rfl) (by simp) ?_
  intro i hi
  obtain rfl := List.mem_singleton.1 hi
  clear hi
  refine wpOp_d rfl (by rfl) (fun K hK => ?_)
  go_simp
  refine (HFl.out _ HB5.out).mono ?_
  rintro e w6 ⟨rfl, hb⟩
  have HB6 := hid (HB5.out.trans (hb.mono HB5.out.size))
  clear hb
  refine hK _ _ ⟨fun _ => (HK.out _ HB6.out), ?_⟩
  clear hK K
  go_simp
  refine wpAnyG_all (rs := [31]) (by kernel_rfl) (by simp) ?_
  intro i hi
  obtain rfl := List.mem_singleton.1 hi
  clear hi
  refine wpOp_d rfl (by rfl) (fun K hK => ?_)
  go_simp
  refine (HFm.out _ HB6.out).mono ?_
  rintro e w7 ⟨rfl, hb⟩
  have HB7 := hid (HB6.out.trans (hb.mono HB6.out.size))
  clear hb
  refine hK _ _ ⟨fun _ => (HK.out _ HB7.out), ?_⟩
  clear hK K
  go_simp
  refine wpAnyG_take (i := 32) (v := ?v26) rfl (by kernel_rfl) (fun _ _ _ h => h) (Or.inl ⟨by rfl, ?hy26⟩) (HK.out _ HB7.out) ?rest26
  case hy26 => (intro ww _; go_simp; try with_reducible rfl)
  go_simp
  refine wpAnyG_take (i := 33) (v := ?v27) rfl (by kernel_rfl) (fun _ _ _ h => h) (Or.inl ⟨by rfl, ?hy27⟩) (HK.out _ HB7.out) ?rest27
  case hy27 => (intro ww _; go_simp; try with_reducible rfl)
  go_simp
  refine wpAnyG_take (i := 34) (v := ?v28) rfl (by kernel_rfl) (fun _ _ _ h => h) (Or.inl ⟨by rfl, ?hy28⟩) (HK.out _ HB7.out) ?rest28
  case hy28 => (intro ww _; go_simp; try with_reducible rfl)
  go_simp
  refine wpAnyG_take (i := 35) (v := ?v29) rfl (by kernel_rfl) (fun _ _ _ h => h) (Or.inl ⟨by rfl, ?hy29⟩) (HK.out _ HB7.out) ?rest29
  case hy29 => (intro ww _; go_simp; try with_reducible rfl)
  go_simp
  refine wpAnyG_take (i := 37) (v := ?v30) rfl (by kernel_rfl) (fun _ _ _ h => h) (Or.inl ⟨by rfl, ?hy30⟩) (HK.out _ HB7.out) ?rest30
  case hy30 => (intro ww _; go_simp; try with_reducible rfl)
  go_simp
  refine wpAnyG_all (rs := [36]) (by kernel_rfl) (by simp) ?_
  intro i hi
  obtain rfl := List.mem_singleton.1 hi
  clear hi
  refine wpOp_d rfl (by rfl) (fun K hK => ?_)
  go_simp
  refine (HTl.out _ HB7.out).mono ?_
  rintro e w8 ⟨rfl, hb⟩
  have HB8 := hid (HB7.out.trans (hb.mono HB7.out.size))
  clear hb
  refine hK _ _ ⟨fun _ => (HK.out _ HB8.out), ?_⟩
  clear hK K
  go_simp
  refine wpAnyG_all (rs := [38]) (by kernel_rfl) (by simp) ?_
  intro i hi
  obtain rfl := List.mem_singleton.1 hi
  clear hi
  refine wpOp_d rfl (by rfl) (fun K hK => ?_)
  go_simp
  refine (HTm.out _ HB8.out).mono ?_
  rintro e w9 ⟨rfl, hb⟩
  have HB9 := hid (HB8.out.trans (hb.mono HB8.out.size))
  clear hb
  refine hK _ _ ⟨fun _ => (HK.out _ HB9.out), ?_⟩
  clear hK K
  go_simp
  refine wpAnyG_take (i := 39) (v := ?v31) rfl (by kernel_rfl) (fun _ _ _ h => h) (Or.inl ⟨by rfl, ?hy31⟩) (HK.out _ HB9.out) ?rest31
  case hy31 => (intro ww _; go_simp; try with_reducible rfl)
  go_simp
  refine wpAnyG_take (i := 40) (v := ?v32) rfl (by kernel_rfl) (fun _ _ _ h => h) (Or.inl ⟨by rfl, ?hy32⟩) (HK.out _ HB9.out) ?rest32
  case hy32 => (intro ww _; go_simp; try with_reducible rfl)
  go_simp
  refine wpAnyG_done (by kernel_rfl) ?_ _
  go_simp
  obtain ⟨n, en⟩ : ∃ n, n = s.its.length := ⟨_, rfl⟩
  have HNe := hid en
  rw [← en] at HC HFew
  have hni : (n : Int) ≤ 16 := by have := HFew.out; omega
  clear en
  go_wp2
  go_loopw [5] (fun i wr => ∃ j : Nat, j ≤ n ∧ i = .int .i64 (j : Int) ∧ Below w.heap.size w wr)
    (fun i _ => ((n : Int) - intOf i).toNat)
  case atStart => exact ⟨0, Nat.zero_le _, rfl, HB9.out⟩
  case round =>
    obtain ⟨j, hj, rfl, hB⟩ := hrel
    have HB := hid hB
    obtain ⟨⟨c0, c1⟩, c2, c3, c4, c5, c6⟩ := HC.out _ (HK.out _ hB)
    clear hB c0 c1 c2 c3 c5 c6
    have hj0 : (0 : Int) ≤ (j : Int) := Int.natCast_nonneg _
    by_cases hjn : j = n
    · have hj1 : ¬ ((j : Int) < (n : Int)) := by omega
      clear hj hjn
      go_wp2
      clear c4
      go_loopw [8] (fun i wr => ∃ j : Nat, j ≤ 11 ∧ i = .int .i64 ((j : Int) - 1) ∧ Below w.heap.size w wr)
        (fun i _ => ((10 : Int) - intOf i).toNat)
      case atStart => exact ⟨0, Nat.zero_le _, rfl, HB.out⟩
      case round =>
        obtain ⟨q, hq, rfl, hB⟩ := hrel
        have HB2 := hid hB
        clear hB
        by_cases hq11 : q = 11
        · have hz1 : ¬ (((q : Int) - 1) ≤ 9) := by omega
          clear hq
          go_wp2
          go_ret
          exact ⟨rfl, HB2.out⟩
        · obtain ⟨z, ez⟩ : ∃ z : Int, z = (q : Int) - 1 := ⟨_, rfl⟩
          rw [← ez]
          have hz9 : z ≤ 9 := by omega
          have hz0 : -1 ≤ z := by omega
          have HQ := hid (And.intro hq (And.intro hq11 ez))
          clear hq hq11 ez
          by_cases hin : 1 ≤ z ∧ z ≤ 8
          · obtain ⟨c, ec⟩ : ∃ c : Nat, z = (c : Int) + 1 := ⟨(z - 1).toNat, by omega⟩
            have hc8 : c < 8 := by omega
            have HL1 := hid (HLi.out c hc8 z ec)
            obtain ⟨p, ep⟩ : ∃ p : Nat, p = c + 1 := ⟨_, rfl⟩
            obtain rfl : z = (p : Int) := by omega
            have HCc : Hid (∀ u : World, LrA u g gs gr am an ai cm cn ci s → (u.cell? ⟨g, 5, none⟩ = some (.slice (some ⟨gs, 0, none⟩) 9 9) ∧ u.cell? ⟨g, 6, none⟩ = some (.slice (some ⟨gr, 0, none⟩) 9 9)) ∧ u.cell? ⟨gs, p, none⟩ = some (.int .i64 ((s.at c).1 : Int)) ∧ u.cell? ⟨gr, p * 2, none⟩ = some (.int .i64 (s.at c).2.1) ∧ u.cell? ⟨gr, p * 2 + 1, none⟩ = some (.float .f64 (s.at c).2.2)) := hid (fun u q => by rw [ep]; exact ⟨(HC.out _ q).2.2.2.2, q.cs c hc8, q.cr c hc8⟩)
            have hp9 : (p : Int) < 9 := by omega
            have hp0 : (0 : Int) ≤ (p : Int) := Int.natCast_nonneg _
            have hp1 : (1 : Int) ≤ (p : Int) := hin.1
            have hp8 : (p : Int) ≤ 8 := hin.2
            have HSm : Hid (∀ u : World, Calls Tryz.prog 26 #[.agg #[.int .i64 (s.at c).2.1, .float .f64 (s.at c).2.2], .agg #[.int .i64 (s.at c).2.1, .float .f64 (s.at c).2.2]] u fun e w' => e = .returned (.bool true) ∧ Below u.heap.size u w') := hid (fun u => by have := qsameResult_any (s.at c).2.1 (s.at c).2.2 (s.at c).2.1 (s.at c).2.2 u; rw [sameS_refl] at this; exact this)
            generalize s.at c = d at HL1 HCc HSm
            obtain ⟨d1, C, D⟩ := d
            clear hin ec hc8 ep
            go_wp2_with (first
              | (have := H22; refine wl_store_rs rfl _ _ rfl w22.heap.size rfl 0 0 0 0 rfl (heap_alloc_last w22 _) ?_; intro w23 Hz; have hbz := Hz.out.2.below ((Below.refl w22.heap.size w22).alloc (Nat.le_refl _) (.cells #[.int .i64 0, .float .f64 0] 50)) (Nat.le_refl _); have H23 := hid (And.intro Hz.out.1 (And.intro (H22.out.1.keep hbz) (H22.out.2.trans (hbz.mono H22.out.2.size)))); clear Hz hbz)
              | (have := HB21; refine wl_store_rs rfl _ _ rfl w21.heap.size rfl 0 C 0 D rfl (heap_alloc_last w21 _) ?_; intro w22 Hz; have hbz := Hz.out.2.below ((Below.refl w21.heap.size w21).alloc (Nat.le_refl _) (.cells #[.int .i64 0, .float .f64 0] 50)) (Nat.le_refl _); have H22 := hid (And.intro Hz.out.1 (HB21.out.trans (hbz.mono HB21.out.size))); clear Hz hbz)
              | (go_at_call 34; refine (HL1.out _ HB2.out).mono ?_; rintro e w21 ⟨rfl, hb⟩; have HB21 := hid (HB2.out.trans (hb.mono HB2.out.size)); clear hb))
            have H24 : Hid (RsAt w23.drew w22.heap.size 0 0 ∧ RsAt w23.drew w21.heap.size C D ∧ Below w.heap.size w w23.drew) := hid ⟨H23.out.1.keep (Below.refl _ _).drew, H23.out.2.1.keep (Below.refl _ _).drew, H23.out.2.2.drew⟩
            have HNb : Hid (w21.heap.size ≠ w22.heap.size) := hid (by have := lt_of_blk H22.out.1; omega)
            have HNw : Hid (w.heap.size ≤ w22.heap.size) := hid H22.out.2.size
            refine wp_region_G (S := fun ww => LrA ww g gs gr am an ai cm cn ci s) (ex := [15]) (by kernel_rfl) ?_
            try (change wpAnyG _ _ _ _ _ _ _ _ _ (World.drew _))
            refine wpAnyG_take (i := 0) (v := ?v401) rfl (by kernel_rfl) (fun _ _ _ h => h) (Or.inl ⟨by rfl, ?hy401⟩) (HK.out _ H24.out.2.2) ?rest401
            case hy401 => (intro ww _; go_simp; try with_reducible rfl)
            go_simp
            refine wpAnyG_take (i := 1) (v := ?v402) rfl (by kernel_rfl) (fun _ _ _ h => h) (Or.inl ⟨by rfl, ?hy402⟩) (HK.out _ H24.out.2.2) ?rest402
            case hy402 => (intro ww _; go_simp; try with_reducible rfl)
            go_simp
            refine wpAnyG_take (i := 2) (v := ?v403) rfl (by kernel_rfl) (fun _ _ _ h => h) (Or.inl ⟨by rfl, ?hy403⟩) (HK.out _ H24.out.2.2) ?rest403
            case hy403 => (intro ww _; go_simp; try with_reducible rfl)
            go_simp
            refine wpAnyG_take (i := 3) (v := ?v404) rfl (by kernel_rfl) (fun _ _ _ h => h) (Or.inl ⟨by rfl, ?hy404⟩) (HK.out _ H24.out.2.2) ?rest404
            case hy404 => (intro ww hS; obtain ⟨⟨c5, c6⟩, k1, k2, k3⟩ := HCc.out ww hS; go_simp; try with_reducible rfl)
            go_simp
            refine wpAnyG_take (i := 4) (v := ?v405) rfl (by kernel_rfl) (fun _ _ _ h => h) (Or.inl ⟨by rfl, ?hy405⟩) (HK.out _ H24.out.2.2) ?rest405
            case hy405 => (intro ww _; go_simp; try with_reducible rfl)
            go_simp
            refine wpAnyG_take (i := 5) (v := ?v406) rfl (by kernel_rfl) (fun _ _ _ h => h) (Or.inl ⟨by rfl, ?hy406⟩) (HK.out _ H24.out.2.2) ?rest406
            case hy406 => (intro ww _; go_simp; try with_reducible rfl)
            go_simp
            refine wpAnyG_take (i := 6) (v := ?v407) rfl (by kernel_rfl) (fun _ _ _ h => h) (Or.inl ⟨by rfl, ?hy407⟩) (HK.out _ H24.out.2.2) ?rest407
            case hy407 => (intro ww hS; obtain ⟨⟨c5, c6⟩, k1, k2, k3⟩ := HCc.out ww hS; go_simp; try with_reducible rfl)
            go_simp
            refine wpAnyG_take (i := 7) (v := ?v408) rfl (by kernel_rfl) (fun _ _ _ h => h) (Or.inl ⟨by rfl, ?hy408⟩) (HK.out _ H24.out.2.2) ?rest408
            case hy408 => (intro ww _; go_simp; try with_reducible rfl)
            go_simp
            refine wpAnyG_take (i := 8) (v := ?v409) rfl (by kernel_rfl) (fun _ _ _ h => h) (Or.inl ⟨by rfl, ?hy409⟩) (HK.out _ H24.out.2.2) ?rest409
            case hy409 => (intro ww _; go_simp; try with_reducible rfl)
            go_simp
            refine wpAnyG_take (i := 9) (v := ?v410) rfl (by kernel_rfl) (fun _ _ _ h => h) (Or.inl ⟨by rfl, ?hy410⟩) (HK.out _ H24.out.2.2) ?rest410
            case hy410 => (intro ww _; go_simp; try with_reducible rfl)
            go_simp
            refine wpAnyG_take (i := 10) (v := ?v411) rfl (by kernel_rfl) (fun _ _ _ h => h) (Or.inl ⟨by rfl, ?hy411⟩) (HK.out _ H24.out.2.2) ?rest411
            case hy411 => (intro ww hS; obtain ⟨⟨c5, c6⟩, k1, k2, k3⟩ := HCc.out ww hS; go_simp; try with_reducible rfl)
            go_simp
            refine wpAnyG_take (i := 11) (v := ?v412) rfl (by kernel_rfl) (fun _ _ _ h => h) (Or.inl ⟨by rfl, ?hy412⟩) (HK.out _ H24.out.2.2) ?rest412
            case hy412 => (intro ww _; go_simp; try with_reducible rfl)
            go_simp
            refine wpAnyG_take (i := 12) (v := ?v413) rfl (by kernel_rfl) (fun _ _ _ h => h) (Or.inl ⟨by rfl, ?hy413⟩) (HK.out _ H24.out.2.2) ?rest413
            case hy413 => (intro ww _; go_simp; try with_reducible rfl)
            go_simp
            refine wpAnyG_take (i := 13) (v := ?v414) rfl (by kernel_rfl) (fun _ _ _ h => h) (Or.inl ⟨by rfl, ?hy414⟩) (HK.out _ H24.out.2.2) ?rest414
            case hy414 => (intro ww hS; obtain ⟨⟨c5, c6⟩, k1, k2, k3⟩ := HCc.out ww hS; go_simp; try with_reducible rfl)
            go_simp
            refine wpAnyG_take (i := 14) (v := ?v415) rfl (by kernel_rfl) (fun _ _ _ h => h) (Or.inl ⟨by rfl, ?hy415⟩) (HK.out _ H24.out.2.2) ?rest415
            case hy415 => (intro ww _; go_simp; try with_reducible rfl)
            go_simp
            refine wpAnyG_all (rs := [15]) (by kernel_rfl) (by simp) ?_
            intro i hi
            obtain rfl := List.mem_singleton.1 hi
            clear hi
            refine wpOp_d rfl (by rfl) (fun K hK => ?_)
            refine owp_store_rsR _ _ rfl w22.heap.size rfl 0 C 0 D rfl H24.out.1 ?_
            intro w25 Hz
            have H25 : Hid (RsAt w25 w22.heap.size C D ∧ RsAt w25 w21.heap.size C D ∧ Below w.heap.size w w25) := hid ⟨Hz.out.1, (Hz.out.2.block _ HNb.out).trans H24.out.2.1, Hz.out.2.below H24.out.2.2 HNw.out⟩
            clear Hz
            refine hK _ _ ⟨fun h => absurd (by simp) h, ?_⟩
            clear hK K
            go_simp
            refine wpAnyG_done (by kernel_rfl) ?_ _
            go_simp
            obtain ⟨x0, x1⟩ := H25.out.1.cells
            obtain ⟨z0, z1⟩ := H25.out.2.1.cells
            go_wp2_with (go_at_call 26; refine (HSm.out _).mono ?_; rintro e w26 ⟨rfl, hb⟩; have HB26 := hid (H25.out.2.2.trans (hb.mono H25.out.2.2.size)); clear hb)
            go_roundw
            case rel => exact ⟨q + 1, by have := HQ.out; omega, by have := HQ.out; go_num, HB26.out⟩
            case measure => have := HQ.out; simp [intOf]; omega
          · have hor : z < 1 ∨ 8 < z := by omega
            have HL1 := hid (HLo.out z hor)
            have HSm : Hid (∀ u : World, Calls Tryz.prog 26 #[.agg #[.int .i64 0, .float .f64 0], .agg #[.int .i64 0, .float .f64 0]] u fun e w' => e = .returned (.bool true) ∧ Below u.heap.size u w') := hid (fun u => by have := qsameResult_any 0 0 0 0 u; rw [sameS_refl] at this; exact this)
            clear hin
            rcases hor with hlo | hhi
            · have hl1 : ¬ (1 ≤ z) := by omega
              have hl2 : decide (1 ≤ z) = false := decide_eq_false hl1
              go_wp2_with (first
                | (go_at_call 26; refine (HSm.out _).mono ?_; rintro e w26 ⟨rfl, hb⟩; have HB26 := hid (H23.out.2.2.trans (hb.mono H23.out.2.2.size)); clear hb)
                | (have := H22; refine wl_store_rs rfl _ _ rfl w22.heap.size rfl 0 0 0 0 rfl (heap_alloc_last w22 _) ?_; intro w23 Hz; have hbz := Hz.out.2.below ((Below.refl w22.heap.size w22).alloc (Nat.le_refl _) (.cells #[.int .i64 0, .float .f64 0] 50)) (Nat.le_refl _); have H23 := hid (And.intro Hz.out.1 (And.intro (H22.out.1.keep hbz) (H22.out.2.trans (hbz.mono H22.out.2.size)))); clear Hz hbz; obtain ⟨x0, x1⟩ := H23.out.1.cells; obtain ⟨z0, z1⟩ := H23.out.2.1.cells)
                | (have := HB21; refine wl_store_rs rfl _ _ rfl w21.heap.size rfl 0 0 0 0 rfl (heap_alloc_last w21 _) ?_; intro w22 Hz; have hbz := Hz.out.2.below ((Below.refl w21.heap.size w21).alloc (Nat.le_refl _) (.cells #[.int .i64 0, .float .f64 0] 50)) (Nat.le_refl _); have H22 := hid (And.intro Hz.out.1 (HB21.out.trans (hbz.mono HB21.out.size))); clear Hz hbz)
                | (go_at_call 34; refine (HL1.out _ HB2.out).mono ?_; rintro e w21 ⟨rfl, hb⟩; have HB21 := hid (HB2.out.trans (hb.mono HB2.out.size)); clear hb))
              go_roundw
              case rel => exact ⟨q + 1, by have := HQ.out; omega, by have := HQ.out; go_num, HB26.out⟩
              case measure => have := HQ.out; simp [intOf]; omega
            · have hl1 : (1 : Int) ≤ z := by omega
              have hl2 : ¬ (z ≤ 8) := by omega
              have hl3 : decide (z ≤ 8) = false := decide_eq_false hl2
              go_wp2_with (first
                | (go_at_call 26; refine (HSm.out _).mono ?_; rintro e w26 ⟨rfl, hb⟩; have HB26 := hid (H23.out.2.2.trans (hb.mono H23.out.2.2.size)); clear hb)
                | (have := H22; refine wl_store_rs rfl _ _ rfl w22.heap.size rfl 0 0 0 0 rfl (heap_alloc_last w22 _) ?_; intro w23 Hz; have hbz := Hz.out.2.below ((Below.refl w22.heap.size w22).alloc (Nat.le_refl _) (.cells #[.int .i64 0, .float .f64 0] 50)) (Nat.le_refl _); have H23 := hid (And.intro Hz.out.1 (And.intro (H22.out.1.keep hbz) (H22.out.2.trans (hbz.mono H22.out.2.size)))); clear Hz hbz; obtain ⟨x0, x1⟩ := H23.out.1.cells; obtain ⟨z0, z1⟩ := H23.out.2.1.cells)
                | (have := HB21; refine wl_store_rs rfl _ _ rfl w21.heap.size rfl 0 0 0 0 rfl (heap_alloc_last w21 _) ?_; intro w22 Hz; have hbz := Hz.out.2.below ((Below.refl w21.heap.size w21).alloc (Nat.le_refl _) (.cells #[.int .i64 0, .float .f64 0] 50)) (Nat.le_refl _); have H22 := hid (And.intro Hz.out.1 (HB21.out.trans (hbz.mono HB21.out.size))); clear Hz hbz)
                | (go_at_call 34; refine (HL1.out _ HB2.out).mono ?_; rintro e w21 ⟨rfl, hb⟩; have HB21 := hid (HB2.out.trans (hb.mono HB2.out.size)); clear hb))
              go_roundw
              case rel => exact ⟨q + 1, by have := HQ.out; omega, by have := HQ.out; go_num, HB26.out⟩
              case measure => have := HQ.out; simp [intOf]; omega
    · have hj1 : (j : Int) < (n : Int) := by omega
      have hjl : j < s.its.length := by have := HNe.out; omega
      have HJ := hid (And.intro hj hjn)
      have hy : s.its.getD j (kEm, 0) ∈ s.its := List.mem_of_getElem? (getK_atR hjl)
      obtain ⟨ga, off, rfl, hc1, hc2⟩ := (HK.out _ HB.out).it.at j _ (getK_atR hjl)
      have HG1 := hid (HGt.out _ hy)
      have HCn := hid (HCan.out _ hy)
      have HCk : Hid (∀ u : World, LrA u g gs gr am an (some ⟨ga, off, none⟩) cm cn ci s → u.cell? ⟨ga, off + j * 2 + 1, none⟩ = some (.int .u64 ((s.its.getD j (kEm, 0)).2 : Int)) ∧ u.cell? ⟨g, 4, none⟩ = some (.slice (some ⟨ga, off, none⟩) n ci)) := hid (fun u q => by
        obtain ⟨g2, o2, e2, _, k2⟩ := q.it.at j _ (getK_atR hjl)
        cases e2
        exact ⟨k2, (HC.out _ q).2.2.2.1⟩)
      generalize s.its.getD j (kEm, 0) = y at hc1 hc2 HG1 HCn HCk
      clear hj hjn hjl hy hc2
      go_wp2_with (go_at_call 32; refine (HG1.out _ HB.out).mono ?_; rintro e w10 ⟨rfl, hb⟩; have HB10 := hid (HB.out.trans (hb.mono HB.out.size)); clear hb c4 hc1)
      have HB11 := hid HB10.out.drew
      refine wp_region_G (S := fun ww => LrA ww g gs gr am an (some ⟨ga, off, none⟩) cm cn ci s) (ex := []) (by kernel_rfl) ?_
      try (change wpAnyG _ _ _ _ _ _ _ _ _ (World.drew _))
      refine wpAnyG_take (i := 0) (v := ?v201) rfl (by kernel_rfl) (fun _ _ _ h => h) (Or.inl ⟨by rfl, ?hy201⟩) (HK.out _ HB11.out) ?rest201
      case hy201 => (intro ww _; go_simp; try with_reducible rfl)
      go_simp
      refine wpAnyG_take (i := 1) (v := ?v202) rfl (by kernel_rfl) (fun _ _ _ h => h) (Or.inl ⟨by rfl, ?hy202⟩) (HK.out _ HB11.out) ?rest202
      case hy202 => (intro ww _; go_simp; try with_reducible rfl)
      go_simp
      refine wpAnyG_take (i := 2) (v := ?v203) rfl (by kernel_rfl) (fun _ _ _ h => h) (Or.inl ⟨by rfl, ?hy203⟩) (HK.out _ HB11.out) ?rest203
      case hy203 => (intro ww _; go_simp; try with_reducible rfl)
      go_simp
      refine wpAnyG_take (i := 3) (v := ?v204) rfl (by kernel_rfl) (fun _ _ _ h => h) (Or.inl ⟨by rfl, ?hy204⟩) (HK.out _ HB11.out) ?rest204
      case hy204 => (intro ww _; go_simp; try with_reducible rfl)
      go_simp
      refine wpAnyG_take (i := 5) (v := ?v205) rfl (by kernel_rfl) (fun _ _ _ h => h) (Or.inl ⟨by rfl, ?hy205⟩) (HK.out _ HB11.out) ?rest205
      case hy205 => (intro ww _; go_simp; try with_reducible rfl)
      go_simp
      refine wpAnyG_take (i := 6) (v := ?v206) rfl (by kernel_rfl) (fun _ _ _ h => h) (Or.inl ⟨by rfl, ?hy206⟩) (HK.out _ HB11.out) ?rest206
      case hy206 => (intro ww _; go_simp; try with_reducible rfl)
      go_simp
      refine wpAnyG_take (i := 7) (v := ?v207) rfl (by kernel_rfl) (fun _ _ _ h => h) (Or.inl ⟨by rfl, ?hy207⟩) (HK.out _ HB11.out) ?rest207
      case hy207 => (intro ww _; go_simp; try with_reducible rfl)
      go_simp
      refine wpAnyG_take (i := 8) (v := ?v208) rfl (by kernel_rfl) (fun _ _ _ h => h) (Or.inl ⟨by rfl, ?hy208⟩) (HK.out _ HB11.out) ?rest208
      case hy208 => (intro ww hS; obtain ⟨k2, c4⟩ := HCk.out ww hS; go_simp; try with_reducible rfl)
      go_simp
      refine wpAnyG_take (i := 9) (v := ?v209) rfl (by kernel_rfl) (fun _ _ _ h => h) (Or.inl ⟨by rfl, ?hy209⟩) (HK.out _ HB11.out) ?rest209
      case hy209 => (intro ww _; go_simp; try with_reducible rfl)
      go_simp
      refine wpAnyG_take (i := 10) (v := ?v210) rfl (by kernel_rfl) (fun _ _ _ h => h) (Or.inl ⟨by rfl, ?hy210⟩) (HK.out _ HB11.out) ?rest210
      case hy210 => (intro ww _; go_simp; try with_reducible rfl)
      go_simp
      refine wpAnyG_take (i := 11) (v := ?v211) rfl (by kernel_rfl) (fun _ _ _ h => h) (Or.inl ⟨by rfl, ?hy211⟩) (HK.out _ HB11.out) ?rest211
      case hy211 => (intro ww _; go_simp; try with_reducible rfl)
      go_simp
      refine wpAnyG_take (i := 12) (v := ?v212) rfl (by kernel_rfl) (fun _ _ _ h => h) (Or.inl ⟨by rfl, ?hy212⟩) (HK.out _ HB11.out) ?rest212
      case hy212 => (intro ww hS; obtain ⟨k2, c4⟩ := HCk.out ww hS; go_simp; try with_reducible rfl)
      go_simp
      refine wpAnyG_all (rs := [4]) (by kernel_rfl) (by simp) ?_
      intro i hi
      obtain rfl := List.mem_singleton.1 hi
      clear hi
      refine wpOp_d rfl (by rfl) (fun K hK => ?_)
      go_simp
      refine (kbits_any y.2 _).mono ?_
      rintro e w12 ⟨rfl, hw⟩
      replace hw := hw.symm
      subst hw
      rw [HCn.out]
      refine hK _ _ ⟨fun _ => (HK.out _ HB11.out), ?_⟩
      clear hK K
      go_simp
      refine wpAnyG_take (i := 13) (v := ?v213) rfl (by kernel_rfl) (fun _ _ _ h => h) (Or.inl ⟨by rfl, ?hy213⟩) (HK.out _ HB11.out) ?rest213
      case hy213 => (intro ww _; go_simp; try with_reducible rfl)
      go_simp
      refine wpAnyG_take (i := 14) (v := ?v214) rfl (by kernel_rfl) (fun _ _ _ h => h) (Or.inl ⟨by rfl, ?hy214⟩) (HK.out _ HB11.out) ?rest214
      case hy214 => (intro ww _; go_simp; try with_reducible rfl)
      go_simp
      refine wpAnyG_done (by kernel_rfl) ?_ _
      go_simp
      go_wp2
      go_roundw
      case rel => exact ⟨j + 1, by have := HJ.out; omega, by go_num, HB11.out⟩
      case measure => simp [intOf]; omega
end Go.Proofs.YtecidbdbdnnglaaGreat
