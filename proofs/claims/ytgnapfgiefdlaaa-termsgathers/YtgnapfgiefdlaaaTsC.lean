/- The program's: who signed a text, gathered and counted. -/
import Derived.Test.YtgnapfgiefdlaaaTsB
import Derived.Test.YtgnapfgiefdlaaaTeF
namespace Go.Proofs.Ytgnapfgiefdlaaa
open Go.RowKit

theorem OwnedI.keep {B : Nat} {w0 w w' : World} {v : Value} {l : List Int} (h : OwnedI B w0 w v l) (hb : Below w.heap.size w w') : OwnedI B w0 w' v l := by
  refine ⟨⟨h.own.1, ?_⟩, h.bel.trans (hb.mono h.le), Nat.le_trans h.le hb.size⟩
  rcases h.own.2 with hn | ⟨g, cap, cur, hv, hB, hh, hr⟩
  · exact .inl hn
  · exact .inr ⟨g, cap, cur, hv, hB, (hb.block g (lt_of_blk hh)).trans hh, hr⟩
theorem OwnedI.ints {B : Nat} {w0 w : World} {v : Value} {l : List Int} (h : OwnedI B w0 w v l) : ∃ a cap, v = .slice a l.length cap ∧ IntsIn w a l := by
  by_cases h0 : 0 < l.length
  · obtain ⟨g, cap, hv, _, _, hg, _, hc⟩ := h.form h0
    exact ⟨_, cap, hv, .inr ⟨g, 0, rfl, hg, fun j s hj => by rw [Nat.zero_add]; exact hc j s hj⟩⟩
  · obtain rfl : l = [] := List.eq_nil_of_length_eq_zero (by omega)
    rcases h.own.2 with ⟨hv, _⟩ | ⟨g, cap, cur, hv, _⟩
    · exact ⟨none, 0, hv, .inl rfl⟩
    · exact ⟨_, cap, hv, .inl rfl⟩
theorem text_no {r t : ByteArray} (h : r.data.toList ≠ t.data.toList) : (r.toList == t.toList) = false := by
  rw [data_list, data_list]
  simpa using h
set_option maxRecDepth 100000 in
set_option maxHeartbeats 1600000 in
theorem tsigners_any (t : ByteArray) (b : Option Addr) (m cp : Nat) (ss : List (Int × ByteArray)) (hsn : ss.length = m) (hsm : m * 24 ≤ 140737488355328) (w : World) (hP : PairsIn w b ss) :
    Calls Try.prog 33 #[.string t, .slice b m cp] w fun e w' => ∃ v, e = .returned v ∧ OwnedI w.heap.size w w' v (sgn t ss) := by
  have hm2 : (m : Int) ≤ 9223372036854775806 := by omega
  have HP := hid (And.intro hP hsn)
  have HM := hid hsm
  clear hP hsn hsm
  go_enter Try.func33, Try.ntmps33
  go_wp2
  obtain ⟨i0, hi0, hz0, hz1, hz2⟩ := info_parts Try.info3
  go_loopw [5, 10] (fun v i wr => ∃ j : Nat, j ≤ m ∧ i = .int .i64 (j : Int) ∧ OwnedI w.heap.size w wr v (sgn t (ss.take j)))
    (fun _ i _ => ((m : Int) - intOf i).toNat)
  case atStart => exact ⟨0, by omega, rfl, OwnedI.nil (Below.refl _ _) (Nat.le_refl _)⟩
  case round =>
    obtain ⟨j, hj, rfl, hO⟩ := hrel
    by_cases hjn : j = m
    · have hj1 : ¬ ((j : Int) < (m : Int)) := by omega
      rw [List.take_of_length_le (by rw [HP.out.2]; omega)] at hO
      have HO := hid hO
      clear hO hj hjn
      go_wp2
      go_ret
      exact ⟨_, rfl, HO.out⟩
    · have hj1 : (j : Int) < (m : Int) := by omega
      have hj0 : (0 : Int) ≤ (j : Int) := Int.natCast_nonneg _
      have hjl : j < ss.length := by rw [HP.out.2]; omega
      obtain ⟨g, off, rfl, hg, x1, y1⟩ := HP.out.1.at j _ (getP_some hjl)
      have hyes := @sgn_yes t ss j hjl
      have hno := @sgn_no t ss j hjl
      have hlen : (sgn t (ss.take j)).length ≤ j := Nat.le_trans (sgn_len t _) (by rw [List.length_take]; omega)
      obtain ⟨x, ex⟩ : ∃ x, x = idOf ss j := ⟨_, rfl⟩
      obtain ⟨r, er⟩ : ∃ r, r = rtOf ss j := ⟨_, rfl⟩
      obtain ⟨S, eS⟩ : ∃ S, S = sgn t (ss.take j) := ⟨_, rfl⟩
      rw [← ex] at x1 hyes
      rw [← er] at y1 hyes hno
      rw [← eS] at hO hyes hno hlen
      have z0 : wr.cell? ⟨g, off + j * 2, none⟩ = some (.int .i64 x) := (hO.bel.cell (p := ⟨g, _, none⟩) hg).trans x1
      have z1 : wr.cell? ⟨g, off + j * 2 + 1, none⟩ = some (.string r) := (hO.bel.cell (p := ⟨g, _, none⟩) hg).trans y1
      obtain ⟨ao, co, hu, _⟩ := hO.ints
      subst hu
      have HA : Hid (OwnedI w.heap.size w (wr.alloc (.cells #[.int .i64 x, .string r] 34)) (.slice ao S.length co) S) := hid (hO.alloc _)
      have HNw : Hid (((wr.alloc (.cells #[.int .i64 x, .string r] 34)).alloc (.cells #[.int .i64 x] 3)).heap[wr.heap.size + 1]? = some (.cells #[.int .i64 x] 3 (0, 0))) := hid (snd_alloc wr _ _)
      have HC := hid (cell_two (heap_alloc_last wr (.cells #[.int .i64 x, .string r] 34)))
      have HJ := hid (And.intro hj hjn)
      have HL : Hid ((S.length + 1) * 8 ≤ 140737488355328) := hid (by have := HM.out; omega)
      have HYes := hid hyes
      have HNo := hid hno
      clear hj hjn hjl ex er eS hO hg x1 y1 hyes hno hlen
      by_cases hr : r.data.toList = t.data.toList
      · obtain rfl : r = t := bytes_eq hr
        have HR := hid (HYes.out rfl)
        clear hr
        go_wp2_with (at_builtin; refine wpList_append_own _ rfl _ _ 22 rfl w.heap.size 3 i0 (.int .i64 0) 1 8 Try.underlying22 hi0 hz0 hz1 hz2 rfl (by decide) _ _ _ rfl (HA.out.alloc _).own ⟨_, 0, none⟩ 1 1 (iC [x]) rfl rfl (World.news_of_block (t := 3) (fr := (0, 0)) HNw.out) (iC_one _) (by have := HL.out; unfold maxLen; omega) (by have := HL.out; omega) (HA.out.alloc _).le ?_; intro v8 w8 hown8 hgrow8 hnil8; have H8 := hid ((HA.out.alloc _).grow (xs := [x]) rfl hown8 hgrow8); clear hown8 hgrow8 hnil8)
        go_roundw
        case rel => exact ⟨j + 1, by have := HJ.out; omega, by go_num, by rw [HR.out]; exact H8.out⟩
        case measure => simp [intOf]; omega
      · have HR := hid (HNo.out hr)
        have hr2 := text_no hr
        clear hr
        go_wp2
        go_roundw
        case rel => exact ⟨j + 1, by have := HJ.out; omega, by go_num, by rw [HR.out]; exact HA.out⟩
        case measure => simp [intOf]; omega
set_option maxRecDepth 100000 in
set_option maxHeartbeats 1600000 in
theorem tgather_any (ep : Int) (a : Option Addr) (n cap : Nat) (l : List Int) (hn : l.length = n) (hm : n * 8 ≤ 140737488355328) (t : ByteArray) (b : Option Addr) (m cp : Nat) (ss : List (Int × ByteArray)) (hsn : ss.length = m) (hsm : m * 24 ≤ 140737488355328) (w : World) (hI : IntsIn w a l) (hP : PairsIn w b ss) :
    Calls Try.prog 14 #[.agg #[.int .i64 ep, .slice a n cap], .string t, .slice b m cp] w fun e w' => ∃ v, e = .returned v ∧ w'.ownsRow w.heap.size 34 2 v (gathL l t ss).length (pC (gP t (gathL l t ss))) ∧ Below w.heap.size w w' := by
  obtain ⟨W, eW⟩ : ∃ W, W = w.alloc (.cells #[.int .i64 ep, .slice a n cap] 24) := ⟨_, rfl⟩
  have hbW : Below w.heap.size w W := by rw [eW]; exact (Below.refl _ _).alloc (Nat.le_refl _) _
  have c1 : W.cell? ⟨w.heap.size, 1, none⟩ = some (.slice a n cap) := by rw [eW]; exact (cell_two (heap_alloc_last w _)).2
  have HE := hid eW
  have HW := hid hbW
  have hK : (risen (sgn t ss)).length ≤ m := Nat.le_trans (risen_len _) (by rw [← hsn]; exact sgn_len t ss)
  have HK := hid hK
  have HM := hid (And.intro hsm (And.intro hsn (And.intro hm hn)))
  have H1 : Hid (Calls Try.prog 32 #[.slice a n cap] W fun e w' => ∃ v, e = .returned v ∧ OwnedI W.heap.size W w' v (risen l)) := hid (trising_any a n cap l hn hm W (hI.keep hbW (Nat.le_refl _)))
  have HP := hid (hP.keep hbW (Nat.le_refl _))
  clear hI hP hn hm hsn hsm eW hbW hK
  obtain ⟨i0, hi0, hz0, hz1, hz2⟩ := info_parts Try.info34
  go_enter Try.func14, Try.ntmps14
  go_wp2_with (first
    | (go_at_call 32; have := H3; refine (trising_any ag _ cg (sgn t ss) rfl (by have := sgn_len t ss; have := HM.out; omega) _ H3.out.2.2).mono ?_; rintro e w4 ⟨v4, rfl, h4⟩
       have H4 : Hid (OwnedI w3.heap.size w3 w4 v4 (risen (sgn t ss)) ∧ IntsIn w4 am (risen l) ∧ Below W.heap.size W w4) := hid ⟨h4, H3.out.1.keep h4.bel (Nat.le_refl _), H3.out.2.1.trans (h4.bel.mono H3.out.2.1.size)⟩
       obtain ⟨aG, cG, hv4, hG4⟩ := h4.ints
       subst hv4
       have HG : Hid (IntsIn w4 aG (risen (sgn t ss))) := hid hG4
       clear h4 hG4)
    | (go_at_call 33; have := H2; refine (tsigners_any t b m cp ss HM.out.2.1 HM.out.1 _ (HP.out.keep H2.out.1 (Nat.le_refl _))).mono ?_; rintro e w3 ⟨v3, rfl, h3⟩
       obtain ⟨ag, cg, hv3, hg3⟩ := h3.ints
       subst hv3
       have H3 : Hid (IntsIn w3 am (risen l) ∧ Below W.heap.size W w3 ∧ IntsIn w3 ag (sgn t ss)) := hid ⟨H2.out.2.keep h3.bel (Nat.le_refl _), H2.out.1.trans (h3.bel.mono H2.out.1.size), hg3⟩
       clear h3 hg3)
    | (go_at_call 32; have hx := HE.out; rw [← hx]; clear hx; refine H1.out.mono ?_; rintro e w2 ⟨v2, rfl, h2⟩
       obtain ⟨am, cm, hv2, hi2⟩ := h2.ints
       subst hv2
       have H2 : Hid (Below W.heap.size W w2 ∧ IntsIn w2 am (risen l)) := hid ⟨h2.bel, hi2⟩
       clear h2 hi2 c1))
  obtain ⟨G, eG⟩ : ∃ G, G = risen (sgn t ss) := ⟨_, rfl⟩
  have HEnd : Hid (among l G G.length = gathL l t ss) := hid (by rw [eG]; exact among_all l t ss)
  have HGl : Hid (G.length ≤ m) := hid (by rw [eG]; exact HK.out)
  have hG2 : (G.length : Int) ≤ 9223372036854775806 := by have := HGl.out; have := HM.out; omega
  have HGi : Hid (IntsIn w4 aG G ∧ IntsIn w4 am (risen l) ∧ Below w.heap.size w w4) := hid ⟨by rw [eG]; exact HG.out, H4.out.2.1, HW.out.trans (H4.out.2.2.mono HW.out.size)⟩
  have HAm : Hid (∀ (x : Int) (u : World), IntsIn u am (risen l) → Calls Try.prog 34 #[.slice am (risen l).length cm, .int .i64 x] u fun e w' => e = .returned (.bool (hasM l x)) ∧ Below u.heap.size u w') := hid (fun x u hu => by
    rw [← risen_has]
    exact tisAmong_any am _ cm (risen l) rfl (by have := risen_len l; have := HM.out; omega) (risen_spec l).1 x u hu)
  rw [← eG]
  clear eG HG H4 H3 H2 H1 HP HE HW HK
  go_loopw [8, 19] (fun v i wr => ∃ j : Nat, j ≤ G.length ∧ i = .int .i64 (j : Int) ∧ GaSt w4 wr v t (among l G j))
    (fun _ i _ => ((G.length : Int) - intOf i).toNat)
  case atStart => exact ⟨0, by omega, rfl, ⟨⟨rfl, .inl ⟨rfl, rfl⟩⟩, Below.refl _ _⟩⟩
  case round =>
    obtain ⟨j, hj, rfl, hO⟩ := hrel
    by_cases hjn : j = G.length
    · have hj1 : ¬ ((j : Int) < (G.length : Int)) := by omega
      rw [hjn, HEnd.out] at hO
      have HO := hid hO
      clear hO hj hjn
      go_wp2
      go_ret
      exact ⟨_, rfl, ownsRow_low HO.out.own HGi.out.2.2.size, HGi.out.2.2.trans (HO.out.bel.mono HGi.out.2.2.size)⟩
    · have hj1 : (j : Int) < (G.length : Int) := by omega
      have hj0 : (0 : Int) ≤ (j : Int) := Int.natCast_nonneg _
      have hjl : j < G.length := by omega
      have hyes := @among_yes l G j hjl
      have hno := @among_no l G j hjl
      have hlen := among_len l G j
      obtain ⟨g, off, rfl, hg, hcell⟩ := HGi.out.1.at j _ (getD_some hjl)
      obtain ⟨S, eS⟩ : ∃ S, S = among l G j := ⟨_, rfl⟩
      rw [← eS] at hO hyes hno hlen
      generalize G.getD j 0 = x at hcell hyes hno
      have z0 : wr.cell? ⟨g, off + j, none⟩ = some (.int .i64 x) := (hO.bel.cell (p := ⟨g, _, none⟩) hg).trans hcell
      obtain ⟨ao, co, hu, _⟩ := hO.pairs
      subst hu
      have HO := hid hO
      have HI : Hid (IntsIn wr am (risen l)) := hid (HGi.out.2.1.keep hO.bel (Nat.le_refl _))
      have HJ := hid (And.intro hj hjn)
      have HL : Hid ((S.length + 1) * 24 ≤ 140737488355328) := hid (by have := HM.out; have := HGl.out; omega)
      clear hj hjn hjl eS hO hg hcell hlen
      cases hh : hasM l x with
      | false =>
        have HR := hid (hno hh)
        have HAx : Hid (∀ u : World, IntsIn u am (risen l) → Calls Try.prog 34 #[.slice am (risen l).length cm, .int .i64 x] u fun e w' => e = .returned (.bool false) ∧ Below u.heap.size u w') := hid (fun u hu => by rw [← hh]; exact HAm.out x u hu)
        clear hyes hno hh
        go_wp2_with (go_at_call 34; refine (HAx.out _ HI.out).mono ?_; rintro e w5 ⟨rfl, hb5⟩; have H5 := hid (HO.out.keep hb5); clear hb5)
        go_roundw
        case rel => exact ⟨j + 1, by have := HJ.out; omega, by go_num, by rw [HR.out]; exact H5.out⟩
        case measure => simp [intOf]; omega
      | true =>
        have HR := hid (hyes hh)
        have HAx : Hid (∀ u : World, IntsIn u am (risen l) → Calls Try.prog 34 #[.slice am (risen l).length cm, .int .i64 x] u fun e w' => e = .returned (.bool true) ∧ Below u.heap.size u w') := hid (fun u hu => by rw [← hh]; exact HAm.out x u hu)
        clear hyes hno hh
        go_wp2_with (first
          | (go_at_call 34; refine (HAx.out _ HI.out).mono ?_; rintro e w5 ⟨rfl, hb5⟩; have H5 := hid (HO.out.keep hb5); clear hb5)
          | (at_builtin; refine wpList_append_own _ rfl _ _ 25 rfl w4.heap.size 34 i0 (.agg #[.int .i64 0, .string ⟨#[]⟩]) 2 24 Try.underlying25 hi0 hz0 hz1 hz2 rfl (by decide) _ S.length _ rfl (by exact H5.out.own.alloc _) ⟨_, 0, none⟩ 1 1 (pC [(x, t)]) rfl rfl (World.news_of_block (t := 34) (fr := (0, 0)) (heap_alloc_last _ _)) (by simp [pC, Value.oneCell']) (by have := HL.out; unfold maxLen; omega) (by have := HL.out; omega) (by have := H5.out.bel.size; simp; omega) ?_; intro v8 w8 hown8 hgrow8 hnil8
             have H8 : Hid (GaSt w4 w8 v8 t (S ++ [x])) := hid ⟨by rw [List.length_append, gP_app, pC_app]; exact hown8, (H5.out.bel.alloc H5.out.bel.size _).grown hgrow8 (by have := H5.out.bel.size; simp; omega) (fun k hk => (H5.out.own.lt k hk).1)⟩
             clear hown8 hgrow8 hnil8))
        go_roundw
        case rel => exact ⟨j + 1, by have := HJ.out; omega, by go_num, by rw [HR.out]; exact H8.out⟩
        case measure => simp [intOf]; omega
set_option maxRecDepth 100000 in
set_option maxHeartbeats 1600000 in
theorem tcount_any (ep : Int) (a : Option Addr) (n cap : Nat) (l : List Int) (hn : l.length = n) (hm : n * 8 ≤ 140737488355328) (t : ByteArray) (b : Option Addr) (m cp : Nat) (ss : List (Int × ByteArray)) (hsn : ss.length = m) (hsm : m * 24 ≤ 140737488355328) (w : World) (hI : IntsIn w a l) (hP : PairsIn w b ss) :
    Calls Try.prog 12 #[.agg #[.int .i64 ep, .slice a n cap], .string t, .slice b m cp] w fun e w' => e = .returned (.int .i64 ((gathL l t ss).length : Int)) ∧ Below w.heap.size w w' := by
  obtain ⟨W, eW⟩ : ∃ W, W = w.alloc (.cells #[.int .i64 ep, .slice a n cap] 24) := ⟨_, rfl⟩
  have hbW : Below w.heap.size w W := by rw [eW]; exact (Below.refl _ _).alloc (Nat.le_refl _) _
  have c0 : W.cell? ⟨w.heap.size, 0, none⟩ = some (.int .i64 ep) := by rw [eW]; exact (cell_two (heap_alloc_last w _)).1
  have c1 : W.cell? ⟨w.heap.size, 1, none⟩ = some (.slice a n cap) := by rw [eW]; exact (cell_two (heap_alloc_last w _)).2
  have HE := hid eW
  have HW := hid hbW
  have H1 := hid (tgather_any ep a n cap l hn hm t b m cp ss hsn hsm W (hI.keep hbW (Nat.le_refl _)) (hP.keep hbW (Nat.le_refl _)))
  clear hI hP hn hm hsn hsm eW hbW
  go_enter Try.func12, Try.ntmps12
  go_wp2_with (go_at_call 14; have hx := HE.out; rw [← hx]; clear hx; refine H1.out.mono ?_; rintro e w2 ⟨v2, rfl, hown, hb2⟩; obtain ⟨ad, cd, hv2, _⟩ := own_pairsT (ps := gP t (gathL l t ss)) (by rw [gP_len]; exact hown); rw [gP_len] at hv2; subst hv2; have H2 := hid hb2; clear hown hb2 c0 c1)
  go_ret
  exact ⟨rfl, HW.out.trans (H2.out.mono HW.out.size)⟩
end Go.Proofs.Ytgnapfgiefdlaaa
