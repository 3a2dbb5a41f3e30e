/- No two tallies settle unlike things. -/
import Derived.Test.YtkceihnjnjbceaaVAgM
import Derived.Test.YtkceihnjnjbceaaKd1
import Derived.Deep.DeepMust
namespace Go.Proofs.Ytkceihnjnjbceaa
open Go.RowKit

/-- The configuration and the scripts' box. -/
structure BgSt (w0 w : World) (ep : Int) (cv b1 b2 : Value) : Prop where
  cf : CvAt w w0.heap.size ep cv
  bx : w.heap[w0.heap.size + 1]? = some (.cells #[b1, b2] 62 (0, 0))
  bel : Below w0.heap.size w0 w
theorem BgSt.keep {w0 w w' : World} {ep : Int} {cv b1 b2 : Value} (h : BgSt w0 w ep cv b1 b2) (hb : Below w.heap.size w w') : BgSt w0 w' ep cv b1 b2 := ⟨h.cf.keep hb, (hb.block _ (lt_of_blk h.bx)).trans h.bx, h.bel.trans (hb.mono h.bel.size)⟩
set_option maxRecDepth 100000 in
set_option maxHeartbeats 3200000 in
theorem vagree_no (ep : Int) (a : Option Addr) (n cap : Nat) (l : List Int) (hn : l.length = n) (hm : n ≤ maxLen) (bd : Option Addr) (nb cb : Nat) (o1 : Option Addr) (n1 c1 : Nat) (o2 : Option Addr) (n2 c2 : Nat) (hr : rightC ep l = false) (w : World) (hI : IntsIn w a l) :
    Calls Try.prog 6 #[.agg #[.int .i64 ep, .slice a n cap], .slice bd nb cb, .agg #[.slice o1 n1 c1, .slice o2 n2 c2]] w fun e w' => e = .returned (.bool true) ∧ Below w.heap.size w w' := by
  have HL : Hid (∀ u : World, Calls Try.prog 9 #[] u fun e w' => e = .returned (.bool true) ∧ Below u.heap.size u w') := hid ulives_any
  have H0 : Hid (BgSt w ((w.alloc (.cells #[.int .i64 ep, .slice a n cap] 24)).alloc (.cells #[.slice o1 n1 c1, .slice o2 n2 c2] 62)) ep (.slice a n cap) (.slice o1 n1 c1) (.slice o2 n2 c2)) := hid ⟨(Below.heap_alloc _ _ _ (by simp)).trans (heap_alloc_last w _), snd_alloc w _ _, ((Below.refl _ _).alloc (Nat.le_refl _) _).alloc (by simp) _⟩
  have HN : Hid (∀ u : World, Below w.heap.size w u → Calls Try.prog 12 #[.agg #[.int .i64 ep, .slice a n cap]] u fun e w' => e = .returned (.tuple #[.pointer none, .int .i64 1]) ∧ Below u.heap.size u w') := hid (fun u hu => vnew_no ep a n cap l hn hm u (hI.keep hu (Nat.le_refl _)) hr)
  clear hI hr
  go_enter Try.func6, Try.ntmps6
  go_wp2_with (first
    | (go_at_call 9; go_must (refine (HL.out _).mono ?_; rintro e w1 ⟨rfl, hb⟩; have H1 := hid (H0.out.keep hb); obtain ⟨x0, x1⟩ := H1.out.cf.cells; clear hb))
    | (go_at_call 12; refine (HN.out _ H1.out.bel).mono ?_; rintro e w2 ⟨rfl, hb⟩; have H2 := hid (H1.out.keep hb); clear hb x0 x1 H1; obtain ⟨x0, x1⟩ := H2.out.cf.cells)
    | (go_at_call 12; go_must (refine (HN.out _ H2.out.bel).mono ?_; rintro e w3 ⟨rfl, hb⟩; have H3 := hid (H2.out.keep hb); clear hb x0 x1 H2; obtain ⟨x0, x1⟩ := H3.out.cf.cells)))
  go_ret
  exact ⟨rfl, H3.out.bel⟩
def wildTo (l bad : List Int) (j : Nat) : Nat := ((l.take j).filter fun x => decide (x ∈ bad)).length
theorem wildTo_succ (l bad : List Int) (j : Nat) (h : j < l.length) : wildTo l bad (j + 1) = wildTo l bad j + (if l.getD j 0 ∈ bad then 1 else 0) := by
  rw [wildTo, wildTo, List.take_succ_eq_append_getElem h, List.filter_append, List.length_append, getD_get l j h]
  by_cases e : l[j] ∈ bad <;> simp [e]
theorem wildTo_le (l bad : List Int) (j : Nat) : wildTo l bad j ≤ l.length := Nat.le_trans (List.length_filter_le _ _) (by rw [List.length_take]; omega)
theorem wildTo_all (l bad : List Int) (j : Nat) (h : l.length ≤ j) : wildTo l bad j = wildN l bad := by rw [wildTo, List.take_of_length_le h, wildN]
theorem Try.info38 : (Try.prog.info? 38).map (fun i => (i.zero, i.size, i.bytes)) = some (some (.agg #[.int .i64 0, .string ⟨#[]⟩, .slice none 0 0, .int .i64 0]), 4, 56) := by kernel_rfl
theorem vw_put {w : World} {b : Nat} {y0 y1 y2 y3 : Value} {T : TypeId} (h : w.heap[b]? = some (.cells #[y0, y1, y2, y3] T (0, 0))) (x0 x1 x2 x3 : Value) : ((((w.setCell ⟨b, 0, none⟩ x0).setCell ⟨b, 1, none⟩ x1).setCell ⟨b, 2, none⟩ x2).setCell ⟨b, 3, none⟩ x3).heap[b]? = some (.cells #[x0, x1, x2, x3] T (0, 0)) := by
  have h0 : (w.setCell ⟨b, 0, none⟩ x0).heap[b]? = some (.cells #[x0, y1, y2, y3] T (0, 0)) := (blk_set h 0 x0).trans (by simp)
  have h1 := (blk_set h0 1 x1).trans (show _ = some (Obj.cells #[x0, x1, y2, y3] T (0, 0)) by simp)
  have h2 := (blk_set h1 2 x2).trans (show _ = some (Obj.cells #[x0, x1, x2, y3] T (0, 0)) by simp)
  exact (blk_set h2 3 x3).trans (by simp)
theorem mk_said (u : World) : (Instr.makeSlice 22 (.int .i64 0) (.int .i64 0)).run Try.prog u = .ok (.slice (some ⟨u.heap.size, 0, none⟩) 0 0) (u.alloc (.cells #[] 3)) := by kernel_rfl
set_option maxRecDepth 100000 in
set_option maxHeartbeats 12800000 in
theorem vagree_go (ep : Int) (a : Option Addr) (n cap : Nat) (l : List Int) (hn : l.length = n) (bd : Option Addr) (nb cb : Nat) (bad : List Int) (hnb : bad.length = nb) (hmb : nb ≤ maxLen) (o1 : Option Addr) (n1 c1 : Nat) (os1 : List VtA) (hn1 : os1.length = n1) (o2 : Option Addr) (n2 c2 : Nat) (os2 : List VtA) (hn2 : os2.length = n2) (hU : n1 ≤ 1048576 ∧ n2 ≤ 1048576) (hos1 : ∀ x, x ∈ os1 → x.2.1.size ≤ 1048576 ∧ x.2.2.1.length ≤ 1048576) (hos2 : ∀ x, x ∈ os2 → x.2.1.size ≤ 1048576 ∧ x.2.2.1.length ≤ 1048576) (hr : rightC ep l = true) (w : World) (hI : IntsIn w a l) (hBd : IntsIn w bd bad) (hO1 : VtsIn w o1 os1) (hO2 : VtsIn w o2 os2) :
    Calls Try.prog 6 #[.agg #[.int .i64 ep, .slice a n cap], .slice bd nb cb, .agg #[.slice o1 n1 c1, .slice o2 n2 c2]] w fun e w' => e = .returned (.bool true) ∧ Below w.heap.size w w' := by
  obtain ⟨i0, hi0, hz0, hz1, hz2⟩ := info_parts Try.info3
  obtain ⟨iv, hv0, hvz0, hvz1, hvz2⟩ := info_parts Try.info38
  have hml := mem_len (rightC_ep hr).2
  have HP := hid (And.intro hml (And.intro hn (And.intro hr (And.intro hU (And.intro hos1 hos2)))))
  have HL : Hid (∀ u : World, Calls Try.prog 9 #[] u fun e w' => e = .returned (.bool true) ∧ Below u.heap.size u w') := hid ulives_any
  have H0 : Hid (BgSt w ((w.alloc (.cells #[.int .i64 ep, .slice a n cap] 24)).alloc (.cells #[.slice o1 n1 c1, .slice o2 n2 c2] 62)) ep (.slice a n cap) (.slice o1 n1 c1) (.slice o2 n2 c2)) := hid ⟨(Below.heap_alloc _ _ _ (by simp)).trans (heap_alloc_last w _), snd_alloc w _ _, ((Below.refl _ _).alloc (Nat.le_refl _) _).alloc (by simp) _⟩
  have HN : Hid (∀ u : World, Below w.heap.size w u → Calls Try.prog 12 #[.agg #[.int .i64 ep, .slice a n cap]] u fun e w' => ∃ g F, e = .returned (.tuple #[.pointer (some ⟨g, 0, none⟩), .int .i64 0]) ∧ TlAt F w' (.pointer (some ⟨g, 0, none⟩)) ⟨ep, l, []⟩ ∧ (∀ b, b ∈ F → u.heap.size ≤ b) ∧ Below u.heap.size u w') := hid (fun u hu => vnew_yes ep a n cap l hn u (hI.keep hu (Nat.le_refl _)) hr)
  have HHa : Hid (∀ (u : World) (f : Int), Below w.heap.size w u → Calls Try.prog 24 #[.slice bd nb cb, .int .i64 f] u fun e w' => e = .returned (.bool (hasM bad f)) ∧ w' = u) := hid (fun u f hu => vhas_any bd nb cb bad hnb hmb f u (hBd.keep hu (Nat.le_refl _)))
  have HFl : Hid (∀ u : World, Calls Try.prog 25 #[.int .i64 (n : Int)] u fun e w' => e = .returned (.int .i64 (fltZ (n : Int))) ∧ Below u.heap.size u w') := hid (fun u => cfaults_any _ (by omega) u)
  have HI := hid (And.intro hI (And.intro hBd (And.intro hO1 (And.intro hO2 (And.intro hn1 hn2)))))
  have hn10 : (n : Int) ≤ 10 := by omega
  have hU1 : (n1 : Int) ≤ 1048576 := by omega
  have hU2 : (n2 : Int) ≤ 1048576 := by omega
  clear hI hBd hO1 hO2 hml hr hnb hmb hos1 hos2
  go_enter Try.func6, Try.ntmps6
  go_wp2_with (first
    | (go_at_call 9; go_must (refine (HL.out _).mono ?_; rintro e w1 ⟨rfl, hb⟩; have H1 := hid (H0.out.keep hb); obtain ⟨x0, x1⟩ := H1.out.cf.cells; clear hb))
    | (go_at_call 12; refine (HN.out _ H1.out.bel).mono ?_; rintro e w2 ⟨g1, F, rfl, ht2, hf2, hb⟩; have H2 : Hid (BgSt w w2 ep (.slice a n cap) (.slice o1 n1 c1) (.slice o2 n2 c2) ∧ TlAt F w2 (.pointer (some ⟨g1, 0, none⟩)) ⟨ep, l, []⟩ ∧ ∀ b, b ∈ F → w.heap.size + 1 < b) := hid ⟨H1.out.keep hb, ht2, fun b hbF => Nat.lt_of_lt_of_le (lt_of_blk H1.out.bx) (hf2 b hbF)⟩; clear hb x0 x1 H1 ht2 hf2; obtain ⟨x0, x1⟩ := H2.out.1.cf.cells)
    | (go_at_call 12; go_must (refine (HN.out _ H2.out.1.bel).mono ?_; rintro e w3 ⟨g2, G, rfl, ht3, hf3, hb⟩; have H3 : Hid (TwSt w w3 F G (.pointer (some ⟨g1, 0, none⟩)) (.pointer (some ⟨g2, 0, none⟩)) ⟨ep, l, []⟩ ⟨ep, l, []⟩ ep (.slice a n cap) (.slice o1 n1 c1) (.slice o2 n2 c2)) := hid ⟨H2.out.2.1.keep hb, ht3, (H2.out.1.keep hb).cf, (H2.out.1.keep hb).bx, (H2.out.1.keep hb).bel, H2.out.2.2, fun b hbG => Nat.lt_of_lt_of_le (lt_of_blk H2.out.1.bx) (hf3 b hbG), fun b hbF hbG => by have h1 := H2.out.2.1.lt b hbF; have h2 := hf3 b hbG; omega⟩; clear hb x0 x1 H2 ht3 hf3)))
  go_loopw [11, 12] (fun c i wr => ∃ j : Nat, j ≤ n ∧ i = .int .i64 (j : Int) ∧ c = .int .i64 (wildTo l bad j : Int) ∧ TwSt w wr F G (.pointer (some ⟨g1, 0, none⟩)) (.pointer (some ⟨g2, 0, none⟩)) ⟨ep, l, []⟩ ⟨ep, l, []⟩ ep (.slice a n cap) (.slice o1 n1 c1) (.slice o2 n2 c2)) (fun _ i _ => ((n : Int) - intOf i).toNat)
  case atStart => exact ⟨0, by omega, rfl, rfl, H3.out⟩
  case round =>
    obtain ⟨j, hj, rfl, rfl, hst⟩ := hrel
    obtain ⟨x0, x1⟩ := hst.cf.cells
    by_cases hjn : j = n
    · have hj1 : ¬ ((j : Int) < (n : Int)) := by omega
      have HS := hid hst
      have hwl : wildTo l bad j = wildN l bad := wildTo_all l bad j (by have := HP.out.2.1; omega)
      rw [hwl]
      obtain ⟨V, eV⟩ : ∃ V, V = (wildN l bad : Int) := ⟨_, rfl⟩
      obtain ⟨Z, eZ⟩ : ∃ Z, Z = fltZ (n : Int) := ⟨_, rfl⟩
      rw [← eZ] at HFl
      rw [← eV]
      have HVZ := hid (And.intro eV eZ)
      clear hst hj hjn hwl eV eZ
      by_cases hvz : Z < V
      · go_wp2_with (go_at_call 25; go_must (refine (HFl.out _).mono ?_; rintro e w4 ⟨rfl, hb⟩; have H4 := hid (HS.out.keep hb); clear hb))
        go_ret
        exact ⟨rfl, H4.out.bel⟩
      · have hmk := mk_said
        have HVn := hid hvz
        go_wp2_with (go_at_call 25; go_must (refine (HFl.out _).mono ?_; rintro e w4 ⟨rfl, hb⟩; have H4 := hid (HS.out.keep hb); clear hb))
        try simp only [decide_eq_false HVn.out]
        clear hvz
        have H5 : Hid (AgSt w (w4.alloc (.cells #[] 3)) w4.heap.size F G (.pointer (some ⟨g1, 0, none⟩)) (.pointer (some ⟨g2, 0, none⟩)) ⟨ep, l, []⟩ ⟨ep, l, []⟩ ep (.slice a n cap) (.slice o1 n1 c1) (.slice o2 n2 c2) (.slice (some ⟨w4.heap.size, 0, none⟩) 0 0) [] (.slice none 0 0) []) := hid ⟨H4.out.keep ((Below.refl _ _).alloc (Nat.le_refl _) _), H4.out.tl.lt, H4.out.tu.lt, lt_of_blk H4.out.bx, by simp, World.ownsRow_made w4 #[] 0 (Nat.le_refl _) (by decide) rfl, World.ownsRow_nil _ _ _ _, fun k _ h => by cases h⟩
        have HI5 : Hid (AgIn w ep l bad 1048576 ⟨ep, l, []⟩ ⟨ep, l, []⟩ [] []) := hid ⟨⟨rfl, rfl⟩, ⟨rfl, rfl⟩, ⟨rfl, fun i o h => by simp at h⟩, fun v hv => by simp at hv, fun v hv => by simp at hv, fun x hx => by simp at hx⟩
        go_loopw [13, 14, 15] (fun x y k wr => ∃ (K : Nat) (s t : Ta) (said : List Int) (fs : List VtM), K ≤ 2 ∧ k = .int .i64 (K : Int) ∧ AgSt w wr w4.heap.size F G (.pointer (some ⟨g1, 0, none⟩)) (.pointer (some ⟨g2, 0, none⟩)) s t ep (.slice a n cap) (.slice o1 n1 c1) (.slice o2 n2 c2) x said y fs ∧ AgIn w ep l bad 1048576 s t said fs ∧ fs.length ≤ K * 1048576) (fun _ _ k _ => (2 - intOf k).toNat)
        case atStart => exact ⟨0, _, _, [], [], by omega, rfl, H5.out, HI5.out, by simp⟩
        case round =>
          obtain ⟨K, s, t, said, fs, hK, rfl, hst, hin, hfl⟩ := hrel
          generalize w4.heap.size = B at hst
          have hKc : K = 0 ∨ K = 1 ∨ K = 2 := by omega
          rcases hKc with rfl | rfl | rfl
          · rw [show (((0 : Nat)) : Int) = 0 from rfl]
            have HS := hid (And.intro hst (And.intro hin hfl))
            obtain ⟨k0, k1⟩ := cell_two hst.tw.bx
            clear hst hin hfl
            go_wp2
            go_loopw [13, 14, 16] (fun x y i wr => ∃ (j : Nat) (s t : Ta) (said : List Int) (fs : List VtM), j ≤ n1 ∧ i = .int .i64 (j : Int) ∧ AgSt w wr B F G (.pointer (some ⟨g1, 0, none⟩)) (.pointer (some ⟨g2, 0, none⟩)) s t ep (.slice a n cap) (.slice o1 n1 c1) (.slice o2 n2 c2) x said y fs ∧ AgIn w ep l bad 1048576 s t said fs ∧ fs.length ≤ 0 * 1048576 + j) (fun _ _ i _ => ((n1 : Int) - intOf i).toNat)
            case atStart => exact ⟨0, s, t, said, fs, by omega, rfl, HS.out.1, HS.out.2.1, by have := HS.out.2.2; omega⟩
            case round =>
              obtain ⟨j, s, t, said, fs, hj, rfl, hst, hin, hfl⟩ := hrel
              clear k0 k1 HS
              obtain ⟨k0, k1⟩ := cell_two hst.tw.bx
              have hj0 : (0 : Int) ≤ (j : Int) := Int.natCast_nonneg _
              by_cases hjn : j = n1
              · have hj1 : ¬ ((j : Int) < (n1 : Int)) := by omega
                have HS := hid (And.intro hst (And.intro hin hfl))
                have HJ := hid (And.intro hj hjn)
                clear hst hin hfl hj hjn
                go_wp2
                go_roundw
                case rel => exact ⟨0 + 1, s, t, said, fs, by omega, by go_num, HS.out.1, HS.out.2.1, by have h1 := HS.out.2.2; have h2 := HP.out.2.2.2.1; have h3 := HJ.out; omega⟩
                case measure => simp [intOf]
              · have hj1 : (j : Int) < (n1 : Int) := by omega
                have hjl : j < os1.length := by have := HI.out.2.2.2.2.1; omega
                obtain ⟨xv, hxv⟩ : ∃ xv, os1[j]? = some xv := ⟨_, List.getElem?_eq_getElem hjl⟩
                obtain ⟨ga, off, aj, cj, rfl, hga, ⟨e0, e1, e2, e3⟩, hij⟩ := HI.out.2.2.1 j xv hxv
                have hvt := HP.out.2.2.2.2.1 xv (List.mem_of_getElem? hxv)
                obtain ⟨f, tt, nx, z⟩ := xv
                have d0 : wr.cell? ⟨ga, off + j * 4, none⟩ = some (.int .i64 f) := (hst.tw.bel.cell (p := ⟨ga, _, none⟩) hga).trans e0
                have d1 : wr.cell? ⟨ga, off + j * 4 + 1, none⟩ = some (.string tt) := (hst.tw.bel.cell (p := ⟨ga, _, none⟩) hga).trans e1
                have d2 : wr.cell? ⟨ga, off + j * 4 + 2, none⟩ = some (.slice aj nx.length cj) := (hst.tw.bel.cell (p := ⟨ga, _, none⟩) hga).trans e2
                have d3 : wr.cell? ⟨ga, off + j * 4 + 3, none⟩ = some (.int .i64 z) := (hst.tw.bel.cell (p := ⟨ga, _, none⟩) hga).trans e3
                have HJ := hid (And.intro hj hjn)
                have HX := hid (And.intro hij hvt)
                obtain ⟨asd, csd, esd, _⟩ := own_ints hst.r1
                subst esd
                have hvs : ∃ af cf, u14 = .slice af fs.length cf := by
                  rcases hst.r2.2 with ⟨hv, h0⟩ | ⟨gg, cap2, cur, hv, _⟩
                  · exact ⟨none, 0, by rw [hv, h0]⟩
                  · exact ⟨_, _, hv⟩
                obtain ⟨af, cff, rfl⟩ := hvs
                have hlb := lt_of_blk hst.tw.bx
                have HS := hid (And.intro hst (And.intro hin hfl))
                clear hst hin hfl hj hjn hjl hxv hga e0 e1 e2 e3 hij hvt
                by_cases hbd : f ∈ bad
                · have HHb : Hid (∀ u : World, Below w.heap.size w u → Calls Try.prog 24 #[.slice bd nb cb, .int .i64 f] u fun e w' => e = .returned (.bool true) ∧ w' = u) := hid (fun u hu => by have := HHa.out u f hu; rwa [show hasM bad f = true from decide_eq_true hbd] at this)
                  have hba : Below wr.heap.size wr (wr.alloc (.cells #[.int .i64 f, .string tt, .slice aj nx.length cj, .int .i64 z] 38)) := (Below.refl _ _).alloc (Nat.le_refl _) _
                  have H7 : Hid (VwAt (wr.alloc (.cells #[.int .i64 f, .string tt, .slice aj nx.length cj, .int .i64 z] 38)) wr.heap.size f tt (.slice aj nx.length cj) z ∧ AgSt w (wr.alloc (.cells #[.int .i64 f, .string tt, .slice aj nx.length cj, .int .i64 z] 38)) B F G (.pointer (some ⟨g1, 0, none⟩)) (.pointer (some ⟨g2, 0, none⟩)) s t ep (.slice a n cap) (.slice (some ⟨ga, off, none⟩) n1 c1) (.slice o2 n2 c2) (Value.slice asd said.length csd) said (Value.slice af fs.length cff) fs ∧ B ≤ wr.heap.size ∧ (∀ k, (Value.slice asd said.length csd).ownBlock = some k → k < wr.heap.size) ∧ (∀ k, (Value.slice af fs.length cff).ownBlock = some k → k < wr.heap.size)) := hid ⟨heap_alloc_last wr _, HS.out.1.keep hba, HS.out.1.le, fun k hk => (HS.out.1.r1.lt k hk).2, fun k hk => (HS.out.1.r2.lt k hk).2⟩
                  clear hba
                  go_wp2_with (go_at_call 24; go_must (refine (HHb.out _ H7.out.2.1.tw.bel).mono ?_; rintro e w8 ⟨rfl, rfl⟩))
                  obtain ⟨wq, eq⟩ : ∃ wq, wq = wr.alloc (.cells #[.int .i64 f, .string tt, .slice aj nx.length cj, .int .i64 z] 38) := ⟨_, rfl⟩
                  obtain ⟨p, ep0⟩ : ∃ p, p = wr.heap.size := ⟨_, rfl⟩
                  have Hq : Hid (VwAt wq p f tt (.slice aj nx.length cj) z ∧ AgSt w wq B F G (.pointer (some ⟨g1, 0, none⟩)) (.pointer (some ⟨g2, 0, none⟩)) s t ep (.slice a n cap) (.slice (some ⟨ga, off, none⟩) n1 c1) (.slice o2 n2 c2) (Value.slice asd said.length csd) said (Value.slice af fs.length cff) fs ∧ B ≤ p) := hid ⟨by rw [eq, ep0]; exact H7.out.1, by rw [eq]; exact H7.out.2.1, by rw [ep0]; exact H7.out.2.2.1⟩
                  rw [← eq, ← ep0]
                  have Hv : Hid (IntsIn w aj nx ∧ tt.size ≤ 1048576 ∧ nx.length ≤ 1048576 ∧ (f ∈ bad ∨ (f ∈ said ∧ (fs.map (·.1))[said.idxOf f]? = some (f, tt, nx, z)))) := hid ⟨HX.out.1, HX.out.2.1, HX.out.2.2, .inl hbd⟩
                  have Hi2 : Hid (AgIn w ep l bad 1048576 s t said fs) := hid HS.out.2.1
                  have Hl2 : Hid (fs.length ≤ 0 * 1048576 + (j + 1)) := hid (by have := HS.out.2.2; omega)
                  clear eq ep0 H7 hbd
                  have hmx : n ≤ maxLen := by have := HP.out.1; have := HP.out.2.1; unfold maxLen; omega
                  have hsz2 : tt.size ≤ 140737488355328 := by have := Hv.out.2.1; omega
                  have hnm2 : nx.length ≤ maxLen := by have := Hv.out.2.2.1; unfold maxLen; omega
                  obtain ⟨SG, eSG⟩ : ∃ SG, SG = sgOf f (voS ep l tt nx) (voC ep l tt nx) z := ⟨_, rfl⟩
                  have HG : Hid (∀ u : World, Below w.heap.size w u → Calls Try.prog 14 #[.agg #[.int .i64 f, .string tt, .slice aj nx.length cj, .int .i64 z], .agg #[.int .i64 ep, .slice a n cap]] u fun e w' => ∃ ad cd, e = .returned (.slice ad SG.length cd) ∧ PairsIn w' ad SG ∧ Below u.heap.size u w') := hid (fun u hu => by
                    have := usigs_any f tt hsz2 aj nx.length cj nx rfl hnm2 z ep a n cap l HP.out.2.1 hmx u (HI.out.1.keep hu (Nat.le_refl _)) (Hv.out.1.keep hu (Nat.le_refl _))
                    rw [← eSG] at this
                    exact this.mono fun e w' ⟨ad, cd, k1, k2, k3⟩ => ⟨ad, cd, k1, k2.1, k3⟩)
                  have hSG : SG.length ≤ maxLen := by
                    have : SG.length ≤ 3 := by rw [eSG, sgOf]; split <;> (try split) <;> (try split) <;> (try split) <;> simp
                    unfold maxLen; omega
                  obtain ⟨s9, es9⟩ : ∃ s9, s9 = added s f tt nx SG := ⟨_, rfl⟩
                  have HAd : Hid (∀ (u : World) (ad : Option Addr) (cd : Nat), Below w.heap.size w u → TlAt F u (.pointer (some ⟨g1, 0, none⟩)) s → PairsIn u ad SG → Calls Try.prog 15 #[.pointer (some ⟨g1, 0, none⟩), .int .i64 f, .string tt, .slice aj nx.length cj, .slice ad SG.length cd] u fun e w' => (∃ E, e = .returned (.int .i64 E)) ∧ TlAt F w' (.pointer (some ⟨g1, 0, none⟩)) s9 ∧ Out F u w') := hid (fun u ad cd hu htt hp => by
                    have := vadd_at F _ s f tt hsz2 aj nx.length cj nx rfl hnm2 ad SG.length cd SG rfl hSG u htt (Hv.out.1.keep hu (Nat.le_refl _)) hp
                    rw [← es9] at this
                    exact this.mono fun e w' ⟨k1, k2, k3⟩ => ⟨⟨_, k1⟩, k2, k3⟩)
                  have HIn9 : Hid (AgIn w ep l bad 1048576 s9 t said fs) := hid (by
                    rw [es9]
                    have hin := Hi2.out
                    exact ⟨⟨(added_ep s f tt nx SG).1.trans hin.s1.1, (added_ep s f tt nx SG).2.trans hin.s1.2⟩, hin.t1, hin.fst, hin.hs.add hin.s1.1 hin.s1.2 (f, tt, nx, z) SG Hv.out.2.2.2, hin.ht, hin.mem⟩)
                  clear hmx hsz2 hnm2 eSG hSG es9
                  have HWd : Hid (VwAt wq.drew p f tt (.slice aj nx.length cj) z ∧ AgSt w wq.drew B F G (.pointer (some ⟨g1, 0, none⟩)) (.pointer (some ⟨g2, 0, none⟩)) s t ep (.slice a n cap) (.slice (some ⟨ga, off, none⟩) n1 c1) (.slice o2 n2 c2) (Value.slice asd said.length csd) said (Value.slice af fs.length cff) fs) := hid ⟨Hq.out.1, Hq.out.2.1.keep (Below.refl _ _).drew⟩
                  refine wp_region_G (S := fun ww => VwAt ww p f tt (.slice aj nx.length cj) z ∧ CvAt ww w.heap.size ep (.slice a n cap)) (ex := []) (by kernel_rfl) ?_
                  try (change wpAnyG _ _ _ _ _ _ _ _ _ (World.drew _))
                  refine wpAnyG_take (i := 0) (v := ?v1001) rfl (by kernel_rfl) (fun _ _ _ h => h) (Or.inl ⟨by rfl, ?hy1001⟩) ⟨HWd.out.1, HWd.out.2.tw.cf⟩ ?rest1001
                  case hy1001 => (intro ww _; go_simp; try with_reducible rfl)
                  go_simp
                  refine wpAnyG_take (i := 1) (v := ?v1002) rfl (by kernel_rfl) (fun _ _ _ h => h) (Or.inl ⟨by rfl, ?hy1002⟩) ⟨HWd.out.1, HWd.out.2.tw.cf⟩ ?rest1002
                  case hy1002 => (intro ww _; go_simp; try with_reducible rfl)
                  go_simp
                  refine wpAnyG_take (i := 2) (v := ?v1003) rfl (by kernel_rfl) (fun _ _ _ h => h) (Or.inl ⟨by rfl, ?hy1003⟩) ⟨HWd.out.1, HWd.out.2.tw.cf⟩ ?rest1003
                  case hy1003 => (intro ww hS; obtain ⟨y0, y1, y3, y4⟩ := hS.1.cells; obtain ⟨y5, y6⟩ := hS.2.cells; go_simp; try with_reducible rfl)
                  go_simp
                  refine wpAnyG_take (i := 3) (v := ?v1004) rfl (by kernel_rfl) (fun _ _ _ h => h) (Or.inl ⟨by rfl, ?hy1004⟩) ⟨HWd.out.1, HWd.out.2.tw.cf⟩ ?rest1004
                  case hy1004 => (intro ww _; go_simp; try with_reducible rfl)
                  go_simp
                  refine wpAnyG_take (i := 4) (v := ?v1005) rfl (by kernel_rfl) (fun _ _ _ h => h) (Or.inl ⟨by rfl, ?hy1005⟩) ⟨HWd.out.1, HWd.out.2.tw.cf⟩ ?rest1005
                  case hy1005 => (intro ww hS; obtain ⟨y0, y1, y3, y4⟩ := hS.1.cells; obtain ⟨y5, y6⟩ := hS.2.cells; go_simp; try with_reducible rfl)
                  go_simp
                  refine wpAnyG_take (i := 5) (v := ?v1006) rfl (by kernel_rfl) (fun _ _ _ h => h) (Or.inl ⟨by rfl, ?hy1006⟩) ⟨HWd.out.1, HWd.out.2.tw.cf⟩ ?rest1006
                  case hy1006 => (intro ww _; go_simp; try with_reducible rfl)
                  go_simp
                  refine wpAnyG_take (i := 6) (v := ?v1007) rfl (by kernel_rfl) (fun _ _ _ h => h) (Or.inl ⟨by rfl, ?hy1007⟩) ⟨HWd.out.1, HWd.out.2.tw.cf⟩ ?rest1007
                  case hy1007 => (intro ww hS; obtain ⟨y0, y1, y3, y4⟩ := hS.1.cells; obtain ⟨y5, y6⟩ := hS.2.cells; go_simp; try with_reducible rfl)
                  go_simp
                  refine wpAnyG_take (i := 7) (v := ?v1008) rfl (by kernel_rfl) (fun _ _ _ h => h) (Or.inl ⟨by rfl, ?hy1008⟩) ⟨HWd.out.1, HWd.out.2.tw.cf⟩ ?rest1008
                  case hy1008 => (intro ww hS; obtain ⟨y0, y1, y3, y4⟩ := hS.1.cells; obtain ⟨y5, y6⟩ := hS.2.cells; go_simp; try with_reducible rfl)
                  go_simp
                  refine wpAnyG_take (i := 8) (v := ?v1009) rfl (by kernel_rfl) (fun _ _ _ h => h) (Or.inl ⟨by rfl, ?hy1009⟩) ⟨HWd.out.1, HWd.out.2.tw.cf⟩ ?rest1009
                  case hy1009 => (intro ww hS; obtain ⟨y0, y1, y3, y4⟩ := hS.1.cells; obtain ⟨y5, y6⟩ := hS.2.cells; go_simp; try with_reducible rfl)
                  go_simp
                  refine wpAnyG_all (rs := [9]) (by kernel_rfl) (by simp) ?_
                  intro i hi
                  obtain rfl := List.mem_singleton.1 hi
                  clear hi
                  refine wpOp_v rfl (by rfl) (fun K hK => ?_)
                  go_simp
                  refine (HG.out _ HWd.out.2.tw.bel).mono ?_
                  rintro e w5 ⟨ad5, cd5, rfl, hp5, hb5⟩
                  have H5 : Hid (VwAt w5 p f tt (.slice aj nx.length cj) z ∧ AgSt w w5 B F G (.pointer (some ⟨g1, 0, none⟩)) (.pointer (some ⟨g2, 0, none⟩)) s t ep (.slice a n cap) (.slice (some ⟨ga, off, none⟩) n1 c1) (.slice o2 n2 c2) (Value.slice asd said.length csd) said (Value.slice af fs.length cff) fs ∧ PairsIn w5 ad5 SG) := hid ⟨HWd.out.1.keep hb5, HWd.out.2.keep hb5, hp5⟩
                  clear hp5 hb5
                  refine hK _ _ ⟨fun _ => ⟨H5.out.1, H5.out.2.1.tw.cf⟩, ?_⟩
                  clear hK K
                  go_simp
                  refine wpAnyG_all (rs := [10]) (by kernel_rfl) (by simp) ?_
                  intro i hi
                  obtain rfl := List.mem_singleton.1 hi
                  clear hi
                  refine wpOp_v rfl (by rfl) (fun K hK => ?_)
                  go_simp
                  refine (HAd.out _ _ _ H5.out.2.1.tw.bel H5.out.2.1.tw.tl H5.out.2.2).mono ?_
                  rintro e w6 ⟨⟨E, rfl⟩, ht6, ho6⟩
                  have H6 : Hid (VwAt w6 p f tt (.slice aj nx.length cj) z ∧ AgSt w w6 B F G (.pointer (some ⟨g1, 0, none⟩)) (.pointer (some ⟨g2, 0, none⟩)) s9 t ep (.slice a n cap) (.slice (some ⟨ga, off, none⟩) n1 c1) (.slice o2 n2 c2) (Value.slice asd said.length csd) said (Value.slice af fs.length cff) fs) := hid ⟨(ho6.block _ (lt_of_blk H5.out.1) (fun hm => by have h1 := H5.out.2.1.hF _ hm; have h2 := Hq.out.2.2; omega)).trans H5.out.1, H5.out.2.1.voteF ho6 ht6⟩
                  clear ht6 ho6
                  refine hK _ _ ⟨fun _ => ⟨H6.out.1, H6.out.2.tw.cf⟩, ?_⟩
                  clear hK K
                  go_simp
                  refine wpAnyG_done (by kernel_rfl) ?_ _
                  go_simp
                  go_wp2
                  go_roundw
                  case rel => exact ⟨j + 1, s9, t, said, fs, by have := HJ.out; omega, by go_num, H6.out.2, HIn9.out, by have := Hl2.out; omega⟩
                  case measure => simp [intOf]; omega
                · by_cases hsd : f ∈ said
                  · have HHb : Hid (∀ u : World, Below w.heap.size w u → Calls Try.prog 24 #[.slice bd nb cb, .int .i64 f] u fun e w' => e = .returned (.bool false) ∧ w' = u) := hid (fun u hu => by have := HHa.out u f hu; rwa [show hasM bad f = false from decide_eq_false hbd] at this)
                    have hba : Below wr.heap.size wr (wr.alloc (.cells #[.int .i64 f, .string tt, .slice aj nx.length cj, .int .i64 z] 38)) := (Below.refl _ _).alloc (Nat.le_refl _) _
                    have H7 : Hid (VwAt (wr.alloc (.cells #[.int .i64 f, .string tt, .slice aj nx.length cj, .int .i64 z] 38)) wr.heap.size f tt (.slice aj nx.length cj) z ∧ AgSt w (wr.alloc (.cells #[.int .i64 f, .string tt, .slice aj nx.length cj, .int .i64 z] 38)) B F G (.pointer (some ⟨g1, 0, none⟩)) (.pointer (some ⟨g2, 0, none⟩)) s t ep (.slice a n cap) (.slice (some ⟨ga, off, none⟩) n1 c1) (.slice o2 n2 c2) (Value.slice asd said.length csd) said (Value.slice af fs.length cff) fs ∧ B ≤ wr.heap.size ∧ (∀ k, (Value.slice asd said.length csd).ownBlock = some k → k < wr.heap.size) ∧ (∀ k, (Value.slice af fs.length cff).ownBlock = some k → k < wr.heap.size)) := hid ⟨heap_alloc_last wr _, HS.out.1.keep hba, HS.out.1.le, fun k hk => (HS.out.1.r1.lt k hk).2, fun k hk => (HS.out.1.r2.lt k hk).2⟩
                    clear hba
                    obtain ⟨ov, hov, hof⟩ := HS.out.2.1.fst.at hsd
                    rw [List.getElem?_map] at hov
                    obtain ⟨xw, hxw, exw⟩ := Option.map_eq_some_iff.1 hov
                    subst exw
                    have hmw := HS.out.2.1.mem xw (List.mem_of_getElem? hxw)
                    have hIl : said.idxOf f < fs.length := (List.getElem?_eq_some_iff.1 hxw).1
                    have haf : ∃ gf, af = some ⟨gf, 0, none⟩ := by
                      rcases HS.out.1.r2.2 with ⟨hv, h0⟩ | ⟨gg, cap2, cur, hv, _⟩
                      · rw [h0] at hIl; exact absurd hIl (by omega)
                      · cases hv; exact ⟨gg, rfl⟩
                    obtain ⟨gf, rfl⟩ := haf
                    have hat := fsC_at fs _ xw hxw
                    obtain ⟨⟨fw, tw, nw, zw⟩, aw, cw⟩ := xw
                    obtain rfl : fw = f := hof
                    have HWh : Hid (∀ u : World, AgSt w u B F G (.pointer (some ⟨g1, 0, none⟩)) (.pointer (some ⟨g2, 0, none⟩)) s t ep (.slice a n cap) (.slice (some ⟨ga, off, none⟩) n1 c1) (.slice o2 n2 c2) (Value.slice asd said.length csd) said (Value.slice (some ⟨gf, 0, none⟩) fs.length cff) fs → Calls Try.prog 26 #[.slice asd said.length csd, .int .i64 fw] u fun e w' => e = .returned (.int .i64 ((said.idxOf fw : Nat) : Int)) ∧ Below u.heap.size u w') := hid (fun u hu => by
                      have hls := HS.out.2.1.fst.len
                      rw [List.length_map] at hls
                      have := uwhere_any asd _ csd said rfl (by have h1 := HS.out.2.2; have h2 := HP.out.2.2.2.1; have h3 := HJ.out; unfold maxLen; omega) fw u ((own_ints hu.r1).elim fun _ h => h.elim fun _ h => by obtain ⟨e, hh⟩ := h; cases e; exact hh)
                      rwa [whereI, if_pos hsd] at this)
                    have HC : Hid (∀ u : World, AgSt w u B F G (.pointer (some ⟨g1, 0, none⟩)) (.pointer (some ⟨g2, 0, none⟩)) s t ep (.slice a n cap) (.slice (some ⟨ga, off, none⟩) n1 c1) (.slice o2 n2 c2) (Value.slice asd said.length csd) said (Value.slice (some ⟨gf, 0, none⟩) fs.length cff) fs → (u.cell? ⟨gf, said.idxOf fw * 4, none⟩ = some (.int .i64 fw) ∧ u.cell? ⟨gf, said.idxOf fw * 4 + 1, none⟩ = some (.string tw)) ∧ u.cell? ⟨gf, said.idxOf fw * 4 + 2, none⟩ = some (.slice aw nw.length cw) ∧ u.cell? ⟨gf, said.idxOf fw * 4 + 3, none⟩ = some (.int .i64 zw)) := hid (fun u hu => by
                      have hc := fun j v hv => hu.r2.cells (g := gf) rfl j v hv
                      obtain ⟨h0, h1, h2, h3⟩ := hat
                      have c0 := hc _ _ h0
                      have c1 := hc _ _ h1
                      have c2 := hc _ _ h2
                      have c3 := hc _ _ h3
                      rw [Addr.add_lit, Nat.zero_add] at c0 c1 c2 c3
                      exact ⟨⟨c0, c1⟩, c2, c3⟩)
                    have Hv : Hid (IntsIn w aw nw ∧ tw.size ≤ 1048576 ∧ nw.length ≤ 1048576 ∧ (fw ∈ bad ∨ (fw ∈ said ∧ (fs.map (·.1))[said.idxOf fw]? = some (fw, tw, nw, zw)))) := hid ⟨hmw.1, hmw.2.1, hmw.2.2, .inr ⟨hsd, by rw [List.getElem?_map, hxw]; rfl⟩⟩
                    have hI0 : (0 : Int) ≤ ((said.idxOf fw : Nat) : Int) := Int.natCast_nonneg _
                    have hI1 : ((said.idxOf fw : Nat) : Int) < ((fs.length : Nat) : Int) := by omega
                    have hI9 : ((fs.length : Nat) : Int) ≤ 9223372036854775807 := by have h1 := HS.out.2.2; have h2 := HP.out.2.2.2.1; have h3 := HJ.out; omega
                    have Hi2 : Hid (AgIn w ep l bad 1048576 s t said fs) := hid HS.out.2.1
                    have Hl2 : Hid (fs.length ≤ 0 * 1048576 + (j + 1)) := hid (by have := HS.out.2.2; omega)
                    generalize said.idxOf fw = I at HWh HC hI0 hI1 hIl
                    clear hov hmw hat hxw hsd hbd HS hIl
                    go_wp2_with (first
                      | (go_at_call 24; go_must (refine (HHb.out _ H7.out.2.1.tw.bel).mono ?_; rintro e w8 ⟨rfl, rfl⟩))
                      | (go_at_call 26; go_must (refine (HWh.out _ H7.out.2.1).mono ?_; rintro e w8 ⟨rfl, hb⟩; have H8 : Hid (VwAt w8 wr.heap.size fw tt (.slice aj nx.length cj) z ∧ AgSt w w8 B F G (.pointer (some ⟨g1, 0, none⟩)) (.pointer (some ⟨g2, 0, none⟩)) s t ep (.slice a n cap) (.slice (some ⟨ga, off, none⟩) n1 c1) (.slice o2 n2 c2) (Value.slice asd said.length csd) said (Value.slice (some ⟨gf, 0, none⟩) fs.length cff) fs) := hid ⟨H7.out.1.keep hb, H7.out.2.1.keep hb⟩; obtain ⟨⟨m0, m1⟩, m2, m3⟩ := HC.out _ H8.out.2; have q0 := free_at H8.out.1 0; have q1 := free_at H8.out.1 1; have q2 := free_at H8.out.1 2; have q3 := free_at H8.out.1 3; obtain ⟨p0, p1, p2, p3⟩ := H8.out.1.cells; clear hb)))
                    clear m0 m1 m2 m3 q0 q1 q2 q3 p0 p1 p2 p3
                    obtain ⟨wq, eq⟩ : ∃ wq, wq = ((((w8.setCell ⟨wr.heap.size, 0, none⟩ (.int .i64 fw)).setCell ⟨wr.heap.size, 1, none⟩ (.string tw)).setCell ⟨wr.heap.size, 2, none⟩ (.slice aw nw.length cw)).setCell ⟨wr.heap.size, 3, none⟩ (.int .i64 zw)) := ⟨_, rfl⟩
                    obtain ⟨p, ep0⟩ : ∃ p, p = wr.heap.size := ⟨_, rfl⟩
                    have Hq : Hid (VwAt wq p fw tw (.slice aw nw.length cw) zw ∧ AgSt w wq B F G (.pointer (some ⟨g1, 0, none⟩)) (.pointer (some ⟨g2, 0, none⟩)) s t ep (.slice a n cap) (.slice (some ⟨ga, off, none⟩) n1 c1) (.slice o2 n2 c2) (Value.slice asd said.length csd) said (Value.slice (some ⟨gf, 0, none⟩) fs.length cff) fs ∧ B ≤ p) := hid ⟨by rw [eq, ep0]; exact vw_put H8.out.1 _ _ _ _, by
                      rw [eq]
                      have h7 := H7.out.2.2
                      exact ((((H8.out.2.setp _ 0 _ h7.1 h7.2.1 h7.2.2).setp _ 1 _ h7.1 h7.2.1 h7.2.2).setp _ 2 _ h7.1 h7.2.1 h7.2.2).setp _ 3 _ h7.1 h7.2.1 h7.2.2), by rw [ep0]; exact H7.out.2.2.1⟩
                    rw [← eq, ← ep0]
                    clear eq ep0 H7 H8
                    have hmx : n ≤ maxLen := by have := HP.out.1; have := HP.out.2.1; unfold maxLen; omega
                    have hsz2 : tw.size ≤ 140737488355328 := by have := Hv.out.2.1; omega
                    have hnm2 : nw.length ≤ maxLen := by have := Hv.out.2.2.1; unfold maxLen; omega
                    obtain ⟨SG, eSG⟩ : ∃ SG, SG = sgOf fw (voS ep l tw nw) (voC ep l tw nw) zw := ⟨_, rfl⟩
                    have HG : Hid (∀ u : World, Below w.heap.size w u → Calls Try.prog 14 #[.agg #[.int .i64 fw, .string tw, .slice aw nw.length cw, .int .i64 zw], .agg #[.int .i64 ep, .slice a n cap]] u fun e w' => ∃ ad cd, e = .returned (.slice ad SG.length cd) ∧ PairsIn w' ad SG ∧ Below u.heap.size u w') := hid (fun u hu => by
                      have := usigs_any fw tw hsz2 aw nw.length cw nw rfl hnm2 zw ep a n cap l HP.out.2.1 hmx u (HI.out.1.keep hu (Nat.le_refl _)) (Hv.out.1.keep hu (Nat.le_refl _))
                      rw [← eSG] at this
                      exact this.mono fun e w' ⟨ad, cd, k1, k2, k3⟩ => ⟨ad, cd, k1, k2.1, k3⟩)
                    have hSG : SG.length ≤ maxLen := by
                      have : SG.length ≤ 3 := by rw [eSG, sgOf]; split <;> (try split) <;> (try split) <;> (try split) <;> simp
                      unfold maxLen; omega
                    obtain ⟨s9, es9⟩ : ∃ s9, s9 = added s fw tw nw SG := ⟨_, rfl⟩
                    have HAd : Hid (∀ (u : World) (ad : Option Addr) (cd : Nat), Below w.heap.size w u → TlAt F u (.pointer (some ⟨g1, 0, none⟩)) s → PairsIn u ad SG → Calls Try.prog 15 #[.pointer (some ⟨g1, 0, none⟩), .int .i64 fw, .string tw, .slice aw nw.length cw, .slice ad SG.length cd] u fun e w' => (∃ E, e = .returned (.int .i64 E)) ∧ TlAt F w' (.pointer (some ⟨g1, 0, none⟩)) s9 ∧ Out F u w') := hid (fun u ad cd hu htt hp => by
                      have := vadd_at F _ s fw tw hsz2 aw nw.length cw nw rfl hnm2 ad SG.length cd SG rfl hSG u htt (Hv.out.1.keep hu (Nat.le_refl _)) hp
                      rw [← es9] at this
                      exact this.mono fun e w' ⟨k1, k2, k3⟩ => ⟨⟨_, k1⟩, k2, k3⟩)
                    have HIn9 : Hid (AgIn w ep l bad 1048576 s9 t said fs) := hid (by
                      rw [es9]
                      have hin := Hi2.out
                      exact ⟨⟨(added_ep s fw tw nw SG).1.trans hin.s1.1, (added_ep s fw tw nw SG).2.trans hin.s1.2⟩, hin.t1, hin.fst, hin.hs.add hin.s1.1 hin.s1.2 (fw, tw, nw, zw) SG Hv.out.2.2.2, hin.ht, hin.mem⟩)
                    clear hmx hsz2 hnm2 eSG hSG es9
                    have HWd : Hid (VwAt wq.drew p fw tw (.slice aw nw.length cw) zw ∧ AgSt w wq.drew B F G (.pointer (some ⟨g1, 0, none⟩)) (.pointer (some ⟨g2, 0, none⟩)) s t ep (.slice a n cap) (.slice (some ⟨ga, off, none⟩) n1 c1) (.slice o2 n2 c2) (Value.slice asd said.length csd) said (Value.slice (some ⟨gf, 0, none⟩) fs.length cff) fs) := hid ⟨Hq.out.1, Hq.out.2.1.keep (Below.refl _ _).drew⟩
                    refine wp_region_G (S := fun ww => VwAt ww p fw tw (.slice aw nw.length cw) zw ∧ CvAt ww w.heap.size ep (.slice a n cap)) (ex := []) (by kernel_rfl) ?_
                    try (change wpAnyG _ _ _ _ _ _ _ _ _ (World.drew _))
                    refine wpAnyG_take (i := 0) (v := ?v1041) rfl (by kernel_rfl) (fun _ _ _ h => h) (Or.inl ⟨by rfl, ?hy1041⟩) ⟨HWd.out.1, HWd.out.2.tw.cf⟩ ?rest1041
                    case hy1041 => (intro ww _; go_simp; try with_reducible rfl)
                    go_simp
                    refine wpAnyG_take (i := 1) (v := ?v1042) rfl (by kernel_rfl) (fun _ _ _ h => h) (Or.inl ⟨by rfl, ?hy1042⟩) ⟨HWd.out.1, HWd.out.2.tw.cf⟩ ?rest1042
                    case hy1042 => (intro ww _; go_simp; try with_reducible rfl)
                    go_simp
                    refine wpAnyG_take (i := 2) (v := ?v1043) rfl (by kernel_rfl) (fun _ _ _ h => h) (Or.inl ⟨by rfl, ?hy1043⟩) ⟨HWd.out.1, HWd.out.2.tw.cf⟩ ?rest1043
                    case hy1043 => (intro ww hS; obtain ⟨y0, y1, y3, y4⟩ := hS.1.cells; obtain ⟨y5, y6⟩ := hS.2.cells; go_simp; try with_reducible rfl)
                    go_simp
                    refine wpAnyG_take (i := 3) (v := ?v1044) rfl (by kernel_rfl) (fun _ _ _ h => h) (Or.inl ⟨by rfl, ?hy1044⟩) ⟨HWd.out.1, HWd.out.2.tw.cf⟩ ?rest1044
                    case hy1044 => (intro ww _; go_simp; try with_reducible rfl)
                    go_simp
                    refine wpAnyG_take (i := 4) (v := ?v1045) rfl (by kernel_rfl) (fun _ _ _ h => h) (Or.inl ⟨by rfl, ?hy1045⟩) ⟨HWd.out.1, HWd.out.2.tw.cf⟩ ?rest1045
                    case hy1045 => (intro ww hS; obtain ⟨y0, y1, y3, y4⟩ := hS.1.cells; obtain ⟨y5, y6⟩ := hS.2.cells; go_simp; try with_reducible rfl)
                    go_simp
                    refine wpAnyG_take (i := 5) (v := ?v1046) rfl (by kernel_rfl) (fun _ _ _ h => h) (Or.inl ⟨by rfl, ?hy1046⟩) ⟨HWd.out.1, HWd.out.2.tw.cf⟩ ?rest1046
                    case hy1046 => (intro ww _; go_simp; try with_reducible rfl)
                    go_simp
                    refine wpAnyG_take (i := 6) (v := ?v1047) rfl (by kernel_rfl) (fun _ _ _ h => h) (Or.inl ⟨by rfl, ?hy1047⟩) ⟨HWd.out.1, HWd.out.2.tw.cf⟩ ?rest1047
                    case hy1047 => (intro ww hS; obtain ⟨y0, y1, y3, y4⟩ := hS.1.cells; obtain ⟨y5, y6⟩ := hS.2.cells; go_simp; try with_reducible rfl)
                    go_simp
                    refine wpAnyG_take (i := 7) (v := ?v1048) rfl (by kernel_rfl) (fun _ _ _ h => h) (Or.inl ⟨by rfl, ?hy1048⟩) ⟨HWd.out.1, HWd.out.2.tw.cf⟩ ?rest1048
                    case hy1048 => (intro ww hS; obtain ⟨y0, y1, y3, y4⟩ := hS.1.cells; obtain ⟨y5, y6⟩ := hS.2.cells; go_simp; try with_reducible rfl)
                    go_simp
                    refine wpAnyG_take (i := 8) (v := ?v1049) rfl (by kernel_rfl) (fun _ _ _ h => h) (Or.inl ⟨by rfl, ?hy1049⟩) ⟨HWd.out.1, HWd.out.2.tw.cf⟩ ?rest1049
                    case hy1049 => (intro ww hS; obtain ⟨y0, y1, y3, y4⟩ := hS.1.cells; obtain ⟨y5, y6⟩ := hS.2.cells; go_simp; try with_reducible rfl)
                    go_simp
                    refine wpAnyG_all (rs := [9]) (by kernel_rfl) (by simp) ?_
                    intro i hi
                    obtain rfl := List.mem_singleton.1 hi
                    clear hi
                    refine wpOp_v rfl (by rfl) (fun K hK => ?_)
                    go_simp
                    refine (HG.out _ HWd.out.2.tw.bel).mono ?_
                    rintro e w5 ⟨ad5, cd5, rfl, hp5, hb5⟩
                    have H5 : Hid (VwAt w5 p fw tw (.slice aw nw.length cw) zw ∧ AgSt w w5 B F G (.pointer (some ⟨g1, 0, none⟩)) (.pointer (some ⟨g2, 0, none⟩)) s t ep (.slice a n cap) (.slice (some ⟨ga, off, none⟩) n1 c1) (.slice o2 n2 c2) (Value.slice asd said.length csd) said (Value.slice (some ⟨gf, 0, none⟩) fs.length cff) fs ∧ PairsIn w5 ad5 SG) := hid ⟨HWd.out.1.keep hb5, HWd.out.2.keep hb5, hp5⟩
                    clear hp5 hb5
                    refine hK _ _ ⟨fun _ => ⟨H5.out.1, H5.out.2.1.tw.cf⟩, ?_⟩
                    clear hK K
                    go_simp
                    refine wpAnyG_all (rs := [10]) (by kernel_rfl) (by simp) ?_
                    intro i hi
                    obtain rfl := List.mem_singleton.1 hi
                    clear hi
                    refine wpOp_v rfl (by rfl) (fun K hK => ?_)
                    go_simp
                    refine (HAd.out _ _ _ H5.out.2.1.tw.bel H5.out.2.1.tw.tl H5.out.2.2).mono ?_
                    rintro e w6 ⟨⟨E, rfl⟩, ht6, ho6⟩
                    have H6 : Hid (VwAt w6 p fw tw (.slice aw nw.length cw) zw ∧ AgSt w w6 B F G (.pointer (some ⟨g1, 0, none⟩)) (.pointer (some ⟨g2, 0, none⟩)) s9 t ep (.slice a n cap) (.slice (some ⟨ga, off, none⟩) n1 c1) (.slice o2 n2 c2) (Value.slice asd said.length csd) said (Value.slice (some ⟨gf, 0, none⟩) fs.length cff) fs) := hid ⟨(ho6.block _ (lt_of_blk H5.out.1) (fun hm => by have h1 := H5.out.2.1.hF _ hm; have h2 := Hq.out.2.2; omega)).trans H5.out.1, H5.out.2.1.voteF ho6 ht6⟩
                    clear ht6 ho6
                    refine hK _ _ ⟨fun _ => ⟨H6.out.1, H6.out.2.tw.cf⟩, ?_⟩
                    clear hK K
                    go_simp
                    refine wpAnyG_done (by kernel_rfl) ?_ _
                    go_simp
                    go_wp2
                    go_roundw
                    case rel => exact ⟨j + 1, s9, t, said, fs, by have := HJ.out; omega, by go_num, H6.out.2, HIn9.out, by have := Hl2.out; omega⟩
                    case measure => simp [intOf]; omega
                  · have HHb : Hid (∀ u : World, Below w.heap.size w u → Calls Try.prog 24 #[.slice bd nb cb, .int .i64 f] u fun e w' => e = .returned (.bool false) ∧ w' = u) := hid (fun u hu => by have := HHa.out u f hu; rwa [show hasM bad f = false from decide_eq_false hbd] at this)
                    have hba : Below wr.heap.size wr (wr.alloc (.cells #[.int .i64 f, .string tt, .slice aj nx.length cj, .int .i64 z] 38)) := (Below.refl _ _).alloc (Nat.le_refl _) _
                    have H7 : Hid (VwAt (wr.alloc (.cells #[.int .i64 f, .string tt, .slice aj nx.length cj, .int .i64 z] 38)) wr.heap.size f tt (.slice aj nx.length cj) z ∧ AgSt w (wr.alloc (.cells #[.int .i64 f, .string tt, .slice aj nx.length cj, .int .i64 z] 38)) B F G (.pointer (some ⟨g1, 0, none⟩)) (.pointer (some ⟨g2, 0, none⟩)) s t ep (.slice a n cap) (.slice (some ⟨ga, off, none⟩) n1 c1) (.slice o2 n2 c2) (Value.slice asd said.length csd) said (Value.slice af fs.length cff) fs ∧ B ≤ wr.heap.size ∧ (∀ k, (Value.slice asd said.length csd).ownBlock = some k → k < wr.heap.size) ∧ (∀ k, (Value.slice af fs.length cff).ownBlock = some k → k < wr.heap.size)) := hid ⟨heap_alloc_last wr _, HS.out.1.keep hba, HS.out.1.le, fun k hk => (HS.out.1.r1.lt k hk).2, fun k hk => (HS.out.1.r2.lt k hk).2⟩
                    clear hba
                    have HWh : Hid (∀ u : World, AgSt w u B F G (.pointer (some ⟨g1, 0, none⟩)) (.pointer (some ⟨g2, 0, none⟩)) s t ep (.slice a n cap) (.slice (some ⟨ga, off, none⟩) n1 c1) (.slice o2 n2 c2) (Value.slice asd said.length csd) said (Value.slice af fs.length cff) fs → Calls Try.prog 26 #[.slice asd said.length csd, .int .i64 f] u fun e w' => e = .returned (.int .i64 (-1)) ∧ Below u.heap.size u w') := hid (fun u hu => by
                      have hls := HS.out.2.1.fst.len
                      rw [List.length_map] at hls
                      have := uwhere_any asd _ csd said rfl (by have h1 := HS.out.2.2; have h2 := HP.out.2.2.2.1; have h3 := HJ.out; unfold maxLen; omega) f u ((own_ints hu.r1).elim fun _ h => h.elim fun _ h => by obtain ⟨e, hh⟩ := h; cases e; exact hh)
                      rwa [whereI, if_neg hsd] at this)
                    have hls : said.length = fs.length := by have := HS.out.2.1.fst.len; rwa [List.length_map] at this
                    have HLn : Hid (said.length + 1 ≤ 3000000 ∧ fs.length + 1 ≤ 3000000) := hid (by have h1 := HS.out.2.2; have h2 := HP.out.2.2.2.1; have h3 := HJ.out; omega)
                    have Hv : Hid (IntsIn w aj nx ∧ tt.size ≤ 1048576 ∧ nx.length ≤ 1048576 ∧ (f ∈ bad ∨ (f ∈ said ++ [f] ∧ ((fs ++ [((f, tt, nx, z), aj, cj)]).map (·.1))[(said ++ [f]).idxOf f]? = some (f, tt, nx, z)))) := hid ⟨HX.out.1, HX.out.2.1, HX.out.2.2, .inr ⟨by simp, by
                      rw [List.idxOf_append, if_neg hsd, List.idxOf_cons_self, List.map_append, List.getElem?_append_right (by rw [List.length_map]; omega), List.length_map, hls]
                      simp⟩⟩
                    have Hi2 : Hid (AgIn w ep l bad 1048576 s t (said ++ [f]) (fs ++ [((f, tt, nx, z), aj, cj)])) := hid (by
                      have hin := HS.out.2.1
                      refine ⟨hin.s1, hin.t1, ?_, ?_, ?_, fun x hx => ?_⟩
                      · rw [List.map_append]; exact hin.fst.more (f, tt, nx, z)
                      · rw [List.map_append]; exact hin.hs.more f (f, tt, nx, z)
                      · rw [List.map_append]; exact hin.ht.more f (f, tt, nx, z)
                      · rcases List.mem_append.1 hx with hx | hx
                        · exact hin.mem x hx
                        · rw [List.mem_singleton.1 hx]; exact ⟨HX.out.1, HX.out.2⟩)
                    have Hl2 : Hid ((fs ++ [((f, tt, nx, z), aj, cj)]).length ≤ 0 * 1048576 + (j + 1)) := hid (by have := HS.out.2.2; rw [List.length_append]; simp; omega)
                    clear hsd hbd HS hls
                    go_wp2_with (first
                      | (go_at_call 24; go_must (refine (HHb.out _ H7.out.2.1.tw.bel).mono ?_; rintro e w8 ⟨rfl, rfl⟩))
                      | (go_at_call 26; go_must (refine (HWh.out _ H7.out.2.1).mono ?_; rintro e w8 ⟨rfl, hb⟩; have H8 : Hid (VwAt w8 wr.heap.size f tt (.slice aj nx.length cj) z ∧ AgSt w w8 B F G (.pointer (some ⟨g1, 0, none⟩)) (.pointer (some ⟨g2, 0, none⟩)) s t ep (.slice a n cap) (.slice (some ⟨ga, off, none⟩) n1 c1) (.slice o2 n2 c2) (Value.slice asd said.length csd) said (Value.slice af fs.length cff) fs) := hid ⟨H7.out.1.keep hb, H7.out.2.1.keep hb⟩; obtain ⟨p0, p1, p2, p3⟩ := H8.out.1.cells; clear hb))
                      | (at_builtin; refine wpList_append_own_at _ rfl _ _ 22 rfl B 3 i0 (.int .i64 0) 1 8 Try.underlying22 hi0 hz0 hz1 hz2 rfl (by decide) _ said.length _ rfl (by exact (H8.out.2.r1.alloc _)) ⟨_, 0, none⟩ 1 1 (iC [f]) rfl rfl (World.news_of_block (t := 3) (fr := (0, 0)) (heap_alloc_last _ _)) (iC_one _) (by have := HLn.out; unfold maxLen; omega) (by have := HLn.out; omega) (by have := H8.out.2.le; simp; omega) ?_; intro v9 w9 hown9 hgrow9 hnil9 hob9; go_must (have hA9 := H8.out.2.keep ((Below.refl _ _).alloc (Nat.le_refl _) (.cells #[.int .i64 f] 3)); have H9 : Hid (VwAt w9 wr.heap.size f tt (.slice aj nx.length cj) z ∧ AgSt w w9 B F G (.pointer (some ⟨g1, 0, none⟩)) (.pointer (some ⟨g2, 0, none⟩)) s t ep (.slice a n cap) (.slice (some ⟨ga, off, none⟩) n1 c1) (.slice o2 n2 c2) v9 (said ++ [f]) (Value.slice af fs.length cff) fs) := hid ⟨(hgrow9.block _ (by have := lt_of_blk H8.out.1; simp; omega) (fun e => by have := H7.out.2.2.2.1 _ e.symm; omega)).trans (H8.out.1.keep ((Below.refl _ _).alloc (Nat.le_refl _) _)), hA9.more1 hgrow9 (by rw [List.length_append, iC_app]; exact hown9) hob9⟩; clear hA9 hown9 hgrow9 hnil9 hob9 p0 p1 p2 p3; obtain ⟨p0, p1, p2, p3⟩ := H9.out.1.cells))
                      | (at_builtin; refine wpList_append_own_at _ rfl _ _ 30 rfl B 38 iv (.agg #[.int .i64 0, .string ⟨#[]⟩, .slice none 0 0, .int .i64 0]) 4 56 Try.underlying30 hv0 hvz0 hvz1 hvz2 rfl (by decide) _ fs.length _ rfl (by exact (H9.out.2.r2.alloc _)) ⟨_, 0, none⟩ 1 1 (vmC ((f, tt, nx, z), aj, cj)) rfl rfl (World.news_of_block (t := 38) (fr := (0, 0)) (heap_alloc_last _ _)) (by simp [vmC, Value.oneCell']) (by have := HLn.out; unfold maxLen; omega) (by have := HLn.out; omega) (by have := H9.out.2.le; simp; omega) ?_; intro v10 w10 hown10 hgrow10 hnil10 hob10; go_must (have hA10 := H9.out.2.keep ((Below.refl _ _).alloc (Nat.le_refl _) (.cells #[.int .i64 f, .string tt, .slice aj nx.length cj, .int .i64 z] 38)); have H10 : Hid (VwAt w10 wr.heap.size f tt (.slice aj nx.length cj) z ∧ AgSt w w10 B F G (.pointer (some ⟨g1, 0, none⟩)) (.pointer (some ⟨g2, 0, none⟩)) s t ep (.slice a n cap) (.slice (some ⟨ga, off, none⟩) n1 c1) (.slice o2 n2 c2) v9 (said ++ [f]) v10 (fs ++ [((f, tt, nx, z), aj, cj)])) := hid ⟨(hgrow10.block _ (by have := lt_of_blk H9.out.1; simp; omega) (fun e => by have := H7.out.2.2.2.2 _ e.symm; omega)).trans (H9.out.1.keep ((Below.refl _ _).alloc (Nat.le_refl _) _)), hA10.more2 hgrow10 (by rw [List.length_append, fsC_app]; exact hown10) hob10⟩; clear hA10 hown10 hgrow10 hnil10 hob10)))
                    obtain ⟨p, ep0⟩ : ∃ p, p = wr.heap.size := ⟨_, rfl⟩
                    obtain ⟨wq, eq⟩ : ∃ wq, wq = w10 := ⟨_, rfl⟩
                    have Hq : Hid (VwAt wq p f tt (.slice aj nx.length cj) z ∧ AgSt w wq B F G (.pointer (some ⟨g1, 0, none⟩)) (.pointer (some ⟨g2, 0, none⟩)) s t ep (.slice a n cap) (.slice (some ⟨ga, off, none⟩) n1 c1) (.slice o2 n2 c2) v9 (said ++ [f]) v10 (fs ++ [((f, tt, nx, z), aj, cj)]) ∧ B ≤ p) := hid ⟨by rw [eq, ep0]; exact H10.out.1, by rw [eq]; exact H10.out.2, by rw [ep0]; exact H7.out.2.2.1⟩
                    rw [← eq, ← ep0]
                    clear eq ep0 H7 H8 H9 H10 p0 p1 p2 p3
                    have hmx : n ≤ maxLen := by have := HP.out.1; have := HP.out.2.1; unfold maxLen; omega
                    have hsz2 : tt.size ≤ 140737488355328 := by have := Hv.out.2.1; omega
                    have hnm2 : nx.length ≤ maxLen := by have := Hv.out.2.2.1; unfold maxLen; omega
                    obtain ⟨SG, eSG⟩ : ∃ SG, SG = sgOf f (voS ep l tt nx) (voC ep l tt nx) z := ⟨_, rfl⟩
                    have HG : Hid (∀ u : World, Below w.heap.size w u → Calls Try.prog 14 #[.agg #[.int .i64 f, .string tt, .slice aj nx.length cj, .int .i64 z], .agg #[.int .i64 ep, .slice a n cap]] u fun e w' => ∃ ad cd, e = .returned (.slice ad SG.length cd) ∧ PairsIn w' ad SG ∧ Below u.heap.size u w') := hid (fun u hu => by
                      have := usigs_any f tt hsz2 aj nx.length cj nx rfl hnm2 z ep a n cap l HP.out.2.1 hmx u (HI.out.1.keep hu (Nat.le_refl _)) (Hv.out.1.keep hu (Nat.le_refl _))
                      rw [← eSG] at this
                      exact this.mono fun e w' ⟨ad, cd, k1, k2, k3⟩ => ⟨ad, cd, k1, k2.1, k3⟩)
                    have hSG : SG.length ≤ maxLen := by
                      have : SG.length ≤ 3 := by rw [eSG, sgOf]; split <;> (try split) <;> (try split) <;> (try split) <;> simp
                      unfold maxLen; omega
                    obtain ⟨s9, es9⟩ : ∃ s9, s9 = added s f tt nx SG := ⟨_, rfl⟩
                    have HAd : Hid (∀ (u : World) (ad : Option Addr) (cd : Nat), Below w.heap.size w u → TlAt F u (.pointer (some ⟨g1, 0, none⟩)) s → PairsIn u ad SG → Calls Try.prog 15 #[.pointer (some ⟨g1, 0, none⟩), .int .i64 f, .string tt, .slice aj nx.length cj, .slice ad SG.length cd] u fun e w' => (∃ E, e = .returned (.int .i64 E)) ∧ TlAt F w' (.pointer (some ⟨g1, 0, none⟩)) s9 ∧ Out F u w') := hid (fun u ad cd hu htt hp => by
                      have := vadd_at F _ s f tt hsz2 aj nx.length cj nx rfl hnm2 ad SG.length cd SG rfl hSG u htt (Hv.out.1.keep hu (Nat.le_refl _)) hp
                      rw [← es9] at this
                      exact this.mono fun e w' ⟨k1, k2, k3⟩ => ⟨⟨_, k1⟩, k2, k3⟩)
                    have HIn9 : Hid (AgIn w ep l bad 1048576 s9 t (said ++ [f]) (fs ++ [((f, tt, nx, z), aj, cj)])) := hid (by
                      rw [es9]
                      have hin := Hi2.out
                      exact ⟨⟨(added_ep s f tt nx SG).1.trans hin.s1.1, (added_ep s f tt nx SG).2.trans hin.s1.2⟩, hin.t1, hin.fst, hin.hs.add hin.s1.1 hin.s1.2 (f, tt, nx, z) SG Hv.out.2.2.2, hin.ht, hin.mem⟩)
                    clear hmx hsz2 hnm2 eSG hSG es9
                    have HWd : Hid (VwAt wq.drew p f tt (.slice aj nx.length cj) z ∧ AgSt w wq.drew B F G (.pointer (some ⟨g1, 0, none⟩)) (.pointer (some ⟨g2, 0, none⟩)) s t ep (.slice a n cap) (.slice (some ⟨ga, off, none⟩) n1 c1) (.slice o2 n2 c2) v9 (said ++ [f]) v10 (fs ++ [((f, tt, nx, z), aj, cj)])) := hid ⟨Hq.out.1, Hq.out.2.1.keep (Below.refl _ _).drew⟩
                    refine wp_region_G (S := fun ww => VwAt ww p f tt (.slice aj nx.length cj) z ∧ CvAt ww w.heap.size ep (.slice a n cap)) (ex := []) (by kernel_rfl) ?_
                    try (change wpAnyG _ _ _ _ _ _ _ _ _ (World.drew _))
                    refine wpAnyG_take (i := 0) (v := ?v1081) rfl (by kernel_rfl) (fun _ _ _ h => h) (Or.inl ⟨by rfl, ?hy1081⟩) ⟨HWd.out.1, HWd.out.2.tw.cf⟩ ?rest1081
                    case hy1081 => (intro ww _; go_simp; try with_reducible rfl)
                    go_simp
                    refine wpAnyG_take (i := 1) (v := ?v1082) rfl (by kernel_rfl) (fun _ _ _ h => h) (Or.inl ⟨by rfl, ?hy1082⟩) ⟨HWd.out.1, HWd.out.2.tw.cf⟩ ?rest1082
                    case hy1082 => (intro ww _; go_simp; try with_reducible rfl)
                    go_simp
                    refine wpAnyG_take (i := 2) (v := ?v1083) rfl (by kernel_rfl) (fun _ _ _ h => h) (Or.inl ⟨by rfl, ?hy1083⟩) ⟨HWd.out.1, HWd.out.2.tw.cf⟩ ?rest1083
                    case hy1083 => (intro ww hS; obtain ⟨y0, y1, y3, y4⟩ := hS.1.cells; obtain ⟨y5, y6⟩ := hS.2.cells; go_simp; try with_reducible rfl)
                    go_simp
                    refine wpAnyG_take (i := 3) (v := ?v1084) rfl (by kernel_rfl) (fun _ _ _ h => h) (Or.inl ⟨by rfl, ?hy1084⟩) ⟨HWd.out.1, HWd.out.2.tw.cf⟩ ?rest1084
                    case hy1084 => (intro ww _; go_simp; try with_reducible rfl)
                    go_simp
                    refine wpAnyG_take (i := 4) (v := ?v1085) rfl (by kernel_rfl) (fun _ _ _ h => h) (Or.inl ⟨by rfl, ?hy1085⟩) ⟨HWd.out.1, HWd.out.2.tw.cf⟩ ?rest1085
                    case hy1085 => (intro ww hS; obtain ⟨y0, y1, y3, y4⟩ := hS.1.cells; obtain ⟨y5, y6⟩ := hS.2.cells; go_simp; try with_reducible rfl)
                    go_simp
                    refine wpAnyG_take (i := 5) (v := ?v1086) rfl (by kernel_rfl) (fun _ _ _ h => h) (Or.inl ⟨by rfl, ?hy1086⟩) ⟨HWd.out.1, HWd.out.2.tw.cf⟩ ?rest1086
                    case hy1086 => (intro ww _; go_simp; try with_reducible rfl)
                    go_simp
                    refine wpAnyG_take (i := 6) (v := ?v1087) rfl (by kernel_rfl) (fun _ _ _ h => h) (Or.inl ⟨by rfl, ?hy1087⟩) ⟨HWd.out.1, HWd.out.2.tw.cf⟩ ?rest1087
                    case hy1087 => (intro ww hS; obtain ⟨y0, y1, y3, y4⟩ := hS.1.cells; obtain ⟨y5, y6⟩ := hS.2.cells; go_simp; try with_reducible rfl)
                    go_simp
                    refine wpAnyG_take (i := 7) (v := ?v1088) rfl (by kernel_rfl) (fun _ _ _ h => h) (Or.inl ⟨by rfl, ?hy1088⟩) ⟨HWd.out.1, HWd.out.2.tw.cf⟩ ?rest1088
                    case hy1088 => (intro ww hS; obtain ⟨y0, y1, y3, y4⟩ := hS.1.cells; obtain ⟨y5, y6⟩ := hS.2.cells; go_simp; try with_reducible rfl)
                    go_simp
                    refine wpAnyG_take (i := 8) (v := ?v1089) rfl (by kernel_rfl) (fun _ _ _ h => h) (Or.inl ⟨by rfl, ?hy1089⟩) ⟨HWd.out.1, HWd.out.2.tw.cf⟩ ?rest1089
                    case hy1089 => (intro ww hS; obtain ⟨y0, y1, y3, y4⟩ := hS.1.cells; obtain ⟨y5, y6⟩ := hS.2.cells; go_simp; try with_reducible rfl)
                    go_simp
                    refine wpAnyG_all (rs := [9]) (by kernel_rfl) (by simp) ?_
                    intro i hi
                    obtain rfl := List.mem_singleton.1 hi
                    clear hi
                    refine wpOp_v rfl (by rfl) (fun K hK => ?_)
                    go_simp
                    refine (HG.out _ HWd.out.2.tw.bel).mono ?_
                    rintro e w5 ⟨ad5, cd5, rfl, hp5, hb5⟩
                    have H5 : Hid (VwAt w5 p f tt (.slice aj nx.length cj) z ∧ AgSt w w5 B F G (.pointer (some ⟨g1, 0, none⟩)) (.pointer (some ⟨g2, 0, none⟩)) s t ep (.slice a n cap) (.slice (some ⟨ga, off, none⟩) n1 c1) (.slice o2 n2 c2) v9 (said ++ [f]) v10 (fs ++ [((f, tt, nx, z), aj, cj)]) ∧ PairsIn w5 ad5 SG) := hid ⟨HWd.out.1.keep hb5, HWd.out.2.keep hb5, hp5⟩
                    clear hp5 hb5
                    refine hK _ _ ⟨fun _ => ⟨H5.out.1, H5.out.2.1.tw.cf⟩, ?_⟩
                    clear hK K
                    go_simp
                    refine wpAnyG_all (rs := [10]) (by kernel_rfl) (by simp) ?_
                    intro i hi
                    obtain rfl := List.mem_singleton.1 hi
                    clear hi
                    refine wpOp_v rfl (by rfl) (fun K hK => ?_)
                    go_simp
                    refine (HAd.out _ _ _ H5.out.2.1.tw.bel H5.out.2.1.tw.tl H5.out.2.2).mono ?_
                    rintro e w6 ⟨⟨E, rfl⟩, ht6, ho6⟩
                    have H6 : Hid (VwAt w6 p f tt (.slice aj nx.length cj) z ∧ AgSt w w6 B F G (.pointer (some ⟨g1, 0, none⟩)) (.pointer (some ⟨g2, 0, none⟩)) s9 t ep (.slice a n cap) (.slice (some ⟨ga, off, none⟩) n1 c1) (.slice o2 n2 c2) v9 (said ++ [f]) v10 (fs ++ [((f, tt, nx, z), aj, cj)])) := hid ⟨(ho6.block _ (lt_of_blk H5.out.1) (fun hm => by have h1 := H5.out.2.1.hF _ hm; have h2 := Hq.out.2.2; omega)).trans H5.out.1, H5.out.2.1.voteF ho6 ht6⟩
                    clear ht6 ho6
                    refine hK _ _ ⟨fun _ => ⟨H6.out.1, H6.out.2.tw.cf⟩, ?_⟩
                    clear hK K
                    go_simp
                    refine wpAnyG_done (by kernel_rfl) ?_ _
                    go_simp
                    go_wp2
                    go_roundw
                    case rel => exact ⟨j + 1, s9, t, (said ++ [f]), (fs ++ [((f, tt, nx, z), aj, cj)]), by have := HJ.out; omega, by go_num, H6.out.2, HIn9.out, by have := Hl2.out; omega⟩
                    case measure => simp [intOf]; omega
          · rw [show (((1 : Nat)) : Int) = 1 from rfl]
            have HS := hid (And.intro hst (And.intro hin hfl))
            obtain ⟨k0, k1⟩ := cell_two hst.tw.bx
            clear hst hin hfl
            go_wp2
            go_loopw [13, 14, 16] (fun x y i wr => ∃ (j : Nat) (s t : Ta) (said : List Int) (fs : List VtM), j ≤ n2 ∧ i = .int .i64 (j : Int) ∧ AgSt w wr B F G (.pointer (some ⟨g1, 0, none⟩)) (.pointer (some ⟨g2, 0, none⟩)) s t ep (.slice a n cap) (.slice o1 n1 c1) (.slice o2 n2 c2) x said y fs ∧ AgIn w ep l bad 1048576 s t said fs ∧ fs.length ≤ 1 * 1048576 + j) (fun _ _ i _ => ((n2 : Int) - intOf i).toNat)
            case atStart => exact ⟨0, s, t, said, fs, by omega, rfl, HS.out.1, HS.out.2.1, by have := HS.out.2.2; omega⟩
            case round =>
              obtain ⟨j, s, t, said, fs, hj, rfl, hst, hin, hfl⟩ := hrel
              clear k0 k1 HS
              obtain ⟨k0, k1⟩ := cell_two hst.tw.bx
              have hj0 : (0 : Int) ≤ (j : Int) := Int.natCast_nonneg _
              by_cases hjn : j = n2
              · have hj1 : ¬ ((j : Int) < (n2 : Int)) := by omega
                have HS := hid (And.intro hst (And.intro hin hfl))
                have HJ := hid (And.intro hj hjn)
                clear hst hin hfl hj hjn
                go_wp2
                go_roundw
                case rel => exact ⟨1 + 1, s, t, said, fs, by omega, by go_num, HS.out.1, HS.out.2.1, by have h1 := HS.out.2.2; have h2 := HP.out.2.2.2.1; have h3 := HJ.out; omega⟩
                case measure => simp [intOf]
              · have hj1 : (j : Int) < (n2 : Int) := by omega
                have hjl : j < os2.length := by have := HI.out.2.2.2.2.2; omega
                obtain ⟨xv, hxv⟩ : ∃ xv, os2[j]? = some xv := ⟨_, List.getElem?_eq_getElem hjl⟩
                obtain ⟨ga, off, aj, cj, rfl, hga, ⟨e0, e1, e2, e3⟩, hij⟩ := HI.out.2.2.2.1 j xv hxv
                have hvt := HP.out.2.2.2.2.2 xv (List.mem_of_getElem? hxv)
                obtain ⟨f, tt, nx, z⟩ := xv
                have d0 : wr.cell? ⟨ga, off + j * 4, none⟩ = some (.int .i64 f) := (hst.tw.bel.cell (p := ⟨ga, _, none⟩) hga).trans e0
                have d1 : wr.cell? ⟨ga, off + j * 4 + 1, none⟩ = some (.string tt) := (hst.tw.bel.cell (p := ⟨ga, _, none⟩) hga).trans e1
                have d2 : wr.cell? ⟨ga, off + j * 4 + 2, none⟩ = some (.slice aj nx.length cj) := (hst.tw.bel.cell (p := ⟨ga, _, none⟩) hga).trans e2
                have d3 : wr.cell? ⟨ga, off + j * 4 + 3, none⟩ = some (.int .i64 z) := (hst.tw.bel.cell (p := ⟨ga, _, none⟩) hga).trans e3
                have HJ := hid (And.intro hj hjn)
                have HX := hid (And.intro hij hvt)
                obtain ⟨asd, csd, esd, _⟩ := own_ints hst.r1
                subst esd
                have hvs : ∃ af cf, u14 = .slice af fs.length cf := by
                  rcases hst.r2.2 with ⟨hv, h0⟩ | ⟨gg, cap2, cur, hv, _⟩
                  · exact ⟨none, 0, by rw [hv, h0]⟩
                  · exact ⟨_, _, hv⟩
                obtain ⟨af, cff, rfl⟩ := hvs
                have hlb := lt_of_blk hst.tw.bx
                have HS := hid (And.intro hst (And.intro hin hfl))
                clear hst hin hfl hj hjn hjl hxv hga e0 e1 e2 e3 hij hvt
                by_cases hbd : f ∈ bad
                · have HHb : Hid (∀ u : World, Below w.heap.size w u → Calls Try.prog 24 #[.slice bd nb cb, .int .i64 f] u fun e w' => e = .returned (.bool true) ∧ w' = u) := hid (fun u hu => by have := HHa.out u f hu; rwa [show hasM bad f = true from decide_eq_true hbd] at this)
                  have hba : Below wr.heap.size wr (wr.alloc (.cells #[.int .i64 f, .string tt, .slice aj nx.length cj, .int .i64 z] 38)) := (Below.refl _ _).alloc (Nat.le_refl _) _
                  have H7 : Hid (VwAt (wr.alloc (.cells #[.int .i64 f, .string tt, .slice aj nx.length cj, .int .i64 z] 38)) wr.heap.size f tt (.slice aj nx.length cj) z ∧ AgSt w (wr.alloc (.cells #[.int .i64 f, .string tt, .slice aj nx.length cj, .int .i64 z] 38)) B F G (.pointer (some ⟨g1, 0, none⟩)) (.pointer (some ⟨g2, 0, none⟩)) s t ep (.slice a n cap) (.slice o1 n1 c1) (.slice (some ⟨ga, off, none⟩) n2 c2) (Value.slice asd said.length csd) said (Value.slice af fs.length cff) fs ∧ B ≤ wr.heap.size ∧ (∀ k, (Value.slice asd said.length csd).ownBlock = some k → k < wr.heap.size) ∧ (∀ k, (Value.slice af fs.length cff).ownBlock = some k → k < wr.heap.size)) := hid ⟨heap_alloc_last wr _, HS.out.1.keep hba, HS.out.1.le, fun k hk => (HS.out.1.r1.lt k hk).2, fun k hk => (HS.out.1.r2.lt k hk).2⟩
                  clear hba
                  go_wp2_with (go_at_call 24; go_must (refine (HHb.out _ H7.out.2.1.tw.bel).mono ?_; rintro e w8 ⟨rfl, rfl⟩))
                  obtain ⟨wq, eq⟩ : ∃ wq, wq = wr.alloc (.cells #[.int .i64 f, .string tt, .slice aj nx.length cj, .int .i64 z] 38) := ⟨_, rfl⟩
                  obtain ⟨p, ep0⟩ : ∃ p, p = wr.heap.size := ⟨_, rfl⟩
                  have Hq : Hid (VwAt wq p f tt (.slice aj nx.length cj) z ∧ AgSt w wq B F G (.pointer (some ⟨g1, 0, none⟩)) (.pointer (some ⟨g2, 0, none⟩)) s t ep (.slice a n cap) (.slice o1 n1 c1) (.slice (some ⟨ga, off, none⟩) n2 c2) (Value.slice asd said.length csd) said (Value.slice af fs.length cff) fs ∧ B ≤ p) := hid ⟨by rw [eq, ep0]; exact H7.out.1, by rw [eq]; exact H7.out.2.1, by rw [ep0]; exact H7.out.2.2.1⟩
                  rw [← eq, ← ep0]
                  have Hv : Hid (IntsIn w aj nx ∧ tt.size ≤ 1048576 ∧ nx.length ≤ 1048576 ∧ (f ∈ bad ∨ (f ∈ said ∧ (fs.map (·.1))[said.idxOf f]? = some (f, tt, nx, z)))) := hid ⟨HX.out.1, HX.out.2.1, HX.out.2.2, .inl hbd⟩
                  have Hi2 : Hid (AgIn w ep l bad 1048576 s t said fs) := hid HS.out.2.1
                  have Hl2 : Hid (fs.length ≤ 1 * 1048576 + (j + 1)) := hid (by have := HS.out.2.2; omega)
                  clear eq ep0 H7 hbd
                  have hmx : n ≤ maxLen := by have := HP.out.1; have := HP.out.2.1; unfold maxLen; omega
                  have hsz2 : tt.size ≤ 140737488355328 := by have := Hv.out.2.1; omega
                  have hnm2 : nx.length ≤ maxLen := by have := Hv.out.2.2.1; unfold maxLen; omega
                  obtain ⟨SG, eSG⟩ : ∃ SG, SG = sgOf f (voS ep l tt nx) (voC ep l tt nx) z := ⟨_, rfl⟩
                  have HG : Hid (∀ u : World, Below w.heap.size w u → Calls Try.prog 14 #[.agg #[.int .i64 f, .string tt, .slice aj nx.length cj, .int .i64 z], .agg #[.int .i64 ep, .slice a n cap]] u fun e w' => ∃ ad cd, e = .returned (.slice ad SG.length cd) ∧ PairsIn w' ad SG ∧ Below u.heap.size u w') := hid (fun u hu => by
                    have := usigs_any f tt hsz2 aj nx.length cj nx rfl hnm2 z ep a n cap l HP.out.2.1 hmx u (HI.out.1.keep hu (Nat.le_refl _)) (Hv.out.1.keep hu (Nat.le_refl _))
                    rw [← eSG] at this
                    exact this.mono fun e w' ⟨ad, cd, k1, k2, k3⟩ => ⟨ad, cd, k1, k2.1, k3⟩)
                  have hSG : SG.length ≤ maxLen := by
                    have : SG.length ≤ 3 := by rw [eSG, sgOf]; split <;> (try split) <;> (try split) <;> (try split) <;> simp
                    unfold maxLen; omega
                  obtain ⟨s9, es9⟩ : ∃ s9, s9 = added t f tt nx SG := ⟨_, rfl⟩
                  have HAd : Hid (∀ (u : World) (ad : Option Addr) (cd : Nat), Below w.heap.size w u → TlAt G u (.pointer (some ⟨g2, 0, none⟩)) t → PairsIn u ad SG → Calls Try.prog 15 #[.pointer (some ⟨g2, 0, none⟩), .int .i64 f, .string tt, .slice aj nx.length cj, .slice ad SG.length cd] u fun e w' => (∃ E, e = .returned (.int .i64 E)) ∧ TlAt G w' (.pointer (some ⟨g2, 0, none⟩)) s9 ∧ Out G u w') := hid (fun u ad cd hu htt hp => by
                    have := vadd_at G _ t f tt hsz2 aj nx.length cj nx rfl hnm2 ad SG.length cd SG rfl hSG u htt (Hv.out.1.keep hu (Nat.le_refl _)) hp
                    rw [← es9] at this
                    exact this.mono fun e w' ⟨k1, k2, k3⟩ => ⟨⟨_, k1⟩, k2, k3⟩)
                  have HIn9 : Hid (AgIn w ep l bad 1048576 s s9 said fs) := hid (by
                    rw [es9]
                    have hin := Hi2.out
                    exact ⟨hin.s1, ⟨(added_ep t f tt nx SG).1.trans hin.t1.1, (added_ep t f tt nx SG).2.trans hin.t1.2⟩, hin.fst, hin.hs, hin.ht.add hin.t1.1 hin.t1.2 (f, tt, nx, z) SG Hv.out.2.2.2, hin.mem⟩)
                  clear hmx hsz2 hnm2 eSG hSG es9
                  have HWd : Hid (VwAt wq.drew p f tt (.slice aj nx.length cj) z ∧ AgSt w wq.drew B F G (.pointer (some ⟨g1, 0, none⟩)) (.pointer (some ⟨g2, 0, none⟩)) s t ep (.slice a n cap) (.slice o1 n1 c1) (.slice (some ⟨ga, off, none⟩) n2 c2) (Value.slice asd said.length csd) said (Value.slice af fs.length cff) fs) := hid ⟨Hq.out.1, Hq.out.2.1.keep (Below.refl _ _).drew⟩
                  refine wp_region_G (S := fun ww => VwAt ww p f tt (.slice aj nx.length cj) z ∧ CvAt ww w.heap.size ep (.slice a n cap)) (ex := []) (by kernel_rfl) ?_
                  try (change wpAnyG _ _ _ _ _ _ _ _ _ (World.drew _))
                  refine wpAnyG_take (i := 0) (v := ?v1121) rfl (by kernel_rfl) (fun _ _ _ h => h) (Or.inl ⟨by rfl, ?hy1121⟩) ⟨HWd.out.1, HWd.out.2.tw.cf⟩ ?rest1121
                  case hy1121 => (intro ww _; go_simp; try with_reducible rfl)
                  go_simp
                  refine wpAnyG_take (i := 1) (v := ?v1122) rfl (by kernel_rfl) (fun _ _ _ h => h) (Or.inl ⟨by rfl, ?hy1122⟩) ⟨HWd.out.1, HWd.out.2.tw.cf⟩ ?rest1122
                  case hy1122 => (intro ww _; go_simp; try with_reducible rfl)
                  go_simp
                  refine wpAnyG_take (i := 2) (v := ?v1123) rfl (by kernel_rfl) (fun _ _ _ h => h) (Or.inl ⟨by rfl, ?hy1123⟩) ⟨HWd.out.1, HWd.out.2.tw.cf⟩ ?rest1123
                  case hy1123 => (intro ww hS; obtain ⟨y0, y1, y3, y4⟩ := hS.1.cells; obtain ⟨y5, y6⟩ := hS.2.cells; go_simp; try with_reducible rfl)
                  go_simp
                  refine wpAnyG_take (i := 3) (v := ?v1124) rfl (by kernel_rfl) (fun _ _ _ h => h) (Or.inl ⟨by rfl, ?hy1124⟩) ⟨HWd.out.1, HWd.out.2.tw.cf⟩ ?rest1124
                  case hy1124 => (intro ww _; go_simp; try with_reducible rfl)
                  go_simp
                  refine wpAnyG_take (i := 4) (v := ?v1125) rfl (by kernel_rfl) (fun _ _ _ h => h) (Or.inl ⟨by rfl, ?hy1125⟩) ⟨HWd.out.1, HWd.out.2.tw.cf⟩ ?rest1125
                  case hy1125 => (intro ww hS; obtain ⟨y0, y1, y3, y4⟩ := hS.1.cells; obtain ⟨y5, y6⟩ := hS.2.cells; go_simp; try with_reducible rfl)
                  go_simp
                  refine wpAnyG_take (i := 5) (v := ?v1126) rfl (by kernel_rfl) (fun _ _ _ h => h) (Or.inl ⟨by rfl, ?hy1126⟩) ⟨HWd.out.1, HWd.out.2.tw.cf⟩ ?rest1126
                  case hy1126 => (intro ww _; go_simp; try with_reducible rfl)
                  go_simp
                  refine wpAnyG_take (i := 6) (v := ?v1127) rfl (by kernel_rfl) (fun _ _ _ h => h) (Or.inl ⟨by rfl, ?hy1127⟩) ⟨HWd.out.1, HWd.out.2.tw.cf⟩ ?rest1127
                  case hy1127 => (intro ww hS; obtain ⟨y0, y1, y3, y4⟩ := hS.1.cells; obtain ⟨y5, y6⟩ := hS.2.cells; go_simp; try with_reducible rfl)
                  go_simp
                  refine wpAnyG_take (i := 7) (v := ?v1128) rfl (by kernel_rfl) (fun _ _ _ h => h) (Or.inl ⟨by rfl, ?hy1128⟩) ⟨HWd.out.1, HWd.out.2.tw.cf⟩ ?rest1128
                  case hy1128 => (intro ww hS; obtain ⟨y0, y1, y3, y4⟩ := hS.1.cells; obtain ⟨y5, y6⟩ := hS.2.cells; go_simp; try with_reducible rfl)
                  go_simp
                  refine wpAnyG_take (i := 8) (v := ?v1129) rfl (by kernel_rfl) (fun _ _ _ h => h) (Or.inl ⟨by rfl, ?hy1129⟩) ⟨HWd.out.1, HWd.out.2.tw.cf⟩ ?rest1129
                  case hy1129 => (intro ww hS; obtain ⟨y0, y1, y3, y4⟩ := hS.1.cells; obtain ⟨y5, y6⟩ := hS.2.cells; go_simp; try with_reducible rfl)
                  go_simp
                  refine wpAnyG_all (rs := [9]) (by kernel_rfl) (by simp) ?_
                  intro i hi
                  obtain rfl := List.mem_singleton.1 hi
                  clear hi
                  refine wpOp_v rfl (by rfl) (fun K hK => ?_)
                  go_simp
                  refine (HG.out _ HWd.out.2.tw.bel).mono ?_
                  rintro e w5 ⟨ad5, cd5, rfl, hp5, hb5⟩
                  have H5 : Hid (VwAt w5 p f tt (.slice aj nx.length cj) z ∧ AgSt w w5 B F G (.pointer (some ⟨g1, 0, none⟩)) (.pointer (some ⟨g2, 0, none⟩)) s t ep (.slice a n cap) (.slice o1 n1 c1) (.slice (some ⟨ga, off, none⟩) n2 c2) (Value.slice asd said.length csd) said (Value.slice af fs.length cff) fs ∧ PairsIn w5 ad5 SG) := hid ⟨HWd.out.1.keep hb5, HWd.out.2.keep hb5, hp5⟩
                  clear hp5 hb5
                  refine hK _ _ ⟨fun _ => ⟨H5.out.1, H5.out.2.1.tw.cf⟩, ?_⟩
                  clear hK K
                  go_simp
                  refine wpAnyG_all (rs := [10]) (by kernel_rfl) (by simp) ?_
                  intro i hi
                  obtain rfl := List.mem_singleton.1 hi
                  clear hi
                  refine wpOp_v rfl (by rfl) (fun K hK => ?_)
                  go_simp
                  refine (HAd.out _ _ _ H5.out.2.1.tw.bel H5.out.2.1.tw.tu H5.out.2.2).mono ?_
                  rintro e w6 ⟨⟨E, rfl⟩, ht6, ho6⟩
                  have H6 : Hid (VwAt w6 p f tt (.slice aj nx.length cj) z ∧ AgSt w w6 B F G (.pointer (some ⟨g1, 0, none⟩)) (.pointer (some ⟨g2, 0, none⟩)) s s9 ep (.slice a n cap) (.slice o1 n1 c1) (.slice (some ⟨ga, off, none⟩) n2 c2) (Value.slice asd said.length csd) said (Value.slice af fs.length cff) fs) := hid ⟨(ho6.block _ (lt_of_blk H5.out.1) (fun hm => by have h1 := H5.out.2.1.hG _ hm; have h2 := Hq.out.2.2; omega)).trans H5.out.1, H5.out.2.1.voteG ho6 ht6⟩
                  clear ht6 ho6
                  refine hK _ _ ⟨fun _ => ⟨H6.out.1, H6.out.2.tw.cf⟩, ?_⟩
                  clear hK K
                  go_simp
                  refine wpAnyG_done (by kernel_rfl) ?_ _
                  go_simp
                  go_wp2
                  go_roundw
                  case rel => exact ⟨j + 1, s, s9, said, fs, by have := HJ.out; omega, by go_num, H6.out.2, HIn9.out, by have := Hl2.out; omega⟩
                  case measure => simp [intOf]; omega
                · by_cases hsd : f ∈ said
                  · have HHb : Hid (∀ u : World, Below w.heap.size w u → Calls Try.prog 24 #[.slice bd nb cb, .int .i64 f] u fun e w' => e = .returned (.bool false) ∧ w' = u) := hid (fun u hu => by have := HHa.out u f hu; rwa [show hasM bad f = false from decide_eq_false hbd] at this)
                    have hba : Below wr.heap.size wr (wr.alloc (.cells #[.int .i64 f, .string tt, .slice aj nx.length cj, .int .i64 z] 38)) := (Below.refl _ _).alloc (Nat.le_refl _) _
                    have H7 : Hid (VwAt (wr.alloc (.cells #[.int .i64 f, .string tt, .slice aj nx.length cj, .int .i64 z] 38)) wr.heap.size f tt (.slice aj nx.length cj) z ∧ AgSt w (wr.alloc (.cells #[.int .i64 f, .string tt, .slice aj nx.length cj, .int .i64 z] 38)) B F G (.pointer (some ⟨g1, 0, none⟩)) (.pointer (some ⟨g2, 0, none⟩)) s t ep (.slice a n cap) (.slice o1 n1 c1) (.slice (some ⟨ga, off, none⟩) n2 c2) (Value.slice asd said.length csd) said (Value.slice af fs.length cff) fs ∧ B ≤ wr.heap.size ∧ (∀ k, (Value.slice asd said.length csd).ownBlock = some k → k < wr.heap.size) ∧ (∀ k, (Value.slice af fs.length cff).ownBlock = some k → k < wr.heap.size)) := hid ⟨heap_alloc_last wr _, HS.out.1.keep hba, HS.out.1.le, fun k hk => (HS.out.1.r1.lt k hk).2, fun k hk => (HS.out.1.r2.lt k hk).2⟩
                    clear hba
                    obtain ⟨ov, hov, hof⟩ := HS.out.2.1.fst.at hsd
                    rw [List.getElem?_map] at hov
                    obtain ⟨xw, hxw, exw⟩ := Option.map_eq_some_iff.1 hov
                    subst exw
                    have hmw := HS.out.2.1.mem xw (List.mem_of_getElem? hxw)
                    have hIl : said.idxOf f < fs.length := (List.getElem?_eq_some_iff.1 hxw).1
                    have haf : ∃ gf, af = some ⟨gf, 0, none⟩ := by
                      rcases HS.out.1.r2.2 with ⟨hv, h0⟩ | ⟨gg, cap2, cur, hv, _⟩
                      · rw [h0] at hIl; exact absurd hIl (by omega)
                      · cases hv; exact ⟨gg, rfl⟩
                    obtain ⟨gf, rfl⟩ := haf
                    have hat := fsC_at fs _ xw hxw
                    obtain ⟨⟨fw, tw, nw, zw⟩, aw, cw⟩ := xw
                    obtain rfl : fw = f := hof
                    have HWh : Hid (∀ u : World, AgSt w u B F G (.pointer (some ⟨g1, 0, none⟩)) (.pointer (some ⟨g2, 0, none⟩)) s t ep (.slice a n cap) (.slice o1 n1 c1) (.slice (some ⟨ga, off, none⟩) n2 c2) (Value.slice asd said.length csd) said (Value.slice (some ⟨gf, 0, none⟩) fs.length cff) fs → Calls Try.prog 26 #[.slice asd said.length csd, .int .i64 fw] u fun e w' => e = .returned (.int .i64 ((said.idxOf fw : Nat) : Int)) ∧ Below u.heap.size u w') := hid (fun u hu => by
                      have hls := HS.out.2.1.fst.len
                      rw [List.length_map] at hls
                      have := uwhere_any asd _ csd said rfl (by have h1 := HS.out.2.2; have h2 := HP.out.2.2.2.1; have h3 := HJ.out; unfold maxLen; omega) fw u ((own_ints hu.r1).elim fun _ h => h.elim fun _ h => by obtain ⟨e, hh⟩ := h; cases e; exact hh)
                      rwa [whereI, if_pos hsd] at this)
                    have HC : Hid (∀ u : World, AgSt w u B F G (.pointer (some ⟨g1, 0, none⟩)) (.pointer (some ⟨g2, 0, none⟩)) s t ep (.slice a n cap) (.slice o1 n1 c1) (.slice (some ⟨ga, off, none⟩) n2 c2) (Value.slice asd said.length csd) said (Value.slice (some ⟨gf, 0, none⟩) fs.length cff) fs → (u.cell? ⟨gf, said.idxOf fw * 4, none⟩ = some (.int .i64 fw) ∧ u.cell? ⟨gf, said.idxOf fw * 4 + 1, none⟩ = some (.string tw)) ∧ u.cell? ⟨gf, said.idxOf fw * 4 + 2, none⟩ = some (.slice aw nw.length cw) ∧ u.cell? ⟨gf, said.idxOf fw * 4 + 3, none⟩ = some (.int .i64 zw)) := hid (fun u hu => by
                      have hc := fun j v hv => hu.r2.cells (g := gf) rfl j v hv
                      obtain ⟨h0, h1, h2, h3⟩ := hat
                      have c0 := hc _ _ h0
                      have c1 := hc _ _ h1
                      have c2 := hc _ _ h2
                      have c3 := hc _ _ h3
                      rw [Addr.add_lit, Nat.zero_add] at c0 c1 c2 c3
                      exact ⟨⟨c0, c1⟩, c2, c3⟩)
                    have Hv : Hid (IntsIn w aw nw ∧ tw.size ≤ 1048576 ∧ nw.length ≤ 1048576 ∧ (fw ∈ bad ∨ (fw ∈ said ∧ (fs.map (·.1))[said.idxOf fw]? = some (fw, tw, nw, zw)))) := hid ⟨hmw.1, hmw.2.1, hmw.2.2, .inr ⟨hsd, by rw [List.getElem?_map, hxw]; rfl⟩⟩
                    have hI0 : (0 : Int) ≤ ((said.idxOf fw : Nat) : Int) := Int.natCast_nonneg _
                    have hI1 : ((said.idxOf fw : Nat) : Int) < ((fs.length : Nat) : Int) := by omega
                    have hI9 : ((fs.length : Nat) : Int) ≤ 9223372036854775807 := by have h1 := HS.out.2.2; have h2 := HP.out.2.2.2.1; have h3 := HJ.out; omega
                    have Hi2 : Hid (AgIn w ep l bad 1048576 s t said fs) := hid HS.out.2.1
                    have Hl2 : Hid (fs.length ≤ 1 * 1048576 + (j + 1)) := hid (by have := HS.out.2.2; omega)
                    generalize said.idxOf fw = I at HWh HC hI0 hI1 hIl
                    clear hov hmw hat hxw hsd hbd HS hIl
                    go_wp2_with (first
                      | (go_at_call 24; go_must (refine (HHb.out _ H7.out.2.1.tw.bel).mono ?_; rintro e w8 ⟨rfl, rfl⟩))
                      | (go_at_call 26; go_must (refine (HWh.out _ H7.out.2.1).mono ?_; rintro e w8 ⟨rfl, hb⟩; have H8 : Hid (VwAt w8 wr.heap.size fw tt (.slice aj nx.length cj) z ∧ AgSt w w8 B F G (.pointer (some ⟨g1, 0, none⟩)) (.pointer (some ⟨g2, 0, none⟩)) s t ep (.slice a n cap) (.slice o1 n1 c1) (.slice (some ⟨ga, off, none⟩) n2 c2) (Value.slice asd said.length csd) said (Value.slice (some ⟨gf, 0, none⟩) fs.length cff) fs) := hid ⟨H7.out.1.keep hb, H7.out.2.1.keep hb⟩; obtain ⟨⟨m0, m1⟩, m2, m3⟩ := HC.out _ H8.out.2; have q0 := free_at H8.out.1 0; have q1 := free_at H8.out.1 1; have q2 := free_at H8.out.1 2; have q3 := free_at H8.out.1 3; obtain ⟨p0, p1, p2, p3⟩ := H8.out.1.cells; clear hb)))
                    clear m0 m1 m2 m3 q0 q1 q2 q3 p0 p1 p2 p3
                    obtain ⟨wq, eq⟩ : ∃ wq, wq = ((((w8.setCell ⟨wr.heap.size, 0, none⟩ (.int .i64 fw)).setCell ⟨wr.heap.size, 1, none⟩ (.string tw)).setCell ⟨wr.heap.size, 2, none⟩ (.slice aw nw.length cw)).setCell ⟨wr.heap.size, 3, none⟩ (.int .i64 zw)) := ⟨_, rfl⟩
                    obtain ⟨p, ep0⟩ : ∃ p, p = wr.heap.size := ⟨_, rfl⟩
                    have Hq : Hid (VwAt wq p fw tw (.slice aw nw.length cw) zw ∧ AgSt w wq B F G (.pointer (some ⟨g1, 0, none⟩)) (.pointer (some ⟨g2, 0, none⟩)) s t ep (.slice a n cap) (.slice o1 n1 c1) (.slice (some ⟨ga, off, none⟩) n2 c2) (Value.slice asd said.length csd) said (Value.slice (some ⟨gf, 0, none⟩) fs.length cff) fs ∧ B ≤ p) := hid ⟨by rw [eq, ep0]; exact vw_put H8.out.1 _ _ _ _, by
                      rw [eq]
                      have h7 := H7.out.2.2
                      exact ((((H8.out.2.setp _ 0 _ h7.1 h7.2.1 h7.2.2).setp _ 1 _ h7.1 h7.2.1 h7.2.2).setp _ 2 _ h7.1 h7.2.1 h7.2.2).setp _ 3 _ h7.1 h7.2.1 h7.2.2), by rw [ep0]; exact H7.out.2.2.1⟩
                    rw [← eq, ← ep0]
                    clear eq ep0 H7 H8
                    have hmx : n ≤ maxLen := by have := HP.out.1; have := HP.out.2.1; unfold maxLen; omega
                    have hsz2 : tw.size ≤ 140737488355328 := by have := Hv.out.2.1; omega
                    have hnm2 : nw.length ≤ maxLen := by have := Hv.out.2.2.1; unfold maxLen; omega
                    obtain ⟨SG, eSG⟩ : ∃ SG, SG = sgOf fw (voS ep l tw nw) (voC ep l tw nw) zw := ⟨_, rfl⟩
                    have HG : Hid (∀ u : World, Below w.heap.size w u → Calls Try.prog 14 #[.agg #[.int .i64 fw, .string tw, .slice aw nw.length cw, .int .i64 zw], .agg #[.int .i64 ep, .slice a n cap]] u fun e w' => ∃ ad cd, e = .returned (.slice ad SG.length cd) ∧ PairsIn w' ad SG ∧ Below u.heap.size u w') := hid (fun u hu => by
                      have := usigs_any fw tw hsz2 aw nw.length cw nw rfl hnm2 zw ep a n cap l HP.out.2.1 hmx u (HI.out.1.keep hu (Nat.le_refl _)) (Hv.out.1.keep hu (Nat.le_refl _))
                      rw [← eSG] at this
                      exact this.mono fun e w' ⟨ad, cd, k1, k2, k3⟩ => ⟨ad, cd, k1, k2.1, k3⟩)
                    have hSG : SG.length ≤ maxLen := by
                      have : SG.length ≤ 3 := by rw [eSG, sgOf]; split <;> (try split) <;> (try split) <;> (try split) <;> simp
                      unfold maxLen; omega
                    obtain ⟨s9, es9⟩ : ∃ s9, s9 = added t fw tw nw SG := ⟨_, rfl⟩
                    have HAd : Hid (∀ (u : World) (ad : Option Addr) (cd : Nat), Below w.heap.size w u → TlAt G u (.pointer (some ⟨g2, 0, none⟩)) t → PairsIn u ad SG → Calls Try.prog 15 #[.pointer (some ⟨g2, 0, none⟩), .int .i64 fw, .string tw, .slice aw nw.length cw, .slice ad SG.length cd] u fun e w' => (∃ E, e = .returned (.int .i64 E)) ∧ TlAt G w' (.pointer (some ⟨g2, 0, none⟩)) s9 ∧ Out G u w') := hid (fun u ad cd hu htt hp => by
                      have := vadd_at G _ t fw tw hsz2 aw nw.length cw nw rfl hnm2 ad SG.length cd SG rfl hSG u htt (Hv.out.1.keep hu (Nat.le_refl _)) hp
                      rw [← es9] at this
                      exact this.mono fun e w' ⟨k1, k2, k3⟩ => ⟨⟨_, k1⟩, k2, k3⟩)
                    have HIn9 : Hid (AgIn w ep l bad 1048576 s s9 said fs) := hid (by
                      rw [es9]
                      have hin := Hi2.out
                      exact ⟨hin.s1, ⟨(added_ep t fw tw nw SG).1.trans hin.t1.1, (added_ep t fw tw nw SG).2.trans hin.t1.2⟩, hin.fst, hin.hs, hin.ht.add hin.t1.1 hin.t1.2 (fw, tw, nw, zw) SG Hv.out.2.2.2, hin.mem⟩)
                    clear hmx hsz2 hnm2 eSG hSG es9
                    have HWd : Hid (VwAt wq.drew p fw tw (.slice aw nw.length cw) zw ∧ AgSt w wq.drew B F G (.pointer (some ⟨g1, 0, none⟩)) (.pointer (some ⟨g2, 0, none⟩)) s t ep (.slice a n cap) (.slice o1 n1 c1) (.slice (some ⟨ga, off, none⟩) n2 c2) (Value.slice asd said.length csd) said (Value.slice (some ⟨gf, 0, none⟩) fs.length cff) fs) := hid ⟨Hq.out.1, Hq.out.2.1.keep (Below.refl _ _).drew⟩
                    refine wp_region_G (S := fun ww => VwAt ww p fw tw (.slice aw nw.length cw) zw ∧ CvAt ww w.heap.size ep (.slice a n cap)) (ex := []) (by kernel_rfl) ?_
                    try (change wpAnyG _ _ _ _ _ _ _ _ _ (World.drew _))
                    refine wpAnyG_take (i := 0) (v := ?v1161) rfl (by kernel_rfl) (fun _ _ _ h => h) (Or.inl ⟨by rfl, ?hy1161⟩) ⟨HWd.out.1, HWd.out.2.tw.cf⟩ ?rest1161
                    case hy1161 => (intro ww _; go_simp; try with_reducible rfl)
                    go_simp
                    refine wpAnyG_take (i := 1) (v := ?v1162) rfl (by kernel_rfl) (fun _ _ _ h => h) (Or.inl ⟨by rfl, ?hy1162⟩) ⟨HWd.out.1, HWd.out.2.tw.cf⟩ ?rest1162
                    case hy1162 => (intro ww _; go_simp; try with_reducible rfl)
                    go_simp
                    refine wpAnyG_take (i := 2) (v := ?v1163) rfl (by kernel_rfl) (fun _ _ _ h => h) (Or.inl ⟨by rfl, ?hy1163⟩) ⟨HWd.out.1, HWd.out.2.tw.cf⟩ ?rest1163
                    case hy1163 => (intro ww hS; obtain ⟨y0, y1, y3, y4⟩ := hS.1.cells; obtain ⟨y5, y6⟩ := hS.2.cells; go_simp; try with_reducible rfl)
                    go_simp
                    refine wpAnyG_take (i := 3) (v := ?v1164) rfl (by kernel_rfl) (fun _ _ _ h => h) (Or.inl ⟨by rfl, ?hy1164⟩) ⟨HWd.out.1, HWd.out.2.tw.cf⟩ ?rest1164
                    case hy1164 => (intro ww _; go_simp; try with_reducible rfl)
                    go_simp
                    refine wpAnyG_take (i := 4) (v := ?v1165) rfl (by kernel_rfl) (fun _ _ _ h => h) (Or.inl ⟨by rfl, ?hy1165⟩) ⟨HWd.out.1, HWd.out.2.tw.cf⟩ ?rest1165
                    case hy1165 => (intro ww hS; obtain ⟨y0, y1, y3, y4⟩ := hS.1.cells; obtain ⟨y5, y6⟩ := hS.2.cells; go_simp; try with_reducible rfl)
                    go_simp
                    refine wpAnyG_take (i := 5) (v := ?v1166) rfl (by kernel_rfl) (fun _ _ _ h => h) (Or.inl ⟨by rfl, ?hy1166⟩) ⟨HWd.out.1, HWd.out.2.tw.cf⟩ ?rest1166
                    case hy1166 => (intro ww _; go_simp; try with_reducible rfl)
                    go_simp
                    refine wpAnyG_take (i := 6) (v := ?v1167) rfl (by kernel_rfl) (fun _ _ _ h => h) (Or.inl ⟨by rfl, ?hy1167⟩) ⟨HWd.out.1, HWd.out.2.tw.cf⟩ ?rest1167
                    case hy1167 => (intro ww hS; obtain ⟨y0, y1, y3, y4⟩ := hS.1.cells; obtain ⟨y5, y6⟩ := hS.2.cells; go_simp; try with_reducible rfl)
                    go_simp
                    refine wpAnyG_take (i := 7) (v := ?v1168) rfl (by kernel_rfl) (fun _ _ _ h => h) (Or.inl ⟨by rfl, ?hy1168⟩) ⟨HWd.out.1, HWd.out.2.tw.cf⟩ ?rest1168
                    case hy1168 => (intro ww hS; obtain ⟨y0, y1, y3, y4⟩ := hS.1.cells; obtain ⟨y5, y6⟩ := hS.2.cells; go_simp; try with_reducible rfl)
                    go_simp
                    refine wpAnyG_take (i := 8) (v := ?v1169) rfl (by kernel_rfl) (fun _ _ _ h => h) (Or.inl ⟨by rfl, ?hy1169⟩) ⟨HWd.out.1, HWd.out.2.tw.cf⟩ ?rest1169
                    case hy1169 => (intro ww hS; obtain ⟨y0, y1, y3, y4⟩ := hS.1.cells; obtain ⟨y5, y6⟩ := hS.2.cells; go_simp; try with_reducible rfl)
                    go_simp
                    refine wpAnyG_all (rs := [9]) (by kernel_rfl) (by simp) ?_
                    intro i hi
                    obtain rfl := List.mem_singleton.1 hi
                    clear hi
                    refine wpOp_v rfl (by rfl) (fun K hK => ?_)
                    go_simp
                    refine (HG.out _ HWd.out.2.tw.bel).mono ?_
                    rintro e w5 ⟨ad5, cd5, rfl, hp5, hb5⟩
                    have H5 : Hid (VwAt w5 p fw tw (.slice aw nw.length cw) zw ∧ AgSt w w5 B F G (.pointer (some ⟨g1, 0, none⟩)) (.pointer (some ⟨g2, 0, none⟩)) s t ep (.slice a n cap) (.slice o1 n1 c1) (.slice (some ⟨ga, off, none⟩) n2 c2) (Value.slice asd said.length csd) said (Value.slice (some ⟨gf, 0, none⟩) fs.length cff) fs ∧ PairsIn w5 ad5 SG) := hid ⟨HWd.out.1.keep hb5, HWd.out.2.keep hb5, hp5⟩
                    clear hp5 hb5
                    refine hK _ _ ⟨fun _ => ⟨H5.out.1, H5.out.2.1.tw.cf⟩, ?_⟩
                    clear hK K
                    go_simp
                    refine wpAnyG_all (rs := [10]) (by kernel_rfl) (by simp) ?_
                    intro i hi
                    obtain rfl := List.mem_singleton.1 hi
                    clear hi
                    refine wpOp_v rfl (by rfl) (fun K hK => ?_)
                    go_simp
                    refine (HAd.out _ _ _ H5.out.2.1.tw.bel H5.out.2.1.tw.tu H5.out.2.2).mono ?_
                    rintro e w6 ⟨⟨E, rfl⟩, ht6, ho6⟩
                    have H6 : Hid (VwAt w6 p fw tw (.slice aw nw.length cw) zw ∧ AgSt w w6 B F G (.pointer (some ⟨g1, 0, none⟩)) (.pointer (some ⟨g2, 0, none⟩)) s s9 ep (.slice a n cap) (.slice o1 n1 c1) (.slice (some ⟨ga, off, none⟩) n2 c2) (Value.slice asd said.length csd) said (Value.slice (some ⟨gf, 0, none⟩) fs.length cff) fs) := hid ⟨(ho6.block _ (lt_of_blk H5.out.1) (fun hm => by have h1 := H5.out.2.1.hG _ hm; have h2 := Hq.out.2.2; omega)).trans H5.out.1, H5.out.2.1.voteG ho6 ht6⟩
                    clear ht6 ho6
                    refine hK _ _ ⟨fun _ => ⟨H6.out.1, H6.out.2.tw.cf⟩, ?_⟩
                    clear hK K
                    go_simp
                    refine wpAnyG_done (by kernel_rfl) ?_ _
                    go_simp
                    go_wp2
                    go_roundw
                    case rel => exact ⟨j + 1, s, s9, said, fs, by have := HJ.out; omega, by go_num, H6.out.2, HIn9.out, by have := Hl2.out; omega⟩
                    case measure => simp [intOf]; omega
                  · have HHb : Hid (∀ u : World, Below w.heap.size w u → Calls Try.prog 24 #[.slice bd nb cb, .int .i64 f] u fun e w' => e = .returned (.bool false) ∧ w' = u) := hid (fun u hu => by have := HHa.out u f hu; rwa [show hasM bad f = false from decide_eq_false hbd] at this)
                    have hba : Below wr.heap.size wr (wr.alloc (.cells #[.int .i64 f, .string tt, .slice aj nx.length cj, .int .i64 z] 38)) := (Below.refl _ _).alloc (Nat.le_refl _) _
                    have H7 : Hid (VwAt (wr.alloc (.cells #[.int .i64 f, .string tt, .slice aj nx.length cj, .int .i64 z] 38)) wr.heap.size f tt (.slice aj nx.length cj) z ∧ AgSt w (wr.alloc (.cells #[.int .i64 f, .string tt, .slice aj nx.length cj, .int .i64 z] 38)) B F G (.pointer (some ⟨g1, 0, none⟩)) (.pointer (some ⟨g2, 0, none⟩)) s t ep (.slice a n cap) (.slice o1 n1 c1) (.slice (some ⟨ga, off, none⟩) n2 c2) (Value.slice asd said.length csd) said (Value.slice af fs.length cff) fs ∧ B ≤ wr.heap.size ∧ (∀ k, (Value.slice asd said.length csd).ownBlock = some k → k < wr.heap.size) ∧ (∀ k, (Value.slice af fs.length cff).ownBlock = some k → k < wr.heap.size)) := hid ⟨heap_alloc_last wr _, HS.out.1.keep hba, HS.out.1.le, fun k hk => (HS.out.1.r1.lt k hk).2, fun k hk => (HS.out.1.r2.lt k hk).2⟩
                    clear hba
                    have HWh : Hid (∀ u : World, AgSt w u B F G (.pointer (some ⟨g1, 0, none⟩)) (.pointer (some ⟨g2, 0, none⟩)) s t ep (.slice a n cap) (.slice o1 n1 c1) (.slice (some ⟨ga, off, none⟩) n2 c2) (Value.slice asd said.length csd) said (Value.slice af fs.length cff) fs → Calls Try.prog 26 #[.slice asd said.length csd, .int .i64 f] u fun e w' => e = .returned (.int .i64 (-1)) ∧ Below u.heap.size u w') := hid (fun u hu => by
                      have hls := HS.out.2.1.fst.len
                      rw [List.length_map] at hls
                      have := uwhere_any asd _ csd said rfl (by have h1 := HS.out.2.2; have h2 := HP.out.2.2.2.1; have h3 := HJ.out; unfold maxLen; omega) f u ((own_ints hu.r1).elim fun _ h => h.elim fun _ h => by obtain ⟨e, hh⟩ := h; cases e; exact hh)
                      rwa [whereI, if_neg hsd] at this)
                    have hls : said.length = fs.length := by have := HS.out.2.1.fst.len; rwa [List.length_map] at this
                    have HLn : Hid (said.length + 1 ≤ 3000000 ∧ fs.length + 1 ≤ 3000000) := hid (by have h1 := HS.out.2.2; have h2 := HP.out.2.2.2.1; have h3 := HJ.out; omega)
                    have Hv : Hid (IntsIn w aj nx ∧ tt.size ≤ 1048576 ∧ nx.length ≤ 1048576 ∧ (f ∈ bad ∨ (f ∈ said ++ [f] ∧ ((fs ++ [((f, tt, nx, z), aj, cj)]).map (·.1))[(said ++ [f]).idxOf f]? = some (f, tt, nx, z)))) := hid ⟨HX.out.1, HX.out.2.1, HX.out.2.2, .inr ⟨by simp, by
                      rw [List.idxOf_append, if_neg hsd, List.idxOf_cons_self, List.map_append, List.getElem?_append_right (by rw [List.length_map]; omega), List.length_map, hls]
                      simp⟩⟩
                    have Hi2 : Hid (AgIn w ep l bad 1048576 s t (said ++ [f]) (fs ++ [((f, tt, nx, z), aj, cj)])) := hid (by
                      have hin := HS.out.2.1
                      refine ⟨hin.s1, hin.t1, ?_, ?_, ?_, fun x hx => ?_⟩
                      · rw [List.map_append]; exact hin.fst.more (f, tt, nx, z)
                      · rw [List.map_append]; exact hin.hs.more f (f, tt, nx, z)
                      · rw [List.map_append]; exact hin.ht.more f (f, tt, nx, z)
                      · rcases List.mem_append.1 hx with hx | hx
                        · exact hin.mem x hx
                        · rw [List.mem_singleton.1 hx]; exact ⟨HX.out.1, HX.out.2⟩)
                    have Hl2 : Hid ((fs ++ [((f, tt, nx, z), aj, cj)]).length ≤ 1 * 1048576 + (j + 1)) := hid (by have := HS.out.2.2; rw [List.length_append]; simp; omega)
                    clear hsd hbd HS hls
                    go_wp2_with (first
                      | (go_at_call 24; go_must (refine (HHb.out _ H7.out.2.1.tw.bel).mono ?_; rintro e w8 ⟨rfl, rfl⟩))
                      | (go_at_call 26; go_must (refine (HWh.out _ H7.out.2.1).mono ?_; rintro e w8 ⟨rfl, hb⟩; have H8 : Hid (VwAt w8 wr.heap.size f tt (.slice aj nx.length cj) z ∧ AgSt w w8 B F G (.pointer (some ⟨g1, 0, none⟩)) (.pointer (some ⟨g2, 0, none⟩)) s t ep (.slice a n cap) (.slice o1 n1 c1) (.slice (some ⟨ga, off, none⟩) n2 c2) (Value.slice asd said.length csd) said (Value.slice af fs.length cff) fs) := hid ⟨H7.out.1.keep hb, H7.out.2.1.keep hb⟩; obtain ⟨p0, p1, p2, p3⟩ := H8.out.1.cells; clear hb))
                      | (at_builtin; refine wpList_append_own_at _ rfl _ _ 22 rfl B 3 i0 (.int .i64 0) 1 8 Try.underlying22 hi0 hz0 hz1 hz2 rfl (by decide) _ said.length _ rfl (by exact (H8.out.2.r1.alloc _)) ⟨_, 0, none⟩ 1 1 (iC [f]) rfl rfl (World.news_of_block (t := 3) (fr := (0, 0)) (heap_alloc_last _ _)) (iC_one _) (by have := HLn.out; unfold maxLen; omega) (by have := HLn.out; omega) (by have := H8.out.2.le; simp; omega) ?_; intro v9 w9 hown9 hgrow9 hnil9 hob9; go_must (have hA9 := H8.out.2.keep ((Below.refl _ _).alloc (Nat.le_refl _) (.cells #[.int .i64 f] 3)); have H9 : Hid (VwAt w9 wr.heap.size f tt (.slice aj nx.length cj) z ∧ AgSt w w9 B F G (.pointer (some ⟨g1, 0, none⟩)) (.pointer (some ⟨g2, 0, none⟩)) s t ep (.slice a n cap) (.slice o1 n1 c1) (.slice (some ⟨ga, off, none⟩) n2 c2) v9 (said ++ [f]) (Value.slice af fs.length cff) fs) := hid ⟨(hgrow9.block _ (by have := lt_of_blk H8.out.1; simp; omega) (fun e => by have := H7.out.2.2.2.1 _ e.symm; omega)).trans (H8.out.1.keep ((Below.refl _ _).alloc (Nat.le_refl _) _)), hA9.more1 hgrow9 (by rw [List.length_append, iC_app]; exact hown9) hob9⟩; clear hA9 hown9 hgrow9 hnil9 hob9 p0 p1 p2 p3; obtain ⟨p0, p1, p2, p3⟩ := H9.out.1.cells))
                      | (at_builtin; refine wpList_append_own_at _ rfl _ _ 30 rfl B 38 iv (.agg #[.int .i64 0, .string ⟨#[]⟩, .slice none 0 0, .int .i64 0]) 4 56 Try.underlying30 hv0 hvz0 hvz1 hvz2 rfl (by decide) _ fs.length _ rfl (by exact (H9.out.2.r2.alloc _)) ⟨_, 0, none⟩ 1 1 (vmC ((f, tt, nx, z), aj, cj)) rfl rfl (World.news_of_block (t := 38) (fr := (0, 0)) (heap_alloc_last _ _)) (by simp [vmC, Value.oneCell']) (by have := HLn.out; unfold maxLen; omega) (by have := HLn.out; omega) (by have := H9.out.2.le; simp; omega) ?_; intro v10 w10 hown10 hgrow10 hnil10 hob10; go_must (have hA10 := H9.out.2.keep ((Below.refl _ _).alloc (Nat.le_refl _) (.cells #[.int .i64 f, .string tt, .slice aj nx.length cj, .int .i64 z] 38)); have H10 : Hid (VwAt w10 wr.heap.size f tt (.slice aj nx.length cj) z ∧ AgSt w w10 B F G (.pointer (some ⟨g1, 0, none⟩)) (.pointer (some ⟨g2, 0, none⟩)) s t ep (.slice a n cap) (.slice o1 n1 c1) (.slice (some ⟨ga, off, none⟩) n2 c2) v9 (said ++ [f]) v10 (fs ++ [((f, tt, nx, z), aj, cj)])) := hid ⟨(hgrow10.block _ (by have := lt_of_blk H9.out.1; simp; omega) (fun e => by have := H7.out.2.2.2.2 _ e.symm; omega)).trans (H9.out.1.keep ((Below.refl _ _).alloc (Nat.le_refl _) _)), hA10.more2 hgrow10 (by rw [List.length_append, fsC_app]; exact hown10) hob10⟩; clear hA10 hown10 hgrow10 hnil10 hob10)))
                    obtain ⟨p, ep0⟩ : ∃ p, p = wr.heap.size := ⟨_, rfl⟩
                    obtain ⟨wq, eq⟩ : ∃ wq, wq = w10 := ⟨_, rfl⟩
                    have Hq : Hid (VwAt wq p f tt (.slice aj nx.length cj) z ∧ AgSt w wq B F G (.pointer (some ⟨g1, 0, none⟩)) (.pointer (some ⟨g2, 0, none⟩)) s t ep (.slice a n cap) (.slice o1 n1 c1) (.slice (some ⟨ga, off, none⟩) n2 c2) v9 (said ++ [f]) v10 (fs ++ [((f, tt, nx, z), aj, cj)]) ∧ B ≤ p) := hid ⟨by rw [eq, ep0]; exact H10.out.1, by rw [eq]; exact H10.out.2, by rw [ep0]; exact H7.out.2.2.1⟩
                    rw [← eq, ← ep0]
                    clear eq ep0 H7 H8 H9 H10 p0 p1 p2 p3
                    have hmx : n ≤ maxLen := by have := HP.out.1; have := HP.out.2.1; unfold maxLen; omega
                    have hsz2 : tt.size ≤ 140737488355328 := by have := Hv.out.2.1; omega
                    have hnm2 : nx.length ≤ maxLen := by have := Hv.out.2.2.1; unfold maxLen; omega
                    obtain ⟨SG, eSG⟩ : ∃ SG, SG = sgOf f (voS ep l tt nx) (voC ep l tt nx) z := ⟨_, rfl⟩
                    have HG : Hid (∀ u : World, Below w.heap.size w u → Calls Try.prog 14 #[.agg #[.int .i64 f, .string tt, .slice aj nx.length cj, .int .i64 z], .agg #[.int .i64 ep, .slice a n cap]] u fun e w' => ∃ ad cd, e = .returned (.slice ad SG.length cd) ∧ PairsIn w' ad SG ∧ Below u.heap.size u w') := hid (fun u hu => by
                      have := usigs_any f tt hsz2 aj nx.length cj nx rfl hnm2 z ep a n cap l HP.out.2.1 hmx u (HI.out.1.keep hu (Nat.le_refl _)) (Hv.out.1.keep hu (Nat.le_refl _))
                      rw [← eSG] at this
                      exact this.mono fun e w' ⟨ad, cd, k1, k2, k3⟩ => ⟨ad, cd, k1, k2.1, k3⟩)
                    have hSG : SG.length ≤ maxLen := by
                      have : SG.length ≤ 3 := by rw [eSG, sgOf]; split <;> (try split) <;> (try split) <;> (try split) <;> simp
                      unfold maxLen; omega
                    obtain ⟨s9, es9⟩ : ∃ s9, s9 = added t f tt nx SG := ⟨_, rfl⟩
                    have HAd : Hid (∀ (u : World) (ad : Option Addr) (cd : Nat), Below w.heap.size w u → TlAt G u (.pointer (some ⟨g2, 0, none⟩)) t → PairsIn u ad SG → Calls Try.prog 15 #[.pointer (some ⟨g2, 0, none⟩), .int .i64 f, .string tt, .slice aj nx.length cj, .slice ad SG.length cd] u fun e w' => (∃ E, e = .returned (.int .i64 E)) ∧ TlAt G w' (.pointer (some ⟨g2, 0, none⟩)) s9 ∧ Out G u w') := hid (fun u ad cd hu htt hp => by
                      have := vadd_at G _ t f tt hsz2 aj nx.length cj nx rfl hnm2 ad SG.length cd SG rfl hSG u htt (Hv.out.1.keep hu (Nat.le_refl _)) hp
                      rw [← es9] at this
                      exact this.mono fun e w' ⟨k1, k2, k3⟩ => ⟨⟨_, k1⟩, k2, k3⟩)
                    have HIn9 : Hid (AgIn w ep l bad 1048576 s s9 (said ++ [f]) (fs ++ [((f, tt, nx, z), aj, cj)])) := hid (by
                      rw [es9]
                      have hin := Hi2.out
                      exact ⟨hin.s1, ⟨(added_ep t f tt nx SG).1.trans hin.t1.1, (added_ep t f tt nx SG).2.trans hin.t1.2⟩, hin.fst, hin.hs, hin.ht.add hin.t1.1 hin.t1.2 (f, tt, nx, z) SG Hv.out.2.2.2, hin.mem⟩)
                    clear hmx hsz2 hnm2 eSG hSG es9
                    have HWd : Hid (VwAt wq.drew p f tt (.slice aj nx.length cj) z ∧ AgSt w wq.drew B F G (.pointer (some ⟨g1, 0, none⟩)) (.pointer (some ⟨g2, 0, none⟩)) s t ep (.slice a n cap) (.slice o1 n1 c1) (.slice (some ⟨ga, off, none⟩) n2 c2) v9 (said ++ [f]) v10 (fs ++ [((f, tt, nx, z), aj, cj)])) := hid ⟨Hq.out.1, Hq.out.2.1.keep (Below.refl _ _).drew⟩
                    refine wp_region_G (S := fun ww => VwAt ww p f tt (.slice aj nx.length cj) z ∧ CvAt ww w.heap.size ep (.slice a n cap)) (ex := []) (by kernel_rfl) ?_
                    try (change wpAnyG _ _ _ _ _ _ _ _ _ (World.drew _))
                    refine wpAnyG_take (i := 0) (v := ?v1201) rfl (by kernel_rfl) (fun _ _ _ h => h) (Or.inl ⟨by rfl, ?hy1201⟩) ⟨HWd.out.1, HWd.out.2.tw.cf⟩ ?rest1201
                    case hy1201 => (intro ww _; go_simp; try with_reducible rfl)
                    go_simp
                    refine wpAnyG_take (i := 1) (v := ?v1202) rfl (by kernel_rfl) (fun _ _ _ h => h) (Or.inl ⟨by rfl, ?hy1202⟩) ⟨HWd.out.1, HWd.out.2.tw.cf⟩ ?rest1202
                    case hy1202 => (intro ww _; go_simp; try with_reducible rfl)
                    go_simp
                    refine wpAnyG_take (i := 2) (v := ?v1203) rfl (by kernel_rfl) (fun _ _ _ h => h) (Or.inl ⟨by rfl, ?hy1203⟩) ⟨HWd.out.1, HWd.out.2.tw.cf⟩ ?rest1203
                    case hy1203 => (intro ww hS; obtain ⟨y0, y1, y3, y4⟩ := hS.1.cells; obtain ⟨y5, y6⟩ := hS.2.cells; go_simp; try with_reducible rfl)
                    go_simp
                    refine wpAnyG_take (i := 3) (v := ?v1204) rfl (by kernel_rfl) (fun _ _ _ h => h) (Or.inl ⟨by rfl, ?hy1204⟩) ⟨HWd.out.1, HWd.out.2.tw.cf⟩ ?rest1204
                    case hy1204 => (intro ww _; go_simp; try with_reducible rfl)
                    go_simp
                    refine wpAnyG_take (i := 4) (v := ?v1205) rfl (by kernel_rfl) (fun _ _ _ h => h) (Or.inl ⟨by rfl, ?hy1205⟩) ⟨HWd.out.1, HWd.out.2.tw.cf⟩ ?rest1205
                    case hy1205 => (intro ww hS; obtain ⟨y0, y1, y3, y4⟩ := hS.1.cells; obtain ⟨y5, y6⟩ := hS.2.cells; go_simp; try with_reducible rfl)
                    go_simp
                    refine wpAnyG_take (i := 5) (v := ?v1206) rfl (by kernel_rfl) (fun _ _ _ h => h) (Or.inl ⟨by rfl, ?hy1206⟩) ⟨HWd.out.1, HWd.out.2.tw.cf⟩ ?rest1206
                    case hy1206 => (intro ww _; go_simp; try with_reducible rfl)
                    go_simp
                    refine wpAnyG_take (i := 6) (v := ?v1207) rfl (by kernel_rfl) (fun _ _ _ h => h) (Or.inl ⟨by rfl, ?hy1207⟩) ⟨HWd.out.1, HWd.out.2.tw.cf⟩ ?rest1207
                    case hy1207 => (intro ww hS; obtain ⟨y0, y1, y3, y4⟩ := hS.1.cells; obtain ⟨y5, y6⟩ := hS.2.cells; go_simp; try with_reducible rfl)
                    go_simp
                    refine wpAnyG_take (i := 7) (v := ?v1208) rfl (by kernel_rfl) (fun _ _ _ h => h) (Or.inl ⟨by rfl, ?hy1208⟩) ⟨HWd.out.1, HWd.out.2.tw.cf⟩ ?rest1208
                    case hy1208 => (intro ww hS; obtain ⟨y0, y1, y3, y4⟩ := hS.1.cells; obtain ⟨y5, y6⟩ := hS.2.cells; go_simp; try with_reducible rfl)
                    go_simp
                    refine wpAnyG_take (i := 8) (v := ?v1209) rfl (by kernel_rfl) (fun _ _ _ h => h) (Or.inl ⟨by rfl, ?hy1209⟩) ⟨HWd.out.1, HWd.out.2.tw.cf⟩ ?rest1209
                    case hy1209 => (intro ww hS; obtain ⟨y0, y1, y3, y4⟩ := hS.1.cells; obtain ⟨y5, y6⟩ := hS.2.cells; go_simp; try with_reducible rfl)
                    go_simp
                    refine wpAnyG_all (rs := [9]) (by kernel_rfl) (by simp) ?_
                    intro i hi
                    obtain rfl := List.mem_singleton.1 hi
                    clear hi
                    refine wpOp_v rfl (by rfl) (fun K hK => ?_)
                    go_simp
                    refine (HG.out _ HWd.out.2.tw.bel).mono ?_
                    rintro e w5 ⟨ad5, cd5, rfl, hp5, hb5⟩
                    have H5 : Hid (VwAt w5 p f tt (.slice aj nx.length cj) z ∧ AgSt w w5 B F G (.pointer (some ⟨g1, 0, none⟩)) (.pointer (some ⟨g2, 0, none⟩)) s t ep (.slice a n cap) (.slice o1 n1 c1) (.slice (some ⟨ga, off, none⟩) n2 c2) v9 (said ++ [f]) v10 (fs ++ [((f, tt, nx, z), aj, cj)]) ∧ PairsIn w5 ad5 SG) := hid ⟨HWd.out.1.keep hb5, HWd.out.2.keep hb5, hp5⟩
                    clear hp5 hb5
                    refine hK _ _ ⟨fun _ => ⟨H5.out.1, H5.out.2.1.tw.cf⟩, ?_⟩
                    clear hK K
                    go_simp
                    refine wpAnyG_all (rs := [10]) (by kernel_rfl) (by simp) ?_
                    intro i hi
                    obtain rfl := List.mem_singleton.1 hi
                    clear hi
                    refine wpOp_v rfl (by rfl) (fun K hK => ?_)
                    go_simp
                    refine (HAd.out _ _ _ H5.out.2.1.tw.bel H5.out.2.1.tw.tu H5.out.2.2).mono ?_
                    rintro e w6 ⟨⟨E, rfl⟩, ht6, ho6⟩
                    have H6 : Hid (VwAt w6 p f tt (.slice aj nx.length cj) z ∧ AgSt w w6 B F G (.pointer (some ⟨g1, 0, none⟩)) (.pointer (some ⟨g2, 0, none⟩)) s s9 ep (.slice a n cap) (.slice o1 n1 c1) (.slice (some ⟨ga, off, none⟩) n2 c2) v9 (said ++ [f]) v10 (fs ++ [((f, tt, nx, z), aj, cj)])) := hid ⟨(ho6.block _ (lt_of_blk H5.out.1) (fun hm => by have h1 := H5.out.2.1.hG _ hm; have h2 := Hq.out.2.2; omega)).trans H5.out.1, H5.out.2.1.voteG ho6 ht6⟩
                    clear ht6 ho6
                    refine hK _ _ ⟨fun _ => ⟨H6.out.1, H6.out.2.tw.cf⟩, ?_⟩
                    clear hK K
                    go_simp
                    refine wpAnyG_done (by kernel_rfl) ?_ _
                    go_simp
                    go_wp2
                    go_roundw
                    case rel => exact ⟨j + 1, s, s9, (said ++ [f]), (fs ++ [((f, tt, nx, z), aj, cj)]), by have := HJ.out; omega, by go_num, H6.out.2, HIn9.out, by have := Hl2.out; omega⟩
                    case measure => simp [intOf]; omega
          · rw [show (((2 : Nat)) : Int) = 2 from rfl]
            have HS := hid (And.intro hst hin)
            have HOk := hid (And.intro hst.tw.tl.ok hst.tw.tu.ok)
            clear hst hin hfl hK
            cases hfs : chF s with
            | true =>
              cases hft : chF t with
              | true =>
                have HSa : Hid (∀ u : World, TlAt F u (.pointer (some ⟨g1, 0, none⟩)) s → Calls Try.prog 18 #[.pointer (some ⟨g1, 0, none⟩)] u fun e w' => ∃ a1 c1 a2 c2 a3 c3, e = .returned (.tuple #[.agg #[.string (chB s).1, .slice a1 (signsOf s (chB s) (setS s)).length c1, .int .i64 (ep + 1), .slice a2 (nxB s).length c2, .slice a3 (signsOf s (chB s) (chB s).2).length c3], .bool true]) ∧ IntsIn w' a2 (nxB s) ∧ Below u.heap.size u w') := hid (fun u hu => (vsettled_parts F _ s u hu hfs).mono fun e w' ⟨a1, c1, a2, c2, a3, c3, k1, _, k3, _, k5, _⟩ => ⟨a1, c1, a2, c2, a3, c3, by rw [k1, show s.ep = ep from HS.out.2.s1.1], k3, k5⟩)
                have HSb : Hid (∀ u : World, TlAt G u (.pointer (some ⟨g2, 0, none⟩)) t → Calls Try.prog 18 #[.pointer (some ⟨g2, 0, none⟩)] u fun e w' => ∃ a1 c1 a2 c2 a3 c3, e = .returned (.tuple #[.agg #[.string (chB t).1, .slice a1 (signsOf t (chB t) (setS t)).length c1, .int .i64 (ep + 1), .slice a2 (nxB t).length c2, .slice a3 (signsOf t (chB t) (chB t).2).length c3], .bool true]) ∧ IntsIn w' a2 (nxB t) ∧ Below u.heap.size u w') := hid (fun u hu => (vsettled_parts G _ t u hu hft).mono fun e w' ⟨a1, c1, a2, c2, a3, c3, k1, _, k3, _, k5, _⟩ => ⟨a1, c1, a2, c2, a3, c3, by rw [k1, show t.ep = ep from HS.out.2.t1.1], k3, k5⟩)
                have hcb : chB s = chB t := agree_one HOk.out.1 HOk.out.2 HS.out.2.s1.2 HS.out.2.t1.2 HS.out.2.hs HS.out.2.ht (by have h1 := HVn.out; rw [HVZ.out.1, HVZ.out.2] at h1; rw [HP.out.2.1]; omega) hfs hft
                have hnx : nxB s = nxB t := by rw [nxB, nxB, hcb]
                have hnm : (nxB t).length ≤ maxLen := by
                  have h1 := chosen_is HOk.out.2 (chB_of hft)
                  have h2 := mem_len (rightC_ep h1.2.2.2.2.2).2
                  unfold maxLen; omega
                have HSm : Hid (∀ (u : World) (a1 : Option Addr) (c1 : Nat) (a2 : Option Addr) (c2 : Nat), IntsIn u a1 (nxB s) → IntsIn u a2 (nxB t) → Calls Try.prog 21 #[.agg #[.int .i64 (ep + 1), .slice a1 (nxB s).length c1], .agg #[.int .i64 (ep + 1), .slice a2 (nxB t).length c2]] u fun e w' => e = .returned (.bool true) ∧ Below u.heap.size u w') := hid (fun u a1 c1 a2 c2 h1 h2 => by
                  have := vsame_dec (ep + 1) (ep + 1) a1 a2 _ _ c1 c2 (nxB s) (nxB t) rfl rfl (by rw [hnx]; exact hnm) hnm u h1 h2
                  rwa [decide_eq_true rfl, decide_eq_true hnx] at this)
                have htx : ((chB s).1.toList == (chB t).1.toList) = true := by rw [hcb]; simp
                clear hcb hnx hnm
                clear hfs hft HVn HVZ HOk
                go_wp2_with (first
                  | (go_at_call 18; refine (HSa.out _ HS.out.1.tw.tl).mono ?_; rintro e w8 ⟨a1x, c1x, a2x, c2x, a3x, c3x, rfl, hix, hb⟩; have hba : Below w8.heap.size w8 (w8.alloc (.cells #[.string (chB s).1, .slice a1x (signsOf s (chB s) (setS s)).length c1x, .int .i64 (ep + 1), .slice a2x (nxB s).length c2x, .slice a3x (signsOf s (chB s) (chB s).2).length c3x] 51)) := (Below.refl _ _).alloc (Nat.le_refl _) _; have H8 : Hid (TwSt w (w8.alloc (.cells #[.string (chB s).1, .slice a1x (signsOf s (chB s) (setS s)).length c1x, .int .i64 (ep + 1), .slice a2x (nxB s).length c2x, .slice a3x (signsOf s (chB s) (chB s).2).length c3x] 51)) F G (.pointer (some ⟨g1, 0, none⟩)) (.pointer (some ⟨g2, 0, none⟩)) s t ep (.slice a n cap) (.slice o1 n1 c1) (.slice o2 n2 c2) ∧ (w8.alloc (.cells #[.string (chB s).1, .slice a1x (signsOf s (chB s) (setS s)).length c1x, .int .i64 (ep + 1), .slice a2x (nxB s).length c2x, .slice a3x (signsOf s (chB s) (chB s).2).length c3x] 51)).heap[w8.heap.size]? = some (.cells #[.string (chB s).1, .slice a1x (signsOf s (chB s) (setS s)).length c1x, .int .i64 (ep + 1), .slice a2x (nxB s).length c2x, .slice a3x (signsOf s (chB s) (chB s).2).length c3x] 51 (0, 0)) ∧ IntsIn (w8.alloc (.cells #[.string (chB s).1, .slice a1x (signsOf s (chB s) (setS s)).length c1x, .int .i64 (ep + 1), .slice a2x (nxB s).length c2x, .slice a3x (signsOf s (chB s) (chB s).2).length c3x] 51)) a2x (nxB s)) := hid ⟨(HS.out.1.tw.keep hb).keep hba, heap_alloc_last w8 _, hix.keep hba (Nat.le_refl _)⟩; clear hb hba HSa hix)
                  | (go_at_call 18; go_must (refine (HSb.out _ H8.out.1.tu).mono ?_; rintro e w9 ⟨a1y, c1y, a2y, c2y, a3y, c3y, rfl, hiy, hb⟩; have hx8 := (hb.block _ (lt_of_blk H8.out.2.1)).trans H8.out.2.1; have u0 := cell_at (L := [_, _, _, _, _]) hx8 0 _ rfl; have u2 := cell_at (L := [_, _, _, _, _]) hx8 2 _ rfl; have u3 := cell_at (L := [_, _, _, _, _]) hx8 3 _ rfl; have hlt := lt_of_blk hx8; have hba : Below w9.heap.size w9 (w9.alloc (.cells #[.string (chB t).1, .slice a1y (signsOf t (chB t) (setS t)).length c1y, .int .i64 (ep + 1), .slice a2y (nxB t).length c2y, .slice a3y (signsOf t (chB t) (chB t).2).length c3y] 51)) := (Below.refl _ _).alloc (Nat.le_refl _) _; have H9 : Hid (TwSt w (w9.alloc (.cells #[.string (chB t).1, .slice a1y (signsOf t (chB t) (setS t)).length c1y, .int .i64 (ep + 1), .slice a2y (nxB t).length c2y, .slice a3y (signsOf t (chB t) (chB t).2).length c3y] 51)) F G (.pointer (some ⟨g1, 0, none⟩)) (.pointer (some ⟨g2, 0, none⟩)) s t ep (.slice a n cap) (.slice o1 n1 c1) (.slice o2 n2 c2) ∧ IntsIn (w9.alloc (.cells #[.string (chB t).1, .slice a1y (signsOf t (chB t) (setS t)).length c1y, .int .i64 (ep + 1), .slice a2y (nxB t).length c2y, .slice a3y (signsOf t (chB t) (chB t).2).length c3y] 51)) a2x (nxB s) ∧ IntsIn (w9.alloc (.cells #[.string (chB t).1, .slice a1y (signsOf t (chB t) (setS t)).length c1y, .int .i64 (ep + 1), .slice a2y (nxB t).length c2y, .slice a3y (signsOf t (chB t) (chB t).2).length c3y] 51)) a2y (nxB t)) := hid ⟨(H8.out.1.keep hb).keep hba, (H8.out.2.2.keep hb (Nat.le_refl _)).keep hba (Nat.le_refl _), hiy.keep hba (Nat.le_refl _)⟩; clear hb hba hx8 hiy))
                  | (go_at_call 21; go_must (refine (HSm.out _ _ _ _ _ H9.out.2.1 H9.out.2.2).mono ?_; rintro e w10 ⟨rfl, hb⟩; have H10 := hid (H9.out.1.keep hb); clear hb)))
                go_ret
                exact ⟨rfl, H10.out.bel⟩
              | false =>
                have HSa : Hid (∀ u : World, TlAt F u (.pointer (some ⟨g1, 0, none⟩)) s → Calls Try.prog 18 #[.pointer (some ⟨g1, 0, none⟩)] u fun e w' => ∃ a1 c1 a2 c2 a3 c3, e = .returned (.tuple #[.agg #[.string (chB s).1, .slice a1 (signsOf s (chB s) (setS s)).length c1, .int .i64 (ep + 1), .slice a2 (nxB s).length c2, .slice a3 (signsOf s (chB s) (chB s).2).length c3], .bool true]) ∧ IntsIn w' a2 (nxB s) ∧ Below u.heap.size u w') := hid (fun u hu => (vsettled_parts F _ s u hu hfs).mono fun e w' ⟨a1, c1, a2, c2, a3, c3, k1, _, k3, _, k5, _⟩ => ⟨a1, c1, a2, c2, a3, c3, by rw [k1, show s.ep = ep from HS.out.2.s1.1], k3, k5⟩)
                have HSb : Hid (∀ u : World, TlAt G u (.pointer (some ⟨g2, 0, none⟩)) t → Calls Try.prog 18 #[.pointer (some ⟨g2, 0, none⟩)] u fun e w' => e = .returned (.tuple #[.agg #[.string ⟨#[]⟩, .slice none 0 0, .int .i64 0, .slice none 0 0, .slice none 0 0], .bool false]) ∧ Below u.heap.size u w') := hid (fun u hu => vsettled_none G _ t u hu hft)
                clear hfs hft HVn HVZ HOk
                go_wp2_with (first
                  | (go_at_call 18; refine (HSa.out _ HS.out.1.tw.tl).mono ?_; rintro e w8 ⟨a1x, c1x, a2x, c2x, a3x, c3x, rfl, hix, hb⟩; have hba : Below w8.heap.size w8 (w8.alloc (.cells #[.string (chB s).1, .slice a1x (signsOf s (chB s) (setS s)).length c1x, .int .i64 (ep + 1), .slice a2x (nxB s).length c2x, .slice a3x (signsOf s (chB s) (chB s).2).length c3x] 51)) := (Below.refl _ _).alloc (Nat.le_refl _) _; have H8 : Hid (TwSt w (w8.alloc (.cells #[.string (chB s).1, .slice a1x (signsOf s (chB s) (setS s)).length c1x, .int .i64 (ep + 1), .slice a2x (nxB s).length c2x, .slice a3x (signsOf s (chB s) (chB s).2).length c3x] 51)) F G (.pointer (some ⟨g1, 0, none⟩)) (.pointer (some ⟨g2, 0, none⟩)) s t ep (.slice a n cap) (.slice o1 n1 c1) (.slice o2 n2 c2) ∧ (w8.alloc (.cells #[.string (chB s).1, .slice a1x (signsOf s (chB s) (setS s)).length c1x, .int .i64 (ep + 1), .slice a2x (nxB s).length c2x, .slice a3x (signsOf s (chB s) (chB s).2).length c3x] 51)).heap[w8.heap.size]? = some (.cells #[.string (chB s).1, .slice a1x (signsOf s (chB s) (setS s)).length c1x, .int .i64 (ep + 1), .slice a2x (nxB s).length c2x, .slice a3x (signsOf s (chB s) (chB s).2).length c3x] 51 (0, 0)) ∧ IntsIn (w8.alloc (.cells #[.string (chB s).1, .slice a1x (signsOf s (chB s) (setS s)).length c1x, .int .i64 (ep + 1), .slice a2x (nxB s).length c2x, .slice a3x (signsOf s (chB s) (chB s).2).length c3x] 51)) a2x (nxB s)) := hid ⟨(HS.out.1.tw.keep hb).keep hba, heap_alloc_last w8 _, hix.keep hba (Nat.le_refl _)⟩; clear hb hba HSa hix)
                  | (go_at_call 18; go_must (refine (HSb.out _ H8.out.1.tu).mono ?_; rintro e w9 ⟨rfl, hb⟩; have hx8 := (hb.block _ (lt_of_blk H8.out.2.1)).trans H8.out.2.1; have u0 := cell_at (L := [_, _, _, _, _]) hx8 0 _ rfl; have u2 := cell_at (L := [_, _, _, _, _]) hx8 2 _ rfl; have u3 := cell_at (L := [_, _, _, _, _]) hx8 3 _ rfl; have hlt := lt_of_blk hx8; have hba : Below w9.heap.size w9 (w9.alloc (.cells #[.string ⟨#[]⟩, .slice none 0 0, .int .i64 0, .slice none 0 0, .slice none 0 0] 51)) := (Below.refl _ _).alloc (Nat.le_refl _) _; have H9 : Hid (TwSt w (w9.alloc (.cells #[.string ⟨#[]⟩, .slice none 0 0, .int .i64 0, .slice none 0 0, .slice none 0 0] 51)) F G (.pointer (some ⟨g1, 0, none⟩)) (.pointer (some ⟨g2, 0, none⟩)) s t ep (.slice a n cap) (.slice o1 n1 c1) (.slice o2 n2 c2) ∧ IntsIn (w9.alloc (.cells #[.string ⟨#[]⟩, .slice none 0 0, .int .i64 0, .slice none 0 0, .slice none 0 0] 51)) a2x (nxB s)) := hid ⟨(H8.out.1.keep hb).keep hba, (H8.out.2.2.keep hb (Nat.le_refl _)).keep hba (Nat.le_refl _)⟩; clear hb hba hx8)))
                go_ret
                exact ⟨rfl, H9.out.1.bel⟩
            | false =>
              cases hft : chF t with
              | true =>
                have HSa : Hid (∀ u : World, TlAt F u (.pointer (some ⟨g1, 0, none⟩)) s → Calls Try.prog 18 #[.pointer (some ⟨g1, 0, none⟩)] u fun e w' => e = .returned (.tuple #[.agg #[.string ⟨#[]⟩, .slice none 0 0, .int .i64 0, .slice none 0 0, .slice none 0 0], .bool false]) ∧ Below u.heap.size u w') := hid (fun u hu => vsettled_none F _ s u hu hfs)
                have HSb : Hid (∀ u : World, TlAt G u (.pointer (some ⟨g2, 0, none⟩)) t → Calls Try.prog 18 #[.pointer (some ⟨g2, 0, none⟩)] u fun e w' => ∃ a1 c1 a2 c2 a3 c3, e = .returned (.tuple #[.agg #[.string (chB t).1, .slice a1 (signsOf t (chB t) (setS t)).length c1, .int .i64 (ep + 1), .slice a2 (nxB t).length c2, .slice a3 (signsOf t (chB t) (chB t).2).length c3], .bool true]) ∧ IntsIn w' a2 (nxB t) ∧ Below u.heap.size u w') := hid (fun u hu => (vsettled_parts G _ t u hu hft).mono fun e w' ⟨a1, c1, a2, c2, a3, c3, k1, _, k3, _, k5, _⟩ => ⟨a1, c1, a2, c2, a3, c3, by rw [k1, show t.ep = ep from HS.out.2.t1.1], k3, k5⟩)
                clear hfs hft HVn HVZ HOk
                go_wp2_with (first
                  | (go_at_call 18; refine (HSa.out _ HS.out.1.tw.tl).mono ?_; rintro e w8 ⟨rfl, hb⟩; have hba : Below w8.heap.size w8 (w8.alloc (.cells #[.string ⟨#[]⟩, .slice none 0 0, .int .i64 0, .slice none 0 0, .slice none 0 0] 51)) := (Below.refl _ _).alloc (Nat.le_refl _) _; have H8 : Hid (TwSt w (w8.alloc (.cells #[.string ⟨#[]⟩, .slice none 0 0, .int .i64 0, .slice none 0 0, .slice none 0 0] 51)) F G (.pointer (some ⟨g1, 0, none⟩)) (.pointer (some ⟨g2, 0, none⟩)) s t ep (.slice a n cap) (.slice o1 n1 c1) (.slice o2 n2 c2) ∧ (w8.alloc (.cells #[.string ⟨#[]⟩, .slice none 0 0, .int .i64 0, .slice none 0 0, .slice none 0 0] 51)).heap[w8.heap.size]? = some (.cells #[.string ⟨#[]⟩, .slice none 0 0, .int .i64 0, .slice none 0 0, .slice none 0 0] 51 (0, 0))) := hid ⟨(HS.out.1.tw.keep hb).keep hba, heap_alloc_last w8 _⟩; clear hb hba HSa)
                  | (go_at_call 18; go_must (refine (HSb.out _ H8.out.1.tu).mono ?_; rintro e w9 ⟨a1y, c1y, a2y, c2y, a3y, c3y, rfl, hiy, hb⟩; have hx8 := (hb.block _ (lt_of_blk H8.out.2)).trans H8.out.2; have u0 := cell_at (L := [_, _, _, _, _]) hx8 0 _ rfl; have u2 := cell_at (L := [_, _, _, _, _]) hx8 2 _ rfl; have u3 := cell_at (L := [_, _, _, _, _]) hx8 3 _ rfl; have hlt := lt_of_blk hx8; have hba : Below w9.heap.size w9 (w9.alloc (.cells #[.string (chB t).1, .slice a1y (signsOf t (chB t) (setS t)).length c1y, .int .i64 (ep + 1), .slice a2y (nxB t).length c2y, .slice a3y (signsOf t (chB t) (chB t).2).length c3y] 51)) := (Below.refl _ _).alloc (Nat.le_refl _) _; have H9 : Hid (TwSt w (w9.alloc (.cells #[.string (chB t).1, .slice a1y (signsOf t (chB t) (setS t)).length c1y, .int .i64 (ep + 1), .slice a2y (nxB t).length c2y, .slice a3y (signsOf t (chB t) (chB t).2).length c3y] 51)) F G (.pointer (some ⟨g1, 0, none⟩)) (.pointer (some ⟨g2, 0, none⟩)) s t ep (.slice a n cap) (.slice o1 n1 c1) (.slice o2 n2 c2) ∧ IntsIn (w9.alloc (.cells #[.string (chB t).1, .slice a1y (signsOf t (chB t) (setS t)).length c1y, .int .i64 (ep + 1), .slice a2y (nxB t).length c2y, .slice a3y (signsOf t (chB t) (chB t).2).length c3y] 51)) a2y (nxB t)) := hid ⟨(H8.out.1.keep hb).keep hba, hiy.keep hba (Nat.le_refl _)⟩; clear hb hba hx8 hiy)))
                go_ret
                exact ⟨rfl, H9.out.1.bel⟩
              | false =>
                have HSa : Hid (∀ u : World, TlAt F u (.pointer (some ⟨g1, 0, none⟩)) s → Calls Try.prog 18 #[.pointer (some ⟨g1, 0, none⟩)] u fun e w' => e = .returned (.tuple #[.agg #[.string ⟨#[]⟩, .slice none 0 0, .int .i64 0, .slice none 0 0, .slice none 0 0], .bool false]) ∧ Below u.heap.size u w') := hid (fun u hu => vsettled_none F _ s u hu hfs)
                have HSb : Hid (∀ u : World, TlAt G u (.pointer (some ⟨g2, 0, none⟩)) t → Calls Try.prog 18 #[.pointer (some ⟨g2, 0, none⟩)] u fun e w' => e = .returned (.tuple #[.agg #[.string ⟨#[]⟩, .slice none 0 0, .int .i64 0, .slice none 0 0, .slice none 0 0], .bool false]) ∧ Below u.heap.size u w') := hid (fun u hu => vsettled_none G _ t u hu hft)
                clear hfs hft HVn HVZ HOk
                go_wp2_with (first
                  | (go_at_call 18; refine (HSa.out _ HS.out.1.tw.tl).mono ?_; rintro e w8 ⟨rfl, hb⟩; have hba : Below w8.heap.size w8 (w8.alloc (.cells #[.string ⟨#[]⟩, .slice none 0 0, .int .i64 0, .slice none 0 0, .slice none 0 0] 51)) := (Below.refl _ _).alloc (Nat.le_refl _) _; have H8 : Hid (TwSt w (w8.alloc (.cells #[.string ⟨#[]⟩, .slice none 0 0, .int .i64 0, .slice none 0 0, .slice none 0 0] 51)) F G (.pointer (some ⟨g1, 0, none⟩)) (.pointer (some ⟨g2, 0, none⟩)) s t ep (.slice a n cap) (.slice o1 n1 c1) (.slice o2 n2 c2) ∧ (w8.alloc (.cells #[.string ⟨#[]⟩, .slice none 0 0, .int .i64 0, .slice none 0 0, .slice none 0 0] 51)).heap[w8.heap.size]? = some (.cells #[.string ⟨#[]⟩, .slice none 0 0, .int .i64 0, .slice none 0 0, .slice none 0 0] 51 (0, 0))) := hid ⟨(HS.out.1.tw.keep hb).keep hba, heap_alloc_last w8 _⟩; clear hb hba HSa)
                  | (go_at_call 18; go_must (refine (HSb.out _ H8.out.1.tu).mono ?_; rintro e w9 ⟨rfl, hb⟩; have hx8 := (hb.block _ (lt_of_blk H8.out.2)).trans H8.out.2; have u0 := cell_at (L := [_, _, _, _, _]) hx8 0 _ rfl; have u2 := cell_at (L := [_, _, _, _, _]) hx8 2 _ rfl; have u3 := cell_at (L := [_, _, _, _, _]) hx8 3 _ rfl; have hlt := lt_of_blk hx8; have hba : Below w9.heap.size w9 (w9.alloc (.cells #[.string ⟨#[]⟩, .slice none 0 0, .int .i64 0, .slice none 0 0, .slice none 0 0] 51)) := (Below.refl _ _).alloc (Nat.le_refl _) _; have H9 : Hid (TwSt w (w9.alloc (.cells #[.string ⟨#[]⟩, .slice none 0 0, .int .i64 0, .slice none 0 0, .slice none 0 0] 51)) F G (.pointer (some ⟨g1, 0, none⟩)) (.pointer (some ⟨g2, 0, none⟩)) s t ep (.slice a n cap) (.slice o1 n1 c1) (.slice o2 n2 c2)) := hid (H8.out.1.keep hb).keep hba; clear hb hba hx8)))
                go_ret
                exact ⟨rfl, H9.out.bel⟩
    · have hj1 : (j : Int) < (n : Int) := by omega
      have hj0 : (0 : Int) ≤ (j : Int) := Int.natCast_nonneg _
      have hjl : j < l.length := by have := HP.out.2.1; omega
      obtain ⟨ga, off, rfl, hga, hcell⟩ := (HI.out.1.keep hst.bel (Nat.le_refl _)).at j _ (getD_some hjl)
      have hsu := wildTo_succ l bad j hjl
      have hle := wildTo_le l bad j
      obtain ⟨f, ef⟩ : ∃ f, f = l.getD j 0 := ⟨_, rfl⟩
      rw [← ef] at hcell hsu
      have HS := hid hst
      have HJ := hid (And.intro hj (And.intro hjn hsu))
      have hw1 : IntKind.i64.wrap ((wildTo l bad j : Int) + 1) = (wildTo l bad j : Int) + 1 := wrap_small _ (by omega) (by omega)
      clear hst hj hjn hjl hga ef hsu hle
      by_cases hb : f ∈ bad
      · have HHb : Hid (∀ u : World, Below w.heap.size w u → Calls Try.prog 24 #[.slice bd nb cb, .int .i64 f] u fun e w' => e = .returned (.bool true) ∧ w' = u) := hid (fun u hu => by have := HHa.out u f hu; rwa [show hasM bad f = true from decide_eq_true hb] at this)
        have HF1 : Hid (wildTo l bad (j + 1) = wildTo l bad j + 1) := hid (by rw [HJ.out.2.2, if_pos hb])
        clear hb
        go_wp2_with (go_at_call 24; go_must (refine (HHb.out _ HS.out.bel).mono ?_; rintro e w4 ⟨rfl, rfl⟩))
        go_roundw
        case rel => exact ⟨j + 1, by have := HJ.out; omega, by go_num, by rw [HF1.out]; simp, HS.out⟩
        case measure => simp [intOf]; omega
      · have HHb : Hid (∀ u : World, Below w.heap.size w u → Calls Try.prog 24 #[.slice bd nb cb, .int .i64 f] u fun e w' => e = .returned (.bool false) ∧ w' = u) := hid (fun u hu => by have := HHa.out u f hu; rwa [show hasM bad f = false from decide_eq_false hb] at this)
        have HF1 : Hid (wildTo l bad (j + 1) = wildTo l bad j) := hid (by rw [HJ.out.2.2, if_neg hb, Nat.add_zero])
        clear hb
        go_wp2_with (go_at_call 24; go_must (refine (HHb.out _ HS.out.bel).mono ?_; rintro e w4 ⟨rfl, rfl⟩))
        go_roundw
        case rel => exact ⟨j + 1, by have := HJ.out; omega, by go_num, by rw [HF1.out], HS.out⟩
        case measure => simp [intOf]; omega
theorem votesAgree_walk (ep : Int) (a : Option Addr) (n cap : Nat) (l : List Int) (hn : l.length = n) (hm : n ≤ maxLen) (bd : Option Addr) (nb cb : Nat) (bad : List Int) (hnb : bad.length = nb) (hmb : nb ≤ maxLen) (o1 : Option Addr) (n1 c1 : Nat) (os1 : List VtA) (hn1 : os1.length = n1) (o2 : Option Addr) (n2 c2 : Nat) (os2 : List VtA) (hn2 : os2.length = n2) (hU : n1 ≤ 1048576 ∧ n2 ≤ 1048576) (hos1 : ∀ x, x ∈ os1 → x.2.1.size ≤ 1048576 ∧ x.2.2.1.length ≤ 1048576) (hos2 : ∀ x, x ∈ os2 → x.2.1.size ≤ 1048576 ∧ x.2.2.1.length ≤ 1048576) (w : World) (hI : IntsIn w a l) (hBd : IntsIn w bd bad) (hO1 : VtsIn w o1 os1) (hO2 : VtsIn w o2 os2) :
    Calls Try.prog 6 #[.agg #[.int .i64 ep, .slice a n cap], .slice bd nb cb, .agg #[.slice o1 n1 c1, .slice o2 n2 c2]] w fun e w' => e = .returned (.bool true) ∧ Below w.heap.size w w' := by
  cases hr : rightC ep l with
  | false => exact vagree_no ep a n cap l hn hm bd nb cb o1 n1 c1 o2 n2 c2 hr w hI
  | true => exact vagree_go ep a n cap l hn bd nb cb bad hnb hmb o1 n1 c1 os1 hn1 o2 n2 c2 os2 hn2 hU hos1 hos2 hr w hI hBd hO1 hO2
end Go.Proofs.Ytkceihnjnjbceaa
