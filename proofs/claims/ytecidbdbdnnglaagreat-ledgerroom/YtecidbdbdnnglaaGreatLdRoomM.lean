/- The law: never more keys or slots than there may be; what is refused changes nothing. -/
import Derived.Test.YtecidbdbdnnglaaGreatMy9
import Derived.Test.YtecidbdbdnnglaaGreatMy11
import Derived.Test.YtecidbdbdnnglaaGreatMy5
namespace Go.Proofs.YtecidbdbdnnglaaGreat
open Go.RowKit

theorem gtextR {F : List Nat} {w : World} {v : Value} {s : Ls} (h : LdAt F w v s) : Calls Tryz.prog 13 #[v] w fun e w' => e = .returned (.string (lgT s)) ∧ Below w.heap.size w w' := by
  obtain ⟨g, m, am, an, cm, cn, rfl, rfl, h⟩ := h
  exact gtext_any h
/-- What the program tells the document opens. -/
theorem wopen_text {s : Ls} (h : LOk s) (w : World) : Calls Tryz.prog 12 #[.string (lgT s)] w fun e w' => ∃ g ai ci, e = .returned (.tuple #[.pointer (some ⟨g, 0, none⟩), .int .i64 0]) ∧ w'.cell? ⟨g, 4, none⟩ = some (.slice ai s.its.length ci) ∧ Below w.heap.size w w' := by
  obtain ⟨h1, h2⟩ := op_good h
  have hz : (lgT s).size ≤ maxLen := by
    have := lgL_len h
    rw [show (lgT s).size = (lgL s).length from mk_size _]
    unfold maxLen
    omega
  refine (wopen_any (lgT s) hz w).mono ?_
  rintro e w' (⟨_, v, F, he, hl, _, hb⟩ | ⟨h3, _⟩)
  · rw [h2] at hl
    obtain ⟨g, rfl⟩ := hl.ptr
    obtain ⟨ai, ci, hc, _⟩ := hl.c4
    exact ⟨g, ai, ci, he, hc, hb⟩
  · rw [h1] at h3; cases h3
theorem fld_run (e : Int) (v : Value) (w : World) : Sem.run Tryz.prog (Instr.field 24 (.agg #[.int .i64 e, v]) 0) w = .ok (.int .i64 e) w := by kernel_rfl
theorem text_same (T : ByteArray) : (T.toList == T.toList) = true := by simp
theorem do_dn {s : Ls} {r : Rq} (h : doE s r = 0) : (doS s r).dn = s.dn + 1 := by
  rw [doS, if_pos h]
  cases nullB r with
  | true => rfl
  | false =>
    show (ansS (moreS s) r).dn = _
    rw [ansS]
    split
    · rfl
    · show (effS (moreS s) r).dn = _
      exact (effS_dn _ _).1
set_option maxRecDepth 100000 in
set_option maxHeartbeats 1600000 in
theorem ldroom_no (ep : Int) (a : Option Addr) (n cap : Nat) (l : List Int) (hn : l.length = n) (hm : n ≤ maxLen) (sa : Option Addr) (sn sc : Nat) (w : World) (hI : IntsIn w a l) (hr : rightC ep l = false ∨ ep ≠ 0) :
    Calls Tryz.prog 5 #[.agg #[.int .i64 ep, .slice a n cap], .slice sa sn sc] w fun e w' => e = .returned (.bool true) ∧ Below w.heap.size w w' := by
  have hax := (Below.refl w.heap.size w).alloc (Nat.le_refl _) (.cells #[.int .i64 ep, .slice a n cap] 24)
  have H0 : Hid (GfAt (w.alloc (.cells #[.int .i64 ep, .slice a n cap] 24)) w.heap.size ep (.slice a n cap) ∧ Below w.heap.size w (w.alloc (.cells #[.int .i64 ep, .slice a n cap] 24))) := hid ⟨heap_alloc_last w _, hax⟩
  have HNw : Hid (∀ u : World, Below w.heap.size w u → Calls Tryz.prog 7 #[.agg #[.int .i64 ep, .slice a n cap]] u fun r w' => r = .returned (.tuple #[.pointer none, .int .i64 1]) ∧ Below w.heap.size w w') := hid (fun u hu =>
    (gnew_no ep a n cap l hn hm _ (hI.keep hu (Nat.le_refl _)) hr).mono fun e w' ⟨h1, h4⟩ => ⟨h1, hu.trans (h4.mono hu.size)⟩)
  clear hax hI hn hr hm
  go_enter Tryz.func5, Tryz.ntmps5
  go_wp2_with (first
    | (go_at_call 6; refine (elives_any _).mono ?_; rintro e w1 ⟨rfl, hb⟩; have H1 := hid (And.intro ((hb.block _ (lt_of_blk H0.out.1)).trans H0.out.1) (H0.out.2.trans (hb.mono H0.out.2.size))); clear hb; obtain ⟨x0, x1⟩ := GfAt.cells H1.out.1)
    | (go_at_call 7; refine (HNw.out _ H1.out.2).mono ?_; rintro e w2 ⟨rfl, h⟩; have H2 := hid h; clear h))
  go_ret
  exact ⟨rfl, H2.out⟩
set_option maxRecDepth 100000 in
set_option maxHeartbeats 25600000 in
theorem ldroom_yes (a : Option Addr) (n cap : Nat) (l : List Int) (hn : l.length = n) (sa : Option Addr) (sc : Nat) (os : List Stp) (hol : os.length ≤ maxLen) (hos : ∀ o, o ∈ os → stB o) (w : World) (hI : IntsIn w a l) (hr : rightC 0 l = true) (hS : StpsIn w sa os) :
    Calls Tryz.prog 5 #[.agg #[.int .i64 0, .slice a n cap], .slice sa os.length sc] w fun e w' => e = .returned (.bool true) ∧ Below w.heap.size w w' := by
  have hax := (Below.refl w.heap.size w).alloc (Nat.le_refl _) (.cells #[.int .i64 0, .slice a n cap] 24)
  have hl2 : (os.length : Int) ≤ 9223372036854775807 := by unfold maxLen at hol; omega
  have H0 : Hid (GfAt (w.alloc (.cells #[.int .i64 0, .slice a n cap] 24)) w.heap.size 0 (.slice a n cap) ∧ Below w.heap.size w (w.alloc (.cells #[.int .i64 0, .slice a n cap] 24))) := hid ⟨heap_alloc_last w _, hax⟩
  have HNw : Hid (∀ u : World, Below w.heap.size w u → Calls Tryz.prog 7 #[.agg #[.int .i64 0, .slice a n cap]] u fun r w' => ∃ g F, r = .returned (.tuple #[.pointer (some ⟨g, 0, none⟩), .int .i64 0]) ∧ LvSt w w' F (.pointer (some ⟨g, 0, none⟩)) (newS l)) := hid (fun u hu =>
    (gnew_yes a n cap l hn _ (hI.keep hu (Nat.le_refl _)) hr).mono fun e w' ⟨v, F, h1, h2, h3, h4⟩ => by
      obtain ⟨g, rfl⟩ := h2.ptr
      exact ⟨g, F, h1, h2, fun b hb => Nat.le_trans hu.size (h3 b hb), hu.trans (h4.mono hu.size)⟩)
  have HS := hid (And.intro hS hos)
  clear hax hI hn hr hS hos hol
  go_enter Tryz.func5, Tryz.ntmps5
  go_wp2_with (first
    | (go_at_call 6; refine (elives_any _).mono ?_; rintro e w1 ⟨rfl, hb⟩; have H1 := hid (And.intro ((hb.block _ (lt_of_blk H0.out.1)).trans H0.out.1) (H0.out.2.trans (hb.mono H0.out.2.size))); clear hb; obtain ⟨x0, x1⟩ := GfAt.cells H1.out.1)
    | (go_at_call 7; refine (HNw.out _ H1.out.2).mono ?_; rintro e w2 ⟨g, F, rfl, h⟩; have H2 := hid h; clear h x0 x1))
  generalize newS l = S0 at *
  go_loopw [7] (fun i wr => ∃ (j : Nat) (F : List Nat) (s : Ls), j ≤ os.length ∧ i = .int .i64 (j : Int) ∧ LvSt w wr F (.pointer (some ⟨g, 0, none⟩)) s)
    (fun i _ => ((os.length : Int) - intOf i).toNat)
  case atStart => exact ⟨0, _, _, by omega, rfl, H2.out⟩
  case round =>
    clear H2 H1
    obtain ⟨j, Fj, s, hj, rfl, hP⟩ := hrel
    have hok : LOk s := hP.ld.ok
    have HP := hid hP
    clear hP
    by_cases hjn : j = os.length
    · have hj1 : ¬ ((j : Int) < (os.length : Int)) := by omega
      clear hj hjn
      go_wp2
      go_ret
      exact ⟨rfl, HP.out.bel⟩
    · have hj1 : (j : Int) < (os.length : Int) := by omega
      have hj0 : (0 : Int) ≤ (j : Int) := Int.natCast_nonneg _
      obtain ⟨o, ho⟩ : ∃ o, os[j]? = some o := ⟨_, List.getElem?_eq_getElem (by omega)⟩
      obtain ⟨b, off, hst⟩ := HS.out.1.at ho
      have HA := hid hst
      have HB := hid (HS.out.2 _ (List.mem_of_getElem? ho))
      have hsa := hst.is
      subst hsa
      have HJ := hid (And.intro hj hjn)
      clear hst ho hj hjn
      obtain ⟨t, r⟩ := o
      cases t with
      | true =>
        obtain ⟨T, eT⟩ : ∃ T, T = lgT s := ⟨_, rfl⟩
        obtain ⟨N, eN⟩ : ∃ N : Int, N = (s.dn : Int) := ⟨_, rfl⟩
        by_cases hE : turnE s = 0
        · skip
          have hok2 : LOk (turnS s) := turnS_ok hok
          have HTx : Hid (∀ (u : World) (F : List Nat), LdAt F u (.pointer (some ⟨g, 0, none⟩)) s → Calls Tryz.prog 13 #[(.pointer (some ⟨g, 0, none⟩))] u fun e w' => e = .returned (.string T) ∧ Below u.heap.size u w') := hid (fun u F hu => by have := gtextR hu; rw [← eT] at this; exact this)
          have HDn : Hid (∀ (u : World) (F : List Nat), LdAt F u (.pointer (some ⟨g, 0, none⟩)) s → Calls Tryz.prog 14 #[(.pointer (some ⟨g, 0, none⟩))] u fun e w' => e = .returned (.int .i64 N) ∧ Below u.heap.size u w') := hid (fun u F hu => by have := gdoneT hu; rw [← eN] at this; exact this)
          have HAc : Hid (∀ (u : World) (F : List Nat), LdAt F u (.pointer (some ⟨g, 0, none⟩)) s → Calls Tryz.prog 15 #[(.pointer (some ⟨g, 0, none⟩))] u fun e w' => e = .returned (.int .i64 0) ∧ LdTo F u w' (.pointer (some ⟨g, 0, none⟩)) (turnS s)) := hid (fun u F hu => by have := gturn_any hu; rw [hE] at this; exact this)
          obtain ⟨T2, eT2⟩ : ∃ T, T = lgT (turnS s) := ⟨_, rfl⟩
          obtain ⟨N2, eN2⟩ : ∃ N : Int, N = ((turnS s).dn : Int) := ⟨_, rfl⟩
          have HTx2 : Hid (∀ (u : World) (F : List Nat), LdAt F u (.pointer (some ⟨g, 0, none⟩)) (turnS s) → Calls Tryz.prog 13 #[(.pointer (some ⟨g, 0, none⟩))] u fun e w' => e = .returned (.string T2) ∧ Below u.heap.size u w') := hid (fun u F hu => by have := gtextR hu; rw [← eT2] at this; exact this)
          have HDn2 : Hid (∀ (u : World) (F : List Nat), LdAt F u (.pointer (some ⟨g, 0, none⟩)) (turnS s) → Calls Tryz.prog 14 #[(.pointer (some ⟨g, 0, none⟩))] u fun e w' => e = .returned (.int .i64 N2) ∧ Below u.heap.size u w') := hid (fun u F hu => by have := gdoneT hu; rw [← eN2] at this; exact this)
          obtain ⟨E, eE⟩ : ∃ N : Int, N = ((turnS s).ep : Int) := ⟨_, rfl⟩
          have HCf : Hid (∀ (u : World) (F : List Nat), LdAt F u (.pointer (some ⟨g, 0, none⟩)) (turnS s) → Calls Tryz.prog 18 #[(.pointer (some ⟨g, 0, none⟩))] u fun e w' => ∃ a1 c1, e = .returned (.agg #[.int .i64 E, .slice a1 (turnS s).mem.length c1]) ∧ Below u.heap.size u w') := hid (fun u F hu => by refine (gconfT hu).mono ?_; rintro e w' ⟨a1, c1, h1, _, h3⟩; exact ⟨a1, c1, by rw [eE]; exact h1, h3⟩)
          have HOp : Hid (∀ u : World, Calls Tryz.prog 12 #[.string T2] u fun e w' => ∃ g ai ci, e = .returned (.tuple #[.pointer (some ⟨g, 0, none⟩), .int .i64 0]) ∧ w'.cell? ⟨g, 4, none⟩ = some (.slice ai (turnS s).its.length ci) ∧ Below u.heap.size u w') := hid (fun u => by rw [eT2]; exact wopen_text hok2 u)
          have hits : ¬ ((16 : Int) < ((turnS s).its.length : Int)) := by have := hok2.few; omega
          have hE60 : E ≤ 60 := by have := hok2.ep; omega
          have hE0 : 0 ≤ E := by omega
          have hdn : ¬ (4 * (E + 1) < N2) := by have := hok2.hi; omega
          have hNb : N ≤ 244 := by have := hok.hi; have := hok.ep; omega
          have hN0 : 0 ≤ N := by omega
          clear hE hok hok2 eT eN eE eT2 eN2
          generalize (turnS s) = S2 at *
          go_wp2_with (first
            | (have := H10; go_at_call 18; refine (HCf.out _ _ H10.out.ld).mono ?_; rintro e w11 ⟨a11, c11, rfl, hb⟩; have H11 := hid (H10.out.keep hb); clear hb)
            | (have := H8; go_at_call 14; refine (HDn2.out _ _ H8.out.ld).mono ?_; rintro e w10 ⟨rfl, hb⟩; have H10 := hid (H8.out.keep hb); clear hb)
            | (have := H7; go_at_call 12; refine (HOp.out _).mono ?_; rintro e w8 ⟨g8, ai8, ci8, rfl, hc8, hb⟩; have H8 := hid (H7.out.keep hb); clear hb)
            | (have := H5; go_at_call 13; refine (HTx2.out _ _ H5.out.ld).mono ?_; rintro e w7 ⟨rfl, hb⟩; have H7 := hid (H5.out.keep hb); clear hb)
            | (have := H4; go_at_call 15; refine (HAc.out _ _ H4.out.ld).mono ?_; rintro e w5 ⟨rfl, h⟩; obtain ⟨F5, h5⟩ := H4.out.to h; have H5 := hid h5; clear h h5)
            | (have := H3; go_at_call 14; refine (HDn.out _ _ H3.out.ld).mono ?_; rintro e w4 ⟨rfl, hb⟩; have H4 := hid (H3.out.keep hb); clear hb; have ha := HA.out.keep H4.out.bel; have k0 := ha.k0; have k1 := ha.k1; have k2 := ha.k2; have k3 := ha.k3; have k4 := ha.k4; have k5 := ha.k5; have k6 := ha.k6; clear ha)
            | (go_at_call 13; refine (HTx.out _ _ HP.out.ld).mono ?_; rintro e w3 ⟨rfl, hb⟩; have H3 := hid (HP.out.keep hb); clear hb)
            | rw [fld_run])
          go_roundw
          case rel => exact ⟨j + 1, _, _, by have := HJ.out; omega, rfl, H11.out⟩
          case measure => have := HJ.out; simp [intOf]; omega
        · have hS : turnS s = s := by rw [turnS, if_neg hE]
          obtain ⟨D, eD⟩ : ∃ D, D = turnE s := ⟨_, rfl⟩
          have hD : ¬ D = 0 := by rw [eD]; exact hE
          replace hE := eD.symm
          clear eD
          have hok2 : LOk s := hok
          have HTx : Hid (∀ (u : World) (F : List Nat), LdAt F u (.pointer (some ⟨g, 0, none⟩)) s → Calls Tryz.prog 13 #[(.pointer (some ⟨g, 0, none⟩))] u fun e w' => e = .returned (.string T) ∧ Below u.heap.size u w') := hid (fun u F hu => by have := gtextR hu; rw [← eT] at this; exact this)
          have HDn : Hid (∀ (u : World) (F : List Nat), LdAt F u (.pointer (some ⟨g, 0, none⟩)) s → Calls Tryz.prog 14 #[(.pointer (some ⟨g, 0, none⟩))] u fun e w' => e = .returned (.int .i64 N) ∧ Below u.heap.size u w') := hid (fun u F hu => by have := gdoneT hu; rw [← eN] at this; exact this)
          have HAc : Hid (∀ (u : World) (F : List Nat), LdAt F u (.pointer (some ⟨g, 0, none⟩)) s → Calls Tryz.prog 15 #[(.pointer (some ⟨g, 0, none⟩))] u fun e w' => e = .returned (.int .i64 D) ∧ LdTo F u w' (.pointer (some ⟨g, 0, none⟩)) s) := hid (fun u F hu => by have := gturn_any hu; rw [hE, hS] at this; exact this)
          obtain ⟨E, eE⟩ : ∃ N : Int, N = (s.ep : Int) := ⟨_, rfl⟩
          have HCf : Hid (∀ (u : World) (F : List Nat), LdAt F u (.pointer (some ⟨g, 0, none⟩)) s → Calls Tryz.prog 18 #[(.pointer (some ⟨g, 0, none⟩))] u fun e w' => ∃ a1 c1, e = .returned (.agg #[.int .i64 E, .slice a1 s.mem.length c1]) ∧ Below u.heap.size u w') := hid (fun u F hu => by refine (gconfT hu).mono ?_; rintro e w' ⟨a1, c1, h1, _, h3⟩; exact ⟨a1, c1, by rw [eE]; exact h1, h3⟩)
          have HOp : Hid (∀ u : World, Calls Tryz.prog 12 #[.string T] u fun e w' => ∃ g ai ci, e = .returned (.tuple #[.pointer (some ⟨g, 0, none⟩), .int .i64 0]) ∧ w'.cell? ⟨g, 4, none⟩ = some (.slice ai s.its.length ci) ∧ Below u.heap.size u w') := hid (fun u => by rw [eT]; exact wopen_text hok2 u)
          have hits : ¬ ((16 : Int) < (s.its.length : Int)) := by have := hok2.few; omega
          have hE60 : E ≤ 60 := by have := hok2.ep; omega
          have hE0 : 0 ≤ E := by omega
          have hdn : ¬ (4 * (E + 1) < N) := by have := hok2.hi; omega
          have hNb : N ≤ 244 := by have := hok.hi; have := hok.ep; omega
          have hN0 : 0 ≤ N := by omega
          clear hE hS hok hok2 eT eN eE
          have hDb : (D == 0) = false := by simpa using hD
          go_wp2_with (first
            | (have := H10; go_at_call 18; refine (HCf.out _ _ H10.out.ld).mono ?_; rintro e w11 ⟨a11, c11, rfl, hb⟩; have H11 := hid (H10.out.keep hb); clear hb)
            | (have := H9; go_at_call 14; refine (HDn.out _ _ H9.out.ld).mono ?_; rintro e w10 ⟨rfl, hb⟩; have H10 := hid (H9.out.keep hb); clear hb)
            | (have := H8; go_at_call 13; refine (HTx.out _ _ H8.out.ld).mono ?_; rintro e w9 ⟨rfl, hb⟩; replace hc8 := (World.cell?_of_block (a := ⟨g8, 4, none⟩) (hb.block g8 (World.block_lt_of_cell? _ _ hc8))).trans hc8; have H9 := hid (H8.out.keep hb); clear hb)
            | (have := H7; go_at_call 12; refine (HOp.out _).mono ?_; rintro e w8 ⟨g8, ai8, ci8, rfl, hc8, hb⟩; have H8 := hid (H7.out.keep hb); clear hb)
            | (have := H5; go_at_call 13; refine (HTx.out _ _ H5.out.ld).mono ?_; rintro e w7 ⟨rfl, hb⟩; have H7 := hid (H5.out.keep hb); clear hb)
            | (have := H4; go_at_call 15; refine (HAc.out _ _ H4.out.ld).mono ?_; rintro e w5 ⟨rfl, h⟩; obtain ⟨F5, h5⟩ := H4.out.to h; have H5 := hid h5; clear h h5)
            | (have := H3; go_at_call 14; refine (HDn.out _ _ H3.out.ld).mono ?_; rintro e w4 ⟨rfl, hb⟩; have H4 := hid (H3.out.keep hb); clear hb; have ha := HA.out.keep H4.out.bel; have k0 := ha.k0; have k1 := ha.k1; have k2 := ha.k2; have k3 := ha.k3; have k4 := ha.k4; have k5 := ha.k5; have k6 := ha.k6; clear ha)
            | (go_at_call 13; refine (HTx.out _ _ HP.out.ld).mono ?_; rintro e w3 ⟨rfl, hb⟩; have H3 := hid (HP.out.keep hb); clear hb)
            | rw [fld_run])
          go_roundw
          case rel => exact ⟨j + 1, _, _, by have := HJ.out; omega, rfl, H11.out⟩
          case measure => have := HJ.out; simp [intOf]; omega
      | false =>
        obtain ⟨T, eT⟩ : ∃ T, T = lgT s := ⟨_, rfl⟩
        obtain ⟨N, eN⟩ : ∃ N : Int, N = (s.dn : Int) := ⟨_, rfl⟩
        by_cases hE : doE s r = 0
        · skip
          have hok2 : LOk (doS s r) := doS_ok hok HB.out.2
          have HTx : Hid (∀ (u : World) (F : List Nat), LdAt F u (.pointer (some ⟨g, 0, none⟩)) s → Calls Tryz.prog 13 #[(.pointer (some ⟨g, 0, none⟩))] u fun e w' => e = .returned (.string T) ∧ Below u.heap.size u w') := hid (fun u F hu => by have := gtextR hu; rw [← eT] at this; exact this)
          have HDn : Hid (∀ (u : World) (F : List Nat), LdAt F u (.pointer (some ⟨g, 0, none⟩)) s → Calls Tryz.prog 14 #[(.pointer (some ⟨g, 0, none⟩))] u fun e w' => e = .returned (.int .i64 N) ∧ Below u.heap.size u w') := hid (fun u F hu => by have := gdoneT hu; rw [← eN] at this; exact this)
          have HAc : Hid (∀ (u : World) (F : List Nat), LdAt F u (.pointer (some ⟨g, 0, none⟩)) s → Calls Tryz.prog 16 #[(.pointer (some ⟨g, 0, none⟩)), .agg #[.int .i64 r.c, .int .i64 r.st, .int .i64 r.k, .string r.key, .float .f64 r.b, .int .i64 r.id]] u fun e w' => e = .returned (.tuple #[.agg #[.int .i64 (doC s r), .float .f64 (doF s r)], .int .i64 0]) ∧ LdTo F u w' (.pointer (some ⟨g, 0, none⟩)) (doS s r)) := hid (fun u F hu => by have := gdo_any hu r HB.out.2; rw [hE] at this; exact this)
          obtain ⟨T2, eT2⟩ : ∃ T, T = lgT (doS s r) := ⟨_, rfl⟩
          obtain ⟨N2, eN2⟩ : ∃ N : Int, N = ((doS s r).dn : Int) := ⟨_, rfl⟩
          have HTx2 : Hid (∀ (u : World) (F : List Nat), LdAt F u (.pointer (some ⟨g, 0, none⟩)) (doS s r) → Calls Tryz.prog 13 #[(.pointer (some ⟨g, 0, none⟩))] u fun e w' => e = .returned (.string T2) ∧ Below u.heap.size u w') := hid (fun u F hu => by have := gtextR hu; rw [← eT2] at this; exact this)
          have HDn2 : Hid (∀ (u : World) (F : List Nat), LdAt F u (.pointer (some ⟨g, 0, none⟩)) (doS s r) → Calls Tryz.prog 14 #[(.pointer (some ⟨g, 0, none⟩))] u fun e w' => e = .returned (.int .i64 N2) ∧ Below u.heap.size u w') := hid (fun u F hu => by have := gdoneT hu; rw [← eN2] at this; exact this)
          obtain ⟨E, eE⟩ : ∃ N : Int, N = ((doS s r).ep : Int) := ⟨_, rfl⟩
          have HCf : Hid (∀ (u : World) (F : List Nat), LdAt F u (.pointer (some ⟨g, 0, none⟩)) (doS s r) → Calls Tryz.prog 18 #[(.pointer (some ⟨g, 0, none⟩))] u fun e w' => ∃ a1 c1, e = .returned (.agg #[.int .i64 E, .slice a1 (doS s r).mem.length c1]) ∧ Below u.heap.size u w') := hid (fun u F hu => by refine (gconfT hu).mono ?_; rintro e w' ⟨a1, c1, h1, _, h3⟩; exact ⟨a1, c1, by rw [eE]; exact h1, h3⟩)
          have HOp : Hid (∀ u : World, Calls Tryz.prog 12 #[.string T2] u fun e w' => ∃ g ai ci, e = .returned (.tuple #[.pointer (some ⟨g, 0, none⟩), .int .i64 0]) ∧ w'.cell? ⟨g, 4, none⟩ = some (.slice ai (doS s r).its.length ci) ∧ Below u.heap.size u w') := hid (fun u => by rw [eT2]; exact wopen_text hok2 u)
          have hits : ¬ ((16 : Int) < ((doS s r).its.length : Int)) := by have := hok2.few; omega
          have hE60 : E ≤ 60 := by have := hok2.ep; omega
          have hE0 : 0 ≤ E := by omega
          have hdn : ¬ (4 * (E + 1) < N2) := by have := hok2.hi; omega
          have hNb : N ≤ 244 := by have := hok.hi; have := hok.ep; omega
          have hN0 : 0 ≤ N := by omega
          have hmore : N2 = N + 1 := by rw [eN2, eN, do_dn hE]; omega
          subst hmore
          clear hE hok hok2 eT eN eE eT2
          clear HB
          generalize (doS s r) = S2 at *
          go_wp2_with (first
            | (have := H10; go_at_call 18; refine (HCf.out _ _ H10.out.ld).mono ?_; rintro e w11 ⟨a11, c11, rfl, hb⟩; have H11 := hid (H10.out.keep hb); clear hb)
            | (have := H8; go_at_call 14; refine (HDn2.out _ _ H8.out.ld).mono ?_; rintro e w10 ⟨rfl, hb⟩; have H10 := hid (H8.out.keep hb); clear hb)
            | (have := H7; go_at_call 12; refine (HOp.out _).mono ?_; rintro e w8 ⟨g8, ai8, ci8, rfl, hc8, hb⟩; have H8 := hid (H7.out.keep hb); clear hb)
            | (have := H6; go_at_call 13; refine (HTx2.out _ _ H6.out.ld).mono ?_; rintro e w7 ⟨rfl, hb⟩; have H7 := hid (H6.out.keep hb); clear hb)
            | (have := H5; go_at_call 14; refine (HDn2.out _ _ H5.out.ld).mono ?_; rintro e w6 ⟨rfl, hb⟩; have H6 := hid (H5.out.keep hb); clear hb)
            | (have := H4; go_at_call 16; refine (HAc.out _ _ H4.out.ld).mono ?_; rintro e w5 ⟨rfl, h⟩; obtain ⟨F5, h5⟩ := H4.out.to h; have H5 := hid h5; clear h h5)
            | (have := H3b; go_at_call 17; refine (drequest_any r _).mono ?_; rintro e w4 ⟨rfl, hb⟩; have H4 := hid (H3b.out.keep hb); clear hb k0 k1 k2 k3 k4 k5 k6)
            | (have := H3; go_at_call 14; refine (HDn.out _ _ H3.out.ld).mono ?_; rintro e w3b ⟨rfl, hb⟩; have H3b := hid (H3.out.keep hb); clear hb; have ha := HA.out.keep H3b.out.bel; have k0 := ha.k0; have k1 := ha.k1; have k2 := ha.k2; have k3 := ha.k3; have k4 := ha.k4; have k5 := ha.k5; have k6 := ha.k6; clear ha)
            | (go_at_call 13; refine (HTx.out _ _ HP.out.ld).mono ?_; rintro e w3 ⟨rfl, hb⟩; have H3 := hid (HP.out.keep hb); clear hb)
            | rw [fld_run])
          go_roundw
          case rel => exact ⟨j + 1, _, _, by have := HJ.out; omega, rfl, H11.out⟩
          case measure => have := HJ.out; simp [intOf]; omega
        · have hS : doS s r = s := by rw [doS, if_neg hE]
          obtain ⟨D, eD⟩ : ∃ D, D = doE s r := ⟨_, rfl⟩
          have hD : ¬ D = 0 := by rw [eD]; exact hE
          replace hE := eD.symm
          clear eD
          have hok2 : LOk s := hok
          have HTx : Hid (∀ (u : World) (F : List Nat), LdAt F u (.pointer (some ⟨g, 0, none⟩)) s → Calls Tryz.prog 13 #[(.pointer (some ⟨g, 0, none⟩))] u fun e w' => e = .returned (.string T) ∧ Below u.heap.size u w') := hid (fun u F hu => by have := gtextR hu; rw [← eT] at this; exact this)
          have HDn : Hid (∀ (u : World) (F : List Nat), LdAt F u (.pointer (some ⟨g, 0, none⟩)) s → Calls Tryz.prog 14 #[(.pointer (some ⟨g, 0, none⟩))] u fun e w' => e = .returned (.int .i64 N) ∧ Below u.heap.size u w') := hid (fun u F hu => by have := gdoneT hu; rw [← eN] at this; exact this)
          have HAc : Hid (∀ (u : World) (F : List Nat), LdAt F u (.pointer (some ⟨g, 0, none⟩)) s → Calls Tryz.prog 16 #[(.pointer (some ⟨g, 0, none⟩)), .agg #[.int .i64 r.c, .int .i64 r.st, .int .i64 r.k, .string r.key, .float .f64 r.b, .int .i64 r.id]] u fun e w' => e = .returned (.tuple #[.agg #[.int .i64 (doC s r), .float .f64 (doF s r)], .int .i64 D]) ∧ LdTo F u w' (.pointer (some ⟨g, 0, none⟩)) s) := hid (fun u F hu => by have := gdo_any hu r HB.out.2; rw [hE, hS] at this; exact this)
          obtain ⟨E, eE⟩ : ∃ N : Int, N = (s.ep : Int) := ⟨_, rfl⟩
          have HCf : Hid (∀ (u : World) (F : List Nat), LdAt F u (.pointer (some ⟨g, 0, none⟩)) s → Calls Tryz.prog 18 #[(.pointer (some ⟨g, 0, none⟩))] u fun e w' => ∃ a1 c1, e = .returned (.agg #[.int .i64 E, .slice a1 s.mem.length c1]) ∧ Below u.heap.size u w') := hid (fun u F hu => by refine (gconfT hu).mono ?_; rintro e w' ⟨a1, c1, h1, _, h3⟩; exact ⟨a1, c1, by rw [eE]; exact h1, h3⟩)
          have HOp : Hid (∀ u : World, Calls Tryz.prog 12 #[.string T] u fun e w' => ∃ g ai ci, e = .returned (.tuple #[.pointer (some ⟨g, 0, none⟩), .int .i64 0]) ∧ w'.cell? ⟨g, 4, none⟩ = some (.slice ai s.its.length ci) ∧ Below u.heap.size u w') := hid (fun u => by rw [eT]; exact wopen_text hok2 u)
          have hits : ¬ ((16 : Int) < (s.its.length : Int)) := by have := hok2.few; omega
          have hE60 : E ≤ 60 := by have := hok2.ep; omega
          have hE0 : 0 ≤ E := by omega
          have hdn : ¬ (4 * (E + 1) < N) := by have := hok2.hi; omega
          have hNb : N ≤ 244 := by have := hok.hi; have := hok.ep; omega
          have hN0 : 0 ≤ N := by omega
          clear hE hS hok hok2 eT eN eE
          have hDb : (D == 0) = false := by simpa using hD
          clear HB
          go_wp2_with (first
            | (have := H10; go_at_call 18; refine (HCf.out _ _ H10.out.ld).mono ?_; rintro e w11 ⟨a11, c11, rfl, hb⟩; have H11 := hid (H10.out.keep hb); clear hb)
            | (have := H9; go_at_call 14; refine (HDn.out _ _ H9.out.ld).mono ?_; rintro e w10 ⟨rfl, hb⟩; have H10 := hid (H9.out.keep hb); clear hb)
            | (have := H8; go_at_call 13; refine (HTx.out _ _ H8.out.ld).mono ?_; rintro e w9 ⟨rfl, hb⟩; replace hc8 := (World.cell?_of_block (a := ⟨g8, 4, none⟩) (hb.block g8 (World.block_lt_of_cell? _ _ hc8))).trans hc8; have H9 := hid (H8.out.keep hb); clear hb)
            | (have := H7; go_at_call 12; refine (HOp.out _).mono ?_; rintro e w8 ⟨g8, ai8, ci8, rfl, hc8, hb⟩; have H8 := hid (H7.out.keep hb); clear hb)
            | (have := H5; go_at_call 13; refine (HTx.out _ _ H5.out.ld).mono ?_; rintro e w7 ⟨rfl, hb⟩; have H7 := hid (H5.out.keep hb); clear hb)
            | (have := H4; go_at_call 16; refine (HAc.out _ _ H4.out.ld).mono ?_; rintro e w5 ⟨rfl, h⟩; obtain ⟨F5, h5⟩ := H4.out.to h; have H5 := hid h5; clear h h5)
            | (have := H3b; go_at_call 17; refine (drequest_any r _).mono ?_; rintro e w4 ⟨rfl, hb⟩; have H4 := hid (H3b.out.keep hb); clear hb k0 k1 k2 k3 k4 k5 k6)
            | (have := H3; go_at_call 14; refine (HDn.out _ _ H3.out.ld).mono ?_; rintro e w3b ⟨rfl, hb⟩; have H3b := hid (H3.out.keep hb); clear hb; have ha := HA.out.keep H3b.out.bel; have k0 := ha.k0; have k1 := ha.k1; have k2 := ha.k2; have k3 := ha.k3; have k4 := ha.k4; have k5 := ha.k5; have k6 := ha.k6; clear ha)
            | (go_at_call 13; refine (HTx.out _ _ HP.out.ld).mono ?_; rintro e w3 ⟨rfl, hb⟩; have H3 := hid (HP.out.keep hb); clear hb)
            | rw [fld_run])
          go_roundw
          case rel => exact ⟨j + 1, _, _, by have := HJ.out; omega, rfl, H11.out⟩
          case measure => have := HJ.out; simp [intOf]; omega
theorem ldroom_any (ep : Int) (a : Option Addr) (n cap : Nat) (l : List Int) (hn : l.length = n) (hm : n ≤ maxLen) (sa : Option Addr) (sc : Nat) (os : List Stp) (hol : os.length ≤ maxLen) (hos : ∀ o, o ∈ os → stB o) (w : World) (hI : IntsIn w a l) (hS : StpsIn w sa os) :
    Calls Tryz.prog 5 #[.agg #[.int .i64 ep, .slice a n cap], .slice sa os.length sc] w fun r w' => r = .returned (.bool true) ∧ Below w.heap.size w w' := by
  by_cases h : rightC ep l = true ∧ ep = 0
  · obtain ⟨hr, rfl⟩ := h
    exact ldroom_yes a n cap l hn sa sc os hol hos w hI hr hS
  · refine ldroom_no ep a n cap l hn hm sa _ sc w hI ?_
    cases hr : rightC ep l with
    | false => exact .inl rfl
    | true => exact .inr (fun e => h ⟨hr, e⟩)
end Go.Proofs.YtecidbdbdnnglaaGreat
