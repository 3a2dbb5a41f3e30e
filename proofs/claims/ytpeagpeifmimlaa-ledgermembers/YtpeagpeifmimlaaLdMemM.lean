/- The law: members are right at all times, and change at a turn alone. -/
import Derived.Test.YtpeagpeifmimlaaMx9
import Derived.Test.YtpeagpeifmimlaaCoH
import Derived.Test.YtpeagpeifmimlaaMx3
import Derived.Deep.RegionHeld3
import Derived.Deep.DeepCutAuto
namespace Go.Proofs.Ytpeagpeifmimlaa
open Go.RowKit

section
variable {o : Oper} {a : Act} {w : World} {Q : Exit → Act → World → Prop} {ops : Array Oper} {rest : List Oper} {P : Program} {K : Act → World → Prop}
theorem gf_all {w : World} {b : Nat} {e0 e : Int} {v0 v : Value} (h : GfAt w b e0 v0) : GfAt (w.setCells b 0 [.int .i64 e, v]) b e v := by
  have h0 := blk_set h 0 (.int .i64 e)
  have h1 := blk_set h0 1 v
  exact h1.trans (by simp)
theorem gf_there {w : World} {b : Nat} {e : Int} {v : Value} (h : GfAt w b e v) : w.there b 0 2 := fun j hj => by
  obtain ⟨z0, z1⟩ := h.cells
  refine ⟨?_, free_at h _⟩
  rw [Nat.zero_add]
  match j, hj with
  | 0, _ => rw [z0]; rfl
  | 1, _ => rw [z1]; rfl
theorem wl_store_gf (hgd : o.guard = none) (p x : Operand) (ho : o.op = .store 24 p x) (b : Nat) (hp : a.eval p = .pointer (some ⟨b, 0, none⟩)) (e0 e : Int) (v0 : Value) (ad : Option Addr) (n c : Nat) (hx : a.eval x = .agg #[.int .i64 e, .slice ad n c]) (hR : GfAt w b e0 v0)
    (h : ∀ w', Hid (GfAt w' b e (.slice ad n c) ∧ One b w w') → wpList Try.prog ops Q rest (a.put o.dst undef) w') : wpList Try.prog ops Q (o :: rest) a w :=
  wpList_store_mid (P := Try.prog) hgd 24 p x ho b 0 #[.int .i64 e, .slice ad n c] hp hx (gf_there hR) (by kernel_rfl) (by simp [Value.oneCell']) (h _ ⟨gf_all hR, one_cells b _ 0 w⟩)
theorem wpOp_m {i : Nat} (hi : ops[i]? = some o) (hw : Region.wanted o (yielded ops a.tmps) = true) (h : ∀ K' : Act → World → Prop, (∀ a w, K a w → K' a w) → o.wp P a w K' Q) : wpOp P ops Q i K a w := by
  unfold Go.wpOp
  simp only [hi, hw, if_true]
  exact .inl (h _ (fun _ _ h => h))
end
theorem stable_in (a : Option Addr) (l : List Int) : Stable (blkL a) (fun u => IntsIn u a l) := fun _ _ h hs hb => ints_stay h hs (fun x hx => hb _ (mem_blkL.2 ⟨x, hx, rfl⟩))
section
variable {w0 w w' : World} {L : List Nat} {R : World → Prop} {F : List Nat} {v : Value} {s : Ls}
theorem SgSt.ints (h : SgSt w0 w L R F v s) {a : Option Addr} {l : List Int} (hn : NewI w.heap.size w' a l) (hb : Below w.heap.size w w') : SgSt w0 w' (blkL a ++ L) (fun u => IntsIn u a l ∧ R u) F v s :=
  (h.keep hb).add (stable_in a l) (fun b hm => by obtain ⟨x, hx, rfl⟩ := mem_blkL.1 hm; exact (hn.far x hx).2.lt) hn.ints (fun b hm hF => by
    obtain ⟨x, hx, rfl⟩ := mem_blkL.1 hm
    exact Nat.lt_irrefl _ (Nat.lt_of_lt_of_le (h.lv.ld.lt _ hF) (hn.far x hx).1))
theorem SgSt.cf (h : SgSt w0 w L R F v s) {e : Int} {vm : Value} (hz : GfAt w' w.heap.size e vm ∧ One w.heap.size (w.alloc (.cells #[.int .i64 0, .slice none 0 0] 24)) w') : SgSt w0 w' ([w.heap.size] ++ L) (fun u => GfAt u w.heap.size e vm ∧ R u) F v s :=
  h.fresh (hz.2.below ((Below.refl w.heap.size w).alloc (Nat.le_refl _) _) (Nat.le_refl _)) (stable_cf _ e vm) hz.1 (lt_of_blk hz.1)
theorem SgSt.drew (h : SgSt w0 w L R F v s) : SgSt w0 w.drew L R F v s := h.keep (Below.refl _ _).drew
end
theorem do_moves (s : Ls) (r : Rq) : (doS s r).ep = s.ep ∧ (doS s r).mem = s.mem ∧ ((doS s r).nxt = s.nxt ∨ ((doS s r).nxt.length = s.nxt.length + 1 ∧ r.k = 6 ∧ doE s r = 0 ∧ doC s r = 0) ∨ ((doS s r).nxt.length + 1 = s.nxt.length ∧ r.k = 7 ∧ doE s r = 0 ∧ doC s r = 0)) := by
  by_cases h0 : doE s r = 0
  · cases hN : nullB r with
    | true =>
      have e1 : doS s r = moreS s := by rw [doS, if_pos h0, hN]; rfl
      rw [e1]
      exact ⟨rfl, rfl, .inl rfl⟩
    | false =>
      have e1 : doS s r = ansS (moreS s) r := by rw [doS, if_pos h0, hN]; rfl
      have e2 : doC s r = ansC s r := by rw [doC, if_pos h0, hN]; rfl
      rw [e1, e2]
      by_cases h1 : r.st ≤ (((moreS s).at (clN r)).1 : Int)
      · rw [ansS, if_pos h1]
        exact ⟨rfl, rfl, .inl rfl⟩
      · have e3 : ansS (moreS s) r = { effS (moreS s) r with lst := s.lst.set (clN r) (r.st.toNat, effC s r, effF s r) } := by rw [ansS, if_neg h1]; rfl
        rw [more_at] at h1
        have e4 : ansC s r = effC s r := by rw [ansC, if_neg (by omega), if_neg (by omega)]
        rw [e3, e4]
        cases hM : isMov r with
        | false =>
          have e5 : effS (moreS s) r = { moreS s with its := keyN s.its r } := by rw [effS, hM]; rfl
          rw [e5]
          exact ⟨rfl, rfl, .inl rfl⟩
        | true =>
          have e5 : effS (moreS s) r = { moreS s with nxt := movN s.nxt r } := by rw [effS, hM]; rfl
          have e6 : effC s r = movC s.nxt r := by rw [effC, hM]; rfl
          rw [e5, e6]
          refine ⟨rfl, rfl, ?_⟩
          show movN s.nxt r = s.nxt ∨ ((movN s.nxt r).length = s.nxt.length + 1 ∧ r.k = 6 ∧ doE s r = 0 ∧ movC s.nxt r = 0) ∨ ((movN s.nxt r).length + 1 = s.nxt.length ∧ r.k = 7 ∧ doE s r = 0 ∧ movC s.nxt r = 0)
          by_cases hE : movE s.nxt r = 0
          · have e7 : movN s.nxt r = movR s.nxt r := by rw [movN, if_pos hE]
            have e8 : movC s.nxt r = 0 := by rw [movC, if_pos hE]
            rw [e7, e8]
            by_cases h6 : r.k = 6
            · rw [movE, if_pos h6] at hE
              exact .inr (.inl ⟨by rw [movR, if_pos h6]; exact (join_leave hE).2, h6, h0, rfl⟩)
            · rw [movE, if_neg h6] at hE
              have h7 : r.k = 7 := by
                have := of_decide_eq_true hM
                omega
              exact .inr (.inr ⟨by rw [movR, if_neg h6]; exact (leave_right hE).2, h7, h0, rfl⟩)
          · exact .inl (by rw [movN, if_neg hE])
  · have e1 : doS s r = s := by rw [doS, if_neg h0]
    rw [e1]
    exact ⟨rfl, rfl, .inl rfl⟩

theorem rightC_zero {l : List Int} (h : memB l = true) : rightC 0 l = true := by simp [rightC, h]
set_option maxRecDepth 100000 in
set_option maxHeartbeats 1600000 in
theorem ldmem_no (ep : Int) (a : Option Addr) (n cap : Nat) (l : List Int) (hn : l.length = n) (hm : n ≤ maxLen) (sa : Option Addr) (sn sc : Nat) (w : World) (hI : IntsIn w a l) (hr : rightC ep l = false ∨ ep ≠ 0) :
    Calls Try.prog 4 #[.agg #[.int .i64 ep, .slice a n cap], .slice sa sn sc] w fun e w' => e = .returned (.bool true) ∧ Below w.heap.size w w' := by
  have hax := (Below.refl w.heap.size w).alloc (Nat.le_refl _) (.cells #[.int .i64 ep, .slice a n cap] 24)
  have H0 : Hid (GfAt (w.alloc (.cells #[.int .i64 ep, .slice a n cap] 24)) w.heap.size ep (.slice a n cap) ∧ Below w.heap.size w (w.alloc (.cells #[.int .i64 ep, .slice a n cap] 24))) := hid ⟨heap_alloc_last w _, hax⟩
  have HNw : Hid (∀ u : World, Below w.heap.size w u → Calls Try.prog 19 #[.agg #[.int .i64 ep, .slice a n cap]] u fun r w' => r = .returned (.tuple #[.pointer none, .int .i64 1]) ∧ Below w.heap.size w w') := hid (fun u hu =>
    (gnew_no ep a n cap l hn hm _ (hI.keep hu (Nat.le_refl _)) hr).mono fun e w' ⟨h1, h4⟩ => ⟨h1, hu.trans (h4.mono hu.size)⟩)
  clear hax hI hn hr hm
  go_enter Try.func4, Try.ntmps4
  go_wp2_with (first
    | (go_at_call 5; refine (elives_any _).mono ?_; rintro e w1 ⟨rfl, hb⟩; have H1 := hid (And.intro ((hb.block _ (lt_of_blk H0.out.1)).trans H0.out.1) (H0.out.2.trans (hb.mono H0.out.2.size))); clear hb; obtain ⟨x0, x1⟩ := GfAt.cells H1.out.1)
    | (go_at_call 19; refine (HNw.out _ H1.out.2).mono ?_; rintro e w2 ⟨rfl, h⟩; have H2 := hid h; clear h))
  go_ret
  exact ⟨rfl, H2.out⟩
set_option maxRecDepth 100000 in
set_option maxHeartbeats 25600000 in
theorem ldmem_yes (a : Option Addr) (n cap : Nat) (l : List Int) (hn : l.length = n) (sa : Option Addr) (sc : Nat) (os : List Stp) (hol : os.length ≤ maxLen) (hos : ∀ o, o ∈ os → stB o) (w : World) (hI : IntsIn w a l) (hr : rightC 0 l = true) (hS : StpsIn w sa os) :
    Calls Try.prog 4 #[.agg #[.int .i64 0, .slice a n cap], .slice sa os.length sc] w fun e w' => e = .returned (.bool true) ∧ Below w.heap.size w w' := by
  have hax := (Below.refl w.heap.size w).alloc (Nat.le_refl _) (.cells #[.int .i64 0, .slice a n cap] 24)
  have hl2 : (os.length : Int) ≤ 9223372036854775807 := by unfold maxLen at hol; omega
  have H0 : Hid (GfAt (w.alloc (.cells #[.int .i64 0, .slice a n cap] 24)) w.heap.size 0 (.slice a n cap) ∧ Below w.heap.size w (w.alloc (.cells #[.int .i64 0, .slice a n cap] 24))) := hid ⟨heap_alloc_last w _, hax⟩
  have HNw : Hid (∀ u : World, Below w.heap.size w u → Calls Try.prog 19 #[.agg #[.int .i64 0, .slice a n cap]] u fun r w' => ∃ g F, r = .returned (.tuple #[.pointer (some ⟨g, 0, none⟩), .int .i64 0]) ∧ LvSt w w' F (.pointer (some ⟨g, 0, none⟩)) (newS l)) := hid (fun u hu =>
    (gnew_yes a n cap l hn _ (hI.keep hu (Nat.le_refl _)) hr).mono fun e w' ⟨v, F, h1, h2, h3, h4⟩ => by
      obtain ⟨g, rfl⟩ := h2.ptr
      exact ⟨g, F, h1, h2, fun b hb => Nat.le_trans hu.size (h3 b hb), hu.trans (h4.mono hu.size)⟩)
  have HS := hid (And.intro hS hos)
  clear hax hI hn hr hS hos hol
  go_enter Try.func4, Try.ntmps4
  go_wp2_with (first
    | (go_at_call 5; refine (elives_any _).mono ?_; rintro e w1 ⟨rfl, hb⟩; have H1 := hid (And.intro ((hb.block _ (lt_of_blk H0.out.1)).trans H0.out.1) (H0.out.2.trans (hb.mono H0.out.2.size))); clear hb; obtain ⟨x0, x1⟩ := GfAt.cells H1.out.1)
    | (go_at_call 19; refine (HNw.out _ H1.out.2).mono ?_; rintro e w2 ⟨g, F, rfl, h⟩; have H2 := hid h; clear h x0 x1))
  generalize newS l = S0 at *
  go_loopw [7] (fun i wr => ∃ (j : Nat) (F : List Nat) (s : Ls), j ≤ os.length ∧ i = .int .i64 (j : Int) ∧ LvSt w wr F (.pointer (some ⟨g, 0, none⟩)) s)
    (fun i _ => ((os.length : Int) - intOf i).toNat)
  case atStart => exact ⟨0, _, _, by omega, rfl, H2.out⟩
  case round =>
    clear H2 H1
    obtain ⟨j, Fj, s, hj, rfl, hP⟩ := hrel
    have hok : LOk s := hP.ld.ok
    have HP := hid (SgSt.of hP)
    clear hP
    by_cases hjn : j = os.length
    · have hj1 : ¬ ((j : Int) < (os.length : Int)) := by omega
      clear hj hjn
      go_wp2
      go_ret
      exact ⟨rfl, HP.out.lv.bel⟩
    · have hj1 : (j : Int) < (os.length : Int) := by omega
      have hj0 : (0 : Int) ≤ (j : Int) := Int.natCast_nonneg _
      obtain ⟨o, ho⟩ : ∃ o, os[j]? = some o := ⟨_, List.getElem?_eq_getElem (by omega)⟩
      obtain ⟨b, off, hst⟩ := HS.out.1.at ho
      have HA := hid hst
      have HB := hid (HS.out.2 _ (List.mem_of_getElem? ho))
      have hsa := hst.is
      subst hsa
      have HJ := hid (And.intro hj hjn)
      clear hst ho hj hjn
      obtain ⟨t, r⟩ := o
      cases t with
      | true =>
        cases hF : fullS s with
        | false =>
          have hE : turnE s = 18 := by simp [turnE, hF]
          have hok2 : LOk s := hok
          have HCf : Hid (∀ (u : World) (F : List Nat) (v : Value), LdAt F u v s → Calls Try.prog 20 #[v] u fun e w' => ∃ a1 c1, e = .returned (.agg #[.int .i64 (s.ep : Int), .slice a1 s.mem.length c1]) ∧ NewI u.heap.size w' a1 s.mem ∧ Below u.heap.size u w') := hid (fun u F v hu => gconfT (s := s) hu)
          have HNx : Hid (∀ (u : World) (F : List Nat) (v : Value), LdAt F u v s → Calls Try.prog 18 #[v] u fun e w' => ∃ a1 c1, e = .returned (.slice a1 s.nxt.length c1) ∧ NewI u.heap.size w' a1 s.nxt ∧ Below u.heap.size u w') := hid (fun u F v hu => gnextT (s := s) hu)
          have HCf2 : Hid (∀ (u : World) (F : List Nat) (v : Value), LdAt F u v s → Calls Try.prog 20 #[v] u fun e w' => ∃ a1 c1, e = .returned (.agg #[.int .i64 (s.ep : Int), .slice a1 s.mem.length c1]) ∧ NewI u.heap.size w' a1 s.mem ∧ Below u.heap.size u w') := hid (fun u F v hu => gconfT (s := s) hu)
          have HNx2 : Hid (∀ (u : World) (F : List Nat) (v : Value), LdAt F u v s → Calls Try.prog 18 #[v] u fun e w' => ∃ a1 c1, e = .returned (.slice a1 s.nxt.length c1) ∧ NewI u.heap.size w' a1 s.nxt ∧ Below u.heap.size u w') := hid (fun u F v hu => gnextT (s := s) hu)
          have HRt : Hid (∀ (u : World) (ad : Option Addr) (c : Nat), IntsIn u ad s.mem → Calls Try.prog 23 #[.agg #[.int .i64 (s.ep : Int), .slice ad s.mem.length c]] u fun e w' => e = .returned (.bool true) ∧ Below u.heap.size u w') := hid (fun u ad c hu => by have := cright_any (s.ep : Int) ad _ c s.mem rfl (by have h9 : 4 ≤ s.mem.length ∧ s.mem.length ≤ 10 := mem_len hok2.mem; unfold maxLen; omega) u hu; rw [show rightC (s.ep : Int) s.mem = true by have := hok2.cf; exact this] at this; exact this)
          have HRx : Hid (∀ (u : World) (ad : Option Addr) (c : Nat), IntsIn u ad s.nxt → Calls Try.prog 23 #[.agg #[.int .i64 0, .slice ad s.nxt.length c]] u fun e w' => e = .returned (.bool true) ∧ Below u.heap.size u w') := hid (fun u ad c hu => by have := cright_any 0 ad _ c s.nxt rfl (by have h9 : 4 ≤ s.nxt.length ∧ s.nxt.length ≤ 10 := mem_len hok2.nx; unfold maxLen; omega) u hu; rw [show rightC 0 s.nxt = true by have := hok2.nx; exact rightC_zero this] at this; exact this)
          have HML : Hid (s.mem.length ≤ maxLen ∧ s.nxt.length ≤ maxLen) := hid ⟨by have := mem_len hok.mem; unfold maxLen; omega, by have := mem_len hok.nx; unfold maxLen; omega⟩
          have HTu : Hid (∀ (u : World) (F : List Nat) (v : Value), LdAt F u v s → Calls Try.prog 21 #[v] u fun e w' => e = .returned (.int .i64 18) ∧ LdTo F u w' v s) := hid (fun u F v hu => (gturn_any hu).mono fun e w' ⟨h1, h2⟩ => ⟨by rw [hE] at h1; exact h1, by rw [turnS, if_neg (by rw [hE]; decide)] at h2; exact h2⟩)
          have HFu : Hid (∀ (u : World) (F : List Nat) (v : Value), LdAt F u v s → Calls Try.prog 10 #[v] u fun e w' => e = .returned (.bool false) ∧ Below u.heap.size u w') := hid (fun u F v hu => by have := gfullT hu; rw [hF] at this; exact this)
          clear hE hF hok hok2
          generalize (s.ep : Int) = E at *
          generalize s.mem = M at *
          generalize s.nxt = X at *
          go_wp2_with (first
            | (have := H12; go_at_call 23; refine (HRx.out _ _ _ H12.out.r.1).mono ?_; rintro e w13 ⟨rfl, hb⟩; have H13 := hid (H12.out.keep hb); clear hb)
            | (have := H11; go_at_call 18; refine (HNx2.out _ _ _ H11.out.lv.ld).mono ?_; rintro e w12 ⟨a12, c12, rfl, h, hb⟩; have H12 := hid (H11.out.ints h hb); clear h hb)
            | (have := H10; go_at_call 23; refine (HRt.out _ _ _ H10.out.r.1).mono ?_; rintro e w11 ⟨rfl, hb⟩; have H11 := hid (H10.out.keep hb); clear hb)
            | (have := H9; go_at_call 20; refine (HCf2.out _ _ _ H9.out.lv.ld).mono ?_; rintro e w10 ⟨a10, c10, rfl, h, hb⟩; have H10 := hid (H9.out.ints h hb); clear h hb)
            | (go_at_call 22; refine (vsame_yes E a7 a2 _ c7 c2 M rfl HML.out.1 _ H8.out.r.2.1 H8.out.r.2.2.2.2.1).mono ?_; rintro e w9 ⟨rfl, hb⟩; have H9 := hid (H8.out.keep hb); clear hb)
            | (have := H7; refine wl_store_gf rfl _ _ rfl w7.heap.size rfl 0 E (.slice none 0 0) a7 _ c7 rfl (heap_alloc_last w7 _) ?_; intro w8 Hz; have H8 := hid (H7.out.cf Hz.out); clear Hz; obtain ⟨y0, y1⟩ := H8.out.r.1.cells; obtain ⟨x0, x1⟩ := H8.out.r.2.2.1.cells)
            | (have := H6; go_at_call 20; obtain ⟨F6, h6⟩ := H6.out; refine (HCf2.out _ _ _ h6.lv.ld).mono ?_; rintro e w7 ⟨a7, c7, rfl, h, hb⟩; have H7 := hid (h6.ints h hb); clear h hb h6 H6)
            | (go_at_call 21; refine (HTu.out _ _ _ H5.out.lv.ld).mono ?_; rintro e w6 ⟨rfl, h⟩; have H6 := hid (H5.out.to h); clear h x0 x1)
            | (go_at_call 10; refine (HFu.out _ _ _ H4.out.lv.ld).mono ?_; rintro e w5 ⟨rfl, hb⟩; have H5 := hid (H4.out.keep hb); clear hb x0 x1; clear k0 k1 k2 k3 k4 k5 k6; obtain ⟨x0, x1⟩ := H5.out.r.1.cells)
            | (have := H3; refine wl_store_gf rfl _ _ rfl w3.heap.size rfl 0 E (.slice none 0 0) a2 _ c2 rfl (heap_alloc_last w3 _) ?_; intro w4 Hz; have H4 := hid (H3.out.cf Hz.out); clear Hz; have ha := HA.out.keep H4.out.lv.bel; have k0 := ha.k0; have k1 := ha.k1; have k2 := ha.k2; have k3 := ha.k3; have k4 := ha.k4; have k5 := ha.k5; have k6 := ha.k6; clear ha; obtain ⟨x0, x1⟩ := H4.out.r.1.cells)
            | (go_at_call 18; refine (HNx.out _ _ _ H2.out.lv.ld).mono ?_; rintro e w3 ⟨a3, c3, rfl, h, hb⟩; have H3 := hid (H2.out.ints h hb); clear h hb)
            | (go_at_call 20; refine (HCf.out _ _ _ HP.out.lv.ld).mono ?_; rintro e w2 ⟨a2, c2, rfl, h, hb⟩; have H2 := hid (HP.out.ints h hb); clear h hb))
          go_roundw
          case rel => exact ⟨j + 1, _, _, by have := HJ.out; omega, rfl, H13.out.lv⟩
          case measure => have := HJ.out; simp [intOf]; omega
        | true =>
          by_cases hEp : s.ep = 60
          · have hE : turnE s = 3 := by simp [turnE, hF, hEp]
            have hok2 : LOk s := hok
            have HCf : Hid (∀ (u : World) (F : List Nat) (v : Value), LdAt F u v s → Calls Try.prog 20 #[v] u fun e w' => ∃ a1 c1, e = .returned (.agg #[.int .i64 (s.ep : Int), .slice a1 s.mem.length c1]) ∧ NewI u.heap.size w' a1 s.mem ∧ Below u.heap.size u w') := hid (fun u F v hu => gconfT (s := s) hu)
            have HNx : Hid (∀ (u : World) (F : List Nat) (v : Value), LdAt F u v s → Calls Try.prog 18 #[v] u fun e w' => ∃ a1 c1, e = .returned (.slice a1 s.nxt.length c1) ∧ NewI u.heap.size w' a1 s.nxt ∧ Below u.heap.size u w') := hid (fun u F v hu => gnextT (s := s) hu)
            have HCf2 : Hid (∀ (u : World) (F : List Nat) (v : Value), LdAt F u v s → Calls Try.prog 20 #[v] u fun e w' => ∃ a1 c1, e = .returned (.agg #[.int .i64 (s.ep : Int), .slice a1 s.mem.length c1]) ∧ NewI u.heap.size w' a1 s.mem ∧ Below u.heap.size u w') := hid (fun u F v hu => gconfT (s := s) hu)
            have HNx2 : Hid (∀ (u : World) (F : List Nat) (v : Value), LdAt F u v s → Calls Try.prog 18 #[v] u fun e w' => ∃ a1 c1, e = .returned (.slice a1 s.nxt.length c1) ∧ NewI u.heap.size w' a1 s.nxt ∧ Below u.heap.size u w') := hid (fun u F v hu => gnextT (s := s) hu)
            have HRt : Hid (∀ (u : World) (ad : Option Addr) (c : Nat), IntsIn u ad s.mem → Calls Try.prog 23 #[.agg #[.int .i64 (s.ep : Int), .slice ad s.mem.length c]] u fun e w' => e = .returned (.bool true) ∧ Below u.heap.size u w') := hid (fun u ad c hu => by have := cright_any (s.ep : Int) ad _ c s.mem rfl (by have h9 : 4 ≤ s.mem.length ∧ s.mem.length ≤ 10 := mem_len hok2.mem; unfold maxLen; omega) u hu; rw [show rightC (s.ep : Int) s.mem = true by have := hok2.cf; exact this] at this; exact this)
            have HRx : Hid (∀ (u : World) (ad : Option Addr) (c : Nat), IntsIn u ad s.nxt → Calls Try.prog 23 #[.agg #[.int .i64 0, .slice ad s.nxt.length c]] u fun e w' => e = .returned (.bool true) ∧ Below u.heap.size u w') := hid (fun u ad c hu => by have := cright_any 0 ad _ c s.nxt rfl (by have h9 : 4 ≤ s.nxt.length ∧ s.nxt.length ≤ 10 := mem_len hok2.nx; unfold maxLen; omega) u hu; rw [show rightC 0 s.nxt = true by have := hok2.nx; exact rightC_zero this] at this; exact this)
            have HML : Hid (s.mem.length ≤ maxLen ∧ s.nxt.length ≤ maxLen) := hid ⟨by have := mem_len hok.mem; unfold maxLen; omega, by have := mem_len hok.nx; unfold maxLen; omega⟩
            have HTu : Hid (∀ (u : World) (F : List Nat) (v : Value), LdAt F u v s → Calls Try.prog 21 #[v] u fun e w' => e = .returned (.int .i64 3) ∧ LdTo F u w' v s) := hid (fun u F v hu => (gturn_any hu).mono fun e w' ⟨h1, h2⟩ => ⟨by rw [hE] at h1; exact h1, by rw [turnS, if_neg (by rw [hE]; decide)] at h2; exact h2⟩)
            have HFu : Hid (∀ (u : World) (F : List Nat) (v : Value), LdAt F u v s → Calls Try.prog 10 #[v] u fun e w' => e = .returned (.bool true) ∧ Below u.heap.size u w') := hid (fun u F v hu => by have := gfullT hu; rw [hF] at this; exact this)
            have hep : ¬ ((s.ep : Int) < 60) := by omega
            clear hE hF hok hok2 hEp
            generalize (s.ep : Int) = E at *
            generalize s.mem = M at *
            generalize s.nxt = X at *
            go_wp2_with (first
              | (have := H12; go_at_call 23; refine (HRx.out _ _ _ H12.out.r.1).mono ?_; rintro e w13 ⟨rfl, hb⟩; have H13 := hid (H12.out.keep hb); clear hb)
              | (have := H11; go_at_call 18; refine (HNx2.out _ _ _ H11.out.lv.ld).mono ?_; rintro e w12 ⟨a12, c12, rfl, h, hb⟩; have H12 := hid (H11.out.ints h hb); clear h hb)
              | (have := H10; go_at_call 23; refine (HRt.out _ _ _ H10.out.r.1).mono ?_; rintro e w11 ⟨rfl, hb⟩; have H11 := hid (H10.out.keep hb); clear hb)
              | (have := H9; go_at_call 20; refine (HCf2.out _ _ _ H9.out.lv.ld).mono ?_; rintro e w10 ⟨a10, c10, rfl, h, hb⟩; have H10 := hid (H9.out.ints h hb); clear h hb)
              | (go_at_call 22; refine (vsame_yes E a7 a2 _ c7 c2 M rfl HML.out.1 _ H8.out.r.2.1 H8.out.r.2.2.2.2.1).mono ?_; rintro e w9 ⟨rfl, hb⟩; have H9 := hid (H8.out.keep hb); clear hb)
              | (have := H7; refine wl_store_gf rfl _ _ rfl w7.heap.size rfl 0 E (.slice none 0 0) a7 _ c7 rfl (heap_alloc_last w7 _) ?_; intro w8 Hz; have H8 := hid (H7.out.cf Hz.out); clear Hz; obtain ⟨y0, y1⟩ := H8.out.r.1.cells; obtain ⟨x0, x1⟩ := H8.out.r.2.2.1.cells)
              | (have := H6; go_at_call 20; obtain ⟨F6, h6⟩ := H6.out; refine (HCf2.out _ _ _ h6.lv.ld).mono ?_; rintro e w7 ⟨a7, c7, rfl, h, hb⟩; have H7 := hid (h6.ints h hb); clear h hb h6 H6)
              | (go_at_call 21; refine (HTu.out _ _ _ H5.out.lv.ld).mono ?_; rintro e w6 ⟨rfl, h⟩; have H6 := hid (H5.out.to h); clear h x0 x1)
              | (go_at_call 10; refine (HFu.out _ _ _ H4.out.lv.ld).mono ?_; rintro e w5 ⟨rfl, hb⟩; have H5 := hid (H4.out.keep hb); clear hb x0 x1; clear k0 k1 k2 k3 k4 k5 k6; obtain ⟨x0, x1⟩ := H5.out.r.1.cells)
              | (have := H3; refine wl_store_gf rfl _ _ rfl w3.heap.size rfl 0 E (.slice none 0 0) a2 _ c2 rfl (heap_alloc_last w3 _) ?_; intro w4 Hz; have H4 := hid (H3.out.cf Hz.out); clear Hz; have ha := HA.out.keep H4.out.lv.bel; have k0 := ha.k0; have k1 := ha.k1; have k2 := ha.k2; have k3 := ha.k3; have k4 := ha.k4; have k5 := ha.k5; have k6 := ha.k6; clear ha; obtain ⟨x0, x1⟩ := H4.out.r.1.cells)
              | (go_at_call 18; refine (HNx.out _ _ _ H2.out.lv.ld).mono ?_; rintro e w3 ⟨a3, c3, rfl, h, hb⟩; have H3 := hid (H2.out.ints h hb); clear h hb)
              | (go_at_call 20; refine (HCf.out _ _ _ HP.out.lv.ld).mono ?_; rintro e w2 ⟨a2, c2, rfl, h, hb⟩; have H2 := hid (HP.out.ints h hb); clear h hb))
            go_roundw
            case rel => exact ⟨j + 1, _, _, by have := HJ.out; omega, rfl, H13.out.lv⟩
            case measure => have := HJ.out; simp [intOf]; omega
          · have hE : turnE s = 0 := by simp [turnE, hF, hEp]
            have hEp2 : s.ep < 60 := by have := hok.ep; omega
            clear hEp
            have hok2 : LOk { s with ep := s.ep + 1, mem := s.nxt } := by have := turnS_ok hok; rw [turnS, if_pos hE] at this; exact this
            have HCf : Hid (∀ (u : World) (F : List Nat) (v : Value), LdAt F u v s → Calls Try.prog 20 #[v] u fun e w' => ∃ a1 c1, e = .returned (.agg #[.int .i64 (s.ep : Int), .slice a1 s.mem.length c1]) ∧ NewI u.heap.size w' a1 s.mem ∧ Below u.heap.size u w') := hid (fun u F v hu => gconfT (s := s) hu)
            have HNx : Hid (∀ (u : World) (F : List Nat) (v : Value), LdAt F u v s → Calls Try.prog 18 #[v] u fun e w' => ∃ a1 c1, e = .returned (.slice a1 s.nxt.length c1) ∧ NewI u.heap.size w' a1 s.nxt ∧ Below u.heap.size u w') := hid (fun u F v hu => gnextT (s := s) hu)
            have HCf2 : Hid (∀ (u : World) (F : List Nat) (v : Value), LdAt F u v { s with ep := s.ep + 1, mem := s.nxt } → Calls Try.prog 20 #[v] u fun e w' => ∃ a1 c1, e = .returned (.agg #[.int .i64 ((s.ep : Int) + 1), .slice a1 s.nxt.length c1]) ∧ NewI u.heap.size w' a1 s.nxt ∧ Below u.heap.size u w') := hid (fun u F v hu => gconfT (s := { s with ep := s.ep + 1, mem := s.nxt }) hu)
            have HNx2 : Hid (∀ (u : World) (F : List Nat) (v : Value), LdAt F u v { s with ep := s.ep + 1, mem := s.nxt } → Calls Try.prog 18 #[v] u fun e w' => ∃ a1 c1, e = .returned (.slice a1 s.nxt.length c1) ∧ NewI u.heap.size w' a1 s.nxt ∧ Below u.heap.size u w') := hid (fun u F v hu => gnextT (s := { s with ep := s.ep + 1, mem := s.nxt }) hu)
            have HRt : Hid (∀ (u : World) (ad : Option Addr) (c : Nat), IntsIn u ad s.nxt → Calls Try.prog 23 #[.agg #[.int .i64 ((s.ep : Int) + 1), .slice ad s.nxt.length c]] u fun e w' => e = .returned (.bool true) ∧ Below u.heap.size u w') := hid (fun u ad c hu => by have := cright_any ((s.ep : Int) + 1) ad _ c s.nxt rfl (by have h9 : 4 ≤ s.nxt.length ∧ s.nxt.length ≤ 10 := mem_len hok2.mem; unfold maxLen; omega) u hu; rw [show rightC ((s.ep : Int) + 1) s.nxt = true by have := hok2.cf; exact this] at this; exact this)
            have HRx : Hid (∀ (u : World) (ad : Option Addr) (c : Nat), IntsIn u ad s.nxt → Calls Try.prog 23 #[.agg #[.int .i64 0, .slice ad s.nxt.length c]] u fun e w' => e = .returned (.bool true) ∧ Below u.heap.size u w') := hid (fun u ad c hu => by have := cright_any 0 ad _ c s.nxt rfl (by have h9 : 4 ≤ s.nxt.length ∧ s.nxt.length ≤ 10 := mem_len hok2.nx; unfold maxLen; omega) u hu; rw [show rightC 0 s.nxt = true by have := hok2.nx; exact rightC_zero this] at this; exact this)
            have HML : Hid (s.mem.length ≤ maxLen ∧ s.nxt.length ≤ maxLen) := hid ⟨by have := mem_len hok.mem; unfold maxLen; omega, by have := mem_len hok.nx; unfold maxLen; omega⟩
            have HTu : Hid (∀ (u : World) (F : List Nat) (v : Value), LdAt F u v s → Calls Try.prog 21 #[v] u fun e w' => e = .returned (.int .i64 0) ∧ LdTo F u w' v { s with ep := s.ep + 1, mem := s.nxt }) := hid (fun u F v hu => (gturn_any hu).mono fun e w' ⟨h1, h2⟩ => ⟨by rw [hE] at h1; exact h1, by rw [turnS, if_pos hE] at h2; exact h2⟩)
            have HFu : Hid (∀ (u : World) (F : List Nat) (v : Value), LdAt F u v s → Calls Try.prog 10 #[v] u fun e w' => e = .returned (.bool true) ∧ Below u.heap.size u w') := hid (fun u F v hu => by have := gfullT hu; rw [hF] at this; exact this)
            have hep : (s.ep : Int) < 60 := by omega
            have hep0 : (0 : Int) ≤ (s.ep : Int) := Int.natCast_nonneg _
            clear hE hF hok hok2
            generalize { s with ep := s.ep + 1, mem := s.nxt } = S2 at *
            generalize (s.ep : Int) = E at *
            generalize s.mem = M at *
            generalize s.nxt = X at *
            go_wp2_with (first
              | (have := H12; go_at_call 23; refine (HRx.out _ _ _ H12.out.r.1).mono ?_; rintro e w13 ⟨rfl, hb⟩; have H13 := hid (H12.out.keep hb); clear hb)
              | (have := H11; go_at_call 18; refine (HNx2.out _ _ _ H11.out.lv.ld).mono ?_; rintro e w12 ⟨a12, c12, rfl, h, hb⟩; have H12 := hid (H11.out.ints h hb); clear h hb)
              | (have := H10; go_at_call 23; refine (HRt.out _ _ _ H10.out.r.1).mono ?_; rintro e w11 ⟨rfl, hb⟩; have H11 := hid (H10.out.keep hb); clear hb)
              | (have := H9; go_at_call 20; refine (HCf2.out _ _ _ H9.out.lv.ld).mono ?_; rintro e w10 ⟨a10, c10, rfl, h, hb⟩; have H10 := hid (H9.out.ints h hb); clear h hb)
              | (go_at_call 17; refine (sameInts_any a7 a3 _ c7 c3 X rfl HML.out.2 _ H8.out.r.2.1 H8.out.r.2.2.2.1).mono ?_; rintro e w9 ⟨rfl, hb⟩; have H9 := hid (H8.out.keep hb); clear hb)
              | (have := H7; refine wl_store_gf rfl _ _ rfl w7.heap.size rfl 0 (E + 1) (.slice none 0 0) a7 _ c7 rfl (heap_alloc_last w7 _) ?_; intro w8 Hz; have H8 := hid (H7.out.cf Hz.out); clear Hz; obtain ⟨y0, y1⟩ := H8.out.r.1.cells; obtain ⟨x0, x1⟩ := H8.out.r.2.2.1.cells)
              | (have := H6; go_at_call 20; obtain ⟨F6, h6⟩ := H6.out; refine (HCf2.out _ _ _ h6.lv.ld).mono ?_; rintro e w7 ⟨a7, c7, rfl, h, hb⟩; have H7 := hid (h6.ints h hb); clear h hb h6 H6)
              | (go_at_call 21; refine (HTu.out _ _ _ H5.out.lv.ld).mono ?_; rintro e w6 ⟨rfl, h⟩; have H6 := hid (H5.out.to h); clear h x0 x1)
              | (go_at_call 10; refine (HFu.out _ _ _ H4.out.lv.ld).mono ?_; rintro e w5 ⟨rfl, hb⟩; have H5 := hid (H4.out.keep hb); clear hb x0 x1; clear k0 k1 k2 k3 k4 k5 k6; obtain ⟨x0, x1⟩ := H5.out.r.1.cells)
              | (have := H3; refine wl_store_gf rfl _ _ rfl w3.heap.size rfl 0 E (.slice none 0 0) a2 _ c2 rfl (heap_alloc_last w3 _) ?_; intro w4 Hz; have H4 := hid (H3.out.cf Hz.out); clear Hz; have ha := HA.out.keep H4.out.lv.bel; have k0 := ha.k0; have k1 := ha.k1; have k2 := ha.k2; have k3 := ha.k3; have k4 := ha.k4; have k5 := ha.k5; have k6 := ha.k6; clear ha; obtain ⟨x0, x1⟩ := H4.out.r.1.cells)
              | (go_at_call 18; refine (HNx.out _ _ _ H2.out.lv.ld).mono ?_; rintro e w3 ⟨a3, c3, rfl, h, hb⟩; have H3 := hid (H2.out.ints h hb); clear h hb)
              | (go_at_call 20; refine (HCf.out _ _ _ HP.out.lv.ld).mono ?_; rintro e w2 ⟨a2, c2, rfl, h, hb⟩; have H2 := hid (HP.out.ints h hb); clear h hb))
            go_roundw
            case rel => exact ⟨j + 1, _, _, by have := HJ.out; omega, rfl, H13.out.lv⟩
            case measure => have := HJ.out; simp [intOf]; omega
      | false =>
        obtain ⟨d1, d2, d3 | ⟨m1, m2, m3, m4⟩ | ⟨m1, m2, m3, m4⟩⟩ := do_moves s r
        · skip
          have hok2 : LOk (doS s r) := doS_ok hok HB.out.2
          have HCf : Hid (∀ (u : World) (F : List Nat) (v : Value), LdAt F u v s → Calls Try.prog 20 #[v] u fun e w' => ∃ a1 c1, e = .returned (.agg #[.int .i64 (s.ep : Int), .slice a1 s.mem.length c1]) ∧ NewI u.heap.size w' a1 s.mem ∧ Below u.heap.size u w') := hid (fun u F v hu => gconfT (s := s) hu)
          have HNx : Hid (∀ (u : World) (F : List Nat) (v : Value), LdAt F u v s → Calls Try.prog 18 #[v] u fun e w' => ∃ a1 c1, e = .returned (.slice a1 s.nxt.length c1) ∧ NewI u.heap.size w' a1 s.nxt ∧ Below u.heap.size u w') := hid (fun u F v hu => gnextT (s := s) hu)
          have HCf2 : Hid (∀ (u : World) (F : List Nat) (v : Value), LdAt F u v (doS s r) → Calls Try.prog 20 #[v] u fun e w' => ∃ a1 c1, e = .returned (.agg #[.int .i64 (s.ep : Int), .slice a1 s.mem.length c1]) ∧ NewI u.heap.size w' a1 s.mem ∧ Below u.heap.size u w') := hid (fun u F v hu => by have := gconfT hu; rw [d1, d2] at this; exact this)
          have HNx2 : Hid (∀ (u : World) (F : List Nat) (v : Value), LdAt F u v (doS s r) → Calls Try.prog 18 #[v] u fun e w' => ∃ a1 c1, e = .returned (.slice a1 s.nxt.length c1) ∧ NewI u.heap.size w' a1 s.nxt ∧ Below u.heap.size u w') := hid (fun u F v hu => by have := gnextT hu; rw [d3] at this; exact this)
          have HRt : Hid (∀ (u : World) (ad : Option Addr) (c : Nat), IntsIn u ad s.mem → Calls Try.prog 23 #[.agg #[.int .i64 (s.ep : Int), .slice ad s.mem.length c]] u fun e w' => e = .returned (.bool true) ∧ Below u.heap.size u w') := hid (fun u ad c hu => by have := cright_any (s.ep : Int) ad _ c s.mem rfl (by have := mem_len hok.mem; unfold maxLen; omega) u hu; rw [hok.cf] at this; exact this)
          have HRx : Hid (∀ (u : World) (ad : Option Addr) (c : Nat), IntsIn u ad s.nxt → Calls Try.prog 23 #[.agg #[.int .i64 0, .slice ad s.nxt.length c]] u fun e w' => e = .returned (.bool true) ∧ Below u.heap.size u w') := hid (fun u ad c hu => by have := cright_any 0 ad _ c s.nxt rfl (by have := mem_len hok.nx; unfold maxLen; omega) u hu; rw [rightC_zero hok.nx] at this; exact this)
          have HML : Hid (s.mem.length ≤ maxLen ∧ s.nxt.length ≤ maxLen) := hid ⟨by have := mem_len hok.mem; unfold maxLen; omega, by have := mem_len hok.nx; unfold maxLen; omega⟩
          have HDo : Hid (∀ (u : World) (F : List Nat) (v : Value), LdAt F u v s → Calls Try.prog 9 #[v, .agg #[.int .i64 r.c, .int .i64 r.st, .int .i64 r.k, .string r.key, .float .f64 r.b, .int .i64 r.id]] u fun e w' => e = .returned (.tuple #[.agg #[.int .i64 (doC s r), .float .f64 (doF s r)], .int .i64 (doE s r)]) ∧ LdTo F u w' v (doS s r)) := hid (fun u F v hu => (gdo_any hu r HB.out.2).mono fun e w' ⟨h1, h2⟩ => ⟨h1, h2⟩)
          have hdf : (s.nxt.length : Int) - (s.nxt.length : Int) = 0 := Int.sub_self _
          have hx1 : (s.nxt.length : Int) ≤ 10 := by have := mem_len hok.nx; omega
          have hx0 : (0 : Int) ≤ (s.nxt.length : Int) := Int.natCast_nonneg _
          clear hok hok2 d1 d2 d3
          generalize doC s r = C at *
          generalize doE s r = D at *
          generalize doF s r = G at *
          generalize (doS s r) = S2 at *
          generalize (s.ep : Int) = E at *
          generalize s.mem = M at *
          generalize s.nxt = X at *
          go_upto_region 19 with (first
            | (have := H7; go_at_call 18; refine (HNx2.out _ _ _ H7.out.lv.ld).mono ?_; rintro e w8 ⟨a8, c8, rfl, h, hb⟩; have H8 := hid (H7.out.keep hb); clear h hb; have ha := HA.out.keep H8.out.lv.bel; have k0 := ha.k0; have k1 := ha.k1; have k2 := ha.k2; have k3 := ha.k3; have k4 := ha.k4; have k5 := ha.k5; have k6 := ha.k6; clear ha)
            | (have := H6; refine wl_store_rs rfl _ _ rfl w6.heap.size rfl 0 C 0 G rfl (heap_alloc_last w6 _) ?_; intro w7 Hz; obtain ⟨F6, h6⟩ := H6.out; have H7 := hid (h6.res Hz.out); clear Hz h6 H6)
            | (go_at_call 9; refine (HDo.out _ _ _ H5.out.lv.ld).mono ?_; rintro e w6 ⟨rfl, h⟩; have H6 := hid (H5.out.to h); clear h)
            | (go_at_call 7; refine (drequest_any r _).mono ?_; rintro e w5 ⟨rfl, hb⟩; have H5 := hid (H4.out.keep hb); clear hb x0 x1; clear k0 k1 k2 k3 k4 k5 k6)
            | (have := H3; refine wl_store_gf rfl _ _ rfl w3.heap.size rfl 0 E (.slice none 0 0) a2 _ c2 rfl (heap_alloc_last w3 _) ?_; intro w4 Hz; have H4 := hid (H3.out.cf Hz.out); clear Hz; have ha := HA.out.keep H4.out.lv.bel; have k0 := ha.k0; have k1 := ha.k1; have k2 := ha.k2; have k3 := ha.k3; have k4 := ha.k4; have k5 := ha.k5; have k6 := ha.k6; clear ha; obtain ⟨x0, x1⟩ := H4.out.r.1.cells)
            | (go_at_call 18; refine (HNx.out _ _ _ H2.out.lv.ld).mono ?_; rintro e w3 ⟨a3, c3, rfl, h, hb⟩; have H3 := hid (H2.out.ints h hb); clear h hb)
            | (go_at_call 20; refine (HCf.out _ _ _ HP.out.lv.ld).mono ?_; rintro e w2 ⟨a2, c2, rfl, h, hb⟩; have H2 := hid (HP.out.ints h hb); clear h hb))
          try rw [hdf]
          clear k0 k1 k2 k3 k4 k5 k6 hdf
          have H9 := hid H8.out.drew
          refine wp_region_held (S := fun ww => GfAt ww w3.heap.size E (.slice a2 M.length c2) ∧ RsAt ww w6.heap.size C G) (by kernel_rfl) ?_
          try (change wpAnyH _ _ _ _ _ _ _ _ (World.drew _))
          refine wpAnyH_take (i := 0) (v := ?v1) rfl (by kernel_rfl) (by kernel_rfl) (by kernel_rfl) (fun _ _ _ h => h) (Or.inl ⟨by rfl, ?hy1⟩) ⟨H9.out.r.2.1, H9.out.r.1⟩ ?rest1
          case hy1 => (intro ww _; go_simp; try with_reducible rfl)
          go_simp
          refine wpAnyH_take (i := 2) (v := ?v2) rfl (by kernel_rfl) (by kernel_rfl) (by kernel_rfl) (fun _ _ _ h => h) (Or.inl ⟨by rfl, ?hy2⟩) ⟨H9.out.r.2.1, H9.out.r.1⟩ ?rest2
          case hy2 => (intro ww hS; obtain ⟨x0, x1⟩ := hS.1.cells; obtain ⟨y0, y1⟩ := hS.2.cells; go_simp; try with_reducible rfl)
          go_simp
          refine wpAnyH_all (rs := [1]) (by kernel_rfl) (by simp) ?_
          intro i hi
          obtain rfl := List.mem_singleton.1 hi
          clear hi
          refine wpOp_m rfl (by rfl) (fun K hK => ?_)
          go_simp
          refine (HCf2.out _ _ _ H9.out.lv.ld).mono ?_
          rintro e w10 ⟨a10, c10, rfl, h, hb⟩
          have H10 := hid (H9.out.ints h hb)
          clear h hb
          refine hK _ _ ⟨⟨H10.out.r.2.2.1, H10.out.r.2.1⟩, ?_⟩
          clear hK K
          go_simp
          refine wpAnyH_all (rs := [3]) (by kernel_rfl) (by simp) ?_
          intro i hi
          obtain rfl := List.mem_singleton.1 hi
          clear hi
          refine wpOp_m rfl (by rfl) (fun K hK => ?_)
          go_simp
          refine (vsame_yes E a10 a2 _ c10 c2 M rfl HML.out.1 _ H10.out.r.1 H10.out.r.2.2.2.2.1).mono ?_
          rintro e w11 ⟨rfl, hb⟩
          have H11 := hid (H10.out.keep hb)
          clear hb
          refine hK _ _ ⟨⟨H11.out.r.2.2.1, H11.out.r.2.1⟩, ?_⟩
          clear hK K
          go_simp
          refine wpAnyH_take (i := 4) (v := ?v3) rfl (by kernel_rfl) (by kernel_rfl) (by kernel_rfl) (fun _ _ _ h => h) (Or.inl ⟨by rfl, ?hy3⟩) ⟨H11.out.r.2.2.1, H11.out.r.2.1⟩ ?rest3
          case hy3 => (intro ww _; go_simp; try with_reducible rfl)
          go_simp
          refine wpAnyH_take (i := 5) (v := ?v4) rfl (by kernel_rfl) (by kernel_rfl) (by kernel_rfl) (fun _ _ _ h => h) (Or.inl ⟨by rfl, ?hy4⟩) ⟨H11.out.r.2.2.1, H11.out.r.2.1⟩ ?rest4
          case hy4 => (intro ww _; go_simp; try with_reducible rfl)
          go_simp
          refine wpAnyH_take (i := 6) (v := ?v5) rfl (by kernel_rfl) (by kernel_rfl) (by kernel_rfl) (fun _ _ _ h => h) (Or.inl ⟨by rfl, ?hy5⟩) ⟨H11.out.r.2.2.1, H11.out.r.2.1⟩ ?rest5
          case hy5 => (intro ww _; go_simp; try with_reducible rfl)
          go_simp
          refine wpAnyH_take (i := 7) (v := ?v6) rfl (by kernel_rfl) (by kernel_rfl) (by kernel_rfl) (fun _ _ _ h => h) (Or.inl ⟨by rfl, ?hy6⟩) ⟨H11.out.r.2.2.1, H11.out.r.2.1⟩ ?rest6
          case hy6 => (intro ww _; go_simp; try with_reducible rfl)
          go_simp
          refine wpAnyH_take (i := 8) (v := ?v7) rfl (by kernel_rfl) (by kernel_rfl) (by kernel_rfl) (fun _ _ _ h => h) (Or.inl ⟨by rfl, ?hy7⟩) ⟨H11.out.r.2.2.1, H11.out.r.2.1⟩ ?rest7
          case hy7 => (intro ww _; go_simp; try with_reducible rfl)
          go_simp
          refine wpAnyH_take (i := 9) (v := ?v8) rfl (by kernel_rfl) (by kernel_rfl) (by kernel_rfl) (fun _ _ _ h => h) (Or.inl ⟨by rfl, ?hy8⟩) ⟨H11.out.r.2.2.1, H11.out.r.2.1⟩ ?rest8
          case hy8 => (intro ww _; go_simp; try with_reducible rfl)
          go_simp
          refine wpAnyH_take (i := 10) (v := ?v9) rfl (by kernel_rfl) (by kernel_rfl) (by kernel_rfl) (fun _ _ _ h => h) (Or.inl ⟨by rfl, ?hy9⟩) ⟨H11.out.r.2.2.1, H11.out.r.2.1⟩ ?rest9
          case hy9 => (intro ww _; go_simp; try with_reducible rfl)
          go_simp
          refine wpAnyH_take (i := 11) (v := ?v10) rfl (by kernel_rfl) (by kernel_rfl) (by kernel_rfl) (fun _ _ _ h => h) (Or.inl ⟨by rfl, ?hy10⟩) ⟨H11.out.r.2.2.1, H11.out.r.2.1⟩ ?rest10
          case hy10 => (intro ww _; go_simp; try with_reducible rfl)
          go_simp
          refine wpAnyH_take (i := 12) (v := ?v11) rfl (by kernel_rfl) (by kernel_rfl) (by kernel_rfl) (fun _ _ _ h => h) (Or.inl ⟨by rfl, ?hy11⟩) ⟨H11.out.r.2.2.1, H11.out.r.2.1⟩ ?rest11
          case hy11 => (intro ww _; go_simp; try with_reducible rfl)
          go_simp
          refine wpAnyH_take (i := 13) (v := ?v12) rfl (by kernel_rfl) (by kernel_rfl) (by kernel_rfl) (fun _ _ _ h => h) (Or.inl ⟨by rfl, ?hy12⟩) ⟨H11.out.r.2.2.1, H11.out.r.2.1⟩ ?rest12
          case hy12 => (intro ww _; go_simp; try with_reducible rfl)
          go_simp
          refine wpAnyH_take (i := 14) (v := ?v13) rfl (by kernel_rfl) (by kernel_rfl) (by kernel_rfl) (fun _ _ _ h => h) (Or.inl ⟨by rfl, ?hy13⟩) ⟨H11.out.r.2.2.1, H11.out.r.2.1⟩ ?rest13
          case hy13 => (intro ww _; go_simp; try with_reducible rfl)
          go_simp
          refine wpAnyH_take (i := 15) (v := ?v14) rfl (by kernel_rfl) (by kernel_rfl) (by kernel_rfl) (fun _ _ _ h => h) (Or.inl ⟨by rfl, ?hy14⟩) ⟨H11.out.r.2.2.1, H11.out.r.2.1⟩ ?rest14
          case hy14 => (intro ww _; go_simp; try with_reducible rfl)
          go_simp
          refine wpAnyH_take (i := 16) (v := ?v15) rfl (by kernel_rfl) (by kernel_rfl) (by kernel_rfl) (fun _ _ _ h => h) (Or.inl ⟨by rfl, ?hy15⟩) ⟨H11.out.r.2.2.1, H11.out.r.2.1⟩ ?rest15
          case hy15 => (intro ww _; go_simp; try with_reducible rfl)
          go_simp
          refine wpAnyH_take (i := 17) (v := undef) rfl (by kernel_rfl) (by kernel_rfl) (by kernel_rfl) (fun _ _ _ h => h) (Or.inr ⟨by rfl, rfl⟩) ⟨H11.out.r.2.2.1, H11.out.r.2.1⟩ ?rest16
          go_simp
          refine wpAnyH_take (i := 18) (v := undef) rfl (by kernel_rfl) (by kernel_rfl) (by kernel_rfl) (fun _ _ _ h => h) (Or.inr ⟨by rfl, rfl⟩) ⟨H11.out.r.2.2.1, H11.out.r.2.1⟩ ?rest17
          go_simp
          refine wpAnyH_take (i := 19) (v := ?v18) rfl (by kernel_rfl) (by kernel_rfl) (by kernel_rfl) (fun _ _ _ h => h) (Or.inl ⟨by rfl, ?hy18⟩) ⟨H11.out.r.2.2.1, H11.out.r.2.1⟩ ?rest18
          case hy18 => (intro ww _; go_simp; try with_reducible rfl)
          go_simp
          refine wpAnyH_take (i := 20) (v := ?v19) rfl (by kernel_rfl) (by kernel_rfl) (by kernel_rfl) (fun _ _ _ h => h) (Or.inl ⟨by rfl, ?hy19⟩) ⟨H11.out.r.2.2.1, H11.out.r.2.1⟩ ?rest19
          case hy19 => (intro ww _; go_simp; try with_reducible rfl)
          go_simp
          refine wpAnyH_take (i := 21) (v := ?v20) rfl (by kernel_rfl) (by kernel_rfl) (by kernel_rfl) (fun _ _ _ h => h) (Or.inl ⟨by rfl, ?hy20⟩) ⟨H11.out.r.2.2.1, H11.out.r.2.1⟩ ?rest20
          case hy20 => (intro ww _; go_simp; try with_reducible rfl)
          go_simp
          refine wpAnyH_take (i := 22) (v := ?v21) rfl (by kernel_rfl) (by kernel_rfl) (by kernel_rfl) (fun _ _ _ h => h) (Or.inl ⟨by rfl, ?hy21⟩) ⟨H11.out.r.2.2.1, H11.out.r.2.1⟩ ?rest21
          case hy21 => (intro ww _; go_simp; try with_reducible rfl)
          go_simp
          refine wpAnyH_take (i := 23) (v := ?v22) rfl (by kernel_rfl) (by kernel_rfl) (by kernel_rfl) (fun _ _ _ h => h) (Or.inl ⟨by rfl, ?hy22⟩) ⟨H11.out.r.2.2.1, H11.out.r.2.1⟩ ?rest22
          case hy22 => (intro ww _; go_simp; try with_reducible rfl)
          go_simp
          refine wpAnyH_take (i := 24) (v := ?v23) rfl (by kernel_rfl) (by kernel_rfl) (by kernel_rfl) (fun _ _ _ h => h) (Or.inl ⟨by rfl, ?hy23⟩) ⟨H11.out.r.2.2.1, H11.out.r.2.1⟩ ?rest23
          case hy23 => (intro ww _; go_simp; try with_reducible rfl)
          go_simp
          refine wpAnyH_take (i := 25) (v := undef) rfl (by kernel_rfl) (by kernel_rfl) (by kernel_rfl) (fun _ _ _ h => h) (Or.inr ⟨by rfl, rfl⟩) ⟨H11.out.r.2.2.1, H11.out.r.2.1⟩ ?rest24
          go_simp
          refine wpAnyH_take (i := 26) (v := undef) rfl (by kernel_rfl) (by kernel_rfl) (by kernel_rfl) (fun _ _ _ h => h) (Or.inr ⟨by rfl, rfl⟩) ⟨H11.out.r.2.2.1, H11.out.r.2.1⟩ ?rest25
          go_simp
          refine wpAnyH_take (i := 27) (v := ?v26) rfl (by kernel_rfl) (by kernel_rfl) (by kernel_rfl) (fun _ _ _ h => h) (Or.inl ⟨by rfl, ?hy26⟩) ⟨H11.out.r.2.2.1, H11.out.r.2.1⟩ ?rest26
          case hy26 => (intro ww _; go_simp; try with_reducible rfl)
          go_simp
          refine wpAnyH_take (i := 28) (v := ?v27) rfl (by kernel_rfl) (by kernel_rfl) (by kernel_rfl) (fun _ _ _ h => h) (Or.inl ⟨by rfl, ?hy27⟩) ⟨H11.out.r.2.2.1, H11.out.r.2.1⟩ ?rest27
          case hy27 => (intro ww _; go_simp; try with_reducible rfl)
          go_simp
          refine wpAnyH_take (i := 29) (v := ?v28) rfl (by kernel_rfl) (by kernel_rfl) (by kernel_rfl) (fun _ _ _ h => h) (Or.inl ⟨by rfl, ?hy28⟩) ⟨H11.out.r.2.2.1, H11.out.r.2.1⟩ ?rest28
          case hy28 => (intro ww _; go_simp; try with_reducible rfl)
          go_simp
          refine wpAnyH_take (i := 30) (v := ?v29) rfl (by kernel_rfl) (by kernel_rfl) (by kernel_rfl) (fun _ _ _ h => h) (Or.inl ⟨by rfl, ?hy29⟩) ⟨H11.out.r.2.2.1, H11.out.r.2.1⟩ ?rest29
          case hy29 => (intro ww _; go_simp; try with_reducible rfl)
          go_simp
          refine wpAnyH_take (i := 31) (v := ?v30) rfl (by kernel_rfl) (by kernel_rfl) (by kernel_rfl) (fun _ _ _ h => h) (Or.inl ⟨by rfl, ?hy30⟩) ⟨H11.out.r.2.2.1, H11.out.r.2.1⟩ ?rest30
          case hy30 => (intro ww _; go_simp; try with_reducible rfl)
          go_simp
          refine wpAnyH_take (i := 32) (v := ?v31) rfl (by kernel_rfl) (by kernel_rfl) (by kernel_rfl) (fun _ _ _ h => h) (Or.inl ⟨by rfl, ?hy31⟩) ⟨H11.out.r.2.2.1, H11.out.r.2.1⟩ ?rest31
          case hy31 => (intro ww _; go_simp; try with_reducible rfl)
          go_simp
          refine wpAnyH_take (i := 33) (v := undef) rfl (by kernel_rfl) (by kernel_rfl) (by kernel_rfl) (fun _ _ _ h => h) (Or.inr ⟨by rfl, rfl⟩) ⟨H11.out.r.2.2.1, H11.out.r.2.1⟩ ?rest32
          go_simp
          refine wpAnyH_take (i := 34) (v := undef) rfl (by kernel_rfl) (by kernel_rfl) (by kernel_rfl) (fun _ _ _ h => h) (Or.inr ⟨by rfl, rfl⟩) ⟨H11.out.r.2.2.1, H11.out.r.2.1⟩ ?rest33
          go_simp
          refine wpAnyH_take (i := 35) (v := undef) rfl (by kernel_rfl) (by kernel_rfl) (by kernel_rfl) (fun _ _ _ h => h) (Or.inr ⟨by rfl, rfl⟩) ⟨H11.out.r.2.2.1, H11.out.r.2.1⟩ ?rest34
          go_simp
          refine wpAnyH_take (i := 36) (v := undef) rfl (by kernel_rfl) (by kernel_rfl) (by kernel_rfl) (fun _ _ _ h => h) (Or.inr ⟨by rfl, rfl⟩) ⟨H11.out.r.2.2.1, H11.out.r.2.1⟩ ?rest35
          go_simp
          refine wpAnyH_take (i := 37) (v := undef) rfl (by kernel_rfl) (by kernel_rfl) (by kernel_rfl) (fun _ _ _ h => h) (Or.inr ⟨by rfl, rfl⟩) ⟨H11.out.r.2.2.1, H11.out.r.2.1⟩ ?rest36
          go_simp
          refine wpAnyH_take (i := 38) (v := undef) rfl (by kernel_rfl) (by kernel_rfl) (by kernel_rfl) (fun _ _ _ h => h) (Or.inr ⟨by rfl, rfl⟩) ⟨H11.out.r.2.2.1, H11.out.r.2.1⟩ ?rest37
          go_simp
          refine wpAnyH_take (i := 39) (v := undef) rfl (by kernel_rfl) (by kernel_rfl) (by kernel_rfl) (fun _ _ _ h => h) (Or.inr ⟨by rfl, rfl⟩) ⟨H11.out.r.2.2.1, H11.out.r.2.1⟩ ?rest38
          go_simp
          refine wpAnyH_take (i := 40) (v := ?v39) rfl (by kernel_rfl) (by kernel_rfl) (by kernel_rfl) (fun _ _ _ h => h) (Or.inl ⟨by rfl, ?hy39⟩) ⟨H11.out.r.2.2.1, H11.out.r.2.1⟩ ?rest39
          case hy39 => (intro ww _; go_simp; try with_reducible rfl)
          go_simp
          refine wpAnyH_take (i := 41) (v := ?v40) rfl (by kernel_rfl) (by kernel_rfl) (by kernel_rfl) (fun _ _ _ h => h) (Or.inl ⟨by rfl, ?hy40⟩) ⟨H11.out.r.2.2.1, H11.out.r.2.1⟩ ?rest40
          case hy40 => (intro ww _; go_simp; try with_reducible rfl)
          go_simp
          refine wpAnyH_take (i := 42) (v := ?v41) rfl (by kernel_rfl) (by kernel_rfl) (by kernel_rfl) (fun _ _ _ h => h) (Or.inl ⟨by rfl, ?hy41⟩) ⟨H11.out.r.2.2.1, H11.out.r.2.1⟩ ?rest41
          case hy41 => (intro ww _; go_simp; try with_reducible rfl)
          go_simp
          refine wpAnyH_take (i := 43) (v := ?v42) rfl (by kernel_rfl) (by kernel_rfl) (by kernel_rfl) (fun _ _ _ h => h) (Or.inl ⟨by rfl, ?hy42⟩) ⟨H11.out.r.2.2.1, H11.out.r.2.1⟩ ?rest42
          case hy42 => (intro ww _; go_simp; try with_reducible rfl)
          go_simp
          refine wpAnyH_take (i := 44) (v := ?v43) rfl (by kernel_rfl) (by kernel_rfl) (by kernel_rfl) (fun _ _ _ h => h) (Or.inl ⟨by rfl, ?hy43⟩) ⟨H11.out.r.2.2.1, H11.out.r.2.1⟩ ?rest43
          case hy43 => (intro ww _; go_simp; try with_reducible rfl)
          go_simp
          refine wpAnyH_take (i := 45) (v := ?v44) rfl (by kernel_rfl) (by kernel_rfl) (by kernel_rfl) (fun _ _ _ h => h) (Or.inl ⟨by rfl, ?hy44⟩) ⟨H11.out.r.2.2.1, H11.out.r.2.1⟩ ?rest44
          case hy44 => (intro ww _; go_simp; try with_reducible rfl)
          go_simp
          refine wpAnyH_take (i := 46) (v := ?v45) rfl (by kernel_rfl) (by kernel_rfl) (by kernel_rfl) (fun _ _ _ h => h) (Or.inl ⟨by rfl, ?hy45⟩) ⟨H11.out.r.2.2.1, H11.out.r.2.1⟩ ?rest45
          case hy45 => (intro ww _; go_simp; try with_reducible rfl)
          go_simp
          refine wpAnyH_take (i := 48) (v := ?v46) rfl (by kernel_rfl) (by kernel_rfl) (by kernel_rfl) (fun _ _ _ h => h) (Or.inl ⟨by rfl, ?hy46⟩) ⟨H11.out.r.2.2.1, H11.out.r.2.1⟩ ?rest46
          case hy46 => (intro ww _; go_simp; try with_reducible rfl)
          go_simp
          refine wpAnyH_all (rs := [47]) (by kernel_rfl) (by simp) ?_
          intro i hi
          obtain rfl := List.mem_singleton.1 hi
          clear hi
          refine wpOp_m rfl (by rfl) (fun K hK => ?_)
          go_simp
          refine (HNx2.out _ _ _ H11.out.lv.ld).mono ?_
          rintro e w12 ⟨a12, c12, rfl, h, hb⟩
          have H12 := hid (H11.out.ints h hb)
          clear h hb
          refine hK _ _ ⟨⟨H12.out.r.2.2.2.1, H12.out.r.2.2.1⟩, ?_⟩
          clear hK K
          go_simp
          refine wpAnyH_all (rs := [49]) (by kernel_rfl) (by simp) ?_
          intro i hi
          obtain rfl := List.mem_singleton.1 hi
          clear hi
          refine wpOp_m rfl (by rfl) (fun K hK => ?_)
          go_simp
          refine (sameInts_any a12 a3 _ c12 c3 X rfl HML.out.2 _ H12.out.r.1 H12.out.r.2.2.2.2.1).mono ?_
          rintro e w13 ⟨rfl, hb⟩
          have H13 := hid (H12.out.keep hb)
          clear hb
          refine hK _ _ ⟨⟨H13.out.r.2.2.2.1, H13.out.r.2.2.1⟩, ?_⟩
          clear hK K
          go_simp
          refine wpAnyH_take (i := 50) (v := ?v47) rfl (by kernel_rfl) (by kernel_rfl) (by kernel_rfl) (fun _ _ _ h => h) (Or.inl ⟨by rfl, ?hy47⟩) ⟨H13.out.r.2.2.2.1, H13.out.r.2.2.1⟩ ?rest47
          case hy47 => (intro ww _; go_simp; try with_reducible rfl)
          go_simp
          refine wpAnyH_take (i := 51) (v := ?v48) rfl (by kernel_rfl) (by kernel_rfl) (by kernel_rfl) (fun _ _ _ h => h) (Or.inl ⟨by rfl, ?hy48⟩) ⟨H13.out.r.2.2.2.1, H13.out.r.2.2.1⟩ ?rest48
          case hy48 => (intro ww _; go_simp; try with_reducible rfl)
          go_simp
          refine wpAnyH_take (i := 52) (v := ?v49) rfl (by kernel_rfl) (by kernel_rfl) (by kernel_rfl) (fun _ _ _ h => h) (Or.inl ⟨by rfl, ?hy49⟩) ⟨H13.out.r.2.2.2.1, H13.out.r.2.2.1⟩ ?rest49
          case hy49 => (intro ww _; go_simp; try with_reducible rfl)
          go_simp
          refine wpAnyH_done (by kernel_rfl) ?_ _
          go_simp
          go_wp2_with (first
            | (have := H16; go_at_call 23; refine (HRx.out _ _ _ H16.out.r.1).mono ?_; rintro e w17 ⟨rfl, hb⟩; have H17 := hid (H16.out.keep hb); clear hb)
            | (have := H15; go_at_call 18; refine (HNx2.out _ _ _ H15.out.lv.ld).mono ?_; rintro e w16 ⟨a16, c16, rfl, h, hb⟩; have H16 := hid (H15.out.ints h hb); clear h hb)
            | (have := H14; go_at_call 23; refine (HRt.out _ _ _ H14.out.r.1).mono ?_; rintro e w15 ⟨rfl, hb⟩; have H15 := hid (H14.out.keep hb); clear hb)
            | (have := H13; go_at_call 20; refine (HCf2.out _ _ _ H13.out.lv.ld).mono ?_; rintro e w14 ⟨a14, c14, rfl, h, hb⟩; have H14 := hid (H13.out.ints h hb); clear h hb))
          go_roundw
          case rel => exact ⟨j + 1, _, _, by have := HJ.out; omega, rfl, H17.out.lv⟩
          case measure => have := HJ.out; simp [intOf]; omega
        · skip
          have hok2 : LOk (doS s r) := doS_ok hok HB.out.2
          have HCf : Hid (∀ (u : World) (F : List Nat) (v : Value), LdAt F u v s → Calls Try.prog 20 #[v] u fun e w' => ∃ a1 c1, e = .returned (.agg #[.int .i64 (s.ep : Int), .slice a1 s.mem.length c1]) ∧ NewI u.heap.size w' a1 s.mem ∧ Below u.heap.size u w') := hid (fun u F v hu => gconfT (s := s) hu)
          have HNx : Hid (∀ (u : World) (F : List Nat) (v : Value), LdAt F u v s → Calls Try.prog 18 #[v] u fun e w' => ∃ a1 c1, e = .returned (.slice a1 s.nxt.length c1) ∧ NewI u.heap.size w' a1 s.nxt ∧ Below u.heap.size u w') := hid (fun u F v hu => gnextT (s := s) hu)
          have HCf2 : Hid (∀ (u : World) (F : List Nat) (v : Value), LdAt F u v (doS s r) → Calls Try.prog 20 #[v] u fun e w' => ∃ a1 c1, e = .returned (.agg #[.int .i64 (s.ep : Int), .slice a1 s.mem.length c1]) ∧ NewI u.heap.size w' a1 s.mem ∧ Below u.heap.size u w') := hid (fun u F v hu => by have := gconfT hu; rw [d1, d2] at this; exact this)
          have HNx2 : Hid (∀ (u : World) (F : List Nat) (v : Value), LdAt F u v (doS s r) → Calls Try.prog 18 #[v] u fun e w' => ∃ a1 c1, e = .returned (.slice a1 (doS s r).nxt.length c1) ∧ NewI u.heap.size w' a1 (doS s r).nxt ∧ Below u.heap.size u w') := hid (fun u F v hu => by have := gnextT hu; exact this)
          have HRt : Hid (∀ (u : World) (ad : Option Addr) (c : Nat), IntsIn u ad s.mem → Calls Try.prog 23 #[.agg #[.int .i64 (s.ep : Int), .slice ad s.mem.length c]] u fun e w' => e = .returned (.bool true) ∧ Below u.heap.size u w') := hid (fun u ad c hu => by have := cright_any (s.ep : Int) ad _ c s.mem rfl (by have := mem_len hok.mem; unfold maxLen; omega) u hu; rw [hok.cf] at this; exact this)
          have HRx : Hid (∀ (u : World) (ad : Option Addr) (c : Nat), IntsIn u ad (doS s r).nxt → Calls Try.prog 23 #[.agg #[.int .i64 0, .slice ad (doS s r).nxt.length c]] u fun e w' => e = .returned (.bool true) ∧ Below u.heap.size u w') := hid (fun u ad c hu => by have := cright_any 0 ad _ c (doS s r).nxt rfl (by have := mem_len hok2.nx; unfold maxLen; omega) u hu; rw [rightC_zero hok2.nx] at this; exact this)
          have HML : Hid (s.mem.length ≤ maxLen ∧ s.nxt.length ≤ maxLen) := hid ⟨by have := mem_len hok.mem; unfold maxLen; omega, by have := mem_len hok.nx; unfold maxLen; omega⟩
          have HDo : Hid (∀ (u : World) (F : List Nat) (v : Value), LdAt F u v s → Calls Try.prog 9 #[v, .agg #[.int .i64 r.c, .int .i64 r.st, .int .i64 r.k, .string r.key, .float .f64 r.b, .int .i64 r.id]] u fun e w' => e = .returned (.tuple #[.agg #[.int .i64 0, .float .f64 (doF s r)], .int .i64 0]) ∧ LdTo F u w' v (doS s r)) := hid (fun u F v hu => (gdo_any hu r HB.out.2).mono fun e w' ⟨h1, h2⟩ => ⟨by rw [m3, m4] at h1; exact h1, h2⟩)
          have hdf : ((doS s r).nxt.length : Int) - (s.nxt.length : Int) = 1 := by omega
          have hb1 : ((doS s r).nxt.length : Int) ≤ 10 := by have := mem_len hok2.nx; omega
          have hb0 : (0 : Int) ≤ ((doS s r).nxt.length : Int) := Int.natCast_nonneg _
          have hx1 : (s.nxt.length : Int) ≤ 10 := by have := mem_len hok.nx; omega
          have hx0 : (0 : Int) ≤ (s.nxt.length : Int) := Int.natCast_nonneg _
          clear hok hok2 d1 d2 m1 m3 m4
          have HK3 := hid m2
          clear m2
          generalize (doS s r).nxt = X2 at *
          generalize doF s r = G at *
          generalize (doS s r) = S2 at *
          generalize (s.ep : Int) = E at *
          generalize s.mem = M at *
          generalize s.nxt = X at *
          go_upto_region 19 with (first
            | (have := H7; go_at_call 18; refine (HNx2.out _ _ _ H7.out.lv.ld).mono ?_; rintro e w8 ⟨a8, c8, rfl, h, hb⟩; have H8 := hid (H7.out.keep hb); clear h hb; have ha := HA.out.keep H8.out.lv.bel; have k0 := ha.k0; have k1 := ha.k1; have k2 := ha.k2; have k3 := ha.k3; have k4 := ha.k4; have k5 := ha.k5; have k6 := ha.k6; clear ha; rw [HK3.out] at k3)
            | (have := H6; refine wl_store_rs rfl _ _ rfl w6.heap.size rfl 0 0 0 G rfl (heap_alloc_last w6 _) ?_; intro w7 Hz; obtain ⟨F6, h6⟩ := H6.out; have H7 := hid (h6.res Hz.out); clear Hz h6 H6)
            | (go_at_call 9; refine (HDo.out _ _ _ H5.out.lv.ld).mono ?_; rintro e w6 ⟨rfl, h⟩; have H6 := hid (H5.out.to h); clear h)
            | (go_at_call 7; refine (drequest_any r _).mono ?_; rintro e w5 ⟨rfl, hb⟩; have H5 := hid (H4.out.keep hb); clear hb x0 x1; clear k0 k1 k2 k3 k4 k5 k6)
            | (have := H3; refine wl_store_gf rfl _ _ rfl w3.heap.size rfl 0 E (.slice none 0 0) a2 _ c2 rfl (heap_alloc_last w3 _) ?_; intro w4 Hz; have H4 := hid (H3.out.cf Hz.out); clear Hz; have ha := HA.out.keep H4.out.lv.bel; have k0 := ha.k0; have k1 := ha.k1; have k2 := ha.k2; have k3 := ha.k3; have k4 := ha.k4; have k5 := ha.k5; have k6 := ha.k6; clear ha; obtain ⟨x0, x1⟩ := H4.out.r.1.cells)
            | (go_at_call 18; refine (HNx.out _ _ _ H2.out.lv.ld).mono ?_; rintro e w3 ⟨a3, c3, rfl, h, hb⟩; have H3 := hid (H2.out.ints h hb); clear h hb)
            | (go_at_call 20; refine (HCf.out _ _ _ HP.out.lv.ld).mono ?_; rintro e w2 ⟨a2, c2, rfl, h, hb⟩; have H2 := hid (HP.out.ints h hb); clear h hb))
          try rw [hdf]
          clear k0 k1 k2 k3 k4 k5 k6 hdf
          have H9 := hid H8.out.drew
          refine wp_region_held (S := fun ww => GfAt ww w3.heap.size E (.slice a2 M.length c2) ∧ RsAt ww w6.heap.size 0 G) (by kernel_rfl) ?_
          try (change wpAnyH _ _ _ _ _ _ _ _ (World.drew _))
          refine wpAnyH_take (i := 0) (v := ?v101) rfl (by kernel_rfl) (by kernel_rfl) (by kernel_rfl) (fun _ _ _ h => h) (Or.inl ⟨by rfl, ?hy101⟩) ⟨H9.out.r.2.1, H9.out.r.1⟩ ?rest101
          case hy101 => (intro ww _; go_simp; try with_reducible rfl)
          go_simp
          refine wpAnyH_take (i := 2) (v := ?v102) rfl (by kernel_rfl) (by kernel_rfl) (by kernel_rfl) (fun _ _ _ h => h) (Or.inl ⟨by rfl, ?hy102⟩) ⟨H9.out.r.2.1, H9.out.r.1⟩ ?rest102
          case hy102 => (intro ww hS; obtain ⟨x0, x1⟩ := hS.1.cells; obtain ⟨y0, y1⟩ := hS.2.cells; go_simp; try with_reducible rfl)
          go_simp
          refine wpAnyH_all (rs := [1]) (by kernel_rfl) (by simp) ?_
          intro i hi
          obtain rfl := List.mem_singleton.1 hi
          clear hi
          refine wpOp_m rfl (by rfl) (fun K hK => ?_)
          go_simp
          refine (HCf2.out _ _ _ H9.out.lv.ld).mono ?_
          rintro e w10 ⟨a10, c10, rfl, h, hb⟩
          have H10 := hid (H9.out.ints h hb)
          clear h hb
          refine hK _ _ ⟨⟨H10.out.r.2.2.1, H10.out.r.2.1⟩, ?_⟩
          clear hK K
          go_simp
          refine wpAnyH_all (rs := [3]) (by kernel_rfl) (by simp) ?_
          intro i hi
          obtain rfl := List.mem_singleton.1 hi
          clear hi
          refine wpOp_m rfl (by rfl) (fun K hK => ?_)
          go_simp
          refine (vsame_yes E a10 a2 _ c10 c2 M rfl HML.out.1 _ H10.out.r.1 H10.out.r.2.2.2.2.1).mono ?_
          rintro e w11 ⟨rfl, hb⟩
          have H11 := hid (H10.out.keep hb)
          clear hb
          refine hK _ _ ⟨⟨H11.out.r.2.2.1, H11.out.r.2.1⟩, ?_⟩
          clear hK K
          go_simp
          refine wpAnyH_take (i := 4) (v := ?v103) rfl (by kernel_rfl) (by kernel_rfl) (by kernel_rfl) (fun _ _ _ h => h) (Or.inl ⟨by rfl, ?hy103⟩) ⟨H11.out.r.2.2.1, H11.out.r.2.1⟩ ?rest103
          case hy103 => (intro ww _; go_simp; try with_reducible rfl)
          go_simp
          refine wpAnyH_take (i := 5) (v := ?v104) rfl (by kernel_rfl) (by kernel_rfl) (by kernel_rfl) (fun _ _ _ h => h) (Or.inl ⟨by rfl, ?hy104⟩) ⟨H11.out.r.2.2.1, H11.out.r.2.1⟩ ?rest104
          case hy104 => (intro ww _; go_simp; try with_reducible rfl)
          go_simp
          refine wpAnyH_take (i := 6) (v := ?v105) rfl (by kernel_rfl) (by kernel_rfl) (by kernel_rfl) (fun _ _ _ h => h) (Or.inl ⟨by rfl, ?hy105⟩) ⟨H11.out.r.2.2.1, H11.out.r.2.1⟩ ?rest105
          case hy105 => (intro ww _; go_simp; try with_reducible rfl)
          go_simp
          refine wpAnyH_take (i := 7) (v := ?v106) rfl (by kernel_rfl) (by kernel_rfl) (by kernel_rfl) (fun _ _ _ h => h) (Or.inl ⟨by rfl, ?hy106⟩) ⟨H11.out.r.2.2.1, H11.out.r.2.1⟩ ?rest106
          case hy106 => (intro ww _; go_simp; try with_reducible rfl)
          go_simp
          refine wpAnyH_take (i := 8) (v := ?v107) rfl (by kernel_rfl) (by kernel_rfl) (by kernel_rfl) (fun _ _ _ h => h) (Or.inl ⟨by rfl, ?hy107⟩) ⟨H11.out.r.2.2.1, H11.out.r.2.1⟩ ?rest107
          case hy107 => (intro ww _; go_simp; try with_reducible rfl)
          go_simp
          refine wpAnyH_take (i := 9) (v := ?v108) rfl (by kernel_rfl) (by kernel_rfl) (by kernel_rfl) (fun _ _ _ h => h) (Or.inl ⟨by rfl, ?hy108⟩) ⟨H11.out.r.2.2.1, H11.out.r.2.1⟩ ?rest108
          case hy108 => (intro ww _; go_simp; try with_reducible rfl)
          go_simp
          refine wpAnyH_take (i := 10) (v := ?v109) rfl (by kernel_rfl) (by kernel_rfl) (by kernel_rfl) (fun _ _ _ h => h) (Or.inl ⟨by rfl, ?hy109⟩) ⟨H11.out.r.2.2.1, H11.out.r.2.1⟩ ?rest109
          case hy109 => (intro ww _; go_simp; try with_reducible rfl)
          go_simp
          refine wpAnyH_take (i := 11) (v := ?v110) rfl (by kernel_rfl) (by kernel_rfl) (by kernel_rfl) (fun _ _ _ h => h) (Or.inl ⟨by rfl, ?hy110⟩) ⟨H11.out.r.2.2.1, H11.out.r.2.1⟩ ?rest110
          case hy110 => (intro ww _; go_simp; try with_reducible rfl)
          go_simp
          refine wpAnyH_take (i := 12) (v := ?v111) rfl (by kernel_rfl) (by kernel_rfl) (by kernel_rfl) (fun _ _ _ h => h) (Or.inl ⟨by rfl, ?hy111⟩) ⟨H11.out.r.2.2.1, H11.out.r.2.1⟩ ?rest111
          case hy111 => (intro ww _; go_simp; try with_reducible rfl)
          go_simp
          refine wpAnyH_take (i := 13) (v := ?v112) rfl (by kernel_rfl) (by kernel_rfl) (by kernel_rfl) (fun _ _ _ h => h) (Or.inl ⟨by rfl, ?hy112⟩) ⟨H11.out.r.2.2.1, H11.out.r.2.1⟩ ?rest112
          case hy112 => (intro ww _; go_simp; try with_reducible rfl)
          go_simp
          refine wpAnyH_take (i := 14) (v := ?v113) rfl (by kernel_rfl) (by kernel_rfl) (by kernel_rfl) (fun _ _ _ h => h) (Or.inl ⟨by rfl, ?hy113⟩) ⟨H11.out.r.2.2.1, H11.out.r.2.1⟩ ?rest113
          case hy113 => (intro ww _; go_simp; try with_reducible rfl)
          go_simp
          refine wpAnyH_take (i := 15) (v := ?v114) rfl (by kernel_rfl) (by kernel_rfl) (by kernel_rfl) (fun _ _ _ h => h) (Or.inl ⟨by rfl, ?hy114⟩) ⟨H11.out.r.2.2.1, H11.out.r.2.1⟩ ?rest114
          case hy114 => (intro ww _; go_simp; try with_reducible rfl)
          go_simp
          refine wpAnyH_take (i := 16) (v := ?v115) rfl (by kernel_rfl) (by kernel_rfl) (by kernel_rfl) (fun _ _ _ h => h) (Or.inl ⟨by rfl, ?hy115⟩) ⟨H11.out.r.2.2.1, H11.out.r.2.1⟩ ?rest115
          case hy115 => (intro ww _; go_simp; try with_reducible rfl)
          go_simp
          refine wpAnyH_take (i := 17) (v := ?v116) rfl (by kernel_rfl) (by kernel_rfl) (by kernel_rfl) (fun _ _ _ h => h) (Or.inl ⟨by rfl, ?hy116⟩) ⟨H11.out.r.2.2.1, H11.out.r.2.1⟩ ?rest116
          case hy116 => (intro ww _; go_simp; try with_reducible rfl)
          go_simp
          refine wpAnyH_take (i := 18) (v := ?v117) rfl (by kernel_rfl) (by kernel_rfl) (by kernel_rfl) (fun _ _ _ h => h) (Or.inl ⟨by rfl, ?hy117⟩) ⟨H11.out.r.2.2.1, H11.out.r.2.1⟩ ?rest117
          case hy117 => (intro ww _; go_simp; try with_reducible rfl)
          go_simp
          refine wpAnyH_take (i := 19) (v := ?v118) rfl (by kernel_rfl) (by kernel_rfl) (by kernel_rfl) (fun _ _ _ h => h) (Or.inl ⟨by rfl, ?hy118⟩) ⟨H11.out.r.2.2.1, H11.out.r.2.1⟩ ?rest118
          case hy118 => (intro ww _; go_simp; try with_reducible rfl)
          go_simp
          refine wpAnyH_take (i := 20) (v := ?v119) rfl (by kernel_rfl) (by kernel_rfl) (by kernel_rfl) (fun _ _ _ h => h) (Or.inl ⟨by rfl, ?hy119⟩) ⟨H11.out.r.2.2.1, H11.out.r.2.1⟩ ?rest119
          case hy119 => (intro ww _; go_simp; try with_reducible rfl)
          go_simp
          refine wpAnyH_take (i := 21) (v := ?v120) rfl (by kernel_rfl) (by kernel_rfl) (by kernel_rfl) (fun _ _ _ h => h) (Or.inl ⟨by rfl, ?hy120⟩) ⟨H11.out.r.2.2.1, H11.out.r.2.1⟩ ?rest120
          case hy120 => (intro ww _; go_simp; try with_reducible rfl)
          go_simp
          refine wpAnyH_take (i := 22) (v := ?v121) rfl (by kernel_rfl) (by kernel_rfl) (by kernel_rfl) (fun _ _ _ h => h) (Or.inl ⟨by rfl, ?hy121⟩) ⟨H11.out.r.2.2.1, H11.out.r.2.1⟩ ?rest121
          case hy121 => (intro ww _; go_simp; try with_reducible rfl)
          go_simp
          refine wpAnyH_take (i := 23) (v := ?v122) rfl (by kernel_rfl) (by kernel_rfl) (by kernel_rfl) (fun _ _ _ h => h) (Or.inl ⟨by rfl, ?hy122⟩) ⟨H11.out.r.2.2.1, H11.out.r.2.1⟩ ?rest122
          case hy122 => (intro ww _; go_simp; try with_reducible rfl)
          go_simp
          refine wpAnyH_take (i := 24) (v := ?v123) rfl (by kernel_rfl) (by kernel_rfl) (by kernel_rfl) (fun _ _ _ h => h) (Or.inl ⟨by rfl, ?hy123⟩) ⟨H11.out.r.2.2.1, H11.out.r.2.1⟩ ?rest123
          case hy123 => (intro ww _; go_simp; try with_reducible rfl)
          go_simp
          refine wpAnyH_take (i := 25) (v := undef) rfl (by kernel_rfl) (by kernel_rfl) (by kernel_rfl) (fun _ _ _ h => h) (Or.inr ⟨by rfl, rfl⟩) ⟨H11.out.r.2.2.1, H11.out.r.2.1⟩ ?rest124
          go_simp
          refine wpAnyH_take (i := 26) (v := undef) rfl (by kernel_rfl) (by kernel_rfl) (by kernel_rfl) (fun _ _ _ h => h) (Or.inr ⟨by rfl, rfl⟩) ⟨H11.out.r.2.2.1, H11.out.r.2.1⟩ ?rest125
          go_simp
          refine wpAnyH_take (i := 27) (v := ?v126) rfl (by kernel_rfl) (by kernel_rfl) (by kernel_rfl) (fun _ _ _ h => h) (Or.inl ⟨by rfl, ?hy126⟩) ⟨H11.out.r.2.2.1, H11.out.r.2.1⟩ ?rest126
          case hy126 => (intro ww _; go_simp; try with_reducible rfl)
          go_simp
          refine wpAnyH_take (i := 28) (v := ?v127) rfl (by kernel_rfl) (by kernel_rfl) (by kernel_rfl) (fun _ _ _ h => h) (Or.inl ⟨by rfl, ?hy127⟩) ⟨H11.out.r.2.2.1, H11.out.r.2.1⟩ ?rest127
          case hy127 => (intro ww _; go_simp; try with_reducible rfl)
          go_simp
          refine wpAnyH_take (i := 29) (v := ?v128) rfl (by kernel_rfl) (by kernel_rfl) (by kernel_rfl) (fun _ _ _ h => h) (Or.inl ⟨by rfl, ?hy128⟩) ⟨H11.out.r.2.2.1, H11.out.r.2.1⟩ ?rest128
          case hy128 => (intro ww _; go_simp; try with_reducible rfl)
          go_simp
          refine wpAnyH_take (i := 30) (v := ?v129) rfl (by kernel_rfl) (by kernel_rfl) (by kernel_rfl) (fun _ _ _ h => h) (Or.inl ⟨by rfl, ?hy129⟩) ⟨H11.out.r.2.2.1, H11.out.r.2.1⟩ ?rest129
          case hy129 => (intro ww _; go_simp; try with_reducible rfl)
          go_simp
          refine wpAnyH_take (i := 31) (v := ?v130) rfl (by kernel_rfl) (by kernel_rfl) (by kernel_rfl) (fun _ _ _ h => h) (Or.inl ⟨by rfl, ?hy130⟩) ⟨H11.out.r.2.2.1, H11.out.r.2.1⟩ ?rest130
          case hy130 => (intro ww _; go_simp; try with_reducible rfl)
          go_simp
          refine wpAnyH_take (i := 32) (v := ?v131) rfl (by kernel_rfl) (by kernel_rfl) (by kernel_rfl) (fun _ _ _ h => h) (Or.inl ⟨by rfl, ?hy131⟩) ⟨H11.out.r.2.2.1, H11.out.r.2.1⟩ ?rest131
          case hy131 => (intro ww _; go_simp; try with_reducible rfl)
          go_simp
          refine wpAnyH_take (i := 33) (v := ?v132) rfl (by kernel_rfl) (by kernel_rfl) (by kernel_rfl) (fun _ _ _ h => h) (Or.inl ⟨by rfl, ?hy132⟩) ⟨H11.out.r.2.2.1, H11.out.r.2.1⟩ ?rest132
          case hy132 => (intro ww _; go_simp; try with_reducible rfl)
          go_simp
          refine wpAnyH_take (i := 34) (v := ?v133) rfl (by kernel_rfl) (by kernel_rfl) (by kernel_rfl) (fun _ _ _ h => h) (Or.inl ⟨by rfl, ?hy133⟩) ⟨H11.out.r.2.2.1, H11.out.r.2.1⟩ ?rest133
          case hy133 => (intro ww _; go_simp; try with_reducible rfl)
          go_simp
          refine wpAnyH_take (i := 35) (v := ?v134) rfl (by kernel_rfl) (by kernel_rfl) (by kernel_rfl) (fun _ _ _ h => h) (Or.inl ⟨by rfl, ?hy134⟩) ⟨H11.out.r.2.2.1, H11.out.r.2.1⟩ ?rest134
          case hy134 => (intro ww _; go_simp; try with_reducible rfl)
          go_simp
          refine wpAnyH_take (i := 36) (v := ?v135) rfl (by kernel_rfl) (by kernel_rfl) (by kernel_rfl) (fun _ _ _ h => h) (Or.inl ⟨by rfl, ?hy135⟩) ⟨H11.out.r.2.2.1, H11.out.r.2.1⟩ ?rest135
          case hy135 => (intro ww _; go_simp; try with_reducible rfl)
          go_simp
          refine wpAnyH_take (i := 37) (v := ?v136) rfl (by kernel_rfl) (by kernel_rfl) (by kernel_rfl) (fun _ _ _ h => h) (Or.inl ⟨by rfl, ?hy136⟩) ⟨H11.out.r.2.2.1, H11.out.r.2.1⟩ ?rest136
          case hy136 => (intro ww hS; obtain ⟨x0, x1⟩ := hS.1.cells; obtain ⟨y0, y1⟩ := hS.2.cells; go_simp; try with_reducible rfl)
          go_simp
          refine wpAnyH_take (i := 38) (v := ?v137) rfl (by kernel_rfl) (by kernel_rfl) (by kernel_rfl) (fun _ _ _ h => h) (Or.inl ⟨by rfl, ?hy137⟩) ⟨H11.out.r.2.2.1, H11.out.r.2.1⟩ ?rest137
          case hy137 => (intro ww _; go_simp; try with_reducible rfl)
          go_simp
          refine wpAnyH_take (i := 39) (v := ?v138) rfl (by kernel_rfl) (by kernel_rfl) (by kernel_rfl) (fun _ _ _ h => h) (Or.inl ⟨by rfl, ?hy138⟩) ⟨H11.out.r.2.2.1, H11.out.r.2.1⟩ ?rest138
          case hy138 => (intro ww _; go_simp; try with_reducible rfl)
          go_simp
          refine wpAnyH_take (i := 40) (v := ?v139) rfl (by kernel_rfl) (by kernel_rfl) (by kernel_rfl) (fun _ _ _ h => h) (Or.inl ⟨by rfl, ?hy139⟩) ⟨H11.out.r.2.2.1, H11.out.r.2.1⟩ ?rest139
          case hy139 => (intro ww _; go_simp; try with_reducible rfl)
          go_simp
          refine wpAnyH_take (i := 41) (v := ?v140) rfl (by kernel_rfl) (by kernel_rfl) (by kernel_rfl) (fun _ _ _ h => h) (Or.inl ⟨by rfl, ?hy140⟩) ⟨H11.out.r.2.2.1, H11.out.r.2.1⟩ ?rest140
          case hy140 => (intro ww _; go_simp; try with_reducible rfl)
          go_simp
          refine wpAnyH_take (i := 42) (v := ?v141) rfl (by kernel_rfl) (by kernel_rfl) (by kernel_rfl) (fun _ _ _ h => h) (Or.inl ⟨by rfl, ?hy141⟩) ⟨H11.out.r.2.2.1, H11.out.r.2.1⟩ ?rest141
          case hy141 => (intro ww _; go_simp; try with_reducible rfl)
          go_simp
          refine wpAnyH_take (i := 43) (v := ?v142) rfl (by kernel_rfl) (by kernel_rfl) (by kernel_rfl) (fun _ _ _ h => h) (Or.inl ⟨by rfl, ?hy142⟩) ⟨H11.out.r.2.2.1, H11.out.r.2.1⟩ ?rest142
          case hy142 => (intro ww _; go_simp; try with_reducible rfl)
          go_simp
          refine wpAnyH_take (i := 44) (v := ?v143) rfl (by kernel_rfl) (by kernel_rfl) (by kernel_rfl) (fun _ _ _ h => h) (Or.inl ⟨by rfl, ?hy143⟩) ⟨H11.out.r.2.2.1, H11.out.r.2.1⟩ ?rest143
          case hy143 => (intro ww _; go_simp; try with_reducible rfl)
          go_simp
          refine wpAnyH_take (i := 45) (v := ?v144) rfl (by kernel_rfl) (by kernel_rfl) (by kernel_rfl) (fun _ _ _ h => h) (Or.inl ⟨by rfl, ?hy144⟩) ⟨H11.out.r.2.2.1, H11.out.r.2.1⟩ ?rest144
          case hy144 => (intro ww _; go_simp; try with_reducible rfl)
          go_simp
          refine wpAnyH_take (i := 46) (v := undef) rfl (by kernel_rfl) (by kernel_rfl) (by kernel_rfl) (fun _ _ _ h => h) (Or.inr ⟨by rfl, rfl⟩) ⟨H11.out.r.2.2.1, H11.out.r.2.1⟩ ?rest145
          go_simp
          refine wpAnyH_take (i := 47) (v := undef) rfl (by kernel_rfl) (by kernel_rfl) (by kernel_rfl) (fun _ _ _ h => h) (Or.inr ⟨by rfl, rfl⟩) ⟨H11.out.r.2.2.1, H11.out.r.2.1⟩ ?rest146
          go_simp
          refine wpAnyH_take (i := 48) (v := undef) rfl (by kernel_rfl) (by kernel_rfl) (by kernel_rfl) (fun _ _ _ h => h) (Or.inr ⟨by rfl, rfl⟩) ⟨H11.out.r.2.2.1, H11.out.r.2.1⟩ ?rest147
          go_simp
          refine wpAnyH_take (i := 49) (v := undef) rfl (by kernel_rfl) (by kernel_rfl) (by kernel_rfl) (fun _ _ _ h => h) (Or.inr ⟨by rfl, rfl⟩) ⟨H11.out.r.2.2.1, H11.out.r.2.1⟩ ?rest148
          go_simp
          refine wpAnyH_take (i := 50) (v := undef) rfl (by kernel_rfl) (by kernel_rfl) (by kernel_rfl) (fun _ _ _ h => h) (Or.inr ⟨by rfl, rfl⟩) ⟨H11.out.r.2.2.1, H11.out.r.2.1⟩ ?rest149
          go_simp
          refine wpAnyH_take (i := 51) (v := ?v150) rfl (by kernel_rfl) (by kernel_rfl) (by kernel_rfl) (fun _ _ _ h => h) (Or.inl ⟨by rfl, ?hy150⟩) ⟨H11.out.r.2.2.1, H11.out.r.2.1⟩ ?rest150
          case hy150 => (intro ww _; go_simp; try with_reducible rfl)
          go_simp
          refine wpAnyH_take (i := 52) (v := ?v151) rfl (by kernel_rfl) (by kernel_rfl) (by kernel_rfl) (fun _ _ _ h => h) (Or.inl ⟨by rfl, ?hy151⟩) ⟨H11.out.r.2.2.1, H11.out.r.2.1⟩ ?rest151
          case hy151 => (intro ww _; go_simp; try with_reducible rfl)
          go_simp
          refine wpAnyH_done (by kernel_rfl) ?_ _
          go_simp
          go_wp2_with (first
            | (have := H16; go_at_call 23; refine (HRx.out _ _ _ H16.out.r.1).mono ?_; rintro e w17 ⟨rfl, hb⟩; have H17 := hid (H16.out.keep hb); clear hb)
            | (have := H15; go_at_call 18; refine (HNx2.out _ _ _ H15.out.lv.ld).mono ?_; rintro e w16 ⟨a16, c16, rfl, h, hb⟩; have H16 := hid (H15.out.ints h hb); clear h hb)
            | (have := H14; go_at_call 23; refine (HRt.out _ _ _ H14.out.r.1).mono ?_; rintro e w15 ⟨rfl, hb⟩; have H15 := hid (H14.out.keep hb); clear hb)
            | (have := H11; go_at_call 20; refine (HCf2.out _ _ _ H11.out.lv.ld).mono ?_; rintro e w14 ⟨a14, c14, rfl, h, hb⟩; have H14 := hid (H11.out.ints h hb); clear h hb))
          go_roundw
          case rel => exact ⟨j + 1, _, _, by have := HJ.out; omega, rfl, H17.out.lv⟩
          case measure => have := HJ.out; simp [intOf]; omega
        · skip
          have hok2 : LOk (doS s r) := doS_ok hok HB.out.2
          have HCf : Hid (∀ (u : World) (F : List Nat) (v : Value), LdAt F u v s → Calls Try.prog 20 #[v] u fun e w' => ∃ a1 c1, e = .returned (.agg #[.int .i64 (s.ep : Int), .slice a1 s.mem.length c1]) ∧ NewI u.heap.size w' a1 s.mem ∧ Below u.heap.size u w') := hid (fun u F v hu => gconfT (s := s) hu)
          have HNx : Hid (∀ (u : World) (F : List Nat) (v : Value), LdAt F u v s → Calls Try.prog 18 #[v] u fun e w' => ∃ a1 c1, e = .returned (.slice a1 s.nxt.length c1) ∧ NewI u.heap.size w' a1 s.nxt ∧ Below u.heap.size u w') := hid (fun u F v hu => gnextT (s := s) hu)
          have HCf2 : Hid (∀ (u : World) (F : List Nat) (v : Value), LdAt F u v (doS s r) → Calls Try.prog 20 #[v] u fun e w' => ∃ a1 c1, e = .returned (.agg #[.int .i64 (s.ep : Int), .slice a1 s.mem.length c1]) ∧ NewI u.heap.size w' a1 s.mem ∧ Below u.heap.size u w') := hid (fun u F v hu => by have := gconfT hu; rw [d1, d2] at this; exact this)
          have HNx2 : Hid (∀ (u : World) (F : List Nat) (v : Value), LdAt F u v (doS s r) → Calls Try.prog 18 #[v] u fun e w' => ∃ a1 c1, e = .returned (.slice a1 (doS s r).nxt.length c1) ∧ NewI u.heap.size w' a1 (doS s r).nxt ∧ Below u.heap.size u w') := hid (fun u F v hu => by have := gnextT hu; exact this)
          have HRt : Hid (∀ (u : World) (ad : Option Addr) (c : Nat), IntsIn u ad s.mem → Calls Try.prog 23 #[.agg #[.int .i64 (s.ep : Int), .slice ad s.mem.length c]] u fun e w' => e = .returned (.bool true) ∧ Below u.heap.size u w') := hid (fun u ad c hu => by have := cright_any (s.ep : Int) ad _ c s.mem rfl (by have := mem_len hok.mem; unfold maxLen; omega) u hu; rw [hok.cf] at this; exact this)
          have HRx : Hid (∀ (u : World) (ad : Option Addr) (c : Nat), IntsIn u ad (doS s r).nxt → Calls Try.prog 23 #[.agg #[.int .i64 0, .slice ad (doS s r).nxt.length c]] u fun e w' => e = .returned (.bool true) ∧ Below u.heap.size u w') := hid (fun u ad c hu => by have := cright_any 0 ad _ c (doS s r).nxt rfl (by have := mem_len hok2.nx; unfold maxLen; omega) u hu; rw [rightC_zero hok2.nx] at this; exact this)
          have HML : Hid (s.mem.length ≤ maxLen ∧ s.nxt.length ≤ maxLen) := hid ⟨by have := mem_len hok.mem; unfold maxLen; omega, by have := mem_len hok.nx; unfold maxLen; omega⟩
          have HDo : Hid (∀ (u : World) (F : List Nat) (v : Value), LdAt F u v s → Calls Try.prog 9 #[v, .agg #[.int .i64 r.c, .int .i64 r.st, .int .i64 r.k, .string r.key, .float .f64 r.b, .int .i64 r.id]] u fun e w' => e = .returned (.tuple #[.agg #[.int .i64 0, .float .f64 (doF s r)], .int .i64 0]) ∧ LdTo F u w' v (doS s r)) := hid (fun u F v hu => (gdo_any hu r HB.out.2).mono fun e w' ⟨h1, h2⟩ => ⟨by rw [m3, m4] at h1; exact h1, h2⟩)
          have hdf : ((doS s r).nxt.length : Int) - (s.nxt.length : Int) = -1 := by omega
          have hb1 : ((doS s r).nxt.length : Int) ≤ 10 := by have := mem_len hok2.nx; omega
          have hb0 : (0 : Int) ≤ ((doS s r).nxt.length : Int) := Int.natCast_nonneg _
          have hx1 : (s.nxt.length : Int) ≤ 10 := by have := mem_len hok.nx; omega
          have hx0 : (0 : Int) ≤ (s.nxt.length : Int) := Int.natCast_nonneg _
          clear hok hok2 d1 d2 m1 m3 m4
          have HK3 := hid m2
          clear m2
          generalize (doS s r).nxt = X2 at *
          generalize doF s r = G at *
          generalize (doS s r) = S2 at *
          generalize (s.ep : Int) = E at *
          generalize s.mem = M at *
          generalize s.nxt = X at *
          go_upto_region 19 with (first
            | (have := H7; go_at_call 18; refine (HNx2.out _ _ _ H7.out.lv.ld).mono ?_; rintro e w8 ⟨a8, c8, rfl, h, hb⟩; have H8 := hid (H7.out.keep hb); clear h hb; have ha := HA.out.keep H8.out.lv.bel; have k0 := ha.k0; have k1 := ha.k1; have k2 := ha.k2; have k3 := ha.k3; have k4 := ha.k4; have k5 := ha.k5; have k6 := ha.k6; clear ha; rw [HK3.out] at k3)
            | (have := H6; refine wl_store_rs rfl _ _ rfl w6.heap.size rfl 0 0 0 G rfl (heap_alloc_last w6 _) ?_; intro w7 Hz; obtain ⟨F6, h6⟩ := H6.out; have H7 := hid (h6.res Hz.out); clear Hz h6 H6)
            | (go_at_call 9; refine (HDo.out _ _ _ H5.out.lv.ld).mono ?_; rintro e w6 ⟨rfl, h⟩; have H6 := hid (H5.out.to h); clear h)
            | (go_at_call 7; refine (drequest_any r _).mono ?_; rintro e w5 ⟨rfl, hb⟩; have H5 := hid (H4.out.keep hb); clear hb x0 x1; clear k0 k1 k2 k3 k4 k5 k6)
            | (have := H3; refine wl_store_gf rfl _ _ rfl w3.heap.size rfl 0 E (.slice none 0 0) a2 _ c2 rfl (heap_alloc_last w3 _) ?_; intro w4 Hz; have H4 := hid (H3.out.cf Hz.out); clear Hz; have ha := HA.out.keep H4.out.lv.bel; have k0 := ha.k0; have k1 := ha.k1; have k2 := ha.k2; have k3 := ha.k3; have k4 := ha.k4; have k5 := ha.k5; have k6 := ha.k6; clear ha; obtain ⟨x0, x1⟩ := H4.out.r.1.cells)
            | (go_at_call 18; refine (HNx.out _ _ _ H2.out.lv.ld).mono ?_; rintro e w3 ⟨a3, c3, rfl, h, hb⟩; have H3 := hid (H2.out.ints h hb); clear h hb)
            | (go_at_call 20; refine (HCf.out _ _ _ HP.out.lv.ld).mono ?_; rintro e w2 ⟨a2, c2, rfl, h, hb⟩; have H2 := hid (HP.out.ints h hb); clear h hb))
          try rw [hdf]
          clear k0 k1 k2 k3 k4 k5 k6 hdf
          have H9 := hid H8.out.drew
          refine wp_region_held (S := fun ww => GfAt ww w3.heap.size E (.slice a2 M.length c2) ∧ RsAt ww w6.heap.size 0 G) (by kernel_rfl) ?_
          try (change wpAnyH _ _ _ _ _ _ _ _ (World.drew _))
          refine wpAnyH_take (i := 0) (v := ?v201) rfl (by kernel_rfl) (by kernel_rfl) (by kernel_rfl) (fun _ _ _ h => h) (Or.inl ⟨by rfl, ?hy201⟩) ⟨H9.out.r.2.1, H9.out.r.1⟩ ?rest201
          case hy201 => (intro ww _; go_simp; try with_reducible rfl)
          go_simp
          refine wpAnyH_take (i := 2) (v := ?v202) rfl (by kernel_rfl) (by kernel_rfl) (by kernel_rfl) (fun _ _ _ h => h) (Or.inl ⟨by rfl, ?hy202⟩) ⟨H9.out.r.2.1, H9.out.r.1⟩ ?rest202
          case hy202 => (intro ww hS; obtain ⟨x0, x1⟩ := hS.1.cells; obtain ⟨y0, y1⟩ := hS.2.cells; go_simp; try with_reducible rfl)
          go_simp
          refine wpAnyH_all (rs := [1]) (by kernel_rfl) (by simp) ?_
          intro i hi
          obtain rfl := List.mem_singleton.1 hi
          clear hi
          refine wpOp_m rfl (by rfl) (fun K hK => ?_)
          go_simp
          refine (HCf2.out _ _ _ H9.out.lv.ld).mono ?_
          rintro e w10 ⟨a10, c10, rfl, h, hb⟩
          have H10 := hid (H9.out.ints h hb)
          clear h hb
          refine hK _ _ ⟨⟨H10.out.r.2.2.1, H10.out.r.2.1⟩, ?_⟩
          clear hK K
          go_simp
          refine wpAnyH_all (rs := [3]) (by kernel_rfl) (by simp) ?_
          intro i hi
          obtain rfl := List.mem_singleton.1 hi
          clear hi
          refine wpOp_m rfl (by rfl) (fun K hK => ?_)
          go_simp
          refine (vsame_yes E a10 a2 _ c10 c2 M rfl HML.out.1 _ H10.out.r.1 H10.out.r.2.2.2.2.1).mono ?_
          rintro e w11 ⟨rfl, hb⟩
          have H11 := hid (H10.out.keep hb)
          clear hb
          refine hK _ _ ⟨⟨H11.out.r.2.2.1, H11.out.r.2.1⟩, ?_⟩
          clear hK K
          go_simp
          refine wpAnyH_take (i := 4) (v := ?v203) rfl (by kernel_rfl) (by kernel_rfl) (by kernel_rfl) (fun _ _ _ h => h) (Or.inl ⟨by rfl, ?hy203⟩) ⟨H11.out.r.2.2.1, H11.out.r.2.1⟩ ?rest203
          case hy203 => (intro ww _; go_simp; try with_reducible rfl)
          go_simp
          refine wpAnyH_take (i := 5) (v := ?v204) rfl (by kernel_rfl) (by kernel_rfl) (by kernel_rfl) (fun _ _ _ h => h) (Or.inl ⟨by rfl, ?hy204⟩) ⟨H11.out.r.2.2.1, H11.out.r.2.1⟩ ?rest204
          case hy204 => (intro ww _; go_simp; try with_reducible rfl)
          go_simp
          refine wpAnyH_take (i := 6) (v := ?v205) rfl (by kernel_rfl) (by kernel_rfl) (by kernel_rfl) (fun _ _ _ h => h) (Or.inl ⟨by rfl, ?hy205⟩) ⟨H11.out.r.2.2.1, H11.out.r.2.1⟩ ?rest205
          case hy205 => (intro ww _; go_simp; try with_reducible rfl)
          go_simp
          refine wpAnyH_take (i := 7) (v := ?v206) rfl (by kernel_rfl) (by kernel_rfl) (by kernel_rfl) (fun _ _ _ h => h) (Or.inl ⟨by rfl, ?hy206⟩) ⟨H11.out.r.2.2.1, H11.out.r.2.1⟩ ?rest206
          case hy206 => (intro ww _; go_simp; try with_reducible rfl)
          go_simp
          refine wpAnyH_take (i := 8) (v := ?v207) rfl (by kernel_rfl) (by kernel_rfl) (by kernel_rfl) (fun _ _ _ h => h) (Or.inl ⟨by rfl, ?hy207⟩) ⟨H11.out.r.2.2.1, H11.out.r.2.1⟩ ?rest207
          case hy207 => (intro ww _; go_simp; try with_reducible rfl)
          go_simp
          refine wpAnyH_take (i := 9) (v := ?v208) rfl (by kernel_rfl) (by kernel_rfl) (by kernel_rfl) (fun _ _ _ h => h) (Or.inl ⟨by rfl, ?hy208⟩) ⟨H11.out.r.2.2.1, H11.out.r.2.1⟩ ?rest208
          case hy208 => (intro ww _; go_simp; try with_reducible rfl)
          go_simp
          refine wpAnyH_take (i := 10) (v := ?v209) rfl (by kernel_rfl) (by kernel_rfl) (by kernel_rfl) (fun _ _ _ h => h) (Or.inl ⟨by rfl, ?hy209⟩) ⟨H11.out.r.2.2.1, H11.out.r.2.1⟩ ?rest209
          case hy209 => (intro ww _; go_simp; try with_reducible rfl)
          go_simp
          refine wpAnyH_take (i := 11) (v := ?v210) rfl (by kernel_rfl) (by kernel_rfl) (by kernel_rfl) (fun _ _ _ h => h) (Or.inl ⟨by rfl, ?hy210⟩) ⟨H11.out.r.2.2.1, H11.out.r.2.1⟩ ?rest210
          case hy210 => (intro ww _; go_simp; try with_reducible rfl)
          go_simp
          refine wpAnyH_take (i := 12) (v := ?v211) rfl (by kernel_rfl) (by kernel_rfl) (by kernel_rfl) (fun _ _ _ h => h) (Or.inl ⟨by rfl, ?hy211⟩) ⟨H11.out.r.2.2.1, H11.out.r.2.1⟩ ?rest211
          case hy211 => (intro ww _; go_simp; try with_reducible rfl)
          go_simp
          refine wpAnyH_take (i := 13) (v := ?v212) rfl (by kernel_rfl) (by kernel_rfl) (by kernel_rfl) (fun _ _ _ h => h) (Or.inl ⟨by rfl, ?hy212⟩) ⟨H11.out.r.2.2.1, H11.out.r.2.1⟩ ?rest212
          case hy212 => (intro ww _; go_simp; try with_reducible rfl)
          go_simp
          refine wpAnyH_take (i := 14) (v := ?v213) rfl (by kernel_rfl) (by kernel_rfl) (by kernel_rfl) (fun _ _ _ h => h) (Or.inl ⟨by rfl, ?hy213⟩) ⟨H11.out.r.2.2.1, H11.out.r.2.1⟩ ?rest213
          case hy213 => (intro ww _; go_simp; try with_reducible rfl)
          go_simp
          refine wpAnyH_take (i := 15) (v := ?v214) rfl (by kernel_rfl) (by kernel_rfl) (by kernel_rfl) (fun _ _ _ h => h) (Or.inl ⟨by rfl, ?hy214⟩) ⟨H11.out.r.2.2.1, H11.out.r.2.1⟩ ?rest214
          case hy214 => (intro ww _; go_simp; try with_reducible rfl)
          go_simp
          refine wpAnyH_take (i := 16) (v := ?v215) rfl (by kernel_rfl) (by kernel_rfl) (by kernel_rfl) (fun _ _ _ h => h) (Or.inl ⟨by rfl, ?hy215⟩) ⟨H11.out.r.2.2.1, H11.out.r.2.1⟩ ?rest215
          case hy215 => (intro ww _; go_simp; try with_reducible rfl)
          go_simp
          refine wpAnyH_take (i := 17) (v := undef) rfl (by kernel_rfl) (by kernel_rfl) (by kernel_rfl) (fun _ _ _ h => h) (Or.inr ⟨by rfl, rfl⟩) ⟨H11.out.r.2.2.1, H11.out.r.2.1⟩ ?rest216
          go_simp
          refine wpAnyH_take (i := 18) (v := undef) rfl (by kernel_rfl) (by kernel_rfl) (by kernel_rfl) (fun _ _ _ h => h) (Or.inr ⟨by rfl, rfl⟩) ⟨H11.out.r.2.2.1, H11.out.r.2.1⟩ ?rest217
          go_simp
          refine wpAnyH_take (i := 19) (v := ?v218) rfl (by kernel_rfl) (by kernel_rfl) (by kernel_rfl) (fun _ _ _ h => h) (Or.inl ⟨by rfl, ?hy218⟩) ⟨H11.out.r.2.2.1, H11.out.r.2.1⟩ ?rest218
          case hy218 => (intro ww _; go_simp; try with_reducible rfl)
          go_simp
          refine wpAnyH_take (i := 20) (v := ?v219) rfl (by kernel_rfl) (by kernel_rfl) (by kernel_rfl) (fun _ _ _ h => h) (Or.inl ⟨by rfl, ?hy219⟩) ⟨H11.out.r.2.2.1, H11.out.r.2.1⟩ ?rest219
          case hy219 => (intro ww _; go_simp; try with_reducible rfl)
          go_simp
          refine wpAnyH_take (i := 21) (v := ?v220) rfl (by kernel_rfl) (by kernel_rfl) (by kernel_rfl) (fun _ _ _ h => h) (Or.inl ⟨by rfl, ?hy220⟩) ⟨H11.out.r.2.2.1, H11.out.r.2.1⟩ ?rest220
          case hy220 => (intro ww _; go_simp; try with_reducible rfl)
          go_simp
          refine wpAnyH_take (i := 22) (v := ?v221) rfl (by kernel_rfl) (by kernel_rfl) (by kernel_rfl) (fun _ _ _ h => h) (Or.inl ⟨by rfl, ?hy221⟩) ⟨H11.out.r.2.2.1, H11.out.r.2.1⟩ ?rest221
          case hy221 => (intro ww _; go_simp; try with_reducible rfl)
          go_simp
          refine wpAnyH_take (i := 23) (v := ?v222) rfl (by kernel_rfl) (by kernel_rfl) (by kernel_rfl) (fun _ _ _ h => h) (Or.inl ⟨by rfl, ?hy222⟩) ⟨H11.out.r.2.2.1, H11.out.r.2.1⟩ ?rest222
          case hy222 => (intro ww _; go_simp; try with_reducible rfl)
          go_simp
          refine wpAnyH_take (i := 24) (v := ?v223) rfl (by kernel_rfl) (by kernel_rfl) (by kernel_rfl) (fun _ _ _ h => h) (Or.inl ⟨by rfl, ?hy223⟩) ⟨H11.out.r.2.2.1, H11.out.r.2.1⟩ ?rest223
          case hy223 => (intro ww _; go_simp; try with_reducible rfl)
          go_simp
          refine wpAnyH_take (i := 25) (v := ?v224) rfl (by kernel_rfl) (by kernel_rfl) (by kernel_rfl) (fun _ _ _ h => h) (Or.inl ⟨by rfl, ?hy224⟩) ⟨H11.out.r.2.2.1, H11.out.r.2.1⟩ ?rest224
          case hy224 => (intro ww _; go_simp; try with_reducible rfl)
          go_simp
          refine wpAnyH_take (i := 26) (v := ?v225) rfl (by kernel_rfl) (by kernel_rfl) (by kernel_rfl) (fun _ _ _ h => h) (Or.inl ⟨by rfl, ?hy225⟩) ⟨H11.out.r.2.2.1, H11.out.r.2.1⟩ ?rest225
          case hy225 => (intro ww _; go_simp; try with_reducible rfl)
          go_simp
          refine wpAnyH_take (i := 27) (v := ?v226) rfl (by kernel_rfl) (by kernel_rfl) (by kernel_rfl) (fun _ _ _ h => h) (Or.inl ⟨by rfl, ?hy226⟩) ⟨H11.out.r.2.2.1, H11.out.r.2.1⟩ ?rest226
          case hy226 => (intro ww _; go_simp; try with_reducible rfl)
          go_simp
          refine wpAnyH_take (i := 28) (v := ?v227) rfl (by kernel_rfl) (by kernel_rfl) (by kernel_rfl) (fun _ _ _ h => h) (Or.inl ⟨by rfl, ?hy227⟩) ⟨H11.out.r.2.2.1, H11.out.r.2.1⟩ ?rest227
          case hy227 => (intro ww _; go_simp; try with_reducible rfl)
          go_simp
          refine wpAnyH_take (i := 29) (v := ?v228) rfl (by kernel_rfl) (by kernel_rfl) (by kernel_rfl) (fun _ _ _ h => h) (Or.inl ⟨by rfl, ?hy228⟩) ⟨H11.out.r.2.2.1, H11.out.r.2.1⟩ ?rest228
          case hy228 => (intro ww _; go_simp; try with_reducible rfl)
          go_simp
          refine wpAnyH_take (i := 30) (v := ?v229) rfl (by kernel_rfl) (by kernel_rfl) (by kernel_rfl) (fun _ _ _ h => h) (Or.inl ⟨by rfl, ?hy229⟩) ⟨H11.out.r.2.2.1, H11.out.r.2.1⟩ ?rest229
          case hy229 => (intro ww _; go_simp; try with_reducible rfl)
          go_simp
          refine wpAnyH_take (i := 31) (v := ?v230) rfl (by kernel_rfl) (by kernel_rfl) (by kernel_rfl) (fun _ _ _ h => h) (Or.inl ⟨by rfl, ?hy230⟩) ⟨H11.out.r.2.2.1, H11.out.r.2.1⟩ ?rest230
          case hy230 => (intro ww _; go_simp; try with_reducible rfl)
          go_simp
          refine wpAnyH_take (i := 32) (v := ?v231) rfl (by kernel_rfl) (by kernel_rfl) (by kernel_rfl) (fun _ _ _ h => h) (Or.inl ⟨by rfl, ?hy231⟩) ⟨H11.out.r.2.2.1, H11.out.r.2.1⟩ ?rest231
          case hy231 => (intro ww _; go_simp; try with_reducible rfl)
          go_simp
          refine wpAnyH_take (i := 33) (v := ?v232) rfl (by kernel_rfl) (by kernel_rfl) (by kernel_rfl) (fun _ _ _ h => h) (Or.inl ⟨by rfl, ?hy232⟩) ⟨H11.out.r.2.2.1, H11.out.r.2.1⟩ ?rest232
          case hy232 => (intro ww _; go_simp; try with_reducible rfl)
          go_simp
          refine wpAnyH_take (i := 34) (v := ?v233) rfl (by kernel_rfl) (by kernel_rfl) (by kernel_rfl) (fun _ _ _ h => h) (Or.inl ⟨by rfl, ?hy233⟩) ⟨H11.out.r.2.2.1, H11.out.r.2.1⟩ ?rest233
          case hy233 => (intro ww _; go_simp; try with_reducible rfl)
          go_simp
          refine wpAnyH_take (i := 35) (v := ?v234) rfl (by kernel_rfl) (by kernel_rfl) (by kernel_rfl) (fun _ _ _ h => h) (Or.inl ⟨by rfl, ?hy234⟩) ⟨H11.out.r.2.2.1, H11.out.r.2.1⟩ ?rest234
          case hy234 => (intro ww _; go_simp; try with_reducible rfl)
          go_simp
          refine wpAnyH_take (i := 36) (v := ?v235) rfl (by kernel_rfl) (by kernel_rfl) (by kernel_rfl) (fun _ _ _ h => h) (Or.inl ⟨by rfl, ?hy235⟩) ⟨H11.out.r.2.2.1, H11.out.r.2.1⟩ ?rest235
          case hy235 => (intro ww _; go_simp; try with_reducible rfl)
          go_simp
          refine wpAnyH_take (i := 37) (v := ?v236) rfl (by kernel_rfl) (by kernel_rfl) (by kernel_rfl) (fun _ _ _ h => h) (Or.inl ⟨by rfl, ?hy236⟩) ⟨H11.out.r.2.2.1, H11.out.r.2.1⟩ ?rest236
          case hy236 => (intro ww hS; obtain ⟨x0, x1⟩ := hS.1.cells; obtain ⟨y0, y1⟩ := hS.2.cells; go_simp; try with_reducible rfl)
          go_simp
          refine wpAnyH_take (i := 38) (v := ?v237) rfl (by kernel_rfl) (by kernel_rfl) (by kernel_rfl) (fun _ _ _ h => h) (Or.inl ⟨by rfl, ?hy237⟩) ⟨H11.out.r.2.2.1, H11.out.r.2.1⟩ ?rest237
          case hy237 => (intro ww _; go_simp; try with_reducible rfl)
          go_simp
          refine wpAnyH_take (i := 39) (v := ?v238) rfl (by kernel_rfl) (by kernel_rfl) (by kernel_rfl) (fun _ _ _ h => h) (Or.inl ⟨by rfl, ?hy238⟩) ⟨H11.out.r.2.2.1, H11.out.r.2.1⟩ ?rest238
          case hy238 => (intro ww _; go_simp; try with_reducible rfl)
          go_simp
          refine wpAnyH_take (i := 40) (v := ?v239) rfl (by kernel_rfl) (by kernel_rfl) (by kernel_rfl) (fun _ _ _ h => h) (Or.inl ⟨by rfl, ?hy239⟩) ⟨H11.out.r.2.2.1, H11.out.r.2.1⟩ ?rest239
          case hy239 => (intro ww _; go_simp; try with_reducible rfl)
          go_simp
          refine wpAnyH_take (i := 41) (v := ?v240) rfl (by kernel_rfl) (by kernel_rfl) (by kernel_rfl) (fun _ _ _ h => h) (Or.inl ⟨by rfl, ?hy240⟩) ⟨H11.out.r.2.2.1, H11.out.r.2.1⟩ ?rest240
          case hy240 => (intro ww _; go_simp; try with_reducible rfl)
          go_simp
          refine wpAnyH_take (i := 42) (v := ?v241) rfl (by kernel_rfl) (by kernel_rfl) (by kernel_rfl) (fun _ _ _ h => h) (Or.inl ⟨by rfl, ?hy241⟩) ⟨H11.out.r.2.2.1, H11.out.r.2.1⟩ ?rest241
          case hy241 => (intro ww _; go_simp; try with_reducible rfl)
          go_simp
          refine wpAnyH_take (i := 43) (v := ?v242) rfl (by kernel_rfl) (by kernel_rfl) (by kernel_rfl) (fun _ _ _ h => h) (Or.inl ⟨by rfl, ?hy242⟩) ⟨H11.out.r.2.2.1, H11.out.r.2.1⟩ ?rest242
          case hy242 => (intro ww _; go_simp; try with_reducible rfl)
          go_simp
          refine wpAnyH_take (i := 44) (v := ?v243) rfl (by kernel_rfl) (by kernel_rfl) (by kernel_rfl) (fun _ _ _ h => h) (Or.inl ⟨by rfl, ?hy243⟩) ⟨H11.out.r.2.2.1, H11.out.r.2.1⟩ ?rest243
          case hy243 => (intro ww _; go_simp; try with_reducible rfl)
          go_simp
          refine wpAnyH_take (i := 45) (v := ?v244) rfl (by kernel_rfl) (by kernel_rfl) (by kernel_rfl) (fun _ _ _ h => h) (Or.inl ⟨by rfl, ?hy244⟩) ⟨H11.out.r.2.2.1, H11.out.r.2.1⟩ ?rest244
          case hy244 => (intro ww _; go_simp; try with_reducible rfl)
          go_simp
          refine wpAnyH_take (i := 46) (v := undef) rfl (by kernel_rfl) (by kernel_rfl) (by kernel_rfl) (fun _ _ _ h => h) (Or.inr ⟨by rfl, rfl⟩) ⟨H11.out.r.2.2.1, H11.out.r.2.1⟩ ?rest245
          go_simp
          refine wpAnyH_take (i := 47) (v := undef) rfl (by kernel_rfl) (by kernel_rfl) (by kernel_rfl) (fun _ _ _ h => h) (Or.inr ⟨by rfl, rfl⟩) ⟨H11.out.r.2.2.1, H11.out.r.2.1⟩ ?rest246
          go_simp
          refine wpAnyH_take (i := 48) (v := undef) rfl (by kernel_rfl) (by kernel_rfl) (by kernel_rfl) (fun _ _ _ h => h) (Or.inr ⟨by rfl, rfl⟩) ⟨H11.out.r.2.2.1, H11.out.r.2.1⟩ ?rest247
          go_simp
          refine wpAnyH_take (i := 49) (v := undef) rfl (by kernel_rfl) (by kernel_rfl) (by kernel_rfl) (fun _ _ _ h => h) (Or.inr ⟨by rfl, rfl⟩) ⟨H11.out.r.2.2.1, H11.out.r.2.1⟩ ?rest248
          go_simp
          refine wpAnyH_take (i := 50) (v := undef) rfl (by kernel_rfl) (by kernel_rfl) (by kernel_rfl) (fun _ _ _ h => h) (Or.inr ⟨by rfl, rfl⟩) ⟨H11.out.r.2.2.1, H11.out.r.2.1⟩ ?rest249
          go_simp
          refine wpAnyH_take (i := 51) (v := ?v250) rfl (by kernel_rfl) (by kernel_rfl) (by kernel_rfl) (fun _ _ _ h => h) (Or.inl ⟨by rfl, ?hy250⟩) ⟨H11.out.r.2.2.1, H11.out.r.2.1⟩ ?rest250
          case hy250 => (intro ww _; go_simp; try with_reducible rfl)
          go_simp
          refine wpAnyH_take (i := 52) (v := ?v251) rfl (by kernel_rfl) (by kernel_rfl) (by kernel_rfl) (fun _ _ _ h => h) (Or.inl ⟨by rfl, ?hy251⟩) ⟨H11.out.r.2.2.1, H11.out.r.2.1⟩ ?rest251
          case hy251 => (intro ww _; go_simp; try with_reducible rfl)
          go_simp
          refine wpAnyH_done (by kernel_rfl) ?_ _
          go_simp
          go_wp2_with (first
            | (have := H16; go_at_call 23; refine (HRx.out _ _ _ H16.out.r.1).mono ?_; rintro e w17 ⟨rfl, hb⟩; have H17 := hid (H16.out.keep hb); clear hb)
            | (have := H15; go_at_call 18; refine (HNx2.out _ _ _ H15.out.lv.ld).mono ?_; rintro e w16 ⟨a16, c16, rfl, h, hb⟩; have H16 := hid (H15.out.ints h hb); clear h hb)
            | (have := H14; go_at_call 23; refine (HRt.out _ _ _ H14.out.r.1).mono ?_; rintro e w15 ⟨rfl, hb⟩; have H15 := hid (H14.out.keep hb); clear hb)
            | (have := H11; go_at_call 20; refine (HCf2.out _ _ _ H11.out.lv.ld).mono ?_; rintro e w14 ⟨a14, c14, rfl, h, hb⟩; have H14 := hid (H11.out.ints h hb); clear h hb))
          go_roundw
          case rel => exact ⟨j + 1, _, _, by have := HJ.out; omega, rfl, H17.out.lv⟩
          case measure => have := HJ.out; simp [intOf]; omega
theorem ldmem_any (ep : Int) (a : Option Addr) (n cap : Nat) (l : List Int) (hn : l.length = n) (hm : n ≤ maxLen) (sa : Option Addr) (sc : Nat) (os : List Stp) (hol : os.length ≤ maxLen) (hos : ∀ o, o ∈ os → stB o) (w : World) (hI : IntsIn w a l) (hS : StpsIn w sa os) :
    Calls Try.prog 4 #[.agg #[.int .i64 ep, .slice a n cap], .slice sa os.length sc] w fun r w' => r = .returned (.bool true) ∧ Below w.heap.size w w' := by
  by_cases h : rightC ep l = true ∧ ep = 0
  · obtain ⟨hr, rfl⟩ := h
    exact ldmem_yes a n cap l hn sa sc os hol hos w hI hr hS
  · refine ldmem_no ep a n cap l hn hm sa _ sc w hI ?_
    cases hr : rightC ep l with
    | false => exact .inl rfl
    | true => exact .inr (fun e => h ⟨hr, e⟩)
end Go.Proofs.Ytpeagpeifmimlaa
