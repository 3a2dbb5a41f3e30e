/- Texts laid together: LdAgain LdAgainL. -/
import Derived.Test.YtpeagpeifmimlaaGreatMx9
import Derived.Test.YtpeagpeifmimlaaGreatMxB
import Derived.Test.YtpeagpeifmimlaaGreatMxA
import Derived.Test.YtpeagpeifmimlaaGreatMx1
import Derived.Test.YtpeagpeifmimlaaGreatMx3
/- The law: what is opened of a ledger's bytes, and what is copied, goes on as that one does, and changes nothing of it. -/
namespace Go.Proofs.YtpeagpeifmimlaaGreat
open Go.RowKit

theorem gtextT {F : List Nat} {w : World} {v : Value} {s : Ls} (h : LdAt F w v s) : Calls Tryz.prog 14 #[v] w fun e w' => e = .returned (.string (lgT s)) ∧ Below w.heap.size w w' := by
  obtain ⟨g, m, am, an, cm, cn, rfl, rfl, h⟩ := h
  exact gtext_any h
theorem SgSt.drop {w0 w : World} {M L : List Nat} {S R : World → Prop} {F : List Nat} {v : Value} {s : Ls} (st : Stable L R) (h : SgSt w0 w (M ++ L) (fun u => S u ∧ R u) F v s) : SgSt w0 w L R F v s :=
  ⟨h.lv, st, fun b hm => h.lt b (List.mem_append.2 (.inr hm)), h.r.2, fun b hm => h.ap b (List.mem_append.2 (.inr hm))⟩
/-- Two ledgers that move, and what stays beside them. -/
structure TwSt (w0 w : World) (L : List Nat) (R : World → Prop) (Fa : List Nat) (va : Value) (sa : Ls) (Fb : List Nat) (vb : Value) (sb : Ls) : Prop where
  a : SgSt w0 w L R Fa va sa
  b : SgSt w0 w L R Fb vb sb
  ab : ∀ x, x ∈ Fa → x ∉ Fb
section
variable {w0 w w' : World} {L : List Nat} {R : World → Prop} {Fa Fb : List Nat} {va vb : Value} {sa sb : Ls}
theorem TwSt.keep (h : TwSt w0 w L R Fa va sa Fb vb sb) (hb : Below w.heap.size w w') : TwSt w0 w' L R Fa va sa Fb vb sb := ⟨h.a.keep hb, h.b.keep hb, h.ab⟩
theorem TwSt.swap (h : TwSt w0 w L R Fa va sa Fb vb sb) : TwSt w0 w L R Fb vb sb Fa va sa := ⟨h.b, h.a, fun x hb ha => h.ab x ha hb⟩
theorem TwSt.toA {s' : Ls} (h : TwSt w0 w L R Fa va sa Fb vb sb) (ht : LdTo Fa w w' va s') : ∃ F', TwSt w0 w' L R F' va s' Fb vb sb := by
  obtain ⟨F', h1, h2, h3⟩ := ht
  have hB : ∀ x, x ∈ Fb → x ∉ Fa := fun x hb ha => h.ab x ha hb
  have hbl : Below w0.heap.size w0 w' := h.a.lv.bel.trans (h3.below h.a.lv.bel.size h.a.lv.new)
  have hL : ∀ b, b ∈ L → b < w'.heap.size := fun b hm => Nat.lt_of_lt_of_le (h.a.lt b hm) h3.size
  have hR : R w' := h.a.st w w' h.a.r h3.size (fun b hm => h3.block b (h.a.lt b hm) (h.a.ap b hm))
  refine ⟨F', ⟨⟨h1, fun b hb => ?_, hbl⟩, h.a.st, hL, hR, fun b hm hF => ?_⟩, ⟨⟨h.b.lv.ld.out h3 hB, h.b.lv.new, hbl⟩, h.b.st, hL, hR, h.b.ap⟩, fun b ha hb => ?_⟩
  · rcases h2 b hb with h4 | h4
    · exact h.a.lv.new b h4
    · exact Nat.le_trans h.a.lv.bel.size h4
  · rcases h2 b hF with h4 | h4
    · exact h.a.ap b hm h4
    · exact Nat.lt_irrefl _ (Nat.lt_of_lt_of_le (h.a.lt b hm) h4)
  · rcases h2 b ha with h4 | h4
    · exact h.ab b h4 hb
    · exact Nat.lt_irrefl _ (Nat.lt_of_lt_of_le (h.b.lv.ld.lt b hb) h4)
theorem TwSt.toB {s' : Ls} (h : TwSt w0 w L R Fa va sa Fb vb sb) (ht : LdTo Fb w w' vb s') : ∃ F', TwSt w0 w' L R Fa va sa F' vb s' := by
  obtain ⟨F', h1⟩ := h.swap.toA ht
  exact ⟨F', h1.swap⟩
theorem TwSt.res (h : TwSt w0 w L R Fa va sa Fb vb sb) {c : Int} {f : Nat} (hz : RsAt w' w.heap.size c f ∧ One w.heap.size (w.alloc (.cells #[.int .i64 0, .float .f64 0] 52)) w') : TwSt w0 w' ([w.heap.size] ++ L) (fun u => RsAt u w.heap.size c f ∧ R u) Fa va sa Fb vb sb :=
  ⟨h.a.res hz, h.b.res hz, h.ab⟩
theorem TwSt.drop {M : List Nat} {S : World → Prop} (st : Stable L R) (h : TwSt w0 w (M ++ L) (fun u => S u ∧ R u) Fa va sa Fb vb sb) : TwSt w0 w L R Fa va sa Fb vb sb := ⟨h.a.drop st, h.b.drop st, h.ab⟩
/-- One is opened beside what stands: that one stays, the new one moves; then another. -/
theorem SgSt.stand {F : List Nat} {v : Value} {s : Ls} (h : LvSt w0 w F v s) (h2 : LdAt Fa w' va sa) (hn : ∀ b, b ∈ Fa → w.heap.size ≤ b) (hb : Below w.heap.size w w') : SgSt w0 w' F (fun u => LdAt F u v s) Fa va sa :=
  ⟨⟨h2, fun b hm => Nat.le_trans h.bel.size (hn b hm), h.bel.trans (hb.mono h.bel.size)⟩, stable_ld F v s, fun b hm => Nat.lt_of_lt_of_le (h.ld.lt b hm) hb.size, h.ld.keep hb, fun b hm hF => Nat.lt_irrefl _ (Nat.lt_of_lt_of_le (h.ld.lt b hm) (hn b hF))⟩
theorem TwSt.start (h : SgSt w0 w L R Fa va sa) (h2 : LdAt Fb w' vb sb) (hn : ∀ b, b ∈ Fb → w.heap.size ≤ b) (hb : Below w.heap.size w w') : TwSt w0 w' L R Fa va sa Fb vb sb :=
  ⟨h.keep hb, ⟨⟨h2, fun b hm => Nat.le_trans h.lv.bel.size (hn b hm), (h.keep hb).lv.bel⟩, h.st, (h.keep hb).lt, (h.keep hb).r, fun b hm hF => Nat.lt_irrefl _ (Nat.lt_of_lt_of_le (h.lt b hm) (hn b hF))⟩, fun x ha hB => Nat.lt_irrefl _ (Nat.lt_of_lt_of_le (h.lv.ld.lt x ha) (hn x hB))⟩
end
/-- The configuration lies about. -/
structure AgSt (w0 w : World) (ep : Int) (vm : Value) : Prop where
  cf : GfAt w w0.heap.size ep vm
  bel : Below w0.heap.size w0 w
theorem AgSt.keep {w0 w w' : World} {ep : Int} {vm : Value} (h : AgSt w0 w ep vm) (hb : Below w.heap.size w w') : AgSt w0 w' ep vm := ⟨(hb.block _ (lt_of_blk h.cf)).trans h.cf, h.bel.trans (hb.mono h.bel.size)⟩
theorem ag_start (w : World) (ep : Int) (vm : Value) : AgSt w (w.alloc (.cells #[.int .i64 ep, vm] 24)) ep vm := ⟨heap_alloc_last w _, (Below.refl w.heap.size w).alloc (Nat.le_refl _) _⟩
set_option maxRecDepth 100000 in
set_option maxHeartbeats 3200000 in
theorem ldagain_no (ep : Int) (a : Option Addr) (n cap : Nat) (l : List Int) (hn : l.length = n) (hm : n ≤ maxLen) (sa : Option Addr) (sn sc : Nat) (ta : Option Addr) (tn tc : Nat) (w : World) (hI : IntsIn w a l) (hr : rightC ep l = false ∨ ep ≠ 0) :
    Calls Tryz.prog 5 #[.agg #[.int .i64 ep, .slice a n cap], .slice sa sn sc, .slice ta tn tc] w fun r w' => r = .returned (.bool true) ∧ Below w.heap.size w w' := by
  have H0 := hid (ag_start w ep (.slice a n cap))
  have HPl : Hid (∀ u : World, AgSt w u ep (.slice a n cap) → Calls Tryz.prog 15 #[.agg #[.int .i64 ep, .slice a n cap], .slice sa sn sc] u fun e w' => e = .returned (.pointer none) ∧ AgSt w w' ep (.slice a n cap)) := hid (fun u hu =>
    (eplayed_no ep a n cap l hn hm sa sn sc u (hI.keep hu.bel (Nat.le_refl _)) hr).mono fun e w' ⟨h1, h2⟩ => ⟨h1, hu.keep h2⟩)
  have HRt : Hid (∀ u : World, AgSt w u ep (.slice a n cap) → Calls Tryz.prog 16 #[.agg #[.int .i64 ep, .slice a n cap]] u fun e w' => e = .returned (.bool (rightC ep l)) ∧ Below u.heap.size u w') := hid (fun u hu => cright_any ep a n cap l hn hm u (hI.keep hu.bel (Nat.le_refl _)))
  clear hI hn hm
  cases hb0 : rightC ep l with
  | false =>
    rw [hb0] at HRt
    clear hr hb0
    go_enter Tryz.func5, Tryz.ntmps5
    go_wp2_with (first
      | (go_at_call 7; refine (elives_any _).mono ?_; rintro e w1 ⟨rfl, hb⟩; have H1 := hid (H0.out.keep hb); clear hb; obtain ⟨x0, x1⟩ := H1.out.cf.cells)
      | (go_at_call 15; refine (HPl.out _ H1.out).mono ?_; rintro e w2 ⟨rfl, h⟩; have H2 := hid h; clear h x0 x1; obtain ⟨x0, x1⟩ := H2.out.cf.cells)
      | (go_at_call 16; refine (HRt.out _ H2.out).mono ?_; rintro e w3 ⟨rfl, hb⟩; have H3 := hid (H2.out.keep hb); clear hb x0 x1))
    go_ret
    exact ⟨rfl, H3.out.bel⟩
  | true =>
    have hne : ¬ ep = 0 := by
      rcases hr with h | h
      · rw [hb0] at h; cases h
      · exact h
    rw [hb0] at HRt
    clear hr hb0
    go_enter Tryz.func5, Tryz.ntmps5
    go_wp2_with (first
      | (go_at_call 7; refine (elives_any _).mono ?_; rintro e w1 ⟨rfl, hb⟩; have H1 := hid (H0.out.keep hb); clear hb; obtain ⟨x0, x1⟩ := H1.out.cf.cells)
      | (go_at_call 15; refine (HPl.out _ H1.out).mono ?_; rintro e w2 ⟨rfl, h⟩; have H2 := hid h; clear h x0 x1; obtain ⟨x0, x1⟩ := H2.out.cf.cells)
      | (go_at_call 16; refine (HRt.out _ H2.out).mono ?_; rintro e w3 ⟨rfl, hb⟩; have H3 := hid (H2.out.keep hb); clear hb x0 x1; obtain ⟨x0, x1⟩ := H3.out.cf.cells))
    go_ret
    refine ⟨?_, H3.out.bel⟩
    show Ending.returned (.bool (ep != 0)) = _
    rw [show (ep != 0) = true by simpa using hne]
set_option maxRecDepth 100000 in
set_option maxHeartbeats 12800000 in
theorem ldagain_yes (a : Option Addr) (n cap : Nat) (l : List Int) (hn : l.length = n) (sa : Option Addr) (sc : Nat) (os : List Stp) (hol : os.length ≤ maxLen) (hos : ∀ o, o ∈ os → stB o) (ta : Option Addr) (tc : Nat) (ms : List Stp) (hml : ms.length ≤ maxLen) (hms : ∀ o, o ∈ ms → stB o) (w : World) (hI : IntsIn w a l) (hr : rightC 0 l = true) (hS : StpsIn w sa os) (hT : StpsIn w ta ms) :
    Calls Tryz.prog 5 #[.agg #[.int .i64 0, .slice a n cap], .slice sa os.length sc, .slice ta ms.length tc] w fun r w' => r = .returned (.bool true) ∧ Below w.heap.size w w' := by
  have H0 := hid (ag_start w 0 (.slice a n cap))
  have hl2 : (ms.length : Int) ≤ 9223372036854775807 := by unfold maxLen at hml; omega
  have HPl : Hid (∀ u : World, AgSt w u 0 (.slice a n cap) → Calls Tryz.prog 15 #[.agg #[.int .i64 0, .slice a n cap], .slice sa os.length sc] u fun e w' => ∃ g F, e = .returned (.pointer (some ⟨g, 0, none⟩)) ∧ LvSt w w' F (.pointer (some ⟨g, 0, none⟩)) (playS (newS l) os)) := hid (fun u hu =>
    (eplayed_yes a n cap l hn sa sc os hol hos u (hI.keep hu.bel (Nat.le_refl _)) hr (hS.keep hu.bel (Nat.le_refl _))).mono fun e w' ⟨g, F, h1, h2⟩ => ⟨g, F, h1, ⟨h2.ld, fun b hb => Nat.le_trans hu.bel.size (h2.new b hb), (hu.keep h2.bel).bel⟩⟩)
  have hok : LOk (playS (newS l) os) := play_ok (newS_ok hr) os hos
  obtain ⟨g1, g2⟩ := op_good hok
  have HOp : Hid (∀ u : World, Calls Tryz.prog 12 #[.string (lgT (playS (newS l) os))] u fun e w' => ∃ g F, e = .returned (.tuple #[.pointer (some ⟨g, 0, none⟩), .int .i64 0]) ∧ LdAt F w' (.pointer (some ⟨g, 0, none⟩)) (playS (newS l) os) ∧ (∀ b, b ∈ F → u.heap.size ≤ b) ∧ Below u.heap.size u w') := hid (fun u =>
    (gopen_yes _ u g1).mono fun e w' ⟨v, F, h1, h2, h3, h4⟩ => by
      rw [g2] at h2
      obtain ⟨g, rfl⟩ := h2.ptr
      exact ⟨g, F, h1, h2, h3, h4⟩)
  have HCo : Hid (∀ (u : World) (F : List Nat) (v : Value), LdAt F u v (playS (newS l) os) → Calls Tryz.prog 17 #[v] u fun e w' => ∃ g F2, e = .returned (.pointer (some ⟨g, 0, none⟩)) ∧ LdAt F2 w' (.pointer (some ⟨g, 0, none⟩)) (playS (newS l) os) ∧ (∀ b, b ∈ F2 → u.heap.size ≤ b) ∧ Below u.heap.size u w') := hid (fun u F v hu =>
    (gcopy_any hu).mono fun e w' ⟨v, F, h1, h2, h3, h4⟩ => by
      obtain ⟨g, rfl⟩ := h2.ptr
      exact ⟨g, F, h1, h2, h3, h4⟩)
  have HSm : Hid (∀ (c : Int) (f : Nat) (u : World), Calls Tryz.prog 21 #[.agg #[.int .i64 c, .float .f64 f], .agg #[.int .i64 c, .float .f64 f]] u fun e w' => e = .returned (.bool true) ∧ Below u.heap.size u w') := hid (fun c f u => by have := qsameResult_any c f c f u; rw [sameS_refl] at this; exact this)
  have HS := hid (And.intro hT hms)
  clear hI hr hn hS hos hol hml hms hT g1 g2 hok
  generalize playS (newS l) os = S0 at *
  go_enter Tryz.func5, Tryz.ntmps5
  go_wp2_with (first
    | (go_at_call 7; refine (elives_any _).mono ?_; rintro e w1 ⟨rfl, hb⟩; have H1 := hid (H0.out.keep hb); clear hb; obtain ⟨x0, x1⟩ := H1.out.cf.cells)
    | (go_at_call 15; refine (HPl.out _ H1.out).mono ?_; rintro e w2 ⟨g, F2, rfl, h⟩; have H2 := hid h; clear h x0 x1)
    | (have := H6; go_at_call 14; refine (gtextT H6.out.b.lv.ld).mono ?_; rintro e w7 ⟨rfl, hb⟩; have H7 := hid (H6.out.keep hb); clear hb)
    | (have := H5; go_at_call 14; refine (gtextT H5.out.a.lv.ld).mono ?_; rintro e w6 ⟨rfl, hb⟩; have H6 := hid (H5.out.keep hb); clear hb)
    | (go_at_call 14; refine (gtextT H2.out.ld).mono ?_; rintro e w3 ⟨rfl, hb⟩; have H3 := hid (H2.out.keep hb); clear hb)
    | (go_at_call 12; refine (HOp.out _).mono ?_; rintro e w4 ⟨g4, F4, rfl, h1, h2, h3⟩; have H4 := hid (SgSt.stand H3.out h1 h2 h3); clear h1 h2 h3)
    | (go_at_call 17; refine (HCo.out _ _ _ H4.out.r).mono ?_; rintro e w5 ⟨g5, F5, rfl, h1, h2, h3⟩; have H5 := hid (TwSt.start H4.out h1 h2 h3); clear h1 h2 h3))
  go_loopw [12] (fun i wr => ∃ (j : Nat) (Fa Fb : List Nat) (s : Ls), j ≤ ms.length ∧ i = .int .i64 (j : Int) ∧ TwSt w wr F2 (fun u => LdAt F2 u (.pointer (some ⟨g, 0, none⟩)) S0) Fa (.pointer (some ⟨g4, 0, none⟩)) s Fb (.pointer (some ⟨g5, 0, none⟩)) s)
    (fun i _ => ((ms.length : Int) - intOf i).toNat)
  case atStart => exact ⟨0, _, _, _, by omega, rfl, H7.out⟩
  case round =>
    obtain ⟨j, Fa, Fb, s, hj, rfl, hP⟩ := hrel
    have HP := hid hP
    clear hP
    by_cases hjn : j = ms.length
    · have hj1 : ¬ ((j : Int) < (ms.length : Int)) := by omega
      clear hj hjn
      go_wp2_with (first
        | (have := H9; go_at_call 14; refine (gtextT H9.out.a.r).mono ?_; rintro e w10 ⟨rfl, hb⟩; have H10 := hid (H9.out.keep hb); clear hb)
        | (have := H8; go_at_call 14; refine (gtextT H8.out.b.lv.ld).mono ?_; rintro e w9 ⟨rfl, hb⟩; have H9 := hid (H8.out.keep hb); clear hb)
        | (go_at_call 14; refine (gtextT HP.out.a.lv.ld).mono ?_; rintro e w8 ⟨rfl, hb⟩; have H8 := hid (HP.out.keep hb); clear hb))
      go_ret
      exact ⟨rfl, H10.out.a.lv.bel⟩
    · have hj1 : (j : Int) < (ms.length : Int) := by omega
      have hj0 : (0 : Int) ≤ (j : Int) := Int.natCast_nonneg _
      obtain ⟨o, ho⟩ : ∃ o, ms[j]? = some o := ⟨_, List.getElem?_eq_getElem (by omega)⟩
      obtain ⟨b, off, hst⟩ := HS.out.1.at ho
      have HA := hid hst
      have HB := hid (HS.out.2 _ (List.mem_of_getElem? ho))
      have hsa := hst.is
      subst hsa
      have HJ := hid (And.intro hj hjn)
      clear hst ho hj hjn
      have ha := HA.out.keep HP.out.a.lv.bel
      have k0 := ha.k0
      have k1 := ha.k1
      have k2 := ha.k2
      have k3 := ha.k3
      have k4 := ha.k4
      have k5 := ha.k5
      have k6 := ha.k6
      clear ha
      obtain ⟨t, r⟩ := o
      cases t with
      | true =>
        have HTu : Hid (∀ (u : World) (F : List Nat) (v : Value), LdAt F u v s → Calls Tryz.prog 18 #[v] u fun e w' => e = .returned (.int .i64 (turnE s)) ∧ LdTo F u w' v (turnS s)) := hid (fun u F v hu => gturn_any hu)
        generalize turnE s = E at HTu
        generalize turnS s = S' at HTu
        go_wp2_with (first
          | (have := H8; go_at_call 18; obtain ⟨F8, h8⟩ := H8.out; refine (HTu.out _ _ _ h8.b.lv.ld).mono ?_; rintro e w9 ⟨rfl, h⟩; have H9 := hid (h8.toB h); clear h h8 H8)
          | (go_at_call 18; refine (HTu.out _ _ _ HP.out.a.lv.ld).mono ?_; rintro e w8 ⟨rfl, h⟩; have H8 := hid (HP.out.toA h); clear h k0 k1 k2 k3 k4 k5 k6))
        go_roundw
        case rel =>
          obtain ⟨F9, h9⟩ := H9.out
          exact ⟨j + 1, _, _, _, by have := HJ.out; omega, rfl, h9⟩
        case measure => have := HJ.out; simp [intOf]; omega
      | false =>
        have HDo : Hid (∀ (u : World) (F : List Nat) (v : Value), LdAt F u v s → Calls Tryz.prog 19 #[v, .agg #[.int .i64 r.c, .int .i64 r.st, .int .i64 r.k, .string r.key, .float .f64 r.b, .int .i64 r.id]] u fun e w' => e = .returned (.tuple #[.agg #[.int .i64 (doC s r), .float .f64 (doF s r)], .int .i64 (doE s r)]) ∧ LdTo F u w' v (doS s r)) := hid (fun u F v hu => gdo_any hu r HB.out.2)
        generalize doC s r = C at HDo
        generalize doF s r = G at HDo
        generalize doE s r = E at HDo
        generalize doS s r = S' at HDo
        go_wp2_with (first
          | (have := H11; go_at_call 20; refine (drequest_any r _).mono ?_; rintro e w12 ⟨rfl, hb⟩; have H12 := hid (H11.out.keep hb); clear hb k0 k1 k2 k3 k4 k5 k6)
          | (go_at_call 20; refine (drequest_any r _).mono ?_; rintro e w9 ⟨rfl, hb⟩; have H9 := hid (HP.out.keep hb); clear hb k0 k1 k2 k3 k4 k5 k6)
          | (have := H12; go_at_call 19; refine (HDo.out _ _ _ H12.out.b.lv.ld).mono ?_; rintro e w13 ⟨rfl, h⟩; have H13 := hid (H12.out.toB h); clear h)
          | (go_at_call 19; refine (HDo.out _ _ _ H9.out.a.lv.ld).mono ?_; rintro e w10 ⟨rfl, h⟩; have H10 := hid (H9.out.toA h); clear h)
          | (have := H13; refine wl_store_rs rfl _ _ rfl w13.heap.size rfl 0 C 0 G rfl (heap_alloc_last w13 _) ?_; intro w14 Hz; obtain ⟨F13, h13⟩ := H13.out; have H14 := hid (h13.res Hz.out); clear Hz h13 H13; obtain ⟨x0, x1⟩ := H14.out.a.r.1.cells; obtain ⟨y0, y1⟩ := H14.out.a.r.2.1.cells)
          | (have := H10; refine wl_store_rs rfl _ _ rfl w10.heap.size rfl 0 C 0 G rfl (heap_alloc_last w10 _) ?_; intro w11 Hz; obtain ⟨F10, h10⟩ := H10.out; have H11 := hid (h10.res Hz.out); clear Hz h10 H10; have ha := HA.out.keep H11.out.a.lv.bel; have k0 := ha.k0; have k1 := ha.k1; have k2 := ha.k2; have k3 := ha.k3; have k4 := ha.k4; have k5 := ha.k5; have k6 := ha.k6; clear ha)
          | (go_at_call 21; refine (HSm.out C G _).mono ?_; rintro e w15 ⟨rfl, hb⟩; have H15 := hid (H14.out.keep hb); clear hb))
        go_roundw
        case rel => exact ⟨j + 1, _, _, _, by have := HJ.out; omega, rfl, (H15.out.drop (stable_and (stable_rs _ _ _) HP.out.a.st)).drop HP.out.a.st⟩
        case measure => have := HJ.out; simp [intOf]; omega
theorem ldagain_any (ep : Int) (a : Option Addr) (n cap : Nat) (l : List Int) (hn : l.length = n) (hm : n ≤ maxLen) (sa : Option Addr) (sc : Nat) (os : List Stp) (hol : os.length ≤ maxLen) (hos : ∀ o, o ∈ os → stB o) (ta : Option Addr) (tc : Nat) (ms : List Stp) (hml : ms.length ≤ maxLen) (hms : ∀ o, o ∈ ms → stB o) (w : World) (hI : IntsIn w a l) (hS : StpsIn w sa os) (hT : StpsIn w ta ms) :
    Calls Tryz.prog 5 #[.agg #[.int .i64 ep, .slice a n cap], .slice sa os.length sc, .slice ta ms.length tc] w fun r w' => r = .returned (.bool true) ∧ Below w.heap.size w w' := by
  by_cases h : rightC ep l = true ∧ ep = 0
  · obtain ⟨hr, rfl⟩ := h
    exact ldagain_yes a n cap l hn sa sc os hol hos ta tc ms hml hms w hI hr hS hT
  · refine ldagain_no ep a n cap l hn hm sa _ sc ta _ tc w hI ?_
    cases hr : rightC ep l with
    | false => exact .inl rfl
    | true => exact .inr (fun e => h ⟨hr, e⟩)
end Go.Proofs.YtpeagpeifmimlaaGreat

/- LedgerAgain is proved: for every configuration and two scripts: what is opened of the bytes, and what is copied, goes on alike, and changes nothing else. No condition. -/
namespace Go.Proofs.YtpeagpeifmimlaaGreat
open Go.ChangeShapes Go.WideShapes Go.ChangeAt Go.RowKit
open Go.ChangeMaps (open_string shut_string)

theorem Tryz.own : ownKnob Tryz.prog.godebug = none := by kernel_rfl
theorem Tryz.laidOut : laidOutB Tryz.prog = true := by kernel_rfl
theorem Tryz.cells24 : Tryz.prog.cellsOf 24 = 2 := by kernel_rfl
theorem array2 {α : Type} {cs : Array α} (h : cs.size = 2) : ∃ c0 c1, cs = #[c0, c1] := by
  obtain ⟨l⟩ := cs
  match l, h with
  | [c0, c1], _ => exact ⟨c0, c1, rfl⟩

set_option maxRecDepth 100000 in
theorem ledgerAgain_contract (H : Type) (enc : TypeId × Value → H) (W : World) (base : Nat) (args : Array Value) (ds gs : List (DataW H)) (before : List MemPlace)
    (hval : ∀ (j : Nat) t v, Tryz.f5.params[j]? = some t → args[j]? = some v → Value.okWide Tryz.prog W .any base t v)
    (hW : DataW.Whole enc Tryz.prog Tryz.f5.params.toList Rows.ledgerAgainSpec.vars false W args.toList ds gs before) :
    Calls Tryz.prog 5 args W fun e W' => ∃ v, e = .returned v ∧ Rows.ledgerAgainSpec.post enc Tryz.prog Tryz.f5 false true false false W args v W' := by
  have hW' := hW
  obtain ⟨p, q, hA0, hV, rfl, hfz, hnd⟩ := hW
  have hA : DataW.TrodAll enc Tryz.prog W 0 (fun _ => true) true Tryz.f5.params.toList args.toList ds p := hA0
  rw [Tryz.params5] at hA hval
  obtain ⟨v0, vs0, d0, ds0, p0, q0, hargs, rfl, rfl, h0, r0⟩ := trodAll_cons hA
  obtain ⟨v1, vs1, d1, ds1, p1, q1, rfl, rfl, rfl, h1, r1⟩ := trodAll_cons r0
  obtain ⟨v2, vs2, d2, ds2, p2, q2, rfl, rfl, rfl, h2, r2⟩ := trodAll_cons r1
  obtain ⟨rfl, rfl, rfl⟩ := trodAll_nil r2
  obtain rfl : args = #[v0, v1, v2] := by cases args; simp_all
  obtain ⟨rfl, rfl⟩ := trodVars_none hV
  obtain ⟨cs0, rfl, hsc0⟩ := okWide_struct Tryz.underlying24 (hval 0 24 v0 rfl rfl)
  obtain ⟨c0_0, c0_1, rfl⟩ := array2 (hsc0.trans Tryz.cells24)
  have k0 := h0
  have lt0 : ∀ x ∈ p0, x.block < W.heap.size := by obtain ⟨m, hm⟩ := k0; exact DataW.trod_lt m _ _ _ hm
  obtain ⟨ad1, len1, cap1, rfl⟩ := okWide_slice Tryz.underlying25 (hval 1 25 v1 rfl rfl)
  have k1 := h1
  have lt1 : ∀ x ∈ p1, x.block < W.heap.size := by obtain ⟨m, hm⟩ := k1; exact DataW.trod_lt m _ _ _ hm
  obtain ⟨ad2, len2, cap2, rfl⟩ := okWide_slice Tryz.underlying25 (hval 2 25 v2 rfl rfl)
  have k2 := h2
  have lt2 : ∀ x ∈ p2, x.block < W.heap.size := by obtain ⟨m, hm⟩ := k2; exact DataW.trod_lt m _ _ _ hm
  clear hA0
  have fin : Calls Tryz.prog 5 #[.agg #[c0_0, c0_1], .slice ad1 len1 cap1, .slice ad2 len2 cap2] W fun e W' => e = .returned (.bool true) ∧ Below W.heap.size W W' := by
    obtain ⟨fuel0, hf0⟩ := h0
    obtain ⟨e0, ad0, cap0, xs0, rfl, rfl, hm0, hI0, hsw0⟩ := open_conf (by simpa [Value.cells] using hf0)
    obtain ⟨fuel1, hf1⟩ := h1
    obtain ⟨os1, rfl, hol1, hS1, hos1⟩ := open_stps (by simpa [Value.cells] using hf1)
    obtain ⟨fuel2, hf2⟩ := h2
    obtain ⟨os2, rfl, hol2, hS2, hos2⟩ := open_stps (by simpa [Value.cells] using hf2)
    exact ldagain_any e0 ad0 _ cap0 xs0 rfl hm0 ad1 cap1 os1 hol1 hos1 ad2 cap2 os2 hol2 hos2 W hI0 hS1 hS2
  refine fin.mono fun e W' ⟨he, bel⟩ => ?_
  subst he
  exact ⟨_, rfl, _, _, _, [], _, [], hW', trodAll_mk1 (shut_bool Tryz.underlying4 _), (trodAll_cons_mk (Below.trod Tryz.laidOut (by kernel_rfl) (of_decide_eq_true (by kernel_rfl)) k0 bel lt0) (trodAll_cons_mk (Below.trod Tryz.laidOut (by kernel_rfl) (of_decide_eq_true (by kernel_rfl)) k1 bel lt1) (trodAll_cons_mk (Below.trod Tryz.laidOut (by kernel_rfl) (of_decide_eq_true (by kernel_rfl)) k2 bel lt2) trodAll_mk0))), rfl, bel.frame _, fun h => by cases h⟩

set_option maxRecDepth 100000 in
theorem ledgerAgain_lifted (os : Os) (started : os.Started) (H : Type) (enc : TypeId × Value → H) :
    ReturnsInHanded {} Tryz.checked os 5 .any (Rows.ledgerAgainSpec.pre6 enc Tryz.prog Tryz.f5 Rows.ledgerAgainRow.domain false) (Rows.ledgerAgainSpec.post enc Tryz.prog Tryz.f5 false true false false) := by
  refine returnsInHanded_of_change (C := Tryz.checked) Tryz.own started (by kernel_rfl) Tryz.func5
    (ChangeSpec.witness6 (enc := enc) (C := Tryz.checked) false ⟨#[], #[.agg #[.int .i64 0, .slice none 0 0], .slice none 0 0, .slice none 0 0], []⟩ 8 (by kernel_rfl) (by kernel_rfl) (by kernel_rfl) (by kernel_rfl)) ?_
  intro W base args ds gs before hval hW _ _
  exact ledgerAgain_contract H enc W base args ds gs before hval hW

theorem ledgerAgain_holds : Rows.LedgerAgainSaid :=
  OpenClaim.holds_of_wide 5 Tryz.f5 rfl rfl rfl rfl rfl rfl rfl ⟨rfl, rfl, rfl, rfl, rfl⟩ rfl rfl rfl rfl rfl (by kernel_rfl) Tryz.func5 (by kernel_rfl)
    (of_decide_eq_true (by kernel_rfl)) (by unfold Func.isWrapper; first | (rw [if_pos (by decide +kernel)]; kernel_rfl) | (rw [if_neg (by decide +kernel)]; exact ⟨rfl, rfl⟩))
    (fun os started H enc _ => ledgerAgain_lifted os started H enc)
#print axioms ledgerAgain_holds

end Go.Proofs.YtpeagpeifmimlaaGreat
