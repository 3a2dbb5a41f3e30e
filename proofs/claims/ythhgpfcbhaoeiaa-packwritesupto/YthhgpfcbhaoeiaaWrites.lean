/- PackWrites is proved, where what comes in is of bulk at most 1048576: for every limit and every list of items: a writer writes just the bytes that the document says, or tells the first error, and never has more bytes than its limit. -/
import Derived.Test.YthhgpfcbhaoeiaaRows
import Derived.Test.YthhgpfcbhaoeiaaPkL
import Derived.Test.YthhgpfcbhaoeiaaPkY
import Derived.Test.YthhgpfcbhaoeiaaMwD
import Derived.Test.YthhgpfcbhaoeiaaPkU
import Derived.BigQuiet
import Derived.Deep.QuietTactic
import Derived.JoinedCond
namespace Go.Proofs.Ythhgpfcbhaoeiaa
open Go.ChangeShapes Go.WideShapes Go.ChangeAt Go.RowKit
open Go.ChangeMaps (open_string shut_string)

theorem below_kept {w w' x : World} {B C : Nat} {r : Option Nat} (h : Below B x w) (hk : Kept C r w w') (hB : B ≤ w.heap.size) (hC : B ≤ C) (hr : ∀ g, r = some g → B ≤ g) : Below B x w' := h.trans (hk.below hB hC hr)
theorem below_drewN {B : Nat} {a w : World} (n : Nat) (h : Below B a w) : Below B a (w.drewN n) := by
  induction n with
  | zero => exact h
  | succ n ih => exact ih.drew

theorem iL_le (M : Nat) (l : List UInt8) (er : Int) (i : It) (h : l.length ≤ M) : (iL M l er i).length ≤ M := by
  unfold iL
  rcases i.kd_bd with hk | hk | hk | hk | hk <;> simp [hk]
  · exact wL_le M l er 1 i.n h
  · exact wL_le M l er 2 i.n h
  · exact wL_le M l er 4 i.n h
  · exact bL_le M l er i.q h
  · exact xL_le M l er i.s h
theorem wst_le (M : Nat) (its : List It) : ∀ p : List UInt8 × Int, p.1.length ≤ M → (wst M its p).1.length ≤ M := by
  induction its with
  | nil => intro p h; exact h
  | cons i r ih => intro p h; exact ih _ (iL_le M p.1 p.2 i h)

/-- The two writers' rows lie apart. -/
def Sep (c : Nat) (v u : Value) : Prop := v.ownBlock ≠ some c ∧ ∀ g, v.ownBlock = some g → u.ownBlock ≠ some g
theorem ownsRow_other {w w' : World} {b base : Nat} {r : Option Nat} {v : Value} {n : Nat} {xs : List Value} (h : w.ownsRow base 5 1 v n xs) (hk : Kept b r w w') (hb : ∀ g, v.ownBlock = some g → g ≠ b ∧ some g ≠ r) : w'.ownsRow base 5 1 v n xs := by
  obtain ⟨h1, h2⟩ := h
  refine ⟨h1, ?_⟩
  rcases h2 with h2 | ⟨g, cap, cur, rfl, hg, hh, q⟩
  · exact .inl h2
  · have := hb g rfl
    exact .inr ⟨g, cap, cur, rfl, hg, by rw [hk.block g (lt_of_blk hh) this.1 this.2]; exact hh, q⟩
theorem mw_keep {w w' : World} {b c : Nat} {v u : Value} {lim : Int} {l : List UInt8} {er : Int} (h : MwAt w c u lim l er) (hk : Kept b v.ownBlock w w') (hbc : b < c) (hs : Sep c v u) : MwAt w' c u lim l er :=
  ⟨by rw [hk.block c h.lt (by omega) (fun e => hs.1 e.symm)]; exact h.blk, ownsRow_other h.own hk (fun g hg => ⟨by have := (h.own.lt g hg).1; omega, fun e => hs.2 g e.symm hg⟩)⟩
theorem wr_keep {w w' : World} {b c : Nat} {v u : Value} {lim lim' : Int} {l l' : List UInt8} {er er' : Int} (h : WrAt w b v lim l er) (hm : MwAt w c u lim' l' er') (hk : Kept c u.ownBlock w w') (hbc : b < c) (hs : Sep c v u) : WrAt w' b v lim l er :=
  ⟨by rw [hk.block b h.lt (by omega) (fun e => by have := (hm.own.lt b e.symm).1; omega)]; exact h.blk, ownsRow_other h.own hk (fun g hg => ⟨fun e => hs.1 (by rw [hg, e]), fun e => hs.2 g hg e.symm⟩)⟩
theorem sep_w {w : World} {c : Nat} {v v' u : Value} {lim : Int} {l : List UInt8} {er : Int} (hm : MwAt w c u lim l er) (hs : Sep c v u) (h : Moved w v v') : Sep c v' u := by
  rcases h with h | ⟨g, h, hg⟩
  · unfold Sep; rw [h]; exact hs
  · have := hm.lt
    refine ⟨fun e => by rw [h] at e; cases e; omega, fun g' e hu => ?_⟩
    rw [h] at e
    cases e
    have := (hm.own.lt g hu).2
    omega
theorem sep_m {w : World} {b c : Nat} {v u u' : Value} {lim : Int} {l : List UInt8} {er : Int} (hw : WrAt w b v lim l er) (hs : Sep c v u) (h : Moved w u u') : Sep c v u' := by
  refine ⟨hs.1, fun g e hu => ?_⟩
  rcases h with h | ⟨g', h, hg⟩
  · exact hs.2 g e (by rw [← h]; exact hu)
  · rw [h] at hu
    cases hu
    have := (hw.own.lt g e).2
    omega

theorem WrAt.drewN {w : World} {b : Nat} {v : Value} {lim : Int} {l : List UInt8} {er : Int} (h : WrAt w b v lim l er) (n : Nat) : WrAt (w.drewN n) b v lim l er := by
  induction n with
  | zero => exact h
  | succ n ih => exact (Still.drew _).wr ih
theorem MwAt.drewN {w : World} {b : Nat} {v : Value} {lim : Int} {l : List UInt8} {er : Int} (h : MwAt w b v lim l er) (n : Nat) : MwAt (w.drewN n) b v lim l er := by
  induction n with
  | zero => exact h
  | succ n ih => exact ih.drew

set_option maxRecDepth 100000 in
set_option maxHeartbeats 12800000 in
theorem packWrites_some (lim : Int) (ab off : Nat) (len cap : Nat) (its : List It) (w : World) (HI : Hid (ItemsIn w ab off len its)) (hl : len ≤ 9223372036854775807) (hwt : wt its ≤ 2097152) (M : Nat) (hM : max lim 0 = (M : Int)) (m1 : (M : Int) ≤ 9223372036854775807) :
    Calls Try.prog 3 #[.int .i64 lim, .slice (some ⟨ab, off, none⟩) len cap] w fun e w' => e = .returned (.bool true) ∧ Below w.heap.size w w' := by
  have HM := hid hM
  have hMM : (lim < 0 ∧ M = 0) ∨ (0 ≤ lim ∧ lim = (M : Int)) := by omega
  clear hM
  rcases hMM with ⟨hlo, hM0⟩ | ⟨hlo, hM0⟩
  all_goals
    have HMe := hid hM0
    clear hM0
    go_enter Try.func3, Try.ntmps3
    go_wp2_with fail
    refine (lives_any w).mono ?_
    rintro e w1 ⟨rfl, hb⟩
    have HB := hid hb
    clear hb
    go_wp2_with fail
    refine (new_any lim w1).mono ?_
    rintro e w2 ⟨rfl, hw2⟩
    have hx2 : WrAt w2 w1.heap.size (.slice none 0 0) M [] 0 := by rw [hw2, ← HM.out]; exact new_wr lim w1
    have hb2 : Below w.heap.size w w2 := by rw [hw2]; exact HB.out.alloc HB.out.size _
    have hz2 : w2.heap.size = w1.heap.size + 1 := by rw [hw2]; simp
    have HZ := hid (And.intro HB.out.size (show w1.heap.size < w2.heap.size by omega))
    have H2 := hid (And.intro hx2 hb2)
    clear hw2 hx2 hb2 hz2
    go_wp2_with fail
    refine (mnew_any lim w2).mono ?_
    rintro e w3 ⟨rfl, hw3⟩
    have hx3 : WrAt w3 w1.heap.size (.slice none 0 0) M [] 0 := by rw [hw3]; exact H2.out.1.alloc _
    have hm3 : MwAt w3 w2.heap.size (.slice none 0 0) M [] 0 := by rw [hw3, HM.out]; exact ⟨heap_alloc_new w2 _, World.ownsRow_nil _ _ _ _⟩
    have hb3 : Below w.heap.size w w3 := by rw [hw3]; exact H2.out.2.alloc H2.out.2.size _
    have H3 := hid (And.intro hx3 (And.intro hm3 hb3))
    clear hw3 hx3 hm3 hb3
    go_wp2_with fail
    go_loopw [7] (fun i wr => ∃ (k : Nat) (v u : Value), k ≤ len ∧ i = .int .i64 k ∧ WrAt wr w1.heap.size v M (wst M (its.take k) ([], 0)).1 (wst M (its.take k) ([], 0)).2 ∧ MwAt wr w2.heap.size u M (wst M (its.take k) ([], 0)).1 (wst M (its.take k) ([], 0)).2 ∧ Sep w2.heap.size v u ∧ Below w.heap.size w wr)
      (fun i _ => len - (intOf i).toNat)
    case atStart => exact ⟨0, _, _, Nat.zero_le _, rfl, H3.out.1, H3.out.2.1, ⟨by simp [Value.ownBlock], fun g h => by simp [Value.ownBlock] at h⟩, H3.out.2.2⟩
    case round =>
      obtain ⟨k, v, u, hk, rfl, hwr, hmw, hsep, hbel⟩ := hrel
      have HR := hid (And.intro hwr (And.intro hmw (And.intro hsep hbel)))
      clear hwr hmw hsep hbel
      by_cases hlt : k < len
      · obtain ⟨it, hit⟩ : ∃ it, its[k]? = some it := ⟨its[k]'(by have := HI.out.leng; omega), List.getElem?_eq_getElem _⟩
        have hcI := HI.out.cell k it hit
        obtain ⟨c0, c1, c2, c3⟩ := hcI.below HR.out.2.2.2 HI.out.lt
        have HcI := hid hcI
        have i0 : (0 : Int) ≤ (k : Int) := Int.natCast_nonneg _
        have i1 : (k : Int) < (len : Int) := by omega
        have hfit := HI.out.fits it (List.mem_of_getElem? hit)
        have hwl := wst_len M (its.take k) ([], 0)
        have hwk := wt_take its k it hit
        have hwm := wst_le M (its.take (k + 1)) ([], 0) (Nat.zero_le _)
        simp only [List.length_nil, Nat.zero_add] at hwl
        have hT := take_snoc_it its k it hit
        obtain ⟨l, er, hler⟩ : ∃ l er, wst M (its.take k) ([], 0) = (l, er) := ⟨_, _, rfl⟩
        obtain ⟨l', er', hler'⟩ : ∃ l' er', wst M (its.take (k + 1)) ([], 0) = (l', er') := ⟨_, _, rfl⟩
        have hst : iL M l er it = l' ∧ iE M l er it = er' := by
          have e := hler'
          rw [hT, wst_snoc, hler] at e
          exact ⟨congrArg Prod.fst e, congrArg Prod.snd e⟩
        have hR := HR.out
        rw [hler] at hR hwl
        rw [hler'] at hwm
        simp only at hR hwl hwm
        have HW := hid (write_any w1.heap.size v M l er it wr hR.1 hfit (by omega) m1 (by omega))
        have HX := hid (fun W (hW : MwAt W w2.heap.size u M l er) => model_any w2.heap.size u M l er it W hW hfit (by omega) m1 (by omega))
        rw [hst.1, hst.2] at HW HX
        have HS := hid hR
        have HE := hid hler'
        unfold It.v at HW HX
        clear hit hfit hwl hwk hT hler hler' hst hR hcI
        go_wp2_with fail
        refine HW.out.mono ?_
        rintro e w3 ⟨rfl, v3, hx3, hk3, hm3⟩
        have hb3 := below_kept HS.out.2.2.2 hk3 HS.out.2.2.2.size HZ.out.1 (fun g hg => by have := (HS.out.1.own.lt g hg).1; have := HZ.out.1; omega)
        have H3 := hid (And.intro hx3 (And.intro (mw_keep HS.out.2.1 hk3 HZ.out.2 HS.out.2.2.1) (And.intro (sep_w HS.out.2.1 HS.out.2.2.1 hm3) hb3)))
        obtain ⟨d0, d1, d2, d3⟩ := HcI.out.below hb3 HI.out.lt
        clear hx3 hk3 hm3 hb3
        go_wp2_with fail
        refine (HX.out w3 H3.out.2.1).mono ?_
        rintro e w4 ⟨rfl, u4, hx4, hk4, hm4⟩
        have hb4 := below_kept H3.out.2.2.2 hk4 H3.out.2.2.2.size (by have := HZ.out; omega) (fun g hg => by have := (H3.out.2.1.own.lt g hg).1; have := HZ.out; omega)
        have H4 := hid (And.intro (wr_keep H3.out.1 H3.out.2.1 hk4 HZ.out.2 H3.out.2.2.1) (And.intro hx4 (And.intro (sep_m H3.out.1 H3.out.2.2.1 hm4) hb4)))
        clear hx4 hk4 hm4 hb4
        obtain ⟨au, capu, hu⟩ := H4.out.2.1.form
        have cu := H4.out.2.1.c0
        rw [hu] at cu
        have HU := hid hu
        clear hu
        have hMe := HMe.out
        first | have hlm : (l'.length : Int) ≤ 0 := by omega | have hlm : (l'.length : Int) ≤ lim := by omega
        clear hMe
        go_wp2_with fail
        go_quiet ((go_at_call 14; exact Calls.quiet_of_same (len_any _ _ _ _ _ _ (by exact H4.out.1.drewN _))))
        go_wp2
        go_roundw
        case rel => exact ⟨k + 1, v3, u4, by omega, by go_num, by rw [HE.out]; exact H4.out.1.drewN _, by rw [HE.out]; exact H4.out.2.1.drewN _, H4.out.2.2.1, below_drewN _ H4.out.2.2.2⟩
        case measure => simp [intOf]; omega
      · obtain ⟨l, er, hler⟩ : ∃ l er, wst M (its.take k) ([], 0) = (l, er) := ⟨_, _, rfl⟩
        have hR := HR.out
        rw [hler] at hR
        simp only at hR
        have HS := hid hR
        clear hler hR
        by_cases her : er = 0
        · subst her
          go_wp2_with fail
          refine (done_ok w1.heap.size v M l wr HS.out.1).mono ?_
          rintro e w4 ⟨rfl, hw4⟩
          have H4 : Hid (WrAt w4 w1.heap.size v M l 0 ∧ MwAt w4 w2.heap.size u M l 0 ∧ Below w.heap.size w w4) := by rw [hw4]; exact ⟨HS.out.1, HS.out.2.1, HS.out.2.2.2⟩
          clear hw4
          go_wp2_with fail
          refine (mdone_ok w2.heap.size u M l w4 H4.out.2.1).mono ?_
          rintro e w5 ⟨rfl, hw5⟩
          have H5 : Hid (WrAt w5 w1.heap.size v M l 0 ∧ Below w.heap.size w w5) := by rw [hw5]; exact ⟨H4.out.1, H4.out.2.2⟩
          clear hw5
          go_wp2_with fail
          refine (done_ok w1.heap.size v M l w5 H5.out.1).mono ?_
          rintro e w6 ⟨rfl, hw6⟩
          have H6 : Hid (Below w.heap.size w w6) := by rw [hw6]; exact H5.out.2
          clear hw6
          go_wp2
          go_ret
          exact ⟨rfl, H6.out⟩
        · have hne : (er != 0) = true := by simpa using her
          go_wp2_with fail
          refine (done_err w1.heap.size v M l er wr HS.out.1 hne).mono ?_
          rintro e w4 ⟨rfl, hw4⟩
          have H4 : Hid (WrAt w4 w1.heap.size v M l er ∧ MwAt w4 w2.heap.size u M l er ∧ Below w.heap.size w w4) := by rw [hw4]; exact ⟨(Still.drew _).wr HS.out.1, HS.out.2.1.drew, HS.out.2.2.2.drew⟩
          clear hw4
          go_wp2_with fail
          refine (mdone_err w2.heap.size u M l er w4 H4.out.2.1 hne).mono ?_
          rintro e w5 ⟨rfl, hw5⟩
          have H5 : Hid (WrAt w5 w1.heap.size v M l er ∧ Below w.heap.size w w5) := by rw [hw5]; exact ⟨(Still.drew _).wr H4.out.1, H4.out.2.2.drew⟩
          clear hw5
          go_wp2_with fail
          refine (done_err w1.heap.size v M l er w5 H5.out.1 hne).mono ?_
          rintro e w6 ⟨rfl, hw6⟩
          have H6 : Hid (Below w.heap.size w w6) := by rw [hw6]; exact H5.out.2.drew
          clear hw6
          go_wp2
          go_ret
          exact ⟨rfl, H6.out⟩

set_option maxRecDepth 100000 in
set_option maxHeartbeats 12800000 in
theorem packWrites_none (lim : Int) (a : Option Addr) (len cap : Nat) (its : List It) (hlen : len = 0) (w : World) (M : Nat) (hM : max lim 0 = (M : Int)) :
    Calls Try.prog 3 #[.int .i64 lim, .slice a len cap] w fun e w' => e = .returned (.bool true) ∧ Below w.heap.size w w' := by
  have HM := hid hM
  have hMM : (lim < 0 ∧ M = 0) ∨ (0 ≤ lim ∧ lim = (M : Int)) := by omega
  clear hM
  rcases hMM with ⟨hlo, hM0⟩ | ⟨hlo, hM0⟩
  all_goals
    have HMe := hid hM0
    clear hM0
    go_enter Try.func3, Try.ntmps3
    go_wp2_with fail
    refine (lives_any w).mono ?_
    rintro e w1 ⟨rfl, hb⟩
    have HB := hid hb
    clear hb
    go_wp2_with fail
    refine (new_any lim w1).mono ?_
    rintro e w2 ⟨rfl, hw2⟩
    have hx2 : WrAt w2 w1.heap.size (.slice none 0 0) M [] 0 := by rw [hw2, ← HM.out]; exact new_wr lim w1
    have hb2 : Below w.heap.size w w2 := by rw [hw2]; exact HB.out.alloc HB.out.size _
    have hz2 : w2.heap.size = w1.heap.size + 1 := by rw [hw2]; simp
    have HZ := hid (And.intro HB.out.size (show w1.heap.size < w2.heap.size by omega))
    have H2 := hid (And.intro hx2 hb2)
    clear hw2 hx2 hb2 hz2
    go_wp2_with fail
    refine (mnew_any lim w2).mono ?_
    rintro e w3 ⟨rfl, hw3⟩
    have hx3 : WrAt w3 w1.heap.size (.slice none 0 0) M [] 0 := by rw [hw3]; exact H2.out.1.alloc _
    have hm3 : MwAt w3 w2.heap.size (.slice none 0 0) M [] 0 := by rw [hw3, HM.out]; exact ⟨heap_alloc_new w2 _, World.ownsRow_nil _ _ _ _⟩
    have hb3 : Below w.heap.size w w3 := by rw [hw3]; exact H2.out.2.alloc H2.out.2.size _
    have H3 := hid (And.intro hx3 (And.intro hm3 hb3))
    clear hw3 hx3 hm3 hb3
    go_wp2_with fail
    go_loopw [7] (fun i wr => ∃ (k : Nat) (v u : Value), k ≤ len ∧ i = .int .i64 k ∧ WrAt wr w1.heap.size v M (wst M (its.take k) ([], 0)).1 (wst M (its.take k) ([], 0)).2 ∧ MwAt wr w2.heap.size u M (wst M (its.take k) ([], 0)).1 (wst M (its.take k) ([], 0)).2 ∧ Sep w2.heap.size v u ∧ Below w.heap.size w wr)
      (fun i _ => len - (intOf i).toNat)
    case atStart => exact ⟨0, _, _, Nat.zero_le _, rfl, H3.out.1, H3.out.2.1, ⟨by simp [Value.ownBlock], fun g h => by simp [Value.ownBlock] at h⟩, H3.out.2.2⟩
    case round =>
      obtain ⟨k, v, u, hk, rfl, hwr, hmw, hsep, hbel⟩ := hrel
      have HR := hid (And.intro hwr (And.intro hmw (And.intro hsep hbel)))
      clear hwr hmw hsep hbel
      by_cases hlt : k < len
      · exact absurd hlt (by omega)
      · obtain ⟨l, er, hler⟩ : ∃ l er, wst M (its.take k) ([], 0) = (l, er) := ⟨_, _, rfl⟩
        have hR := HR.out
        rw [hler] at hR
        simp only at hR
        have HS := hid hR
        clear hler hR
        by_cases her : er = 0
        · subst her
          go_wp2_with fail
          refine (done_ok w1.heap.size v M l wr HS.out.1).mono ?_
          rintro e w4 ⟨rfl, hw4⟩
          have H4 : Hid (WrAt w4 w1.heap.size v M l 0 ∧ MwAt w4 w2.heap.size u M l 0 ∧ Below w.heap.size w w4) := by rw [hw4]; exact ⟨HS.out.1, HS.out.2.1, HS.out.2.2.2⟩
          clear hw4
          go_wp2_with fail
          refine (mdone_ok w2.heap.size u M l w4 H4.out.2.1).mono ?_
          rintro e w5 ⟨rfl, hw5⟩
          have H5 : Hid (WrAt w5 w1.heap.size v M l 0 ∧ Below w.heap.size w w5) := by rw [hw5]; exact ⟨H4.out.1, H4.out.2.2⟩
          clear hw5
          go_wp2_with fail
          refine (done_ok w1.heap.size v M l w5 H5.out.1).mono ?_
          rintro e w6 ⟨rfl, hw6⟩
          have H6 : Hid (Below w.heap.size w w6) := by rw [hw6]; exact H5.out.2
          clear hw6
          go_wp2
          go_ret
          exact ⟨rfl, H6.out⟩
        · have hne : (er != 0) = true := by simpa using her
          go_wp2_with fail
          refine (done_err w1.heap.size v M l er wr HS.out.1 hne).mono ?_
          rintro e w4 ⟨rfl, hw4⟩
          have H4 : Hid (WrAt w4 w1.heap.size v M l er ∧ MwAt w4 w2.heap.size u M l er ∧ Below w.heap.size w w4) := by rw [hw4]; exact ⟨(Still.drew _).wr HS.out.1, HS.out.2.1.drew, HS.out.2.2.2.drew⟩
          clear hw4
          go_wp2_with fail
          refine (mdone_err w2.heap.size u M l er w4 H4.out.2.1 hne).mono ?_
          rintro e w5 ⟨rfl, hw5⟩
          have H5 : Hid (WrAt w5 w1.heap.size v M l er ∧ Below w.heap.size w w5) := by rw [hw5]; exact ⟨(Still.drew _).wr H4.out.1, H4.out.2.2.drew⟩
          clear hw5
          go_wp2_with fail
          refine (done_err w1.heap.size v M l er w5 H5.out.1 hne).mono ?_
          rintro e w6 ⟨rfl, hw6⟩
          have H6 : Hid (Below w.heap.size w w6) := by rw [hw6]; exact H5.out.2.drew
          clear hw6
          go_wp2
          go_ret
          exact ⟨rfl, H6.out⟩

set_option maxRecDepth 100000 in
theorem packWrites_contract (H : Type) (enc : TypeId × Value → H) (W : World) (base : Nat) (args : Array Value) (ds gs : List (DataW H)) (before : List MemPlace)
    (hval : ∀ (j : Nat) t v, Try.f3.params[j]? = some t → args[j]? = some v → Value.okWide Try.prog W .any base t v)
    (hW : DataW.Whole enc Try.prog Try.f3.params.toList Rows.packWritesSpec.vars false W args.toList ds gs before) (hk : Rows.uptoSmall H (ds ++ gs) = true) :
    Calls Try.prog 3 args W fun e W' => ∃ v, e = .returned v ∧ Rows.packWritesSpec.post enc Try.prog Try.f3 false true false false W args v W' := by
  have hW' := hW
  obtain ⟨p, q, hA0, hV, rfl, hfz, hnd⟩ := hW
  have hA : DataW.TrodAll enc Try.prog W 0 (fun _ => true) true Try.f3.params.toList args.toList ds p := hA0
  rw [Try.params3] at hA hval
  obtain ⟨v0, vs0, d0, ds0, p0, q0, hargs, rfl, rfl, h0, r0⟩ := trodAll_cons hA
  obtain ⟨v1, vs1, d1, ds1, p1, q1, rfl, rfl, rfl, h1, r1⟩ := trodAll_cons r0
  obtain ⟨rfl, rfl, rfl⟩ := trodAll_nil r1
  obtain rfl : args = #[v0, v1] := by cases args; simp_all
  obtain ⟨rfl, rfl⟩ := trodVars_none hV
  obtain ⟨a0, rfl, rfl, rfl, w0⟩ := open_int Try.underlying3 (hval 0 3 v0 rfl rfl) h0
  obtain ⟨a1, len1, cap1, rfl⟩ := okWide_slice Try.underlying22 (hval 1 22 v1 rfl rfl)
  have k1 := h1
  have lt1 : ∀ x ∈ p1, x.block < W.heap.size := by obtain ⟨m, hm⟩ := k1; exact DataW.trod_lt m _ _ _ hm
  clear hA0
  have fin : Calls Try.prog 3 #[.int .i64 a0, .slice a1 len1 cap1] W fun e W' => e = .returned (.bool true) ∧ Below W.heap.size W W' := by
    obtain ⟨fuel, hf⟩ := h1
    rcases open_items (by simpa [Value.cells] using hf) with hlen | ⟨b1, off1, its, spare, rfl, hmax, hin, hd⟩
    · exact packWrites_none a0 a1 len1 cap1 [] hlen W (max a0 0).toNat (by omega)
    · have hbk := wt_bulk its
      have hbk2 := items_bulk hd hk
      have b0 := bounds_i64 w0
      exact packWrites_some a0 b1 off1 len1 cap1 its W hin hmax (by omega) (max a0 0).toNat (by omega) (by omega)
  refine fin.mono fun e W' ⟨he, bel⟩ => ?_
  subst he
  exact ⟨_, rfl, _, _, _, [], _, [], hW', trodAll_mk1 (shut_bool Try.underlying4 _), (trodAll_cons_mk (shut_int Try.underlying3 w0) (trodAll_cons_mk (Below.trod Try.laidOut (by kernel_rfl) (of_decide_eq_true (by kernel_rfl)) k1 bel lt1) trodAll_mk0)), rfl, bel.frame _, fun h => by cases h⟩

set_option maxRecDepth 100000 in
theorem packWrites_lifted (os : Os) (started : os.Started) (H : Type) (enc : TypeId × Value → H) (F : Stop.Interp) :
    ReturnsInHanded {} Try.checked os 3 .any ((Rows.OpenSpec.upto Rows.packWritesSpec).pre6 enc Try.prog Try.f3 Rows.packWritesUptoRow.domain false) (((Rows.OpenSpec.upto Rows.packWritesSpec).at F).post enc Try.prog Try.f3 false true false false) := by
  refine returnsInHanded_of_cond (C := Try.checked) (s := Rows.OpenSpec.upto Rows.packWritesSpec) (k := Rows.uptoSmall) rfl Try.own started (by kernel_rfl) Try.func3
    (OpenSpec.witness (enc := enc) (C := Try.checked) (s := Rows.OpenSpec.upto Rows.packWritesSpec) (k := Rows.uptoSmall) rfl false ⟨#[], #[.int .i64 0, .slice none 0 0], []⟩ 8 (by kernel_rfl) (by kernel_rfl) (by kernel_rfl)
      (x := ([.lit (.int .i64 0), .nil], [], [])) (by kernel_rfl) rfl (by kernel_rfl)) ?_
  intro W base args ds gs before hval hW _ hk _
  exact packWrites_contract H enc W base args ds gs before hval hW hk

theorem packWrites_upto : Rows.PackWritesUptoSaid :=
  OpenClaim.holds_of_cond 3 Try.f3 rfl rfl rfl rfl rfl rfl rfl ⟨rfl, rfl, rfl, rfl, rfl⟩ rfl rfl rfl rfl rfl (by kernel_rfl) Try.func3 (by kernel_rfl)
    (of_decide_eq_true (by kernel_rfl)) (by unfold Func.isWrapper; first | (rw [if_pos (by decide +kernel)]; kernel_rfl) | (rw [if_neg (by decide +kernel)]; exact ⟨rfl, rfl⟩))
    (fun os started H enc _ F => packWrites_lifted os started H enc F)
#print axioms packWrites_upto

end Go.Proofs.Ythhgpfcbhaoeiaa
