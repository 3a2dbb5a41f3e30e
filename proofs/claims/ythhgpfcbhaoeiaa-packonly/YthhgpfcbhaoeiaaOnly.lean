/- PackOnly is proved: of every text and every list of items: what is read to the end of the text is written as just this text. No condition. -/
import Derived.Test.YthhgpfcbhaoeiaaRows
import Derived.Test.YthhgpfcbhaoeiaaPkL
import Derived.Test.YthhgpfcbhaoeiaaPkY
import Derived.Test.YthhgpfcbhaoeiaaPkU
import Derived.SizedLaws
namespace Go.Proofs.Ythhgpfcbhaoeiaa
open Go.ChangeShapes Go.WideShapes Go.ChangeAt Go.RowKit
open Go.ChangeMaps (open_string shut_string)

theorem ownsRow_kept {w w' : World} {B base : Nat} {t : TypeId} {size : Nat} {v : Value} {n : Nat} {xs : List Value} (h : w.ownsRow base t size v n xs) (hk : Kept B none w w') (hB : B < base) : w'.ownsRow base t size v n xs := by
  obtain ⟨h1, h2⟩ := h
  refine ⟨h1, ?_⟩
  rcases h2 with h2 | ⟨g, cap, cur, hv, hg, hh, r⟩
  · exact .inl h2
  · exact .inr ⟨g, cap, cur, hv, hg, by rw [hk.block g (lt_of_blk hh) (by omega) (by simp)]; exact hh, r⟩
/-- A writer while a reader ahead of it goes on. -/
theorem WrAt.kept {w w' : World} {B b : Nat} {v : Value} {lim : Int} {l : List UInt8} {er : Int} (h : WrAt w b v lim l er) (hk : Kept B none w w') (hB : B < b) : WrAt w' b v lim l er :=
  ⟨by rw [hk.block b h.lt (by omega) (by simp)]; exact h.blk, ownsRow_kept h.own hk (by omega)⟩
theorem WrAt.alloc {w : World} {b : Nat} {v : Value} {lim : Int} {l : List UInt8} {er : Int} (h : WrAt w b v lim l er) (o : Obj) : WrAt (w.alloc o) b v lim l er :=
  ⟨(Below.heap_alloc w o b h.lt).trans h.blk, h.own.alloc o⟩
theorem RdAt.under {w w' : World} {B b : Nat} {s : ByteArray} {sh : Bool} {v : Value} {lim : Int} {l : List UInt8} {er : Int} (h : RdAt w B s sh) (hw : WrAt w b v lim l er) (hk : Kept b v.ownBlock w w') (hB : B < b) : RdAt w' B s sh :=
  (hk.block B (lt_of_blk h) (by omega) (fun e => by have := (hw.own.lt B e.symm).1; omega)).trans h
theorem rN8_lt (s : ByteArray) (sh : Bool) : rN s sh 8 < 18446744073709551616 := by
  have h := rN_lt s sh 8
  have e : (256 : Nat) ^ 8 = 18446744073709551616 := by decide
  omega
theorem below_kept {w w' x : World} {B C : Nat} {r : Option Nat} (h : Below B x w) (hk : Kept C r w w') (hB : B ≤ w.heap.size) (hC : B ≤ C) (hr : ∀ g, r = some g → B ≤ g) : Below B x w' := h.trans (hk.below hB hC hr)

set_option maxRecDepth 100000 in
set_option maxHeartbeats 6400000 in
theorem packOnly_some (t : ByteArray) (ab off : Nat) (len cap : Nat) (its : List It) (w : World) (HI : Hid (ItemsIn w ab off len its)) (ht : t.size ≤ 140737488351232) (hl : len ≤ 9223372036854775807) :
    Calls Try.prog 7 #[.string t, .slice (some ⟨ab, off, none⟩) len cap] w fun e w' => e = .returned (.bool true) ∧ Below w.heap.size w w' := by
  go_enter Try.func7, Try.ntmps7
  go_wp2_with fail
  refine (lives_any w).mono ?_
  rintro e w1 ⟨rfl, hb⟩
  have HB := hid hb
  clear hb
  go_wp2_with fail
  refine (read_any t w1).mono ?_
  rintro e w2 ⟨rfl, hw2⟩
  have hr2 : RdAt w2 w1.heap.size t false := by rw [hw2]; exact heap_alloc_new w1 _
  have hb2 : Below w.heap.size w w2 := by rw [hw2]; exact HB.out.alloc HB.out.size _
  have hz2 : w2.heap.size = w1.heap.size + 1 := by rw [hw2]; simp
  have HZ := hid (And.intro (show w1.heap.size < w2.heap.size by omega) HB.out.size)
  have H2 := hid (And.intro hr2 hb2)
  clear hw2 hr2 hb2 hz2
  go_wp2_with fail
  refine (new_any _ w2).mono ?_
  rintro e w3 ⟨rfl, hw3⟩
  have hr3 : RdAt w3 w1.heap.size t false := by rw [hw3]; exact H2.out.1.alloc _
  have hx3 : WrAt w3 w2.heap.size (.slice none 0 0) t.size [] 0 := by rw [hw3]; have := new_wr t.size w2; rw [show max (t.size : Int) 0 = (t.size : Int) by omega] at this ⊢; exact this
  have hb3 : Below w.heap.size w w3 := by rw [hw3]; exact H2.out.2.alloc H2.out.2.size _
  have H3 := hid (And.intro hr3 (And.intro hx3 hb3))
  clear hw3 hr3 hx3 hb3
  go_wp2_with fail
  go_loopw [7] (fun i wr => ∃ (k : Nat) (s : ByteArray) (sh : Bool) (l : List UInt8) (er : Int) (v : Value), k ≤ len ∧ i = .int .i64 k ∧ Inv t s sh l er ∧ RdAt wr w1.heap.size s sh ∧ WrAt wr w2.heap.size v t.size l er ∧ Below w.heap.size w wr)
    (fun i _ => len - (intOf i).toNat)
  case atStart => exact ⟨0, t, false, [], 0, _, Nat.zero_le _, rfl, ⟨Nat.zero_le _, Nat.le_refl _, fun _ => ⟨rfl, rfl⟩⟩, H3.out.1, H3.out.2.1, H3.out.2.2⟩
  case round =>
    obtain ⟨k, s, sh, l, er, v, hk, rfl, hinv, hrd, hwr, hbel⟩ := hrel
    have hll := hinv.1
    have hss := hinv.2.1
    have HR := hid (And.intro hinv (And.intro hrd (And.intro hwr hbel)))
    clear hinv hrd hwr hbel
    by_cases hlt : k < len
    · obtain ⟨it, hit⟩ : ∃ it, its[k]? = some it := ⟨its[k]'(by have := HI.out.leng; omega), List.getElem?_eq_getElem _⟩
      obtain ⟨c0, c1, c2, c3⟩ := (HI.out.cell k it hit).below HR.out.2.2.2 HI.out.lt
      have i0 : (0 : Int) ≤ (k : Int) := Int.natCast_nonneg _
      have i1 : (k : Int) < (len : Int) := by omega
      clear hit
      rcases it.kd_bd with hkd | hkd | hkd | hkd | hkd
      · have HC := hid (fun w => kind_any it w)
        rw [hkd] at HC
        unfold It.v at HC
        clear hkd
        go_wp2_with fail
        refine (HC.out _).mono ?_
        rintro e w4 ⟨rfl, hw4⟩
        have hr4 : RdAt w4 w1.heap.size s sh := by rw [hw4]; exact HR.out.2.1.alloc _
        have hx4 : WrAt w4 w2.heap.size v t.size l er := by rw [hw4]; exact HR.out.2.2.1.alloc _
        have hb4 : Below w.heap.size w w4 := by rw [hw4]; exact HR.out.2.2.2.alloc (HR.out.2.2.2.size) _
        have H4 := hid (And.intro hr4 (And.intro hx4 hb4))
        clear hw4 hr4 hx4 hb4
        go_wp2_with fail
        refine (rbyte_any w1.heap.size s sh w4 H4.out.1).mono ?_
        rintro e w5 ⟨rfl, hr5, hk5⟩
        have H5 := hid (And.intro hr5 (And.intro (H4.out.2.1.kept hk5 HZ.out.1) (below_kept H4.out.2.2 hk5 H4.out.2.2.size HZ.out.2 (by simp))))
        clear hr5 hk5
        go_wp2_with fail
        refine (wbyte_any w2.heap.size v t.size l er (rN s sh 1) w5 H5.out.2.1 (by omega) (by omega) (by omega) (by have := rN_i s sh 1 (by decide); omega)).mono ?_
        rintro e w6 ⟨rfl, v6, hx6, hk6, -⟩
        have H6 := hid (And.intro (H5.out.1.under H5.out.2.1 hk6 HZ.out.1) (And.intro hx6 (below_kept H5.out.2.2 hk6 H5.out.2.2.size (by have := HZ.out; omega) (fun g hg => by have := (H5.out.2.1.own.lt g hg).1; have := HZ.out; omega))))
        clear hx6 hk6
        go_wp2
        go_roundw
        case rel => exact ⟨k + 1, _, _, _, _, v6, by omega, by go_num, inv_num t s sh l er 1 HR.out.1, H6.out.1, H6.out.2.1, H6.out.2.2⟩
        case measure => simp [intOf]; omega
      · have HC := hid (fun w => kind_any it w)
        rw [hkd] at HC
        unfold It.v at HC
        clear hkd
        go_wp2_with fail
        refine (HC.out _).mono ?_
        rintro e w4 ⟨rfl, hw4⟩
        have hr4 : RdAt w4 w1.heap.size s sh := by rw [hw4]; exact HR.out.2.1.alloc _
        have hx4 : WrAt w4 w2.heap.size v t.size l er := by rw [hw4]; exact HR.out.2.2.1.alloc _
        have hb4 : Below w.heap.size w w4 := by rw [hw4]; exact HR.out.2.2.2.alloc (HR.out.2.2.2.size) _
        have H4 := hid (And.intro hr4 (And.intro hx4 hb4))
        clear hw4 hr4 hx4 hb4
        go_wp2_with fail
        refine (rword_any w1.heap.size s sh w4 H4.out.1).mono ?_
        rintro e w5 ⟨rfl, hr5, hk5⟩
        have H5 := hid (And.intro hr5 (And.intro (H4.out.2.1.kept hk5 HZ.out.1) (below_kept H4.out.2.2 hk5 H4.out.2.2.size HZ.out.2 (by simp))))
        clear hr5 hk5
        go_wp2_with fail
        refine (wword_any w2.heap.size v t.size l er (rN s sh 2) w5 H5.out.2.1 (by omega) (by omega) (by omega) (by have := rN_i s sh 2 (by decide); omega)).mono ?_
        rintro e w6 ⟨rfl, v6, hx6, hk6, -⟩
        have H6 := hid (And.intro (H5.out.1.under H5.out.2.1 hk6 HZ.out.1) (And.intro hx6 (below_kept H5.out.2.2 hk6 H5.out.2.2.size (by have := HZ.out; omega) (fun g hg => by have := (H5.out.2.1.own.lt g hg).1; have := HZ.out; omega))))
        clear hx6 hk6
        go_wp2
        go_roundw
        case rel => exact ⟨k + 1, _, _, _, _, v6, by omega, by go_num, inv_num t s sh l er 2 HR.out.1, H6.out.1, H6.out.2.1, H6.out.2.2⟩
        case measure => simp [intOf]; omega
      · have HC := hid (fun w => kind_any it w)
        rw [hkd] at HC
        unfold It.v at HC
        clear hkd
        go_wp2_with fail
        refine (HC.out _).mono ?_
        rintro e w4 ⟨rfl, hw4⟩
        have hr4 : RdAt w4 w1.heap.size s sh := by rw [hw4]; exact HR.out.2.1.alloc _
        have hx4 : WrAt w4 w2.heap.size v t.size l er := by rw [hw4]; exact HR.out.2.2.1.alloc _
        have hb4 : Below w.heap.size w w4 := by rw [hw4]; exact HR.out.2.2.2.alloc (HR.out.2.2.2.size) _
        have H4 := hid (And.intro hr4 (And.intro hx4 hb4))
        clear hw4 hr4 hx4 hb4
        go_wp2_with fail
        refine (rlong_any w1.heap.size s sh w4 H4.out.1).mono ?_
        rintro e w5 ⟨rfl, hr5, hk5⟩
        have H5 := hid (And.intro hr5 (And.intro (H4.out.2.1.kept hk5 HZ.out.1) (below_kept H4.out.2.2 hk5 H4.out.2.2.size HZ.out.2 (by simp))))
        clear hr5 hk5
        go_wp2_with fail
        refine (wlong_any w2.heap.size v t.size l er (rN s sh 4) w5 H5.out.2.1 (by omega) (by omega) (by omega) (by have := rN_i s sh 4 (by decide); omega)).mono ?_
        rintro e w6 ⟨rfl, v6, hx6, hk6, -⟩
        have H6 := hid (And.intro (H5.out.1.under H5.out.2.1 hk6 HZ.out.1) (And.intro hx6 (below_kept H5.out.2.2 hk6 H5.out.2.2.size (by have := HZ.out; omega) (fun g hg => by have := (H5.out.2.1.own.lt g hg).1; have := HZ.out; omega))))
        clear hx6 hk6
        go_wp2
        go_roundw
        case rel => exact ⟨k + 1, _, _, _, _, v6, by omega, by go_num, inv_num t s sh l er 4 HR.out.1, H6.out.1, H6.out.2.1, H6.out.2.2⟩
        case measure => simp [intOf]; omega
      · have HC := hid (fun w => kind_any it w)
        rw [hkd] at HC
        unfold It.v at HC
        clear hkd
        go_wp2_with fail
        refine (HC.out _).mono ?_
        rintro e w4 ⟨rfl, hw4⟩
        have hr4 : RdAt w4 w1.heap.size s sh := by rw [hw4]; exact HR.out.2.1.alloc _
        have hx4 : WrAt w4 w2.heap.size v t.size l er := by rw [hw4]; exact HR.out.2.2.1.alloc _
        have hb4 : Below w.heap.size w w4 := by rw [hw4]; exact HR.out.2.2.2.alloc (HR.out.2.2.2.size) _
        have H4 := hid (And.intro hr4 (And.intro hx4 hb4))
        clear hw4 hr4 hx4 hb4
        go_wp2_with fail
        refine (rbits_any w1.heap.size s sh w4 H4.out.1).mono ?_
        rintro e w5 ⟨rfl, hr5, hk5⟩
        have H5 := hid (And.intro hr5 (And.intro (H4.out.2.1.kept hk5 HZ.out.1) (below_kept H4.out.2.2 hk5 H4.out.2.2.size HZ.out.2 (by simp))))
        clear hr5 hk5
        go_wp2_with fail
        refine (wbits_any w2.heap.size v t.size l er (rN s sh 8) w5 H5.out.2.1 (by omega) (by omega) (by omega) (rN8_lt s sh)).mono ?_
        rintro e w6 ⟨rfl, v6, hx6, hk6, -⟩
        have H6 := hid (And.intro (H5.out.1.under H5.out.2.1 hk6 HZ.out.1) (And.intro hx6 (below_kept H5.out.2.2 hk6 H5.out.2.2.size (by have := HZ.out; omega) (fun g hg => by have := (H5.out.2.1.own.lt g hg).1; have := HZ.out; omega))))
        clear hx6 hk6
        go_wp2
        go_roundw
        case rel => exact ⟨k + 1, _, _, _, _, v6, by omega, by go_num, inv_bits t s sh l er HR.out.1, H6.out.1, H6.out.2.1, H6.out.2.2⟩
        case measure => simp [intOf]; omega
      · have HC := hid (fun w => kind_any it w)
        rw [hkd] at HC
        unfold It.v at HC
        clear hkd
        go_wp2_with fail
        refine (HC.out _).mono ?_
        rintro e w4 ⟨rfl, hw4⟩
        have hr4 : RdAt w4 w1.heap.size s sh := by rw [hw4]; exact HR.out.2.1.alloc _
        have hx4 : WrAt w4 w2.heap.size v t.size l er := by rw [hw4]; exact HR.out.2.2.1.alloc _
        have hb4 : Below w.heap.size w w4 := by rw [hw4]; exact HR.out.2.2.2.alloc (HR.out.2.2.2.size) _
        have H4 := hid (And.intro hr4 (And.intro hx4 hb4))
        clear hw4 hr4 hx4 hb4
        go_wp2_with fail
        refine (rtext_any w1.heap.size s sh w4 H4.out.1).mono ?_
        rintro e w5 ⟨rfl, hr5, hk5⟩
        have H5 := hid (And.intro hr5 (And.intro (H4.out.2.1.kept hk5 HZ.out.1) (below_kept H4.out.2.2 hk5 H4.out.2.2.size HZ.out.2 (by simp))))
        clear hr5 hk5
        go_wp2_with fail
        refine (wtext_any w2.heap.size v t.size l er (tT s sh) w5 H5.out.2.1 (by omega) (by omega) (by have := tT_le s sh; omega) (by omega) (fun h => by have := adm_room h; omega)).mono ?_
        rintro e w6 ⟨rfl, v6, hx6, hk6, -⟩
        have H6 := hid (And.intro (H5.out.1.under H5.out.2.1 hk6 HZ.out.1) (And.intro hx6 (below_kept H5.out.2.2 hk6 H5.out.2.2.size (by have := HZ.out; omega) (fun g hg => by have := (H5.out.2.1.own.lt g hg).1; have := HZ.out; omega))))
        clear hx6 hk6
        go_wp2
        go_roundw
        case rel => exact ⟨k + 1, _, _, _, _, v6, by omega, by go_num, inv_text t s sh l er HR.out.1, H6.out.1, H6.out.2.1, H6.out.2.2⟩
        case measure => simp [intOf]; omega
    · go_wp2_with fail
      refine (done_any w2.heap.size v t.size l er wr HR.out.2.2.1).mono ?_
      rintro e w4 ⟨rfl, hst⟩
      have hr4 : RdAt w4 w1.heap.size s sh := by unfold RdAt; rw [hst.heap]; exact HR.out.2.1
      have hb4 : Below w.heap.size w w4 := HR.out.2.2.2.trans ⟨hst.os, hst.tape, hst.output, by rw [hst.heap]; exact Nat.le_refl _, fun k _ => by rw [hst.heap]⟩
      have H4 := hid (And.intro hr4 hb4)
      clear hst hr4 hb4
      cases sh with
      | true =>
        have HE := hid (end_any w1.heap.size s true w4 H4.out.1)
        rw [show endOf s true = 2 from rfl] at HE
        generalize (if er = 0 then (⟨l.toArray⟩ : ByteArray) else ⟨#[]⟩) = x
        go_wp2_with fail
        refine HE.out.mono ?_
        rintro e w5 ⟨rfl, rfl⟩
        go_wp2
        go_ret
        exact ⟨rfl, H4.out.2⟩
      | false =>
        obtain ⟨rfl, hcat⟩ := HR.out.1.2.2 rfl
        rw [if_pos rfl]
        by_cases hs0 : 0 < s.size
        · have HE := hid (end_any w1.heap.size s false w4 H4.out.1)
          rw [show endOf s false = 5 by simp [endOf, hs0]] at HE
          clear hcat
          go_wp2_with fail
          refine HE.out.mono ?_
          rintro e w5 ⟨rfl, rfl⟩
          go_wp2
          go_ret
          exact ⟨rfl, H4.out.2⟩
        · have HE := hid (end_any w1.heap.size s false w4 H4.out.1)
          rw [show endOf s false = 0 by simp [endOf, hs0]] at HE
          have hlt2 : (⟨l.toArray⟩ : ByteArray) = t := by
            have h0 : s.data.toList = [] := List.eq_nil_of_length_eq_zero (by rw [data_len]; omega)
            rw [h0, List.append_nil] at hcat
            rw [hcat]
          rw [hlt2]
          clear hcat hlt2
          go_wp2_with fail
          refine HE.out.mono ?_
          rintro e w5 ⟨rfl, rfl⟩
          go_wp2
          go_ret
          exact ⟨rfl, H4.out.2⟩

set_option maxRecDepth 100000 in
set_option maxHeartbeats 6400000 in
theorem packOnly_none (t : ByteArray) (a : Option Addr) (len cap : Nat) (hlen : len = 0) (w : World) (ht : t.size ≤ 140737488351232) :
    Calls Try.prog 7 #[.string t, .slice a len cap] w fun e w' => e = .returned (.bool true) ∧ Below w.heap.size w w' := by
  go_enter Try.func7, Try.ntmps7
  go_wp2_with fail
  refine (lives_any w).mono ?_
  rintro e w1 ⟨rfl, hb⟩
  have HB := hid hb
  clear hb
  go_wp2_with fail
  refine (read_any t w1).mono ?_
  rintro e w2 ⟨rfl, hw2⟩
  have hr2 : RdAt w2 w1.heap.size t false := by rw [hw2]; exact heap_alloc_new w1 _
  have hb2 : Below w.heap.size w w2 := by rw [hw2]; exact HB.out.alloc HB.out.size _
  have hz2 : w2.heap.size = w1.heap.size + 1 := by rw [hw2]; simp
  have HZ := hid (And.intro (show w1.heap.size < w2.heap.size by omega) HB.out.size)
  have H2 := hid (And.intro hr2 hb2)
  clear hw2 hr2 hb2 hz2
  go_wp2_with fail
  refine (new_any _ w2).mono ?_
  rintro e w3 ⟨rfl, hw3⟩
  have hr3 : RdAt w3 w1.heap.size t false := by rw [hw3]; exact H2.out.1.alloc _
  have hx3 : WrAt w3 w2.heap.size (.slice none 0 0) t.size [] 0 := by rw [hw3]; have := new_wr t.size w2; rw [show max (t.size : Int) 0 = (t.size : Int) by omega] at this ⊢; exact this
  have hb3 : Below w.heap.size w w3 := by rw [hw3]; exact H2.out.2.alloc H2.out.2.size _
  have H3 := hid (And.intro hr3 (And.intro hx3 hb3))
  clear hw3 hr3 hx3 hb3
  go_wp2_with fail
  go_loopw [7] (fun i wr => ∃ (k : Nat) (s : ByteArray) (sh : Bool) (l : List UInt8) (er : Int) (v : Value), k ≤ len ∧ i = .int .i64 k ∧ Inv t s sh l er ∧ RdAt wr w1.heap.size s sh ∧ WrAt wr w2.heap.size v t.size l er ∧ Below w.heap.size w wr)
    (fun i _ => len - (intOf i).toNat)
  case atStart => exact ⟨0, t, false, [], 0, _, Nat.zero_le _, rfl, ⟨Nat.zero_le _, Nat.le_refl _, fun _ => ⟨rfl, rfl⟩⟩, H3.out.1, H3.out.2.1, H3.out.2.2⟩
  case round =>
    obtain ⟨k, s, sh, l, er, v, hk, rfl, hinv, hrd, hwr, hbel⟩ := hrel
    have hll := hinv.1
    have hss := hinv.2.1
    have HR := hid (And.intro hinv (And.intro hrd (And.intro hwr hbel)))
    clear hinv hrd hwr hbel
    by_cases hlt : k < len
    · exact absurd hlt (by omega)
    · go_wp2_with fail
      refine (done_any w2.heap.size v t.size l er wr HR.out.2.2.1).mono ?_
      rintro e w4 ⟨rfl, hst⟩
      have hr4 : RdAt w4 w1.heap.size s sh := by unfold RdAt; rw [hst.heap]; exact HR.out.2.1
      have hb4 : Below w.heap.size w w4 := HR.out.2.2.2.trans ⟨hst.os, hst.tape, hst.output, by rw [hst.heap]; exact Nat.le_refl _, fun k _ => by rw [hst.heap]⟩
      have H4 := hid (And.intro hr4 hb4)
      clear hst hr4 hb4
      cases sh with
      | true =>
        have HE := hid (end_any w1.heap.size s true w4 H4.out.1)
        rw [show endOf s true = 2 from rfl] at HE
        generalize (if er = 0 then (⟨l.toArray⟩ : ByteArray) else ⟨#[]⟩) = x
        go_wp2_with fail
        refine HE.out.mono ?_
        rintro e w5 ⟨rfl, rfl⟩
        go_wp2
        go_ret
        exact ⟨rfl, H4.out.2⟩
      | false =>
        obtain ⟨rfl, hcat⟩ := HR.out.1.2.2 rfl
        rw [if_pos rfl]
        by_cases hs0 : 0 < s.size
        · have HE := hid (end_any w1.heap.size s false w4 H4.out.1)
          rw [show endOf s false = 5 by simp [endOf, hs0]] at HE
          clear hcat
          go_wp2_with fail
          refine HE.out.mono ?_
          rintro e w5 ⟨rfl, rfl⟩
          go_wp2
          go_ret
          exact ⟨rfl, H4.out.2⟩
        · have HE := hid (end_any w1.heap.size s false w4 H4.out.1)
          rw [show endOf s false = 0 by simp [endOf, hs0]] at HE
          have hlt2 : (⟨l.toArray⟩ : ByteArray) = t := by
            have h0 : s.data.toList = [] := List.eq_nil_of_length_eq_zero (by rw [data_len]; omega)
            rw [h0, List.append_nil] at hcat
            rw [hcat]
          rw [hlt2]
          clear hcat hlt2
          go_wp2_with fail
          refine HE.out.mono ?_
          rintro e w5 ⟨rfl, rfl⟩
          go_wp2
          go_ret
          exact ⟨rfl, H4.out.2⟩

set_option maxRecDepth 100000 in
theorem packOnly_contract (H : Type) (enc : TypeId × Value → H) (W : World) (base : Nat) (args : Array Value) (ds gs : List (DataW H)) (before : List MemPlace)
    (hval : ∀ (j : Nat) t v, Try.f7.params[j]? = some t → args[j]? = some v → Value.okWide Try.prog W .any base t v)
    (hW : DataW.Whole enc Try.prog Try.f7.params.toList Rows.packOnlySpec.vars false W args.toList ds gs before) (hsz : (DataW.weightsEach Try.prog (Try.f7.params.toList ++ Rows.packOnlySpec.plain.varTypes Try.prog) (ds ++ gs)).all (· ≤ reachBytes) = true) :
    Calls Try.prog 7 args W fun e W' => ∃ v, e = .returned v ∧ Rows.packOnlySpec.post enc Try.prog Try.f7 false true false false W args v W' := by
  have hW' := hW
  obtain ⟨p, q, hA0, hV, rfl, hfz, hnd⟩ := hW
  have hA : DataW.TrodAll enc Try.prog W 0 (fun _ => true) true Try.f7.params.toList args.toList ds p := hA0
  rw [Try.params7] at hA hval hsz
  obtain ⟨v0, vs0, d0, ds0, p0, q0, hargs, rfl, rfl, h0, r0⟩ := trodAll_cons hA
  obtain ⟨v1, vs1, d1, ds1, p1, q1, rfl, rfl, rfl, h1, r1⟩ := trodAll_cons r0
  obtain ⟨rfl, rfl, rfl⟩ := trodAll_nil r1
  obtain rfl : args = #[v0, v1] := by cases args; simp_all
  obtain ⟨rfl, rfl⟩ := trodVars_none hV
  obtain ⟨a0, rfl, rfl, rfl, w0⟩ := open_string Try.underlying9 (hval 0 9 v0 rfl rfl) h0
  obtain ⟨a1, len1, cap1, rfl⟩ := okWide_slice Try.underlying22 (hval 1 22 v1 rfl rfl)
  have k1 := h1
  have lt1 : ∀ x ∈ p1, x.block < W.heap.size := by obtain ⟨m, hm⟩ := k1; exact DataW.trod_lt m _ _ _ hm
  clear hA0
  have hreach : a0.size ≤ 140737488351232 := by
    have := sized_string hsz (j := 0) (t := 9) rfl rfl
    simp only [reachBytes, data_len] at this
    exact this
  have fin : Calls Try.prog 7 #[.string a0, .slice a1 len1 cap1] W fun e W' => e = .returned (.bool true) ∧ Below W.heap.size W W' := by
    obtain ⟨fuel, hf⟩ := h1
    rcases open_items (by simpa [Value.cells] using hf) with hlen | ⟨b1, off1, its, spare, rfl, hmax, hin, hd⟩
    · exact packOnly_none a0 a1 len1 cap1 hlen W hreach
    · exact packOnly_some a0 b1 off1 len1 cap1 its W hin hreach hmax
  refine fin.mono fun e W' ⟨he, bel⟩ => ?_
  subst he
  exact ⟨_, rfl, _, _, _, [], _, [], hW', trodAll_mk1 (shut_bool Try.underlying4 _), (trodAll_cons_mk (shut_string Try.underlying9 w0) (trodAll_cons_mk (Below.trod Try.laidOut (by kernel_rfl) (of_decide_eq_true (by kernel_rfl)) k1 bel lt1) trodAll_mk0)), rfl, bel.frame _, fun h => by cases h⟩

set_option maxRecDepth 100000 in
theorem packOnly_lifted (os : Os) (started : os.Started) (H : Type) (enc : TypeId × Value → H) :
    ReturnsInHanded {} Try.checked os 7 .any (Rows.packOnlySpec.pre6 enc Try.prog Try.f7 Rows.packOnlyRow.domain false) (Rows.packOnlySpec.post enc Try.prog Try.f7 false true false false) := by
  refine returnsInHanded_of_change_sized (C := Try.checked) Try.own started (by kernel_rfl) Try.func7
    (ChangeSpec.witness6 (enc := enc) (C := Try.checked) false ⟨#[], #[.string ByteArray.empty, .slice none 0 0], []⟩ 8 (by kernel_rfl) (by kernel_rfl) (by kernel_rfl) (by kernel_rfl)) ?_
  intro W base args ds gs before hval hW _ hsz _
  exact packOnly_contract H enc W base args ds gs before hval hW hsz

theorem packOnly_holds : Rows.PackOnlySaid :=
  OpenClaim.holds_of_wide 7 Try.f7 rfl rfl rfl rfl rfl rfl rfl ⟨rfl, rfl, rfl, rfl, rfl⟩ rfl rfl rfl rfl rfl (by kernel_rfl) Try.func7 (by kernel_rfl)
    (of_decide_eq_true (by kernel_rfl)) (by unfold Func.isWrapper; first | (rw [if_pos (by decide +kernel)]; kernel_rfl) | (rw [if_neg (by decide +kernel)]; exact ⟨rfl, rfl⟩))
    (fun os started H enc _ => packOnly_lifted os started H enc)
#print axioms packOnly_holds

end Go.Proofs.Ythhgpfcbhaoeiaa
