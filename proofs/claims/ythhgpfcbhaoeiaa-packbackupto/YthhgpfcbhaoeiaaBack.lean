/- PackBack is proved, where what comes in is of bulk at most 1048576: for every limit and every list of items: whatever is written without an error is read again, in the same order, to the end. -/
import Derived.Test.YthhgpfcbhaoeiaaRows
import Derived.Test.YthhgpfcbhaoeiaaPkL
import Derived.Test.YthhgpfcbhaoeiaaPkZ
import Derived.Test.YthhgpfcbhaoeiaaPkU
import Derived.Deep.RegionWith
import Derived.JoinedCond
namespace Go.Proofs.Ythhgpfcbhaoeiaa
open Go.ChangeShapes Go.WideShapes Go.ChangeAt Go.RowKit
open Go.ChangeMaps (open_string shut_string)
attribute [local go_sem ↓] Go.wp_at_zero Go.wp_at_succ

theorem below_kept {w w' x : World} {B C : Nat} {r : Option Nat} (h : Below B x w) (hk : Kept C r w w') (hB : B ≤ w.heap.size) (hC : B ≤ C) (hr : ∀ g, r = some g → B ≤ g) : Below B x w' := h.trans (hk.below hB hC hr)

theorem back_below {w w6 w7 : World} {B : Nat} (h : Below w.heap.size w w6) (hk : Kept B none w6.drew w7) (hB : w.heap.size ≤ B) : Below w.heap.size w w7 :=
  h.trans ⟨hk.os, hk.tape, hk.output, hk.size, fun k hk' => hk.block k (by have := h.size; show k < w6.heap.size; omega) (by omega) (by simp)⟩

set_option maxRecDepth 100000 in
set_option maxHeartbeats 12800000 in
theorem packBack_some (lim : Int) (ab off : Nat) (len cap : Nat) (its : List It) (w : World) (HI : Hid (ItemsIn w ab off len its)) (hleng : its.length = len) (hl : len ≤ 9223372036854775807) (hwt : wt its ≤ 2097152) (M : Int) (hM : max lim 0 = M) (m1 : M ≤ 9223372036854775807) :
    Calls Try.prog 6 #[.int .i64 lim, .slice (some ⟨ab, off, none⟩) len cap] w fun e w' => e = .returned (.bool true) ∧ Below w.heap.size w w' := by
  have m0 : 0 ≤ M := by omega
  have HM := hid hM
  clear hM
  go_enter Try.func6, Try.ntmps6
  go_wp2_with fail
  refine (lives_any w).mono ?_
  rintro e w1 ⟨rfl, hb⟩
  have HB := hid hb
  have HZ := hid hb.size
  clear hb
  go_wp2_with fail
  refine (new_any lim w1).mono ?_
  rintro e w2 ⟨rfl, hw2⟩
  have hx2 : WrAt w2 w1.heap.size (.slice none 0 0) M [] 0 := by rw [hw2, ← HM.out]; exact new_wr lim w1
  have hb2 : Below w.heap.size w w2 := by rw [hw2]; exact HB.out.alloc HB.out.size _
  have H2 := hid (And.intro hx2 hb2)
  clear hw2 hx2 hb2
  go_wp2_with fail
  go_loopw [6] (fun i wr => ∃ (k : Nat) (v : Value), k ≤ len ∧ i = .int .i64 k ∧ WrAt wr w1.heap.size v M (wst M (its.take k) ([], 0)).1 (wst M (its.take k) ([], 0)).2 ∧ Below w.heap.size w wr)
    (fun i _ => len - (intOf i).toNat)
  case atStart => exact ⟨0, _, Nat.zero_le _, rfl, H2.out.1, H2.out.2⟩
  case round =>
    obtain ⟨k, v, hk, rfl, hwr, hbel⟩ := hrel
    have HR := hid (And.intro hwr hbel)
    clear hwr hbel
    by_cases hlt : k < len
    · obtain ⟨it, hit⟩ : ∃ it, its[k]? = some it := ⟨its[k]'(by have := HI.out.leng; omega), List.getElem?_eq_getElem _⟩
      obtain ⟨c0, c1, c2, c3⟩ := (HI.out.cell k it hit).below HR.out.2 HI.out.lt
      have i0 : (0 : Int) ≤ (k : Int) := Int.natCast_nonneg _
      have i1 : (k : Int) < (len : Int) := by omega
      have hfit := HI.out.fits it (List.mem_of_getElem? hit)
      have hwl := wst_len M (its.take k) ([], 0)
      have hwk := wt_take its k it hit
      simp only [List.length_nil, Nat.zero_add] at hwl
      have HC := hid (write_any w1.heap.size v M _ _ it wr HR.out.1 hfit m0 m1 (by omega))
      have HT := hid (take_snoc_it its k it hit)
      unfold It.v at HC
      clear hit hfit hwl hwk
      go_wp2_with fail
      refine HC.out.mono ?_
      rintro e w3 ⟨rfl, v3, hx3, hk3, -⟩
      have H3 := hid (And.intro hx3 (below_kept HR.out.2 hk3 HR.out.2.size HZ.out (fun g hg => by have := (HR.out.1.own.lt g hg).1; have := HZ.out; omega)))
      clear hx3 hk3
      go_wp2
      go_roundw
      case rel => exact ⟨k + 1, v3, by omega, by go_num, by rw [HT.out, wst_snoc]; exact H3.out.1, H3.out.2⟩
      case measure => simp [intOf]; omega
    · have hke : its.take k = its := List.take_of_length_le (by have := hleng; omega)
      have hx := HR.out.1
      rw [hke] at hx
      clear hke
      obtain ⟨l, er, hler⟩ : ∃ l er, wst M its ([], 0) = (l, er) := ⟨_, _, rfl⟩
      rw [hler] at hx
      have HX : Hid (WrAt wr w1.heap.size v M l er) := hx
      have HW := hid hler
      clear hx hler
      by_cases her : er = 0
      · subst her
        have hz := wst_zero M its ([], 0) (by rw [HW.out])
        rw [HW.out] at hz
        have HO := hid hz.2.1
        have HL := hid hz.2.2
        clear hz
        go_wp2_with fail
        refine (done_ok w1.heap.size v M l wr HX.out).mono ?_
        rintro e w4 ⟨rfl, hw4⟩
        have hb4 : Below w.heap.size w w4 := by rw [hw4]; exact HR.out.2
        have HB4 := hid hb4
        clear hw4 hb4
        go_wp2_with fail
        refine (read_any _ w4).mono ?_
        rintro e w5 ⟨rfl, hw5⟩
        have hr5 : RdAt w5 w4.heap.size ⟨l.toArray⟩ false := by rw [hw5]; exact heap_alloc_new w4 _
        have hb5 : Below w.heap.size w w5 := by rw [hw5]; exact HB4.out.alloc HB4.out.size _
        have HZ4 := hid HB4.out.size
        have H5 := hid (And.intro hr5 hb5)
        clear hw5 hr5 hb5
        go_wp2_with fail
        go_loopw [10] (fun i wr => ∃ (k : Nat) (s : ByteArray), k ≤ len ∧ i = .int .i64 k ∧ s.data.toList = (its.drop k).flatMap It.enc ∧ RdAt wr w4.heap.size s false ∧ Below w.heap.size w wr)
          (fun i _ => len - (intOf i).toNat)
        case atStart => exact ⟨0, ⟨l.toArray⟩, Nat.zero_le _, rfl, by rw [List.drop_zero]; simpa using HL.out, H5.out.1, H5.out.2⟩
        case round =>
          obtain ⟨k, s, hk, rfl, hs, hrd, hbel⟩ := hrel
          have HR := hid (And.intro hrd hbel)
          have HS := hid hs
          clear hs hrd hbel
          by_cases hlt : k < len
          · obtain ⟨it, hit⟩ : ∃ it, its[k]? = some it := ⟨its[k]'(by have := HI.out.leng; omega), List.getElem?_eq_getElem _⟩
            obtain ⟨c0, c1, c2, c3⟩ := (HI.out.cell k it hit).below HR.out.2 HI.out.lt
            have i0 : (0 : Int) ≤ (k : Int) := Int.natCast_nonneg _
            have i1 : (k : Int) < (len : Int) := by omega
            have hfit := HI.out.fits it (List.mem_of_getElem? hit)
            have hok := HO.out it (List.mem_of_getElem? hit)
            obtain ⟨rest, hrest⟩ : ∃ rest, rest = (its.drop (k + 1)).flatMap It.enc := ⟨_, rfl⟩
            have hcat : s.data.toList = it.enc ++ rest := by
              rw [HS.out, hrest, List.drop_eq_getElem_cons (by have := HI.out.leng; omega), List.flatMap_cons, (List.getElem?_eq_some_iff.1 hit).2]
            have HRest := hid hrest
            clear hit hrest
            rcases it.kd_bd with hkd | hkd | hkd | hkd | hkd
            · have hokn : 0 ≤ it.n ∧ it.n < 256 := by rcases hok with h | h | h | h | h <;> first | exact h.2 | (exfalso; first | (have := h.1; omega) | omega)
              obtain ⟨e1, e2, e3⟩ := rd_num s 1 it.n.toNat rest (by rw [hcat]; simp [It.enc, hkd]) (by have := hokn.2; omega)
              have hcall : ∀ W, RdAt W w4.heap.size s false → Calls Try.prog 25 #[.pointer (some ⟨w4.heap.size, 0, none⟩)] W fun e w' => e = .returned (.int .i64 it.n) ∧ RdAt w' w4.heap.size (rS s false 1) false ∧ Kept w4.heap.size none W w' := fun W hW => by
                have hc := rbyte_any w4.heap.size s false W hW
                rw [e1, Int.toNat_of_nonneg hokn.1] at hc
                rw [e3] at hc
                exact hc
              have HC2 := hid hcall
              have HE := hid e2
              have HC := hid (fun w => kind_any it w)
              rw [hkd] at HC
              unfold It.v at HC
              clear hkd hcall e1 e2 e3 hcat hok hfit hokn
              go_wp2_with fail
              refine (HC.out _).mono ?_
              rintro e w6 ⟨rfl, hw6⟩
              have hr6 : RdAt w6 w4.heap.size s false := by rw [hw6]; exact (HR.out.1.alloc _).alloc _
              have hb6 : Below w.heap.size w w6 := by rw [hw6]; exact (HR.out.2.alloc HR.out.2.size _).alloc (by have := HR.out.2.size; simp; omega) _
              have hz6 : wr.heap.size < w6.heap.size := by rw [hw6]; simp; omega
              have y0 : w6.cell? ⟨wr.heap.size, 0, none⟩ = some (.int .i64 it.k) := by rw [hw6]; simp [go_sem]
              have y1 : w6.cell? ⟨wr.heap.size, 1, none⟩ = some (.int .i64 it.n) := by rw [hw6]; simp [go_sem]
              have y2 : w6.cell? ⟨wr.heap.size, 2, none⟩ = some (.int .u64 (it.q : Int)) := by rw [hw6]; simp [go_sem]
              have y3 : w6.cell? ⟨wr.heap.size, 3, none⟩ = some (.string it.s) := by rw [hw6]; simp [go_sem]
              have hlw := lt_of_blk HR.out.1
              have H6 := hid (And.intro hr6 (And.intro hb6 HZ4.out))
              clear hw6 hr6 hb6
              go_wp2_with fail
              go_region_with ((go_at_call 25; refine (HC2.out _ (by exact H6.out.1)).mono ?_; rintro e w7 ⟨rfl, hr7, hk7⟩; have z1 := hk7.cell (k := wr.heap.size) (o := 1) (by simp; omega) (by omega) (by simp); have z2 := hk7.cell (k := wr.heap.size) (o := 2) (by simp; omega) (by omega) (by simp); have z3 := hk7.cell (k := wr.heap.size) (o := 3) (by simp; omega) (by omega) (by simp); simp [y1, y2, y3] at z1 z2 z3; have H7 := hid (And.intro hr7 (back_below H6.out.2.1 hk7 H6.out.2.2)); clear hr7 hk7))
              all_goals go_wp2
              all_goals
                go_roundw
                case rel => exact ⟨k + 1, _, by omega, by go_num, by rw [HE.out, HRest.out], H7.out.1, H7.out.2⟩
                case measure => simp [intOf]; omega
            · have hokn : 0 ≤ it.n ∧ it.n < 65536 := by rcases hok with h | h | h | h | h <;> first | exact h.2 | (exfalso; first | (have := h.1; omega) | omega)
              obtain ⟨e1, e2, e3⟩ := rd_num s 2 it.n.toNat rest (by rw [hcat]; simp [It.enc, hkd]) (by have := hokn.2; omega)
              have hcall : ∀ W, RdAt W w4.heap.size s false → Calls Try.prog 26 #[.pointer (some ⟨w4.heap.size, 0, none⟩)] W fun e w' => e = .returned (.int .i64 it.n) ∧ RdAt w' w4.heap.size (rS s false 2) false ∧ Kept w4.heap.size none W w' := fun W hW => by
                have hc := rword_any w4.heap.size s false W hW
                rw [e1, Int.toNat_of_nonneg hokn.1] at hc
                rw [e3] at hc
                exact hc
              have HC2 := hid hcall
              have HE := hid e2
              have HC := hid (fun w => kind_any it w)
              rw [hkd] at HC
              unfold It.v at HC
              clear hkd hcall e1 e2 e3 hcat hok hfit hokn
              go_wp2_with fail
              refine (HC.out _).mono ?_
              rintro e w6 ⟨rfl, hw6⟩
              have hr6 : RdAt w6 w4.heap.size s false := by rw [hw6]; exact (HR.out.1.alloc _).alloc _
              have hb6 : Below w.heap.size w w6 := by rw [hw6]; exact (HR.out.2.alloc HR.out.2.size _).alloc (by have := HR.out.2.size; simp; omega) _
              have hz6 : wr.heap.size < w6.heap.size := by rw [hw6]; simp; omega
              have y0 : w6.cell? ⟨wr.heap.size, 0, none⟩ = some (.int .i64 it.k) := by rw [hw6]; simp [go_sem]
              have y1 : w6.cell? ⟨wr.heap.size, 1, none⟩ = some (.int .i64 it.n) := by rw [hw6]; simp [go_sem]
              have y2 : w6.cell? ⟨wr.heap.size, 2, none⟩ = some (.int .u64 (it.q : Int)) := by rw [hw6]; simp [go_sem]
              have y3 : w6.cell? ⟨wr.heap.size, 3, none⟩ = some (.string it.s) := by rw [hw6]; simp [go_sem]
              have hlw := lt_of_blk HR.out.1
              have H6 := hid (And.intro hr6 (And.intro hb6 HZ4.out))
              clear hw6 hr6 hb6
              go_wp2_with fail
              go_region_with ((go_at_call 26; refine (HC2.out _ (by exact H6.out.1)).mono ?_; rintro e w7 ⟨rfl, hr7, hk7⟩; have z1 := hk7.cell (k := wr.heap.size) (o := 1) (by simp; omega) (by omega) (by simp); have z2 := hk7.cell (k := wr.heap.size) (o := 2) (by simp; omega) (by omega) (by simp); have z3 := hk7.cell (k := wr.heap.size) (o := 3) (by simp; omega) (by omega) (by simp); simp [y1, y2, y3] at z1 z2 z3; have H7 := hid (And.intro hr7 (back_below H6.out.2.1 hk7 H6.out.2.2)); clear hr7 hk7))
              all_goals go_wp2
              all_goals
                go_roundw
                case rel => exact ⟨k + 1, _, by omega, by go_num, by rw [HE.out, HRest.out], H7.out.1, H7.out.2⟩
                case measure => simp [intOf]; omega
            · have hokn : 0 ≤ it.n ∧ it.n < 4294967296 := by rcases hok with h | h | h | h | h <;> first | exact h.2 | (exfalso; first | (have := h.1; omega) | omega)
              obtain ⟨e1, e2, e3⟩ := rd_num s 4 it.n.toNat rest (by rw [hcat]; simp [It.enc, hkd]) (by have := hokn.2; omega)
              have hcall : ∀ W, RdAt W w4.heap.size s false → Calls Try.prog 27 #[.pointer (some ⟨w4.heap.size, 0, none⟩)] W fun e w' => e = .returned (.int .i64 it.n) ∧ RdAt w' w4.heap.size (rS s false 4) false ∧ Kept w4.heap.size none W w' := fun W hW => by
                have hc := rlong_any w4.heap.size s false W hW
                rw [e1, Int.toNat_of_nonneg hokn.1] at hc
                rw [e3] at hc
                exact hc
              have HC2 := hid hcall
              have HE := hid e2
              have HC := hid (fun w => kind_any it w)
              rw [hkd] at HC
              unfold It.v at HC
              clear hkd hcall e1 e2 e3 hcat hok hfit hokn
              go_wp2_with fail
              refine (HC.out _).mono ?_
              rintro e w6 ⟨rfl, hw6⟩
              have hr6 : RdAt w6 w4.heap.size s false := by rw [hw6]; exact (HR.out.1.alloc _).alloc _
              have hb6 : Below w.heap.size w w6 := by rw [hw6]; exact (HR.out.2.alloc HR.out.2.size _).alloc (by have := HR.out.2.size; simp; omega) _
              have hz6 : wr.heap.size < w6.heap.size := by rw [hw6]; simp; omega
              have y0 : w6.cell? ⟨wr.heap.size, 0, none⟩ = some (.int .i64 it.k) := by rw [hw6]; simp [go_sem]
              have y1 : w6.cell? ⟨wr.heap.size, 1, none⟩ = some (.int .i64 it.n) := by rw [hw6]; simp [go_sem]
              have y2 : w6.cell? ⟨wr.heap.size, 2, none⟩ = some (.int .u64 (it.q : Int)) := by rw [hw6]; simp [go_sem]
              have y3 : w6.cell? ⟨wr.heap.size, 3, none⟩ = some (.string it.s) := by rw [hw6]; simp [go_sem]
              have hlw := lt_of_blk HR.out.1
              have H6 := hid (And.intro hr6 (And.intro hb6 HZ4.out))
              clear hw6 hr6 hb6
              go_wp2_with fail
              go_region_with ((go_at_call 27; refine (HC2.out _ (by exact H6.out.1)).mono ?_; rintro e w7 ⟨rfl, hr7, hk7⟩; have z1 := hk7.cell (k := wr.heap.size) (o := 1) (by simp; omega) (by omega) (by simp); have z2 := hk7.cell (k := wr.heap.size) (o := 2) (by simp; omega) (by omega) (by simp); have z3 := hk7.cell (k := wr.heap.size) (o := 3) (by simp; omega) (by omega) (by simp); simp [y1, y2, y3] at z1 z2 z3; have H7 := hid (And.intro hr7 (back_below H6.out.2.1 hk7 H6.out.2.2)); clear hr7 hk7))
              all_goals go_wp2
              all_goals
                go_roundw
                case rel => exact ⟨k + 1, _, by omega, by go_num, by rw [HE.out, HRest.out], H7.out.1, H7.out.2⟩
                case measure => simp [intOf]; omega
            · obtain ⟨e1, e2, e3⟩ := rd_num s 8 it.q rest (by rw [hcat]; simp [It.enc, hkd]) (by have := hfit.2.2.1; omega)
              have hcall : ∀ W, RdAt W w4.heap.size s false → Calls Try.prog 28 #[.pointer (some ⟨w4.heap.size, 0, none⟩)] W fun e w' => e = .returned (.int .u64 (it.q : Int)) ∧ RdAt w' w4.heap.size (rS s false 8) false ∧ Kept w4.heap.size none W w' := fun W hW => by
                have hc := rbits_any w4.heap.size s false W hW
                rw [e1] at hc
                rw [e3] at hc
                exact hc
              have HC2 := hid hcall
              have HE := hid e2
              have HC := hid (fun w => kind_any it w)
              rw [hkd] at HC
              unfold It.v at HC
              clear hkd hcall e1 e2 e3 hcat hok hfit
              go_wp2_with fail
              refine (HC.out _).mono ?_
              rintro e w6 ⟨rfl, hw6⟩
              have hr6 : RdAt w6 w4.heap.size s false := by rw [hw6]; exact (HR.out.1.alloc _).alloc _
              have hb6 : Below w.heap.size w w6 := by rw [hw6]; exact (HR.out.2.alloc HR.out.2.size _).alloc (by have := HR.out.2.size; simp; omega) _
              have hz6 : wr.heap.size < w6.heap.size := by rw [hw6]; simp; omega
              have y0 : w6.cell? ⟨wr.heap.size, 0, none⟩ = some (.int .i64 it.k) := by rw [hw6]; simp [go_sem]
              have y1 : w6.cell? ⟨wr.heap.size, 1, none⟩ = some (.int .i64 it.n) := by rw [hw6]; simp [go_sem]
              have y2 : w6.cell? ⟨wr.heap.size, 2, none⟩ = some (.int .u64 (it.q : Int)) := by rw [hw6]; simp [go_sem]
              have y3 : w6.cell? ⟨wr.heap.size, 3, none⟩ = some (.string it.s) := by rw [hw6]; simp [go_sem]
              have hlw := lt_of_blk HR.out.1
              have H6 := hid (And.intro hr6 (And.intro hb6 HZ4.out))
              clear hw6 hr6 hb6
              go_wp2_with fail
              go_region_with ((go_at_call 28; refine (HC2.out _ (by exact H6.out.1)).mono ?_; rintro e w7 ⟨rfl, hr7, hk7⟩; have z1 := hk7.cell (k := wr.heap.size) (o := 1) (by simp; omega) (by omega) (by simp); have z2 := hk7.cell (k := wr.heap.size) (o := 2) (by simp; omega) (by omega) (by simp); have z3 := hk7.cell (k := wr.heap.size) (o := 3) (by simp; omega) (by omega) (by simp); simp [y1, y2, y3] at z1 z2 z3; have H7 := hid (And.intro hr7 (back_below H6.out.2.1 hk7 H6.out.2.2)); clear hr7 hk7))
              all_goals go_wp2
              all_goals
                go_roundw
                case rel => exact ⟨k + 1, _, by omega, by go_num, by rw [HE.out, HRest.out], H7.out.1, H7.out.2⟩
                case measure => simp [intOf]; omega
            · have hokn : it.s.size ≤ 65535 := by rcases hok with h | h | h | h | h <;> first | exact h.2 | (exfalso; first | (have := h.1; omega) | omega)
              obtain ⟨e1, e2, e3⟩ := rd_text s it.s rest (by rw [hcat]; simp [It.enc, hkd]) hokn
              have hcall : ∀ W, RdAt W w4.heap.size s false → Calls Try.prog 29 #[.pointer (some ⟨w4.heap.size, 0, none⟩)] W fun e w' => e = .returned (.string it.s) ∧ RdAt w' w4.heap.size (tS s false) false ∧ Kept w4.heap.size none W w' := fun W hW => by
                have hc := rtext_any w4.heap.size s false W hW
                rw [e1] at hc
                rw [e3] at hc
                exact hc
              have HC2 := hid hcall
              have HE := hid e2
              have HC := hid (fun w => kind_any it w)
              rw [hkd] at HC
              unfold It.v at HC
              clear hkd hcall e1 e2 e3 hcat hok hfit hokn
              go_wp2_with fail
              refine (HC.out _).mono ?_
              rintro e w6 ⟨rfl, hw6⟩
              have hr6 : RdAt w6 w4.heap.size s false := by rw [hw6]; exact (HR.out.1.alloc _).alloc _
              have hb6 : Below w.heap.size w w6 := by rw [hw6]; exact (HR.out.2.alloc HR.out.2.size _).alloc (by have := HR.out.2.size; simp; omega) _
              have hz6 : wr.heap.size < w6.heap.size := by rw [hw6]; simp; omega
              have y0 : w6.cell? ⟨wr.heap.size, 0, none⟩ = some (.int .i64 it.k) := by rw [hw6]; simp [go_sem]
              have y1 : w6.cell? ⟨wr.heap.size, 1, none⟩ = some (.int .i64 it.n) := by rw [hw6]; simp [go_sem]
              have y2 : w6.cell? ⟨wr.heap.size, 2, none⟩ = some (.int .u64 (it.q : Int)) := by rw [hw6]; simp [go_sem]
              have y3 : w6.cell? ⟨wr.heap.size, 3, none⟩ = some (.string it.s) := by rw [hw6]; simp [go_sem]
              have hlw := lt_of_blk HR.out.1
              have H6 := hid (And.intro hr6 (And.intro hb6 HZ4.out))
              clear hw6 hr6 hb6
              go_wp2_with fail
              go_region_with ((go_at_call 29; refine (HC2.out _ (by exact H6.out.1)).mono ?_; rintro e w7 ⟨rfl, hr7, hk7⟩; have z1 := hk7.cell (k := wr.heap.size) (o := 1) (by simp; omega) (by omega) (by simp); have z2 := hk7.cell (k := wr.heap.size) (o := 2) (by simp; omega) (by omega) (by simp); have z3 := hk7.cell (k := wr.heap.size) (o := 3) (by simp; omega) (by omega) (by simp); simp [y1, y2, y3] at z1 z2 z3; have H7 := hid (And.intro hr7 (back_below H6.out.2.1 hk7 H6.out.2.2)); clear hr7 hk7))
              all_goals go_wp2
              all_goals
                go_roundw
                case rel => exact ⟨k + 1, _, by omega, by go_num, by rw [HE.out, HRest.out], H7.out.1, H7.out.2⟩
                case measure => simp [intOf]; omega
          · have hs0 : s.size = 0 := by
              have := size_of HS.out
              rw [List.drop_eq_nil_of_le (by have := hleng; omega)] at this
              simpa using this
            have HE := hid (end_any w4.heap.size s false wr HR.out.1)
            rw [show endOf s false = 0 by simp [endOf, hs0]] at HE
            have HF := hid (left_any w4.heap.size s false wr HR.out.1)
            rw [hs0] at HF
            clear hs0
            go_wp2_with fail
            refine HE.out.mono ?_
            rintro e w6 ⟨rfl, rfl⟩
            go_wp2_with fail
            refine HF.out.mono ?_
            rintro e w6 ⟨rfl, rfl⟩
            go_wp2
            go_ret
            exact ⟨rfl, HR.out.2⟩
      · have hne : (er != 0) = true := by simpa using her
        go_wp2_with fail
        refine (done_err w1.heap.size v M l er wr HX.out hne).mono ?_
        rintro e w4 ⟨rfl, hw4⟩
        have hb4 : Below w.heap.size w w4 := by rw [hw4]; exact HR.out.2.drew
        have HB4 := hid hb4
        clear hw4 hb4
        go_wp2
        go_ret
        exact ⟨rfl, HB4.out⟩

set_option maxRecDepth 100000 in
set_option maxHeartbeats 12800000 in
theorem packBack_none (lim : Int) (a : Option Addr) (len cap : Nat) (its : List It) (hleng : its.length = len) (hlen : len = 0) (w : World) (M : Int) (hM : max lim 0 = M) :
    Calls Try.prog 6 #[.int .i64 lim, .slice a len cap] w fun e w' => e = .returned (.bool true) ∧ Below w.heap.size w w' := by
  have m0 : 0 ≤ M := by omega
  have HM := hid hM
  clear hM
  go_enter Try.func6, Try.ntmps6
  go_wp2_with fail
  refine (lives_any w).mono ?_
  rintro e w1 ⟨rfl, hb⟩
  have HB := hid hb
  have HZ := hid hb.size
  clear hb
  go_wp2_with fail
  refine (new_any lim w1).mono ?_
  rintro e w2 ⟨rfl, hw2⟩
  have hx2 : WrAt w2 w1.heap.size (.slice none 0 0) M [] 0 := by rw [hw2, ← HM.out]; exact new_wr lim w1
  have hb2 : Below w.heap.size w w2 := by rw [hw2]; exact HB.out.alloc HB.out.size _
  have H2 := hid (And.intro hx2 hb2)
  clear hw2 hx2 hb2
  go_wp2_with fail
  go_loopw [6] (fun i wr => ∃ (k : Nat) (v : Value), k ≤ len ∧ i = .int .i64 k ∧ WrAt wr w1.heap.size v M (wst M (its.take k) ([], 0)).1 (wst M (its.take k) ([], 0)).2 ∧ Below w.heap.size w wr)
    (fun i _ => len - (intOf i).toNat)
  case atStart => exact ⟨0, _, Nat.zero_le _, rfl, H2.out.1, H2.out.2⟩
  case round =>
    obtain ⟨k, v, hk, rfl, hwr, hbel⟩ := hrel
    have HR := hid (And.intro hwr hbel)
    clear hwr hbel
    by_cases hlt : k < len
    · exact absurd hlt (by omega)
    · have hke : its.take k = its := List.take_of_length_le (by have := hleng; omega)
      have hx := HR.out.1
      rw [hke] at hx
      clear hke
      obtain ⟨l, er, hler⟩ : ∃ l er, wst M its ([], 0) = (l, er) := ⟨_, _, rfl⟩
      rw [hler] at hx
      have HX : Hid (WrAt wr w1.heap.size v M l er) := hx
      have HW := hid hler
      clear hx hler
      by_cases her : er = 0
      · subst her
        have hz := wst_zero M its ([], 0) (by rw [HW.out])
        rw [HW.out] at hz
        have HO := hid hz.2.1
        have HL := hid hz.2.2
        clear hz
        go_wp2_with fail
        refine (done_ok w1.heap.size v M l wr HX.out).mono ?_
        rintro e w4 ⟨rfl, hw4⟩
        have hb4 : Below w.heap.size w w4 := by rw [hw4]; exact HR.out.2
        have HB4 := hid hb4
        clear hw4 hb4
        go_wp2_with fail
        refine (read_any _ w4).mono ?_
        rintro e w5 ⟨rfl, hw5⟩
        have hr5 : RdAt w5 w4.heap.size ⟨l.toArray⟩ false := by rw [hw5]; exact heap_alloc_new w4 _
        have hb5 : Below w.heap.size w w5 := by rw [hw5]; exact HB4.out.alloc HB4.out.size _
        have HZ4 := hid HB4.out.size
        have H5 := hid (And.intro hr5 hb5)
        clear hw5 hr5 hb5
        go_wp2_with fail
        go_loopw [10] (fun i wr => ∃ (k : Nat) (s : ByteArray), k ≤ len ∧ i = .int .i64 k ∧ s.data.toList = (its.drop k).flatMap It.enc ∧ RdAt wr w4.heap.size s false ∧ Below w.heap.size w wr)
          (fun i _ => len - (intOf i).toNat)
        case atStart => exact ⟨0, ⟨l.toArray⟩, Nat.zero_le _, rfl, by rw [List.drop_zero]; simpa using HL.out, H5.out.1, H5.out.2⟩
        case round =>
          obtain ⟨k, s, hk, rfl, hs, hrd, hbel⟩ := hrel
          have HR := hid (And.intro hrd hbel)
          have HS := hid hs
          clear hs hrd hbel
          by_cases hlt : k < len
          · exact absurd hlt (by omega)
          · have hs0 : s.size = 0 := by
              have := size_of HS.out
              rw [List.drop_eq_nil_of_le (by have := hleng; omega)] at this
              simpa using this
            have HE := hid (end_any w4.heap.size s false wr HR.out.1)
            rw [show endOf s false = 0 by simp [endOf, hs0]] at HE
            have HF := hid (left_any w4.heap.size s false wr HR.out.1)
            rw [hs0] at HF
            clear hs0
            go_wp2_with fail
            refine HE.out.mono ?_
            rintro e w6 ⟨rfl, rfl⟩
            go_wp2_with fail
            refine HF.out.mono ?_
            rintro e w6 ⟨rfl, rfl⟩
            go_wp2
            go_ret
            exact ⟨rfl, HR.out.2⟩
      · have hne : (er != 0) = true := by simpa using her
        go_wp2_with fail
        refine (done_err w1.heap.size v M l er wr HX.out hne).mono ?_
        rintro e w4 ⟨rfl, hw4⟩
        have hb4 : Below w.heap.size w w4 := by rw [hw4]; exact HR.out.2.drew
        have HB4 := hid hb4
        clear hw4 hb4
        go_wp2
        go_ret
        exact ⟨rfl, HB4.out⟩

set_option maxRecDepth 100000 in
theorem packBack_contract (H : Type) (enc : TypeId × Value → H) (W : World) (base : Nat) (args : Array Value) (ds gs : List (DataW H)) (before : List MemPlace)
    (hval : ∀ (j : Nat) t v, Try.f6.params[j]? = some t → args[j]? = some v → Value.okWide Try.prog W .any base t v)
    (hW : DataW.Whole enc Try.prog Try.f6.params.toList Rows.packBackSpec.vars false W args.toList ds gs before) (hk : Rows.uptoSmall H (ds ++ gs) = true) :
    Calls Try.prog 6 args W fun e W' => ∃ v, e = .returned v ∧ Rows.packBackSpec.post enc Try.prog Try.f6 false true false false W args v W' := by
  have hW' := hW
  obtain ⟨p, q, hA0, hV, rfl, hfz, hnd⟩ := hW
  have hA : DataW.TrodAll enc Try.prog W 0 (fun _ => true) true Try.f6.params.toList args.toList ds p := hA0
  rw [Try.params6] at hA hval
  obtain ⟨v0, vs0, d0, ds0, p0, q0, hargs, rfl, rfl, h0, r0⟩ := trodAll_cons hA
  obtain ⟨v1, vs1, d1, ds1, p1, q1, rfl, rfl, rfl, h1, r1⟩ := trodAll_cons r0
  obtain ⟨rfl, rfl, rfl⟩ := trodAll_nil r1
  obtain rfl : args = #[v0, v1] := by cases args; simp_all
  obtain ⟨rfl, rfl⟩ := trodVars_none hV
  obtain ⟨a0, rfl, rfl, rfl, w0⟩ := open_int Try.underlying3 (hval 0 3 v0 rfl rfl) h0
  obtain ⟨a1, len1, cap1, rfl⟩ := okWide_slice Try.underlying22 (hval 1 22 v1 rfl rfl)
  have k1 := h1
  have lt1 : ∀ x ∈ p1, x.block < W.heap.size := by obtain ⟨m, hm⟩ := k1; exact DataW.trod_lt m _ _ _ hm
  clear hA0
  have fin : Calls Try.prog 6 #[.int .i64 a0, .slice a1 len1 cap1] W fun e W' => e = .returned (.bool true) ∧ Below W.heap.size W W' := by
    obtain ⟨fuel, hf⟩ := h1
    rcases open_items (by simpa [Value.cells] using hf) with hlen | ⟨b1, off1, its, spare, rfl, hmax, hin, hd⟩
    · exact packBack_none a0 a1 len1 cap1 [] (by simp [hlen]) hlen W _ rfl
    · have hbk := wt_bulk its
      have hbk2 := items_bulk hd hk
      have b0 := bounds_i64 w0
      exact packBack_some a0 b1 off1 len1 cap1 its W hin hin.leng hmax (by omega) _ rfl (by omega)
  refine fin.mono fun e W' ⟨he, bel⟩ => ?_
  subst he
  exact ⟨_, rfl, _, _, _, [], _, [], hW', trodAll_mk1 (shut_bool Try.underlying4 _), (trodAll_cons_mk (shut_int Try.underlying3 w0) (trodAll_cons_mk (Below.trod Try.laidOut (by kernel_rfl) (of_decide_eq_true (by kernel_rfl)) k1 bel lt1) trodAll_mk0)), rfl, bel.frame _, fun h => by cases h⟩

set_option maxRecDepth 100000 in
theorem packBack_lifted (os : Os) (started : os.Started) (H : Type) (enc : TypeId × Value → H) (F : Stop.Interp) :
    ReturnsInHanded {} Try.checked os 6 .any ((Rows.OpenSpec.upto Rows.packBackSpec).pre6 enc Try.prog Try.f6 Rows.packBackUptoRow.domain false) (((Rows.OpenSpec.upto Rows.packBackSpec).at F).post enc Try.prog Try.f6 false true false false) := by
  refine returnsInHanded_of_cond (C := Try.checked) (s := Rows.OpenSpec.upto Rows.packBackSpec) (k := Rows.uptoSmall) rfl Try.own started (by kernel_rfl) Try.func6
    (OpenSpec.witness (enc := enc) (C := Try.checked) (s := Rows.OpenSpec.upto Rows.packBackSpec) (k := Rows.uptoSmall) rfl false ⟨#[], #[.int .i64 0, .slice none 0 0], []⟩ 8 (by kernel_rfl) (by kernel_rfl) (by kernel_rfl)
      (x := ([.lit (.int .i64 0), .nil], [], [])) (by kernel_rfl) rfl (by kernel_rfl)) ?_
  intro W base args ds gs before hval hW _ hk _
  exact packBack_contract H enc W base args ds gs before hval hW hk

theorem packBack_upto : Rows.PackBackUptoSaid :=
  OpenClaim.holds_of_cond 6 Try.f6 rfl rfl rfl rfl rfl rfl rfl ⟨rfl, rfl, rfl, rfl, rfl⟩ rfl rfl rfl rfl rfl (by kernel_rfl) Try.func6 (by kernel_rfl)
    (of_decide_eq_true (by kernel_rfl)) (by unfold Func.isWrapper; first | (rw [if_pos (by decide +kernel)]; kernel_rfl) | (rw [if_neg (by decide +kernel)]; exact ⟨rfl, rfl⟩))
    (fun os started H enc _ F => packBack_lifted os started H enc F)
#print axioms packBack_upto

end Go.Proofs.Ythhgpfcbhaoeiaa
