/- PackReads is proved: of every text and every list of items, a reader reads just what the document says, item by item. No condition. -/
import Derived.Test.YthhgpfcbhaoeiaaRows
import Derived.Test.YthhgpfcbhaoeiaaPkL
import Derived.Test.YthhgpfcbhaoeiaaPkJ
import Derived.Test.YthhgpfcbhaoeiaaPkU
import Derived.Deep.RegionWith
namespace Go.Proofs.Ythhgpfcbhaoeiaa
open Go.ChangeShapes Go.WideShapes Go.ChangeAt Go.RowKit
open Go.ChangeMaps (open_string shut_string)
attribute [local go_sem ↓] Go.wp_at_zero Go.wp_at_succ

theorem below_drewN {B : Nat} {a w : World} (n : Nat) (h : Below B a w) : Below B a (w.drewN n) := by
  induction n with
  | zero => exact h
  | succ n ih => exact ih.drew
theorem reads_below {w w1 w2 wr w3 : World} {t : ByteArray} (hb : Below w.heap.size w wr) (hk : Kept w1.heap.size (some w2.heap.size) wr.drew w3) (h2 : RdAt w2 w1.heap.size t false ∧ Below w.heap.size w w2 ∧ w2.heap.size = w1.heap.size + 1 ∧ w.heap.size ≤ w1.heap.size) : Below w.heap.size w w3 :=
  hb.trans ⟨hk.os, hk.tape, hk.output, hk.size, fun k hk' => hk.block k (by have := hb.size; show k < wr.heap.size; omega) (by have := h2.2.2.2; omega) (fun e => by cases e; have := h2.2.2.1; have := h2.2.2.2; omega)⟩

set_option maxRecDepth 100000 in
set_option maxHeartbeats 3200000 in
theorem packReads_some (t : ByteArray) (ab off : Nat) (len cap : Nat) (its : List It) (w : World) (HI : Hid (ItemsIn w ab off len its)) (ht : t.size ≤ 9223372036854775807) (hl : len ≤ 9223372036854775807) :
    Calls Try.prog 4 #[.string t, .slice (some ⟨ab, off, none⟩) len cap] w fun e w' => e = .returned (.bool true) ∧ Below w.heap.size w w' := by
  go_enter Try.func4, Try.ntmps4
  go_wp2_with fail
  refine (lives_any w).mono ?_
  rintro e w1 ⟨rfl, hb⟩
  have HB := hid hb
  clear hb
  go_wp2_with fail
  refine (read_any t w1).mono ?_
  rintro e w2 ⟨rfl, hw2⟩
  have hr2 : RdAt w2 w1.heap.size t false := by rw [hw2]; exact heap_alloc_new w1 _
  have hb2 : Below w.heap.size w w2 := by rw [hw2]; exact HB.out.alloc HB.out.size _
  have hz2 : w2.heap.size = w1.heap.size + 1 := by rw [hw2]; simp
  have H2 := hid (And.intro hr2 (And.intro hb2 (And.intro hz2 HB.out.size)))
  clear hw2 hr2 hb2 hz2
  go_wp2_with fail
  go_loopw [7] (fun i wr => ∃ (k : Nat) (s : ByteArray) (sh : Bool), k ≤ len ∧ i = .int .i64 k ∧ s.size ≤ t.size ∧ RdAt wr w1.heap.size s sh ∧ MrAt wr w2.heap.size s sh ∧ Below w.heap.size w wr)
    (fun i _ => len - (intOf i).toNat)
  case atStart => exact ⟨0, t, false, Nat.zero_le _, rfl, Nat.le_refl _, H2.out.1.alloc _, heap_alloc_new w2 _, H2.out.2.1.alloc (by have := H2.out.2.1.size; omega) _⟩
  case round =>
    obtain ⟨k, s, sh, hk, rfl, hs, hrd, hmr, hbel⟩ := hrel
    have cm := hmr.c0
    have HR := hid (And.intro hrd (And.intro hmr hbel))
    clear hrd hmr hbel
    by_cases hlt : k < len
    · obtain ⟨it, hit⟩ : ∃ it, its[k]? = some it := ⟨its[k]'(by have := HI.out.leng; omega), List.getElem?_eq_getElem _⟩
      have hc := (HI.out.cell k it hit).below HR.out.2.2 HI.out.lt
      obtain ⟨c0, c1, c2, c3⟩ := hc
      have i0 : (0 : Int) ≤ (k : Int) := Int.natCast_nonneg _
      have i1 : (k : Int) < (len : Int) := by omega
      have HT := hid (itS_le it.kd s sh)
      have hbc : w1.heap.size ≠ w2.heap.size := by have := H2.out.2.2.1; omega
      have HC := hid (fun (w : World) (h : RdAt w w1.heap.size s sh) (g : MrAt w w2.heap.size s sh) => same_any w1.heap.size w2.heap.size s sh it w h g hbc (by omega))
      unfold It.v at HC
      clear hit hbc
      go_wp2_with fail
      go_region_with (first
        | (go_at_call 18; refine (HC.out _ (by exact HR.out.1) (by exact HR.out.2.1)).mono ?_; rintro e w3 ⟨rfl, hr3, hm3, hk3⟩; have cm := hm3.c0; have H3 := hid (And.intro hr3 (And.intro hm3 hk3)); clear hr3 hm3 hk3)
        | (go_at_call 19; refine (left_any _ _ _ _ H3.out.1).mono ?_; rintro e w4 ⟨rfl, rfl⟩)
        | (go_at_call 20; refine (end_any _ _ _ _ H3.out.1).mono ?_; rintro e w4 ⟨rfl, rfl⟩)
        | (go_at_call 21; refine (mend_any _ _ _ _ H3.out.2.1).mono ?_; rintro e w4 ⟨rfl, rfl⟩))
      all_goals go_wp2
      all_goals
        go_roundw
        case rel => exact ⟨k + 1, itS it.kd s sh, itB it.kd s sh, by omega, by go_num, Nat.le_trans HT.out hs, H3.out.1, H3.out.2.1, reads_below HR.out.2.2 H3.out.2.2 H2.out⟩
        case measure => simp [intOf]; omega
    · go_wp2_with fail
      go_quiet ((go_at_call 19; exact Calls.quiet_of_same (left_any _ _ _ _ (by exact HR.out.1))))
      go_wp2
      go_ret
      exact ⟨rfl, below_drewN _ HR.out.2.2⟩

set_option maxRecDepth 100000 in
set_option maxHeartbeats 3200000 in
theorem packReads_none (t : ByteArray) (a : Option Addr) (len cap : Nat) (hlen : len = 0) (w : World) :
    Calls Try.prog 4 #[.string t, .slice a len cap] w fun e w' => e = .returned (.bool true) ∧ Below w.heap.size w w' := by
  go_enter Try.func4, Try.ntmps4
  go_wp2_with fail
  refine (lives_any w).mono ?_
  rintro e w1 ⟨rfl, hb⟩
  have HB := hid hb
  clear hb
  go_wp2_with fail
  refine (read_any t w1).mono ?_
  rintro e w2 ⟨rfl, hw2⟩
  have hr2 : RdAt w2 w1.heap.size t false := by rw [hw2]; exact heap_alloc_new w1 _
  have hb2 : Below w.heap.size w w2 := by rw [hw2]; exact HB.out.alloc HB.out.size _
  have hz2 : w2.heap.size = w1.heap.size + 1 := by rw [hw2]; simp
  have H2 := hid (And.intro hr2 (And.intro hb2 (And.intro hz2 HB.out.size)))
  clear hw2 hr2 hb2 hz2
  go_wp2_with fail
  go_loopw [7] (fun i wr => ∃ (k : Nat) (s : ByteArray) (sh : Bool), k ≤ len ∧ i = .int .i64 k ∧ s.size ≤ t.size ∧ RdAt wr w1.heap.size s sh ∧ MrAt wr w2.heap.size s sh ∧ Below w.heap.size w wr)
    (fun i _ => len - (intOf i).toNat)
  case atStart => exact ⟨0, t, false, Nat.zero_le _, rfl, Nat.le_refl _, H2.out.1.alloc _, heap_alloc_new w2 _, H2.out.2.1.alloc (by have := H2.out.2.1.size; omega) _⟩
  case round =>
    obtain ⟨k, s, sh, hk, rfl, hs, hrd, hmr, hbel⟩ := hrel
    have cm := hmr.c0
    have HR := hid (And.intro hrd (And.intro hmr hbel))
    clear hrd hmr hbel
    by_cases hlt : k < len
    · exact absurd hlt (by omega)
    · go_wp2_with fail
      go_quiet ((go_at_call 19; exact Calls.quiet_of_same (left_any _ _ _ _ (by exact HR.out.1))))
      go_wp2
      go_ret
      exact ⟨rfl, below_drewN _ HR.out.2.2⟩

set_option maxRecDepth 100000 in
theorem packReads_contract (H : Type) (enc : TypeId × Value → H) (W : World) (base : Nat) (args : Array Value) (ds gs : List (DataW H)) (before : List MemPlace)
    (hval : ∀ (j : Nat) t v, Try.f4.params[j]? = some t → args[j]? = some v → Value.okWide Try.prog W .any base t v)
    (hW : DataW.Whole enc Try.prog Try.f4.params.toList Rows.packReadsSpec.vars false W args.toList ds gs before) :
    Calls Try.prog 4 args W fun e W' => ∃ v, e = .returned v ∧ Rows.packReadsSpec.post enc Try.prog Try.f4 false true false false W args v W' := by
  have hW' := hW
  obtain ⟨p, q, hA0, hV, rfl, hfz, hnd⟩ := hW
  have hA : DataW.TrodAll enc Try.prog W 0 (fun _ => true) true Try.f4.params.toList args.toList ds p := hA0
  rw [Try.params4] at hA hval
  obtain ⟨v0, vs0, d0, ds0, p0, q0, hargs, rfl, rfl, h0, r0⟩ := trodAll_cons hA
  obtain ⟨v1, vs1, d1, ds1, p1, q1, rfl, rfl, rfl, h1, r1⟩ := trodAll_cons r0
  obtain ⟨rfl, rfl, rfl⟩ := trodAll_nil r1
  obtain rfl : args = #[v0, v1] := by cases args; simp_all
  obtain ⟨rfl, rfl⟩ := trodVars_none hV
  obtain ⟨a0, rfl, rfl, rfl, w0⟩ := open_string Try.underlying9 (hval 0 9 v0 rfl rfl) h0
  obtain ⟨a1, len1, cap1, rfl⟩ := okWide_slice Try.underlying22 (hval 1 22 v1 rfl rfl)
  have k1 := h1
  have lt1 : ∀ x ∈ p1, x.block < W.heap.size := by obtain ⟨m, hm⟩ := k1; exact DataW.trod_lt m _ _ _ hm
  clear hA0
  have fin : Calls Try.prog 4 #[.string a0, .slice a1 len1 cap1] W fun e W' => e = .returned (.bool true) ∧ Below W.heap.size W W' := by
    obtain ⟨fuel, hf⟩ := h1
    rcases open_items (by simpa [Value.cells] using hf) with hlen | ⟨b1, off1, its, spare, rfl, hmax, hin, hd⟩
    · exact packReads_none a0 a1 len1 cap1 hlen W
    · exact packReads_some a0 b1 off1 len1 cap1 its W hin w0 hmax
  refine fin.mono fun e W' ⟨he, bel⟩ => ?_
  subst he
  exact ⟨_, rfl, _, _, _, [], _, [], hW', trodAll_mk1 (shut_bool Try.underlying4 _), (trodAll_cons_mk (shut_string Try.underlying9 w0) (trodAll_cons_mk (Below.trod Try.laidOut (by kernel_rfl) (of_decide_eq_true (by kernel_rfl)) k1 bel lt1) trodAll_mk0)), rfl, bel.frame _, fun h => by cases h⟩

set_option maxRecDepth 100000 in
theorem packReads_lifted (os : Os) (started : os.Started) (H : Type) (enc : TypeId × Value → H) :
    ReturnsInHanded {} Try.checked os 4 .any (Rows.packReadsSpec.pre6 enc Try.prog Try.f4 Rows.packReadsRow.domain false) (Rows.packReadsSpec.post enc Try.prog Try.f4 false true false false) := by
  refine returnsInHanded_of_change (C := Try.checked) Try.own started (by kernel_rfl) Try.func4
    (ChangeSpec.witness6 (enc := enc) (C := Try.checked) false ⟨#[], #[.string ByteArray.empty, .slice none 0 0], []⟩ 8 (by kernel_rfl) (by kernel_rfl) (by kernel_rfl) (by kernel_rfl)) ?_
  intro W base args ds gs before hval hW _ _
  exact packReads_contract H enc W base args ds gs before hval hW

theorem packReads_holds : Rows.PackReadsSaid :=
  OpenClaim.holds_of_wide 4 Try.f4 rfl rfl rfl rfl rfl rfl rfl ⟨rfl, rfl, rfl, rfl, rfl⟩ rfl rfl rfl rfl rfl (by kernel_rfl) Try.func4 (by kernel_rfl)
    (of_decide_eq_true (by kernel_rfl)) (by unfold Func.isWrapper; first | (rw [if_pos (by decide +kernel)]; kernel_rfl) | (rw [if_neg (by decide +kernel)]; exact ⟨rfl, rfl⟩))
    (fun os started H enc _ => packReads_lifted os started H enc)
#print axioms packReads_holds

end Go.Proofs.Ythhgpfcbhaoeiaa
