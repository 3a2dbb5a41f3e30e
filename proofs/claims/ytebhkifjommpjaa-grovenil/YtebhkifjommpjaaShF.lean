/- The state behind a block: the walk. -/
import Derived.Test.YtebhkifjommpjaaShE
import Derived.BigQuiet
namespace Go.Proofs.Ytebhkifjommpjaa
open Go.RowKit

def z8 : List (BitVec 32) := List.replicate 8 0
theorem z8_len : (uC z8).length = 8 := by rw [uC_len, z8, List.length_replicate]
theorem Try.info81 : (Try.prog.info? 81).map (fun i => (i.zero, i.size)) = some (some (.agg (uC z8).toArray), 8) := by kernel_rfl
theorem Try.size81 : (Try.prog.info? 81).map (·.size) = some 8 := (zero_of_info Try.info81).2
theorem Try.size73 : (Try.prog.info? 73).map (·.size) = some 1 := by kernel_rfl

theorem Sg0_val (y : BitVec 32) : bits .xor .u32 (bits .xor .u32 (u (rotr y 2)) (u (rotr y 13))) (u (rotr y 22)) = u (Sg0 y) := by
  rw [u_xor, u_xor]; rfl
theorem Sg1_val (y : BitVec 32) : bits .xor .u32 (bits .xor .u32 (u (rotr y 6)) (u (rotr y 11))) (u (rotr y 25)) = u (Sg1 y) := by
  rw [u_xor, u_xor]; rfl
theorem notK : (if IntKind.u32.signed = true then (-1 : Int) else IntKind.u32.max) = IntKind.u32.max := rfl
theorem ch_val (e f g : BitVec 32) : bits .or .u32 (bits .and .u32 (u e) (u f)) (bits .and .u32 (bits .xor .u32 IntKind.u32.max (u e)) (u g)) = u (ch e f g) := by
  rw [u_and, u_not, u_and, u_or, ch_or]
theorem maj_val (a b c : BitVec 32) : bits .or .u32 (bits .or .u32 (bits .and .u32 (u a) (u b)) (bits .and .u32 (u a) (u c))) (bits .and .u32 (u b) (u c)) = u (maj a b c) := by
  rw [u_and, u_and, u_and, u_or, u_or, maj_or]
theorem u_sum (x y : BitVec 32) : u (x + y) = (u x + u y) % 4294967296 := (u_add x y).symm

/-- The first i words added. -/
def addN (S X : List (BitVec 32)) : Nat → List (BitVec 32)
  | 0 => S
  | i + 1 => (addN S X i).set i ((addN S X i).getD i 0 + X.getD i 0)
theorem addN_len (S X : List (BitVec 32)) : ∀ i, (addN S X i).length = S.length
  | 0 => rfl
  | i + 1 => by rw [addN, List.length_set, addN_len S X i]
theorem addN_plus (s x : St) : addN s.list x.list 8 = (s.plus x).list := rfl
theorem list_len (s : St) : s.list.length = 8 := rfl

set_option maxRecDepth 100000 in
set_option maxHeartbeats 1600000 in
theorem behind_any (S : St) (W : List (BitVec 32)) (hW : W.length = 64) (w : World) :
    Calls Try.prog 64 #[.agg (uC S.list).toArray, .agg (uC W).toArray] w fun e w' => e = .returned (.agg (uC (behindW S W).list).toArray) ∧ Below w.heap.size w w' := by
  have HL := hid hW
  clear hW
  obtain ⟨SL, hSL⟩ : ∃ l, l = S.list := ⟨_, rfl⟩
  rw [← hSL]
  have HSL := hid hSL
  have HE := hid (list_len S)
  rw [← hSL] at HE
  clear hSL
  go_enter Try.func64, Try.ntmps64
  go_wp2_with (first
    | refine wl_box_row rfl 81 _ rfl _ rfl ?_
    | refine wl_box_row rfl 92 _ rfl _ rfl ?_
    | refine wl_alloc_row rfl 81 rfl _ _ Try.info81 ?_)
  have e1 : ∀ (v : World) (o : Obj), (v.alloc o).heap.size = v.heap.size + 1 := fun v o => by simp
  have h0 := third w (.cells (uC SL).toArray 81) (.cells (uC W).toArray 92) (.cells (uC z8).toArray 81)
  have h1 := third1 w (.cells (uC SL).toArray 81) (.cells (uC W).toArray 92) (.cells (uC z8).toArray 81)
  have h2 := third2 w (.cells (uC SL).toArray 81) (.cells (uC W).toArray 92) (.cells (uC z8).toArray 81)
  have h3 := third_below w (.cells (uC SL).toArray 81) (.cells (uC W).toArray 92) (.cells (uC z8).toArray 81)
  have h4 : (((w.alloc (.cells (uC SL).toArray 81)).alloc (.cells (uC W).toArray 92)).alloc (.cells (uC z8).toArray 81)).heap.size = w.heap.size + 3 := by simp
  rw [e1, e1]
  clear e1
  generalize ((w.alloc (.cells (uC SL).toArray 81)).alloc (.cells (uC W).toArray 92)).alloc (.cells (uC z8).toArray 81) = w3 at h0 h1 h2 h3 h4 ⊢
  have cell : ∀ j v, (uC S.list)[j]? = some v → w3.cell? ⟨w.heap.size, 0 + j, none⟩ = some v := by
    rw [HSL.out] at h0
    exact heap_cells h0
  have c0 : w3.cell? ⟨w.heap.size, 0, none⟩ = some (.int .u32 (u S.a)) := cell 0 _ rfl
  have c1 : w3.cell? ⟨w.heap.size, 1, none⟩ = some (.int .u32 (u S.b)) := cell 1 _ rfl
  have c2 : w3.cell? ⟨w.heap.size, 2, none⟩ = some (.int .u32 (u S.c)) := cell 2 _ rfl
  have c3 : w3.cell? ⟨w.heap.size, 3, none⟩ = some (.int .u32 (u S.d)) := cell 3 _ rfl
  have c4 : w3.cell? ⟨w.heap.size, 4, none⟩ = some (.int .u32 (u S.e)) := cell 4 _ rfl
  have c5 : w3.cell? ⟨w.heap.size, 5, none⟩ = some (.int .u32 (u S.f)) := cell 5 _ rfl
  have c6 : w3.cell? ⟨w.heap.size, 6, none⟩ = some (.int .u32 (u S.g)) := cell 6 _ rfl
  have c7 : w3.cell? ⟨w.heap.size, 7, none⟩ = some (.int .u32 (u S.h)) := cell 7 _ rfl
  have HH := hid (And.intro h0 (And.intro h1 (And.intro h2 (And.intro h3 h4))))
  clear h0 h1 h2 h3 h4 cell
  go_quiet (fail)
  clear c0 c1 c2 c3 c4 c5 c6 c7
  go_wp2_with (go_at_call 67; refine (constants_any _).mono ?_; rintro e w4 ⟨rfl, hb⟩)
  have hsz : (w3.drewN nq).heap.size = w.heap.size + 3 := HH.out.2.2.2.2
  have g0 : w4.heap[w.heap.size]? = some (.cells (uC SL).toArray 81 (0, 0)) := (hb.block _ (by rw [hsz]; omega)).trans HH.out.1
  have g1 : w4.heap[w.heap.size + 1]? = some (.cells (uC W).toArray 92 (0, 0)) := (hb.block _ (by rw [hsz]; omega)).trans HH.out.2.1
  have g2 : w4.heap[w.heap.size + 1 + 1]? = some (.cells (uC z8).toArray 81 (0, 0)) := (hb.block _ (by rw [hsz]; omega)).trans HH.out.2.2.1
  have g3 : Below w.heap.size w w4 := (Below.same HH.out.2.2.2.1 rfl rfl rfl rfl : Below w.heap.size w (w3.drewN nq)).trans (hb.mono (by rw [hsz]; omega))
  have HG := hid (And.intro g0 (And.intro g1 (And.intro g2 g3)))
  clear HH hb hsz g0 g1 g2 g3
  go_loopw [5, 6, 7, 8, 9, 10, 11, 12, 38] (fun a b c d e f g h i wr => ∃ (X : St) (t : Nat), t ≤ 64 ∧ i = .int .i64 (t : Int) ∧ a = .int .u32 (u X.a) ∧ b = .int .u32 (u X.b) ∧ c = .int .u32 (u X.c) ∧ d = .int .u32 (u X.d) ∧ e = .int .u32 (u X.e) ∧ f = .int .u32 (u X.f) ∧ g = .int .u32 (u X.g) ∧ h = .int .u32 (u X.h) ∧ wr = w4 ∧ roundsN W (64 - t) t X = roundsN W 64 0 S)
    (fun _ _ _ _ _ _ _ _ i _ => (64 - intOf i).toNat)
  case atStart => exact ⟨S, 0, by omega, rfl, rfl, rfl, rfl, rfl, rfl, rfl, rfl, rfl, rfl, rfl⟩
  case round =>
    obtain ⟨X, t, ht, rfl, rfl, rfl, rfl, rfl, rfl, rfl, rfl, rfl, rfl, hr⟩ := hrel
    have HR := hid hr
    clear hr
    by_cases ht64 : t = 64
    · have hr2 : X = roundsN W 64 0 S := by rw [← HR.out, ht64]; rfl
      have HX := hid hr2
      have hk1 : ¬ ((t : Int) < 64) := by omega
      clear HR ht ht64 hr2
      go_wp2
      have HG2 := HG
      clear HG
      go_loopw [111] (fun i wz => ∃ j : Nat, j ≤ 8 ∧ i = .int .i64 (j : Int) ∧ wz.heap[w.heap.size]? = some (.cells (uC (addN SL X.list j)).toArray 81 (0, 0)) ∧ wz.heap[w.heap.size + 1 + 1]? = some (.cells (uC z8).toArray 81 (0, 0)) ∧ Below w.heap.size w wz)
        (fun i _ => (8 - intOf i).toNat)
      case atStart => exact ⟨0, by omega, rfl, HG2.out.1, HG2.out.2.2.1, HG2.out.2.2.2⟩
      case round =>
        clear HG2
        obtain ⟨j, hj, rfl, q0, q2, q3⟩ := hrel
        have HQ := hid (And.intro q0 (And.intro q2 q3))
        clear q0 q2 q3
        have hlen : (uC (addN SL X.list j)).length = 8 := by rw [uC_len, addN_len, HE.out]
        have HN := hid hlen
        clear hlen
        by_cases hj8 : j = 8
        · have hj1 : ¬ ((j : Int) < 8) := by omega
          obtain ⟨Y, eY⟩ : ∃ l, l = addN SL X.list j := ⟨_, rfl⟩
          rw [← eY] at HQ HN
          have ey : Y = (behindW S W).list := by rw [eY, hj8, HSL.out, addN_plus, HX.out, behindW]
          have HY := hid ey
          clear eY ey hj8 hj
          go_wp2_with (first
            | refine wl_load_row rfl 81 _ rfl w.heap.size 0 rfl (uC Y) _ Try.underlying81 rfl 8 HN.out Try.size81 (heap_cells (t := 81) (fr := (0, 0)) HQ.out.1) ?_
            | (refine wl_store_row rfl 81 _ _ rfl (w.heap.size + 1 + 1) 0 rfl 81 (uC z8) (uC Y) rfl HQ.out.2.1 8 HN.out Try.size81 (by rw [z8_len]; decide) (uC_one _) ?_; intro w5 h5 e5))
          have hl : (loadVar 81 ⟨w.heap.size + 1 + 1, 0, none⟩).run Try.prog w5 = .ok (.agg (uC Y).toArray) w5 := by
            refine run_load_row (w := w5) 81 (w.heap.size + 1 + 1) 0 (uC Y) _ Try.underlying81 rfl 8 HN.out Try.size81 (heap_cells (t := 81) (fr := (0, 0)) ?_)
            have := h5.out
            rwa [splice_all _ _ (by rw [HN.out, z8_len])] at this
          refine ret_row rfl rfl hl rfl ⟨by rw [HY.out], ?_⟩
          rw [e5.out]
          exact Below.setRow HQ.out.2.2 (by omega) _
        · have hj1 : (j : Int) < 8 := by omega
          have hj0 : (0 : Int) ≤ (j : Int) := Int.natCast_nonneg _
          obtain ⟨y, ey⟩ : ∃ x, x = (addN SL X.list j).getD j 0 := ⟨_, rfl⟩
          obtain ⟨x, ex⟩ : ∃ x, x = X.list.getD j 0 := ⟨_, rfl⟩
          have hv : (uC X.list).toArray[(j : Int).toNat]? = some (.int .u32 (u x)) := by
            rw [Int.toNat_natCast, List.getElem?_toArray, ex]
            exact uC_get X.list j (by show j < 8; omega)
          have cw : wr.cell? ⟨w.heap.size, j, none⟩ = some (.int .u32 (u y)) := by
            rw [ey]
            have := heap_cells HQ.out.1 j _ (uC_get _ j (by rw [addN_len, HE.out]; omega))
            rwa [Nat.zero_add] at this
          have fw : wr.frozen? ⟨w.heap.size, j, none⟩ = false := by simp [World.frozen?, HQ.out.1]
          have HV := hid hv
          have HK := hid (And.intro ey ex)
          clear hv ey ex
          go_wp2_with (refine wl_index_row rfl 81 _ _ rfl _ rfl _ _ rfl 8 73 Try.underlying81 _ Try.underlying73 rfl Try.size73 hj0 hj1 _ HV.out ?_)
          go_roundw
          case rel =>
            refine ⟨j + 1, by omega, rfl, ?_, ?_, ?_⟩
            · refine (blk_set HQ.out.1 _ _).trans ?_
              rw [uC_set _ _ _ (y + x) ?_, addN, HK.out.1, HK.out.2]
              rw [u_add]
            · exact (Below.heap_setCell _ _ _ _ (by show w.heap.size + 1 + 1 ≠ w.heap.size; omega)).trans HQ.out.2.1
            · exact HQ.out.2.2.setCell (by exact Nat.le_refl _) _
          case measure => simp [intOf]; omega
    · have hk1 : (t : Int) < 64 := by omega
      have hk0 : (0 : Int) ≤ (t : Int) := Int.natCast_nonneg _
      obtain ⟨k, ek⟩ : ∃ x, x = kList.getD t 0 := ⟨_, rfl⟩
      obtain ⟨x, ex⟩ : ∃ x, x = W.getD t 0 := ⟨_, rfl⟩
      have hv : kC[(t : Int).toNat]? = some (.int .u32 (u k)) := by
        rw [Int.toNat_natCast, kC, List.getElem?_toArray, ek]
        exact uC_get kList t (by show t < 64; omega)
      have cw : wr.cell? ⟨w.heap.size + 1, t, none⟩ = some (.int .u32 (u x)) := by
        rw [ex]
        have := heap_cells HG.out.2.1 t _ (uC_get W t (by rw [HL.out]; omega))
        rwa [Nat.zero_add] at this
      have HV := hid hv
      have HK := hid (And.intro ek ex)
      clear hv ek ex
      go_wp2_with (first
        | refine wl_index_row rfl 92 _ _ rfl _ rfl _ _ rfl 64 73 Try.underlying92 _ Try.underlying73 rfl Try.size73 hk0 hk1 _ HV.out ?_
        | (go_at_call 68; refine (turned_any _ _ _ (by decide)).mono ?_; rintro e w1 ⟨rfl, rfl⟩))
      go_roundw
      case rel =>
        refine ⟨round1 X k x, t + 1, by omega, rfl, ?_, rfl, rfl, rfl, ?_, rfl, rfl, rfl, trivial, ?_⟩
        · simp only [notK, Sg0_val, Sg1_val, ch_val, maj_val]
          congr 1
          simp only [round1, rU, rV, u_sum]
          omega
        · simp only [notK, Sg1_val, ch_val]
          congr 1
          simp only [round1, rU, u_sum]
          omega
        · have := HR.out
          rw [show 64 - t = 64 - (t + 1) + 1 by omega, roundsN, ← HK.out.1, ← HK.out.2] at this
          exact this
      case measure => simp [intOf]; omega
end Go.Proofs.Ytebhkifjommpjaa
