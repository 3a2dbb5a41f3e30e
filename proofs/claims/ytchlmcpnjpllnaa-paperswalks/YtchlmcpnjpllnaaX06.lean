/- Texts laid together: ShP GnB OtA GrA OtB OtC OtD GnF OtE. -/
import Derived.Test.YtchlmcpnjpllnaaX05
import Derived.Lib.Builder
import Derived.Lib.AppendStr
import Derived.Shelf.Strings.Builder1
/- The document's digest: the walk. -/
namespace Go.Proofs.Ytchlmcpnjpllnaa
open Go.RowKit

theorem Try.info130 : (Try.prog.info? 130).map (fun i => (i.zero, i.size)) = some (some (.agg (uC z8).toArray), 8) := by kernel_rfl
theorem Try.size130 : (Try.prog.info? 130).map (·.size) = some 8 := (zero_of_info Try.info130).2
theorem hList_len : (uC hList).length = 8 := by rw [uC_len]; rfl
theorem hList_start : hList = St.start.list := rfl

/-- All blocks but b are as they were. -/
structure KB (b : Nat) (w w' : World) : Prop where
  os : w'.os = w.os
  tape : w'.tape = w.tape
  output : w'.output = w.output
  size : w.heap.size ≤ w'.heap.size
  block : ∀ k, k < w.heap.size → k ≠ b → w'.heap[k]? = w.heap[k]?
theorem KB.refl (b : Nat) (w : World) : KB b w w := ⟨rfl, rfl, rfl, Nat.le_refl _, fun _ _ _ => rfl⟩
theorem KB.trans {b : Nat} {x y z : World} (h : KB b x y) (k : KB b y z) : KB b x z :=
  ⟨k.os.trans h.os, k.tape.trans h.tape, k.output.trans h.output, Nat.le_trans h.size k.size, fun i hi hb => by rw [k.block i (Nat.lt_of_lt_of_le hi h.size) hb, h.block i hi hb]⟩
theorem KB.of_below {b : Nat} {x y z : World} (h : KB b x y) (k : Below y.heap.size y z) : KB b x z :=
  h.trans ⟨k.os, k.tape, k.output, k.size, fun i hi _ => k.block i hi⟩
theorem KB.same {b : Nat} {x y z : World} (h : KB b x y) (h1 : z.os = y.os) (h2 : z.tape = y.tape) (h3 : z.output = y.output) (h4 : z.heap = y.heap) : KB b x z :=
  ⟨h1.trans h.os, h2.trans h.tape, h3.trans h.output, by rw [h4]; exact h.size, fun k hk hb => by rw [h4]; exact h.block k hk hb⟩
theorem KB.setCell {b : Nat} {x y : World} (h : KB b x y) (j : Nat) (v : Value) : KB b x (y.setCell ⟨b, j, none⟩ v) :=
  ⟨h.os, h.tape, h.output, by have := h.size; simpa [World.setCell] using this, fun i hi hb => by rw [Below.heap_setCell _ _ _ _ hb, h.block i hi hb]⟩
theorem KB.setRow {b : Nat} {x y : World} (h : KB b x y) (c : Array Value) : KB b x (y.setRow b c) :=
  ⟨h.os, h.tape, h.output, by have := h.size; simpa [World.setRow] using this, fun i hi hb => by rw [setRow_other _ _ _ _ hb, h.block i hi hb]⟩
theorem KB.new {b c : Nat} {x y z : World} (h : KB b x y) (k : KB c y z) (hc : x.heap.size ≤ c) : KB b x z :=
  ⟨k.os.trans h.os, k.tape.trans h.tape, k.output.trans h.output, Nat.le_trans h.size k.size, fun i hi hb => by rw [k.block i (Nat.lt_of_lt_of_le hi h.size) (by omega), h.block i hi hb]⟩
theorem KB.below {b B : Nat} {x y : World} (h : KB b x y) (hB : B ≤ b) (hx : B ≤ x.heap.size) : Below B x y :=
  ⟨h.os, h.tape, h.output, h.size, fun k hk => h.block k (by omega) (by omega)⟩
theorem KB.cell {b : Nat} {x y : World} (h : KB b x y) (k j : Nat) (hk : k < x.heap.size) (hb : k ≠ b) : y.cell? ⟨k, j, none⟩ = x.cell? ⟨k, j, none⟩ := by
  simp only [World.cell?, h.block k hk hb]

theorem ch_valx (e f g : BitVec 32) : bits .xor .u32 (bits .and .u32 (u e) (u f)) (bits .and .u32 (bits .xor .u32 IntKind.u32.max (u e)) (u g)) = u (ch e f g) := by
  rw [u_and, u_not, u_and, u_xor]; rfl
theorem maj_valx (a b c : BitVec 32) : bits .xor .u32 (bits .xor .u32 (bits .and .u32 (u a) (u b)) (bits .and .u32 (u a) (u c))) (bits .and .u32 (u b) (u c)) = u (maj a b c) := by
  rw [u_and, u_and, u_and, u_xor, u_xor]; rfl
theorem list8 {p q p' q' : Int} {b c d f g h : Value} (h1 : p = p') (h2 : q = q') : [Value.int .u32 p, b, c, d, .int .u32 q, f, g, h] = [Value.int .u32 p', b, c, d, .int .u32 q', f, g, h] := by rw [h1, h2]
theorem KB.drewN {b : Nat} {x y : World} (h : KB b x y) (n : Nat) : KB b x (y.drewN n) := h.same rfl rfl rfl rfl
theorem u_bytesw (x : BitVec 32) : [Value.int .u8 (IntKind.u8.wrap (u x / 16777216)), .int .u8 (IntKind.u8.wrap (u x / 65536)), .int .u8 (IntKind.u8.wrap (u x / 256)), .int .u8 (IntKind.u8.wrap (u x))] = bC (wBytes x) := by
  rw [← u_bytes]
  simp [IntKind.wrap, IntKind.bits, IntKind.signed]
theorem kC_def : kC = (uC kList).toArray := rfl
theorem kList_len2 : kList.length = 64 := rfl
theorem hash_step (A : List UInt8) (i : Nat) (h : 64 * i + 64 ≤ A.length) : hashB .start (A.take (64 * i + 64)) = step (hashB .start (A.take (64 * i))) ((A.drop (64 * i)).take 64) := by
  rw [List.take_add, hashB_app _ _ _ i (by rw [List.length_take]; omega), ← List.append_nil ((A.drop (64 * i)).take 64), hashB_cons _ _ _ (by rw [List.length_take, List.length_drop]; omega), hashB_short _ _ (by decide), List.append_nil]
theorem blk_len (A : List UInt8) (p : Nat) (h : p + 64 ≤ A.length) : ((A.drop p).take 64).length = 64 := by rw [List.length_take, List.length_drop]; omega
theorem blk_get (A : List UInt8) (p j : Nat) (v : Value) (h : (bC ((A.drop p).take 64))[j]? = some v) : (bC A)[p + j]? = some v := by
  have hj : j < ((A.drop p).take 64).length := by have := (List.getElem?_eq_some_iff.1 h).1; rwa [bC_len] at this
  have h64 : j < 64 := by rw [List.length_take] at hj; omega
  simp only [bC, List.getElem?_map] at h ⊢
  rw [List.getElem?_take, if_pos h64, List.getElem?_drop] at h
  exact h

set_option maxRecDepth 100000 in
set_option maxHeartbeats 1600000 in
theorem qsum_any (s : ByteArray) (hs : s.size ≤ 1099511627000) (w : World) :
    Calls Try.prog 72 #[.string s] w fun e w' => e = .returned (.string ⟨(shaB s.data.toList).toArray⟩) ∧ Below w.heap.size w w' := by
  have HS := hid hs
  clear hs
  go_enter Try.func72, Try.ntmps72
  go_wp2_with (first
    | refine wl_build_row rfl 130 _ rfl (.agg (uC hList).toArray) (by kernel_rfl) ?_
    | refine wl_alloc_row rfl 130 rfl _ _ Try.info130 ?_
    | (refine wl_store_row rfl 130 _ _ rfl w.heap.size 0 rfl 130 (uC z8) (uC hList) rfl (heap_alloc_last w _) 8 hList_len Try.size130 (by rw [z8_len]; decide) (uC_one _) ?_; intro w1 h1 e1)
    | (go_at_call 94; refine (qconstants_any _).mono ?_; rintro e w2 ⟨rfl, rfl⟩)
    | (refine wl_bytes rfl _ rfl s rfl (by have := HS.out; unfold maxLen; omega) ?_; intro cap w3 hc3 hb3 hl3 hm3; have q3 : (w1.alloc (.cells kC 129)).heap.size = w1.heap.size + 1 := by simp
       rw [q3] at hb3 hl3
       clear q3)
    | (go_at_call 95; refine (qpad_any _ (by have := HS.out; omega) _).mono ?_; rintro e w4 ⟨v4, rfl, hO4⟩; have HO4 := hid hO4; clear hO4)
    | (refine wl_all rfl _ _ rfl _ _ _ rfl s.data.toList rfl (hb3.out.keep HO4.out.bel) (w1.heap.size + 1) (Nat.le_refl _) _ _ _ (padB s.size) rfl HO4.out (by rw [padB_len]; omega) (by rw [padB_len]; have := HS.out; have := zerosN_lt s.size; omega) ?_; intro g2 cap2 w5 hA5 hB5))
  obtain ⟨b, eb⟩ : ∃ b, b = w.heap.size := ⟨_, rfl⟩
  obtain ⟨k0, ek⟩ : ∃ k, k = w1.heap.size := ⟨_, rfl⟩
  obtain ⟨A, eA⟩ : ∃ A, A = s.data.toList ++ padB s.size := ⟨_, rfl⟩
  obtain ⟨N, eN⟩ : ∃ N, N = s.size + (padB s.size).length := ⟨_, rfl⟩
  have hk0 : k0 = b + 1 := by
    have := congrArg (fun u : World => u.heap.size) e1.out
    simp [World.setRow] at this
    omega
  have hNA : A.length = N := by rw [eA, List.length_append, data_len, eN]
  have hN64 : N % 64 = 0 := by rw [← hNA, eA]; exact pad_mod s.data.toList
  have hN40 : N ≤ 1099511627776 := by rw [eN, padB_len]; have := HS.out; have := zerosN_lt s.size; omega
  have hN0 : 0 < N := by rw [eN, padB_len]; omega
  have f1 : w1.heap[b]? = some (.cells (uC hList).toArray 130 (0, 0)) := by
    have := h1.out
    rwa [splice_all _ _ (by rw [z8_len, hList_len]), ← eb] at this
  have l5 : Below (k0 + 1) (w1.alloc (.cells kC 129)) w5 := by
    rw [ek]
    exact (hl3.out.trans (HO4.out.bel.mono (by have := hl3.out.size; simp at this; omega))).trans hB5.out
  have f5 : w5.heap[b]? = some (.cells (uC hList).toArray 130 (0, 0)) := (l5.block b (by omega)).trans ((Below.heap_alloc _ _ _ (by rw [← ek]; omega)).trans f1)
  have g5 : w5.heap[k0]? = some (.cells kC 129 (0, 0)) := (l5.block k0 (by omega)).trans (by rw [ek]; exact heap_alloc_last w1 _)
  have b5 : Below b w w5 := by
    have hb1 : Below b w w1 := by
      rw [e1.out]
      exact Below.setRow ((Below.refl _ _).alloc (by rw [eb]; exact Nat.le_refl _) _) (by rw [eb]; exact Nat.le_refl _) _
    exact (hb1.alloc (by rw [← ek]; omega) _).trans (l5.mono (by omega))
  have a5 : AllAt w5 (k0 + 1) g2 cap2 A := by rw [ek, eA]; exact hA5.out
  rw [← eN, ← eb, ← ek]
  have F := hid (And.intro f5 (And.intro g5 (And.intro b5 (And.intro a5 (And.intro hNA (And.intro hN64 (And.intro hk0 (And.intro eA (And.intro eb hN0)))))))))
  have hN40' : (N : Int) ≤ 1099511627776 := by omega
  clear f5 g5 b5 a5 hNA hN64 hk0 eA eb l5 f1 eN ek hN40 hN0 hB5 hA5 HO4 hm3 hl3 hb3 hc3 e1 h1
  go_loopw [6] (fun v wr => ∃ (i : Nat) (S : St), v = .int .i64 ((64 * i : Nat) : Int) ∧ 64 * i ≤ N ∧ wr.heap[b]? = some (.cells (uC S.list).toArray 130 (0, 0)) ∧ S = hashB .start (A.take (64 * i)) ∧ KB b w5 wr)
    (fun v _ => ((N : Int) - intOf v).toNat)
  case atStart => exact ⟨0, .start, rfl, by omega, F.out.1, by rw [hashB_short _ _ (by simp)], KB.refl _ _⟩
  case round =>
    obtain ⟨i, S, rfl, hi, hS, hSt, hKB⟩ := hrel
    have H := hid (And.intro hi (And.intro hS (And.intro hSt hKB)))
    clear hi hS hSt hKB
    obtain ⟨p, ep⟩ : ∃ p, p = 64 * i := ⟨_, rfl⟩
    rw [← ep]
    by_cases hiN : 64 * i = N
    · have hk1 : ¬ ((p : Int) < (N : Int)) := by omega
      have HI := hid (And.intro hiN ep)
      clear hiN ep
      go_wp2
      rename World => wa
      obtain ⟨i0, hi0, hz0, hz1, hz2⟩ := info_parts Try.info5
      go_loopw [17, 18] (fun v i wz => ∃ j : Nat, j ≤ 8 ∧ i = .int .i64 (j : Int) ∧ Owned wa.heap.size wa wz v ((S.list.take j).flatMap wBytes))
        (fun _ i _ => (8 - intOf i).toNat)
      case atStart => exact ⟨0, by omega, rfl, Owned.nil (Below.refl _ _) (Nat.le_refl _)⟩
      case round =>
        obtain ⟨j, hj, rfl, hO⟩ := hrel
        have HO := hid hO
        clear hO
        have hbw : b < wa.heap.size := lt_of_blk H.out.2.1
        by_cases hj8 : j = 8
        · have hk3 : ¬ ((j : Int) < 8) := by omega
          have hc := HO.out.text
          have et : (S.list.take j).flatMap wBytes = shaB s.data.toList := by
            rw [hj8, List.take_of_length_le (by rw [list_len]; exact Nat.le_refl _), shaB, data_len, ← F.out.2.2.2.2.2.2.2.1, H.out.2.2.1, HI.out.1, ← F.out.2.2.2.2.1, List.take_of_length_le (Nat.le_refl _)]
            rfl
          rw [et] at hc
          have HC := hid (And.intro hc hbw)
          clear hc et hj hj8 hbw
          go_wp2_with rw [HC.out.1]
          go_ret
          have hw := F.out.2.2.2.2.2.2.2.2.1
          refine ⟨rfl, ?_⟩
          rw [← hw]
          exact (F.out.2.2.1.trans (H.out.2.2.2.below (Nat.le_refl _) (Nat.le_of_lt (lt_of_blk F.out.1)))).trans (HO.out.bel.mono (Nat.le_of_lt HC.out.2))
        · have hk3 : (j : Int) < 8 := by omega
          have hk4 : (0 : Int) ≤ (j : Int) := Int.natCast_nonneg _
          obtain ⟨x, ex⟩ : ∃ x, x = S.list.getD j 0 := ⟨_, rfl⟩
          have HC : Hid (∀ ww : World, ww.heap[b]? = wa.heap[b]? → ww.cell? ⟨b, j, none⟩ = some (.int .u32 (u x))) := hid (by
            intro ww hS
            rw [ex]
            exact cell_at (hS.trans H.out.2.1) j _ (uC_get _ j (by rw [list_len]; omega)))
          have HSW : Hid (wr.heap[b]? = wa.heap[b]?) := hid (HO.out.bel.block b hbw)
          have hlen : ((S.list.take j).flatMap wBytes).length + 4 ≤ 40 := by
            rw [flat_len, List.length_take, list_len]
            omega
          have HN := hid (And.intro hlen (And.intro ex (And.intro hj hbw)))
          clear hlen ex hj hbw
          go_wp2
          refine wp_region_held (S := fun ww => ww.heap[b]? = wa.heap[b]?) (by kernel_rfl) ?_
          try (change wpAnyH _ _ _ _ _ _ _ _ (World.drew _))
          refine wpAnyH_take (i := 0) (v := ?v1) rfl (by kernel_rfl) (by kernel_rfl) (by kernel_rfl) (fun _ _ _ h => h) (Or.inl ⟨by rfl, ?hy1⟩) HSW.out ?rest1
          case hy1 => (intro ww _; go_simp; try with_reducible rfl)
          go_simp
          refine wpAnyH_take (i := 1) (v := ?v2) rfl (by kernel_rfl) (by kernel_rfl) (by kernel_rfl) (fun _ _ _ h => h) (Or.inl ⟨by rfl, ?hy2⟩) HSW.out ?rest2
          case hy2 => (intro ww _; go_simp; try with_reducible rfl)
          go_simp
          refine wpAnyH_take (i := 2) (v := ?v3) rfl (by kernel_rfl) (by kernel_rfl) (by kernel_rfl) (fun _ _ _ h => h) (Or.inl ⟨by rfl, ?hy3⟩) HSW.out ?rest3
          case hy3 => (intro ww _; go_simp; try with_reducible rfl)
          go_simp
          refine wpAnyH_take (i := 3) (v := ?v4) rfl (by kernel_rfl) (by kernel_rfl) (by kernel_rfl) (fun _ _ _ h => h) (Or.inl ⟨by rfl, ?hy4⟩) HSW.out ?rest4
          case hy4 => (intro ww hS; have z0 := HC.out ww hS; go_simp; try with_reducible rfl)
          go_simp
          refine wpAnyH_take (i := 4) (v := ?v5) rfl (by kernel_rfl) (by kernel_rfl) (by kernel_rfl) (fun _ _ _ h => h) (Or.inl ⟨by rfl, ?hy5⟩) HSW.out ?rest5
          case hy5 => (intro ww _; go_simp; try with_reducible rfl)
          go_simp
          refine wpAnyH_take (i := 5) (v := ?v6) rfl (by kernel_rfl) (by kernel_rfl) (by kernel_rfl) (fun _ _ _ h => h) (Or.inl ⟨by rfl, ?hy6⟩) HSW.out ?rest6
          case hy6 => (intro ww _; go_simp; try with_reducible rfl)
          go_simp
          refine wpAnyH_take (i := 6) (v := ?v7) rfl (by kernel_rfl) (by kernel_rfl) (by kernel_rfl) (fun _ _ _ h => h) (Or.inl ⟨by rfl, ?hy7⟩) HSW.out ?rest7
          case hy7 => (intro ww _; go_simp; try with_reducible rfl)
          go_simp
          refine wpAnyH_take (i := 7) (v := ?v8) rfl (by kernel_rfl) (by kernel_rfl) (by kernel_rfl) (fun _ _ _ h => h) (Or.inl ⟨by rfl, ?hy8⟩) HSW.out ?rest8
          case hy8 => (intro ww _; go_simp; try with_reducible rfl)
          go_simp
          refine wpAnyH_take (i := 8) (v := ?v9) rfl (by kernel_rfl) (by kernel_rfl) (by kernel_rfl) (fun _ _ _ h => h) (Or.inl ⟨by rfl, ?hy9⟩) HSW.out ?rest9
          case hy9 => (intro ww hS; have z0 := HC.out ww hS; go_simp; try with_reducible rfl)
          go_simp
          refine wpAnyH_take (i := 9) (v := ?v10) rfl (by kernel_rfl) (by kernel_rfl) (by kernel_rfl) (fun _ _ _ h => h) (Or.inl ⟨by rfl, ?hy10⟩) HSW.out ?rest10
          case hy10 => (intro ww _; go_simp; try with_reducible rfl)
          go_simp
          refine wpAnyH_take (i := 10) (v := ?v11) rfl (by kernel_rfl) (by kernel_rfl) (by kernel_rfl) (fun _ _ _ h => h) (Or.inl ⟨by rfl, ?hy11⟩) HSW.out ?rest11
          case hy11 => (intro ww _; go_simp; try with_reducible rfl)
          go_simp
          refine wpAnyH_take (i := 11) (v := ?v12) rfl (by kernel_rfl) (by kernel_rfl) (by kernel_rfl) (fun _ _ _ h => h) (Or.inl ⟨by rfl, ?hy12⟩) HSW.out ?rest12
          case hy12 => (intro ww _; go_simp; try with_reducible rfl)
          go_simp
          refine wpAnyH_take (i := 12) (v := ?v13) rfl (by kernel_rfl) (by kernel_rfl) (by kernel_rfl) (fun _ _ _ h => h) (Or.inl ⟨by rfl, ?hy13⟩) HSW.out ?rest13
          case hy13 => (intro ww _; go_simp; try with_reducible rfl)
          go_simp
          refine wpAnyH_take (i := 13) (v := ?v14) rfl (by kernel_rfl) (by kernel_rfl) (by kernel_rfl) (fun _ _ _ h => h) (Or.inl ⟨by rfl, ?hy14⟩) HSW.out ?rest14
          case hy14 => (intro ww hS; have z0 := HC.out ww hS; go_simp; try with_reducible rfl)
          go_simp
          refine wpAnyH_take (i := 14) (v := ?v15) rfl (by kernel_rfl) (by kernel_rfl) (by kernel_rfl) (fun _ _ _ h => h) (Or.inl ⟨by rfl, ?hy15⟩) HSW.out ?rest15
          case hy15 => (intro ww _; go_simp; try with_reducible rfl)
          go_simp
          refine wpAnyH_take (i := 15) (v := ?v16) rfl (by kernel_rfl) (by kernel_rfl) (by kernel_rfl) (fun _ _ _ h => h) (Or.inl ⟨by rfl, ?hy16⟩) HSW.out ?rest16
          case hy16 => (intro ww _; go_simp; try with_reducible rfl)
          go_simp
          refine wpAnyH_take (i := 16) (v := ?v17) rfl (by kernel_rfl) (by kernel_rfl) (by kernel_rfl) (fun _ _ _ h => h) (Or.inl ⟨by rfl, ?hy17⟩) HSW.out ?rest17
          case hy17 => (intro ww _; go_simp; try with_reducible rfl)
          go_simp
          refine wpAnyH_take (i := 17) (v := ?v18) rfl (by kernel_rfl) (by kernel_rfl) (by kernel_rfl) (fun _ _ _ h => h) (Or.inl ⟨by rfl, ?hy18⟩) HSW.out ?rest18
          case hy18 => (intro ww _; go_simp; try with_reducible rfl)
          go_simp
          refine wpAnyH_take (i := 18) (v := ?v19) rfl (by kernel_rfl) (by kernel_rfl) (by kernel_rfl) (fun _ _ _ h => h) (Or.inl ⟨by rfl, ?hy19⟩) HSW.out ?rest19
          case hy19 => (intro ww hS; have z0 := HC.out ww hS; go_simp; try with_reducible rfl)
          go_simp
          refine wpAnyH_take (i := 19) (v := ?v20) rfl (by kernel_rfl) (by kernel_rfl) (by kernel_rfl) (fun _ _ _ h => h) (Or.inl ⟨by rfl, ?hy20⟩) HSW.out ?rest20
          case hy20 => (intro ww _; go_simp; try with_reducible rfl)
          go_simp
          refine wpAnyH_all (rs := [20]) (by kernel_rfl) (by simp) ?_
          intro i hi
          obtain rfl := List.mem_singleton.1 hi
          clear hi
          refine wpOp_k rfl rfl (fun K hK => ?_)
          go_simp
          refine hK _ _ ⟨(Below.heap_alloc _ _ _ (Nat.lt_of_lt_of_le HN.out.2.2.2 HO.out.le)).trans HSW.out, ?_⟩
          clear hK K
          refine wpAnyH_all (rs := [21]) (by kernel_rfl) (by simp) ?_
          intro i hi
          obtain rfl := List.mem_singleton.1 hi
          clear hi
          refine wpOp_k rfl rfl (fun K hK => ?_)
          refine wp_append_own _ _ _ 57 rfl wa.heap.size 5 i0 (.int .u8 0) 1 1 Try.underlying57 hi0 hz0 hz1 hz2 rfl (by decide) _ _ _ rfl (HO.out.alloc _).drew.own ⟨wr.heap.size, 0, none⟩ 4 4 (bC (wBytes x)) rfl rfl (by rw [← u_bytesw]; exact World.news_of_block (t := 5) (fr := (0, 0)) (heap_alloc_last wr _)) (bC_one _) (by have := HN.out.1; unfold maxLen; omega) (by have := HN.out.1; omega) (HO.out.alloc _).le ?_
          intro v3 w3 hown3 hgrow3 i3
          have HO3 := hid ((HO.out.alloc _).drew.grow (xs := wBytes x) rfl hown3 hgrow3)
          refine hK _ _ ⟨HO3.out.bel.block b HN.out.2.2.2, ?_⟩
          clear hown3 hgrow3 i3 hK K
          go_simp
          refine wpAnyH_take (i := 22) (v := ?v21) rfl (by kernel_rfl) (by kernel_rfl) (by kernel_rfl) (fun _ _ _ h => h) (Or.inl ⟨by rfl, ?hy21⟩) (HO3.out.bel.block b HN.out.2.2.2) ?rest21
          case hy21 => (intro ww _; go_simp; try with_reducible rfl)
          go_simp
          refine wpAnyH_done (by kernel_rfl) ?_ _
          go_simp
          go_wp2
          refine ⟨⟨j + 1, by omega, rfl, by rw [flat_snoc _ _ (by rw [list_len]; omega), ← HN.out.2.1]; exact HO3.out⟩, by simp [intOf]; omega⟩
    · have hlt : 64 * i + 64 ≤ N := by have := H.out.1; have := F.out.2.2.2.2.2.1; omega
      have hk1 : (p : Int) < (N : Int) := by omega
      have hp0 : (0 : Int) ≤ (p : Int) := Int.natCast_nonneg _
      have hcap : N ≤ cap2 := by have := F.out.2.2.2.1.le; rw [F.out.2.2.2.2.1] at this; exact this
      have hp1 : (p : Int) + 64 ≤ (cap2 : Int) := by omega
      have hp2 : (p : Int) ≤ (cap2 : Int) := by omega
      have hp3 : ¬ (cap2 = p) := by omega
      have hp4 : ((p : Int) + 64).toNat = p + 64 := by omega
      have hp5 : (0 : Int) ≤ (p : Int) + 64 := by omega
      have hp6 : p + 64 - p = 64 := by omega
      obtain ⟨L, eL⟩ : ∃ L, L = (A.drop p).take 64 := ⟨_, rfl⟩
      have hLl : L.length = 64 := by rw [eL]; exact blk_len A p (by rw [F.out.2.2.2.2.1]; omega)
      have hgb : g2 ≠ b := by have := F.out.2.2.2.1.ge; have := F.out.2.2.2.2.2.2.1; omega
      have hcell : ∀ j v, (bC L)[j]? = some v → wr.cell? ⟨g2, p + j, none⟩ = some v := fun j v hv => by
        rw [H.out.2.2.2.cell g2 (p + j) F.out.2.2.2.1.lt hgb]
        rw [eL] at hv
        exact F.out.2.2.2.1.cell (p + j) v (blk_get A p j v hv)
      have HW : Hid (∀ cc, Calls Try.prog 96 #[.slice (some ⟨g2, p, none⟩) 64 cc] wr fun e w' => ∃ v, e = .returned v ∧ OwnedU wr.heap.size wr w' v (sched L)) := hid (fun cc => qwords_any g2 p cc L hLl wr (Nat.lt_of_lt_of_le F.out.2.2.2.1.lt H.out.2.2.2.size) hcell)
      have HP := hid (And.intro eL (And.intro hLl (And.intro ep (And.intro hlt hcap))))
      clear eL hLl hgb hcell ep hlt hcap hiN
      go_wp2_with (first
        | (go_at_call 96; refine (HW.out _).mono ?_; rintro e w6 ⟨v6, rfl, hO6⟩; have HO6 := hid hO6; clear hO6)
        | refine wl_load_row rfl 130 _ rfl b 0 rfl (uC S.list) _ Try.underlying130 rfl 8 (by rw [uC_len]; exact list_len S) Try.size130 (heap_cells (t := 130) (fr := (0, 0)) ((HO6.out.bel.block b (lt_of_blk H.out.2.1)).trans H.out.2.1)) ?_
        | refine wl_alloc_row rfl 130 rfl _ _ Try.info130 ?_
        | (refine wl_store_row rfl 130 _ _ rfl w6.heap.size 0 rfl 130 (uC z8) (uC S.list) rfl (heap_alloc_last w6 _) 8 (by rw [uC_len]; exact list_len S) Try.size130 (by rw [z8_len]; decide) (uC_one _) ?_; intro w7 h7 e7))
      obtain ⟨W, eW⟩ : ∃ W, W = sched L := ⟨_, rfl⟩
      have hW : W.length = 64 := by rw [eW]; exact sched_len L HP.out.2.1
      rw [← eW] at HO6
      obtain ⟨gw, cw, hv6, cW6⟩ := HO6.out.form1 (by rw [hW]; decide)
      rw [hW] at hv6 cW6
      subst hv6
      obtain ⟨x0, ex0⟩ : ∃ x, x = w6.heap.size := ⟨_, rfl⟩
      have hbw : b < wr.heap.size := lt_of_blk H.out.2.1
      have hkw : k0 < wr.heap.size := Nat.lt_of_lt_of_le (lt_of_blk F.out.2.1) H.out.2.2.2.size
      have h6s := HO6.out.bel.size
      have hgw : gw < x0 := by
        have := cW6 0 (by decide)
        rw [ex0]
        by_cases hh : gw < w6.heap.size
        · exact hh
        · simp [World.cell?, Array.getElem?_eq_none (Nat.not_lt.1 hh)] at this
      have k7 : KB x0 w6 w7 := by
        have k6 : KB x0 w6 (w6.alloc (.cells (uC z8).toArray 130)) := ⟨rfl, rfl, rfl, by simp, fun k hk _ => Below.heap_alloc w6 _ k hk⟩
        rw [e7.out, ← ex0]
        exact k6.setRow _
      have x7 : w7.heap[x0]? = some (.cells (uC S.list).toArray 130 (0, 0)) := by
        have := h7.out
        rwa [splice_all _ _ (by rw [z8_len, uC_len, list_len]), ← ex0] at this
      have s7 : w7.heap[b]? = some (.cells (uC S.list).toArray 130 (0, 0)) := (k7.block b (by omega) (by omega)).trans ((HO6.out.bel.block b hbw).trans H.out.2.1)
      have n7 : w7.heap[k0]? = some (.cells kC 129 (0, 0)) := (k7.block k0 (by omega) (by omega)).trans ((HO6.out.bel.block k0 hkw).trans ((H.out.2.2.2.block k0 (lt_of_blk F.out.2.1) (by have := F.out.2.2.2.2.2.2.1; omega)).trans F.out.2.1))
      have c7 : ∀ j, j < 64 → w7.cell? ⟨gw, j, none⟩ = some (.int .u32 (u (W.getD j 0))) := fun j hj => (k7.cell gw j (by omega) (by omega)).trans (cW6 j hj)
      have q7 : KB b w5 w7 := (H.out.2.2.2.of_below HO6.out.bel).new k7 (by have := H.out.2.2.2.size; omega)
      rw [← ex0]
      have G := hid (And.intro x7 (And.intro s7 (And.intro n7 (And.intro c7 (And.intro q7 (And.intro eW (And.intro hW (And.intro hgw (by have := H.out.2.2.2.size; omega : b < x0 ∧ k0 < x0 ∧ w5.heap.size ≤ x0)))))))))
      clear x7 s7 n7 c7 q7 k7 e7 h7 hW eW cW6 HO6 HW hbw hkw h6s hgw ex0 hp1 hp2 hp3 hp4 hp5 hp6 hk1
      go_loopw [9] (fun v wz => ∃ (t : Nat) (X : St), t ≤ 64 ∧ v = .int .i64 (t : Int) ∧ wz.heap[x0]? = some (.cells (uC X.list).toArray 130 (0, 0)) ∧ KB x0 w7 wz ∧ roundsN W (64 - t) t X = roundsN W 64 0 S)
        (fun v _ => (64 - intOf v).toNat)
      case atStart => exact ⟨0, S, by omega, rfl, G.out.1, KB.refl _ _, rfl⟩
      case round =>
        obtain ⟨t, X, ht, rfl, hX, hZ, hR⟩ := hrel
        have R := hid (And.intro hX (And.intro hZ hR))
        clear hX hZ hR
        by_cases ht64 : t = 64
        · have hk2 : ¬ ((t : Int) < 64) := by omega
          have hX2 : X = roundsN W 64 0 S := by rw [← R.out.2.2, ht64]; rfl
          have HX := hid hX2
          clear hX2 ht ht64
          go_wp2
          go_loopw [16] (fun v wz => ∃ j : Nat, j ≤ 8 ∧ v = .int .i64 (j : Int) ∧ wz.heap[b]? = some (.cells (uC (addN S.list X.list j)).toArray 130 (0, 0)) ∧ wz.heap[x0]? = some (.cells (uC X.list).toArray 130 (0, 0)) ∧ KB b w5 wz)
            (fun v _ => (8 - intOf v).toNat)
          case atStart =>
            have hbx := G.out.2.2.2.2.2.2.2.2.1
            refine ⟨0, by omega, rfl, (R.out.2.1.block b (lt_of_blk G.out.2.1) (by omega)).trans G.out.2.1, R.out.1, G.out.2.2.2.2.1.new R.out.2.1 ?_⟩
            exact G.out.2.2.2.2.2.2.2.2.2.2
          case round =>
            obtain ⟨j, hj, rfl, hJ1, hJ2, hJ3⟩ := hrel
            have J := hid (And.intro hJ1 (And.intro hJ2 hJ3))
            clear hJ1 hJ2 hJ3
            by_cases hj8 : j = 8
            · have hk3 : ¬ ((j : Int) < 8) := by omega
              have hk4 : (p : Int) + 64 < 4611686018427387904 := by have := HP.out.2.2.1; have := HP.out.2.2.2.1; omega
              have HJ := hid hj8
              clear hj hj8
              go_wp2
              have ep := HP.out.2.2.1
              have hN := HP.out.2.2.2.1
              have eN := F.out.2.2.2.2.1
              refine ⟨⟨i + 1, S.plus X, by rw [show ((64 * (i + 1) : Nat) : Int) = (p : Int) + 64 by omega], by omega, ?_, ?_, J.out.2.2⟩, by simp [intOf]; omega⟩
              · rw [← addN_plus, ← HJ.out]
                exact J.out.1
              · rw [show 64 * (i + 1) = 64 * i + 64 by omega, hash_step A i (by omega), ← H.out.2.2.1, ← ep, ← HP.out.1, step, behindW, ← G.out.2.2.2.2.2.1, ← HX.out]
            · have hk3 : (j : Int) < 8 := by omega
              have hk4 : (0 : Int) ≤ (j : Int) := Int.natCast_nonneg _
              obtain ⟨y, ey⟩ : ∃ x, x = (addN S.list X.list j).getD j 0 := ⟨_, rfl⟩
              obtain ⟨x, ex⟩ : ∃ x, x = X.list.getD j 0 := ⟨_, rfl⟩
              have cy : wr.cell? ⟨b, j, none⟩ = some (.int .u32 (u y)) := by
                rw [ey]
                exact cell_at J.out.1 j _ (uC_get _ j (by rw [addN_len, list_len]; omega))
              have cx : wr.cell? ⟨x0, j, none⟩ = some (.int .u32 (u x)) := by
                rw [ex]
                exact cell_at J.out.2.1 j _ (uC_get _ j (by rw [list_len]; omega))
              have fw : wr.frozen? ⟨b, j, none⟩ = false := by simp [World.frozen?, J.out.1]
              have HK := hid (And.intro ey ex)
              clear ey ex
              go_wp2
              go_region
              go_wp2
              refine ⟨⟨j + 1, by omega, rfl, ?_, ?_, (J.out.2.2.setCell j _).same rfl rfl rfl rfl⟩, by simp [intOf]; omega⟩
              · refine (blk_set J.out.1 _ _).trans ?_
                rw [uC_set _ _ _ (y + x) (by rw [u_add]), addN, HK.out.1, HK.out.2]
              · exact (Below.heap_setCell _ _ _ _ (by have := G.out.2.2.2.2.2.2.2.2.1; show x0 ≠ b; omega)).trans J.out.2.1
        · have hk2 : (t : Int) < 64 := by omega
          have ht0 : (0 : Int) ≤ (t : Int) := Int.natCast_nonneg _
          obtain ⟨k, ek⟩ : ∃ x, x = kList.getD t 0 := ⟨_, rfl⟩
          obtain ⟨x, ex⟩ : ∃ x, x = W.getD t 0 := ⟨_, rfl⟩
          have xc : ∀ j v, (uC X.list)[j]? = some v → wr.cell? ⟨x0, 0 + j, none⟩ = some v := heap_cells R.out.1
          have c0 : wr.cell? ⟨x0, 0, none⟩ = some (.int .u32 (u X.a)) := xc 0 _ rfl
          have c1 : wr.cell? ⟨x0, 1, none⟩ = some (.int .u32 (u X.b)) := xc 1 _ rfl
          have c2 : wr.cell? ⟨x0, 2, none⟩ = some (.int .u32 (u X.c)) := xc 2 _ rfl
          have c3 : wr.cell? ⟨x0, 3, none⟩ = some (.int .u32 (u X.d)) := xc 3 _ rfl
          have c4 : wr.cell? ⟨x0, 4, none⟩ = some (.int .u32 (u X.e)) := xc 4 _ rfl
          have c5 : wr.cell? ⟨x0, 5, none⟩ = some (.int .u32 (u X.f)) := xc 5 _ rfl
          have c6 : wr.cell? ⟨x0, 6, none⟩ = some (.int .u32 (u X.g)) := xc 6 _ rfl
          have c7 : wr.cell? ⟨x0, 7, none⟩ = some (.int .u32 (u X.h)) := xc 7 _ rfl
          have ck : wr.cell? ⟨k0, t, none⟩ = some (.int .u32 (u k)) := by
            rw [R.out.2.1.cell k0 t (lt_of_blk G.out.2.2.1) (by have := G.out.2.2.2.2.2.2.2.2.2; omega), ek]
            have hk7 := G.out.2.2.1
            rw [kC_def] at hk7
            exact cell_at hk7 t _ (uC_get kList t (by rw [kList_len2]; omega))
          have cx : wr.cell? ⟨gw, t, none⟩ = some (.int .u32 (u x)) := by
            rw [R.out.2.1.cell gw t (Nat.lt_trans G.out.2.2.2.2.2.2.2.1 (lt_of_blk G.out.1)) (by have := G.out.2.2.2.2.2.2.2.1; omega), ex]
            exact G.out.2.2.2.1 t (by omega)
          have HK := hid (And.intro ek (And.intro ex (by omega : t < 64)))
          clear xc ek ex ht ht64
          go_wp2
          go_quiet (fail)
          go_wp2_with (go_at_call 97; refine (turn_any _ _ _ (by decide)).mono ?_; rintro e wt ⟨rfl, rfl⟩)
          go_quiet (fail)
          go_wp2_with (first
            | (go_at_call 97; refine (turn_any _ _ _ (by decide)).mono ?_; rintro e wt ⟨rfl, rfl⟩)
            | (refine wl_store_row rfl 130 _ _ rfl x0 0 rfl 130 (uC X.list) (uC (round1 X k x).list) ?hx (by exact R.out.1) 8 (by rw [uC_len]; exact list_len _) Try.size130 (by rw [uC_len, list_len]; decide) (uC_one _) ?_; rotate_left; intro w8 h8 e8))
          · refine ⟨⟨t + 1, round1 X k x, by have := HK.out.2.2; omega, rfl, ?_, ?_, ?_⟩, by simp [intOf]; omega⟩
            · have := h8.out
              rwa [splice_all _ _ (by rw [uC_len, uC_len, list_len, list_len])] at this
            · rw [e8.out]
              exact (R.out.2.1.drewN _).setRow _
            · have := R.out.2.2
              rw [show 64 - t = 64 - (t + 1) + 1 by have := HK.out.2.2; omega, roundsN, ← HK.out.1, ← HK.out.2.1] at this
              exact this
          · simp only [Sg0_val, Sg1_val, ch_valx, maj_valx]
            refine list8 ?_ ?_
            · simp only [round1, rU, rV, u_sum]
              omega
            · simp only [round1, rU, u_sum]
              omega
end Go.Proofs.Ytchlmcpnjpllnaa

/- The document's digest, as a text. -/
namespace Go.Proofs.Ytchlmcpnjpllnaa
open Go.RowKit

/-- A digest, as a text. -/
def shaS (z : ByteArray) : ByteArray := ⟨(shaB z.data.toList).toArray⟩
theorem shaS_size (z : ByteArray) : (shaS z).size = 32 := by rw [← data_len, shaS, mk_data, shaB_len]
theorem qsum_s (z : ByteArray) (hz : z.size ≤ 1099511627000) (u : World) : Calls Try.prog 72 #[.string z] u fun e w' => e = .returned (.string (shaS z)) ∧ Below u.heap.size u w' := qsum_any z hz u
end Go.Proofs.Ytchlmcpnjpllnaa

/- Steps, digits, chains, keys and signatures as functions of bytes. No walk here. -/
namespace Go.Proofs.Ytchlmcpnjpllnaa
open Go.RowKit

/-- A step: the first 16 bytes of the digest. -/
def st16 (x : ByteArray) : ByteArray := ⟨((shaB x.data.toList).take 16).toArray⟩
/-- So many steps. -/
def stepN : Nat → ByteArray → ByteArray
  | 0, x => x
  | n + 1, x => st16 (stepN n x)
theorem stepN_zero (x : ByteArray) : stepN 0 x = x := rfl
theorem stepN_succ (n : Nat) (x : ByteArray) : stepN (n + 1) x = st16 (stepN n x) := rfl
theorem stepN_add (a b : Nat) (x : ByteArray) : stepN b (stepN a x) = stepN (a + b) x := by
  induction b with
  | zero => rfl
  | succ b ih => rw [stepN_succ, ih, ← Nat.add_assoc, stepN_succ]
theorem take16_size (l : List UInt8) : (⟨((shaB l).take 16).toArray⟩ : ByteArray).size = 16 := by
  rw [mk_size, List.length_take, shaB_len]; rfl
theorem st16_size (x : ByteArray) : (st16 x).size = 16 := take16_size _
theorem stepN_size (n : Nat) (x : ByteArray) (h : x.size = 16) : (stepN n x).size = 16 := by
  cases n with
  | zero => exact h
  | succ n => exact st16_size _
theorem stepN_le (n : Nat) (x : ByteArray) (m : Nat) (h : x.size ≤ m) (hm : 16 ≤ m) : (stepN n x).size ≤ m := by
  cases n with
  | zero => exact h
  | succ n => rw [stepN_succ, st16_size]; exact hm

/-- The halves of a byte. -/
def twoN (b : UInt8) : List Nat := [b.toNat / 16, b.toNat % 16]
def halfN (l : List UInt8) : List Nat := l.flatMap twoN
def sumN (l : List UInt8) : Nat := (l.map fun b => b.toNat / 16 + b.toNat % 16).sum
/-- The digits of a digest's beginning. -/
def dgN (l : List UInt8) : List Nat := halfN l ++ [(480 - sumN l) / 256, (480 - sumN l) / 16 % 16, (480 - sumN l) % 16]
def nI (l : List Nat) : List Int := l.map Int.ofNat
theorem nI_app (a b : List Nat) : nI (a ++ b) = nI a ++ nI b := by simp [nI]
theorem nI_len (a : List Nat) : (nI a).length = a.length := by simp [nI]
theorem nI_get (l : List Nat) (i : Nat) (h : i < l.length) : (nI l)[i]? = some ((l.getD i 0 : Nat) : Int) := by
  simp [nI, h]
theorem halfN_snoc (l : List UInt8) (j : Nat) (b : UInt8) (h : l[j]? = some b) : halfN (l.take (j + 1)) = halfN (l.take j) ++ twoN b := by
  rw [List.take_add_one, h]
  simp [halfN]
theorem sumN_snoc (l : List UInt8) (j : Nat) (b : UInt8) (h : l[j]? = some b) : sumN (l.take (j + 1)) = sumN (l.take j) + (b.toNat / 16 + b.toNat % 16) := by
  rw [List.take_add_one, h]
  simp [sumN]
theorem halfN_len (l : List UInt8) : (halfN l).length = 2 * l.length := by
  induction l with
  | nil => rfl
  | cons b l ih =>
    show (twoN b ++ halfN l).length = _
    rw [List.length_append, ih]
    simp [twoN]
    omega
theorem sumN_le (l : List UInt8) : sumN l ≤ 30 * l.length := by
  induction l with
  | nil => exact Nat.le_refl _
  | cons b l ih =>
    have h : sumN (b :: l) = (b.toNat / 16 + b.toNat % 16) + sumN l := by simp [sumN]
    have := b.toNat_lt
    rw [h, List.length_cons]
    omega
theorem dgN_len (l : List UInt8) (h : l.length = 16) : (dgN l).length = 35 := by
  rw [dgN, List.length_append, halfN_len, h]; rfl
theorem halfN_lt (l : List UInt8) : ∀ n ∈ halfN l, n < 16 := by
  intro n hn
  obtain ⟨b, _, hb⟩ := List.mem_flatMap.1 hn
  have := b.toNat_lt
  simp [twoN] at hb
  omega
theorem dgN_lt (l : List UInt8) : ∀ n ∈ dgN l, n < 16 := by
  intro n hn
  rcases List.mem_append.1 hn with h | h
  · exact halfN_lt l n h
  · simp at h
    omega
theorem dgN_getD (l : List UInt8) (i : Nat) : (dgN l).getD i 0 < 16 := by
  by_cases h : i < (dgN l).length
  · rw [List.getD_eq_getElem?_getD, List.getElem?_eq_getElem h]
    exact dgN_lt l _ (List.getElem_mem h)
  · rw [List.getD_eq_getElem?_getD, List.getElem?_eq_none (by omega)]
    decide
/-- The digits of a text. -/
def txtN (t : ByteArray) : List Nat := dgN ((shaB t.data.toList).take 16)
theorem take16_len (l : List UInt8) : ((shaB l).take 16).length = 16 := by rw [List.length_take, shaB_len]; rfl
theorem txtN_len (t : ByteArray) : (txtN t).length = 35 := dgN_len _ (take16_len _)
theorem txtN_lt (t : ByteArray) (i : Nat) : (txtN t).getD i 0 < 16 := dgN_getD _ i

/-- Where chains stand, one behind the other. -/
def chB (k : Nat → Nat) (p : Nat → ByteArray) (n : Nat) : List UInt8 := (List.range n).flatMap fun i => (stepN (k i) (p i)).data.toList
theorem chB_zero (k : Nat → Nat) (p : Nat → ByteArray) : chB k p 0 = [] := rfl
theorem chB_succ (k : Nat → Nat) (p : Nat → ByteArray) (n : Nat) : chB k p (n + 1) = chB k p n ++ (stepN (k n) (p n)).data.toList := by
  simp [chB, List.range_succ]
theorem chB_len (k : Nat → Nat) (p : Nat → ByteArray) (n : Nat) (h : ∀ i, i < n → (p i).size = 16) : (chB k p n).length = 16 * n := by
  induction n with
  | zero => rfl
  | succ n ih =>
    rw [chB_succ, List.length_append, ih (fun i hi => h i (Nat.lt_succ_of_lt hi)), data_len, stepN_size _ _ (h n (Nat.lt_succ_self n))]
    omega
theorem chB_congr (k k' : Nat → Nat) (p p' : Nat → ByteArray) (n : Nat) (h : ∀ i, i < n → stepN (k i) (p i) = stepN (k' i) (p' i)) : chB k p n = chB k' p' n := by
  induction n with
  | zero => rfl
  | succ n ih => rw [chB_succ, chB_succ, ih (fun i hi => h i (Nat.lt_succ_of_lt hi)), h n (Nat.lt_succ_self n)]
/-- Where a chain begins. -/
def begS (seed : ByteArray) (leaf i : Nat) : ByteArray := ⟨((shaB (seed.data.toList ++ [UInt8.ofNat leaf, UInt8.ofNat i])).take 16).toArray⟩
theorem begS_size (seed : ByteArray) (leaf i : Nat) : (begS seed leaf i).size = 16 := take16_size _
def pubB (seed : ByteArray) (leaf : Nat) : List UInt8 := shaB (chB (fun _ => 15) (begS seed leaf) 35)
def signB (seed : ByteArray) (leaf : Nat) (text : ByteArray) : List UInt8 := chB (fun i => (txtN text).getD i 0) (begS seed leaf) 35
def pieceS (sig : ByteArray) (i : Nat) : ByteArray := sig.extract (16 * i) (16 * i + 16)
def recB (text sig : ByteArray) : List UInt8 := shaB (chB (fun i => 15 - (txtN text).getD i 0) (pieceS sig) 35)
theorem pubB_len (seed : ByteArray) (leaf : Nat) : (pubB seed leaf).length = 32 := shaB_len _
theorem signB_len (seed : ByteArray) (leaf : Nat) (text : ByteArray) : (signB seed leaf text).length = 560 := by
  rw [signB, chB_len _ _ _ (fun i _ => begS_size _ _ _)]
theorem pieceS_size (sig : ByteArray) (i : Nat) (h : sig.size = 560) (hi : i < 35) : (pieceS sig i).size = 16 := by
  rw [pieceS, ← data_len, ext_data, List.length_drop, List.length_take, data_len, h]
  omega
/-- The piece of a row of chains. -/
theorem chB_piece (k : Nat → Nat) (p : Nat → ByteArray) (h : ∀ i, (p i).size = 16) (n i : Nat) (hi : i < n) :
    ((chB k p n).take (16 * i + 16)).drop (16 * i) = (stepN (k i) (p i)).data.toList := by
  induction n with
  | zero => omega
  | succ n ih =>
    have hl := chB_len k p n (fun i _ => h i)
    have hs : (stepN (k n) (p n)).data.toList.length = 16 := by rw [data_len, stepN_size _ _ (h n)]
    rw [chB_succ]
    by_cases hn : i = n
    · subst hn
      rw [List.take_of_length_le (by rw [List.length_append, hl, hs]; omega), List.drop_left' hl]
    · rw [List.take_append_of_le_length (by omega)]
      exact ih (by omega)
theorem piece_sign (seed : ByteArray) (leaf : Nat) (text : ByteArray) (i : Nat) (hi : i < 35) : pieceS ⟨(signB seed leaf text).toArray⟩ i = stepN ((txtN text).getD i 0) (begS seed leaf i) := by
  apply ByteArray.ext
  apply Array.ext'
  rw [pieceS, ext_data, mk_data]
  exact chB_piece _ _ (begS_size seed leaf) 35 i hi
/-- A signature leads to its public key. -/
theorem rec_sign (seed : ByteArray) (leaf : Nat) (text : ByteArray) : recB text ⟨(signB seed leaf text).toArray⟩ = pubB seed leaf := by
  unfold recB pubB
  congr 1
  refine chB_congr _ _ _ _ _ fun i hi => ?_
  rw [piece_sign _ _ _ _ hi, stepN_add]
  congr 1
  have := txtN_lt text i
  omega
end Go.Proofs.Ytchlmcpnjpllnaa

/- Trees of keys, their paths and signatures, as functions of bytes. No walk here. -/
namespace Go.Proofs.Ytchlmcpnjpllnaa
open Go.RowKit

/-- The node above the leaves from first on, 2^h of them. -/
def nodeS (L : List ByteArray) (first : Nat) : Nat → ByteArray
  | 0 => L.getD first ⟨#[]⟩
  | h + 1 => shaS (nodeS L first h ++ nodeS L (first + 2 ^ h) h)
def pubN (seed : ByteArray) (n : Nat) : ByteArray := ⟨(pubB seed n).toArray⟩
theorem pubN_size (seed : ByteArray) (n : Nat) : (pubN seed n).size = 32 := by rw [pubN, mk_size, pubB_len]
/-- All public keys. -/
def leafL (seed : ByteArray) (h : Nat) : List ByteArray := (List.range (2 ^ h)).map (pubN seed)
theorem leafL_len (seed : ByteArray) (h : Nat) : (leafL seed h).length = 2 ^ h := by simp [leafL]
theorem leafL_get (seed : ByteArray) (h j : Nat) (hj : j < 2 ^ h) : (leafL seed h)[j]? = some (pubN seed j) := by simp [leafL, hj]
theorem leafL_size (seed : ByteArray) (h : Nat) (j : Nat) (s : ByteArray) (hs : (leafL seed h)[j]? = some s) : s.size = 32 := by
  have hj : j < 2 ^ h := by rw [← leafL_len seed h]; exact (List.getElem?_eq_some_iff.1 hs).1
  rw [leafL_get seed h j hj] at hs
  cases hs
  exact pubN_size _ _
theorem nodeS_size (L : List ByteArray) (hL : ∀ (j : Nat) (s : ByteArray), L[j]? = some s → s.size = 32) (h first : Nat) (hf : first + 2 ^ h ≤ L.length) : (nodeS L first h).size = 32 := by
  cases h with
  | zero =>
    have hlt : first < L.length := by simp at hf; omega
    rw [nodeS, List.getD_eq_getElem?_getD, List.getElem?_eq_getElem hlt]
    exact hL first _ (List.getElem?_eq_getElem hlt)
  | succ h => rw [nodeS, shaS_size]
def rootS (seed : ByteArray) (h : Nat) : ByteArray := nodeS (leafL seed h) 0 h
theorem pow_pos2 (h : Nat) : 0 < 2 ^ h := Nat.pow_pos (by decide)
theorem rootS_size (seed : ByteArray) (h : Nat) : (rootS seed h).size = 32 := nodeS_size _ (leafL_size seed h) h 0 (by rw [leafL_len]; omega)
/-- The number of the one beside it. -/
def besideN (i : Nat) : Nat := if i % 2 = 1 then i - 1 else i + 1
/-- What stands beside the way from the leaf up. -/
def pathB (L : List ByteArray) (leaf : Nat) : Nat → List UInt8
  | 0 => []
  | k + 1 => pathB L leaf k ++ (nodeS L (besideN (leaf / 2 ^ k) * 2 ^ k) k).data.toList
def gsignB (seed : ByteArray) (h leaf : Nat) (text : ByteArray) : List UInt8 := UInt8.ofNat leaf :: (signB seed leaf text ++ pathB (leafL seed h) leaf h)
theorem pow_le5 (h : Nat) (hh : h ≤ 5) : 2 ^ h ≤ 32 := Nat.le_trans (Nat.pow_le_pow_right (by decide) hh) (by decide)
/-- A number below 2^h, halved k times, is below 2^(h-k); so is the one beside it. -/
theorem div_lt (leaf h k : Nat) (hl : leaf < 2 ^ h) (hk : k < h) : leaf / 2 ^ k < 2 ^ (h - k) := by
  rw [Nat.div_lt_iff_lt_mul (pow_pos2 k), ← Nat.pow_add, Nat.sub_add_cancel (by omega)]
  exact hl
theorem beside_lt (leaf h k : Nat) (hl : leaf < 2 ^ h) (hk : k < h) : besideN (leaf / 2 ^ k) * 2 ^ k + 2 ^ k ≤ 2 ^ h := by
  have h1 := div_lt leaf h k hl hk
  obtain ⟨m, em⟩ : ∃ m, h - k = m + 1 := ⟨h - k - 1, by omega⟩
  have h2 : besideN (leaf / 2 ^ k) < 2 ^ (h - k) := by
    rw [em, Nat.pow_succ] at h1 ⊢
    unfold besideN
    generalize leaf / 2 ^ k = i at h1 ⊢
    generalize 2 ^ m = p at h1 ⊢
    split <;> omega
  have h3 : 2 ^ h = 2 ^ (h - k) * 2 ^ k := by rw [← Nat.pow_add, Nat.sub_add_cancel (by omega)]
  rw [h3, ← Nat.succ_mul]
  exact Nat.mul_le_mul_right _ h2
theorem path_len (L : List ByteArray) (hL : ∀ (j : Nat) (s : ByteArray), L[j]? = some s → s.size = 32) (leaf h : Nat) (hlen : L.length = 2 ^ h) (hl : leaf < 2 ^ h) : ∀ k, k ≤ h → (pathB L leaf k).length = 32 * k
  | 0, _ => rfl
  | k + 1, hk => by
    rw [pathB, List.length_append, path_len L hL leaf h hlen hl k (by omega), data_len, nodeS_size L hL k _ (by rw [hlen]; exact beside_lt leaf h k hl hk)]
    omega
theorem gsign_len (seed : ByteArray) (h leaf : Nat) (text : ByteArray) (hl : leaf < 2 ^ h) : (gsignB seed h leaf text).length = 561 + 32 * h := by
  rw [gsignB, List.length_cons, List.length_append, signB_len, path_len _ (leafL_size seed h) leaf h (leafL_len seed h) hl h (Nat.le_refl _)]
  omega
/-- What the way up leads to. -/
def sideS (sig : ByteArray) (k : Nat) : ByteArray := sig.extract (561 + 32 * k) (593 + 32 * k)
def upS (sig : ByteArray) (leaf : Nat) (n : ByteArray) : Nat → ByteArray
  | 0 => n
  | k + 1 => if leaf / 2 ^ k % 2 = 0 then shaS (upS sig leaf n k ++ sideS sig k) else shaS (sideS sig k ++ upS sig leaf n k)
theorem upS_even (sig : ByteArray) (leaf : Nat) (n : ByteArray) (k : Nat) (h : leaf / 2 ^ k % 2 = 0) : upS sig leaf n (k + 1) = shaS (upS sig leaf n k ++ sideS sig k) := by rw [upS, if_pos h]
theorem upS_odd (sig : ByteArray) (leaf : Nat) (n : ByteArray) (k : Nat) (h : ¬ leaf / 2 ^ k % 2 = 0) : upS sig leaf n (k + 1) = shaS (sideS sig k ++ upS sig leaf n k) := by rw [upS, if_neg h]
theorem upS_size (sig : ByteArray) (leaf : Nat) (n : ByteArray) (hn : n.size ≤ 32) (k : Nat) : (upS sig leaf n k).size ≤ 32 := by
  cases k with
  | zero => exact hn
  | succ k =>
    rw [upS]
    split <;> rw [shaS_size] <;> exact Nat.le_refl _
theorem recB_len (t s : ByteArray) : (recB t s).length = 32 := shaB_len _
/-- The first byte. -/
def headN (sig : ByteArray) : Nat := (sig.data.toList.getD 0 0).toNat
def oneS (sig : ByteArray) : ByteArray := sig.extract 1 561
def recN (text sig : ByteArray) : ByteArray := ⟨(recB text (oneS sig)).toArray⟩
theorem recN_size (text sig : ByteArray) : (recN text sig).size = 32 := by rw [recN, mk_size, recB_len]
/-- Has it the form? -/
def formB (h : Int) (sig : ByteArray) : Bool := decide (0 ≤ h ∧ h ≤ 5 ∧ sig.size = 561 + 32 * h.toNat ∧ headN sig < 2 ^ h.toNat)
/-- Is it taken? -/
def takenB (root : ByteArray) (h : Int) (text sig : ByteArray) : Bool := formB h sig && ((upS sig (headN sig) (recN text sig) h.toNat).toList == root.toList)
theorem taken_no {root : ByteArray} {h : Int} {text sig : ByteArray} (hf : formB h sig = false) : takenB root h text sig = false := by rw [takenB, hf]; rfl
theorem half_pow (leaf k : Nat) : leaf / 2 ^ (k + 1) = leaf / 2 ^ k / 2 := by rw [Nat.pow_succ, Nat.div_div_eq_div_mul]

/-! A signature is taken. -/
theorem node_up (L : List ByteArray) (i k : Nat) : nodeS L (i * 2 ^ (k + 1)) (k + 1) = shaS (nodeS L (2 * i * 2 ^ k) k ++ nodeS L ((2 * i + 1) * 2 ^ k) k) := by
  rw [nodeS, Nat.pow_succ]
  congr 3
  · rw [Nat.mul_comm 2 i, Nat.mul_assoc, Nat.mul_comm 2]
  · rw [Nat.succ_mul, Nat.mul_comm 2 i, Nat.mul_assoc, Nat.mul_comm 2]
def gsigS (seed : ByteArray) (h leaf : Nat) (text : ByteArray) : ByteArray := ⟨(gsignB seed h leaf text).toArray⟩
theorem path_take (L : List ByteArray) (leaf : Nat) : ∀ h k, k ≤ h → ∃ r, pathB L leaf h = pathB L leaf k ++ r
  | 0, k, hk => ⟨[], by obtain rfl : k = 0 := by omega
                        rfl⟩
  | h + 1, k, hk => by
    by_cases e : k = h + 1
    · exact ⟨[], by rw [e, List.append_nil]⟩
    · obtain ⟨r, hr⟩ := path_take L leaf h k (by omega)
      exact ⟨r ++ (nodeS L (besideN (leaf / 2 ^ h) * 2 ^ h) h).data.toList, by rw [pathB, hr, List.append_assoc]⟩
theorem side_sign (seed : ByteArray) (h leaf : Nat) (text : ByteArray) (hl : leaf < 2 ^ h) (k : Nat) (hk : k < h) :
    sideS (gsigS seed h leaf text) k = nodeS (leafL seed h) (besideN (leaf / 2 ^ k) * 2 ^ k) k := by
  apply ByteArray.ext
  apply Array.ext'
  rw [sideS, ext_data, gsigS, mk_data]
  obtain ⟨r, hr⟩ := path_take (leafL seed h) leaf h (k + 1) (by omega)
  have hk1 := path_len _ (leafL_size seed h) leaf h (leafL_len seed h) hl k (by omega)
  have hn : (nodeS (leafL seed h) (besideN (leaf / 2 ^ k) * 2 ^ k) k).data.toList.length = 32 := by
    rw [data_len, nodeS_size _ (leafL_size seed h) k _ (by rw [leafL_len]; exact beside_lt leaf h k hl hk)]
  have hs := signB_len seed leaf text
  rw [gsignB, hr, pathB]
  obtain ⟨X, eX⟩ : ∃ X, X = UInt8.ofNat leaf :: (signB seed leaf text ++ pathB (leafL seed h) leaf k) := ⟨_, rfl⟩
  have hX : X.length = 561 + 32 * k := by rw [eX, List.length_cons, List.length_append, hs, hk1]; omega
  obtain ⟨N, eN⟩ : ∃ N, N = (nodeS (leafL seed h) (besideN (leaf / 2 ^ k) * 2 ^ k) k).data.toList := ⟨_, rfl⟩
  rw [← eN] at hn ⊢
  have e : UInt8.ofNat leaf :: (signB seed leaf text ++ (pathB (leafL seed h) leaf k ++ N ++ r)) = X ++ (N ++ r) := by
    rw [eX]
    simp
  rw [e, List.take_append, List.take_of_length_le (by omega), List.drop_left' hX, hX, show 593 + 32 * k - (561 + 32 * k) = 32 by omega, List.take_append_of_le_length (by omega), List.take_of_length_le (by omega)]
theorem one_sign (seed : ByteArray) (h leaf : Nat) (text : ByteArray) : oneS (gsigS seed h leaf text) = ⟨(signB seed leaf text).toArray⟩ := by
  apply ByteArray.ext
  apply Array.ext'
  rw [oneS, ext_data, gsigS, mk_data]
  have hs := signB_len seed leaf text
  show ((UInt8.ofNat leaf :: (signB seed leaf text ++ _)).take 561).drop 1 = signB seed leaf text
  rw [List.take_succ_cons, List.drop_succ_cons, List.drop_zero, List.take_append_of_le_length (by omega), List.take_of_length_le (by omega)]
theorem head_sign (seed : ByteArray) (h leaf : Nat) (text : ByteArray) (hl : leaf < 256) : headN (gsigS seed h leaf text) = leaf := by
  show (UInt8.ofNat leaf).toNat = leaf
  rw [UInt8.toNat_ofNat']
  omega
theorem up_sign (seed : ByteArray) (h leaf : Nat) (text : ByteArray) (hl : leaf < 2 ^ h) : ∀ k, k ≤ h → upS (gsigS seed h leaf text) leaf (pubN seed leaf) k = nodeS (leafL seed h) (leaf / 2 ^ k * 2 ^ k) k
  | 0, _ => by
    rw [upS, nodeS, Nat.pow_zero, Nat.div_one, Nat.mul_one, List.getD_eq_getElem?_getD, leafL_get seed h leaf hl]
    rfl
  | k + 1, hk => by
    have ih := up_sign seed h leaf text hl k (by omega)
    have hb := side_sign seed h leaf text hl k (by omega)
    rw [half_pow, node_up]
    by_cases he : leaf / 2 ^ k % 2 = 0
    · rw [upS_even _ _ _ _ he, ih, hb]
      generalize leaf / 2 ^ k = i at he ⊢
      rw [besideN, if_neg (by omega), show 2 * (i / 2) = i by omega]
    · rw [upS_odd _ _ _ _ he, ih, hb]
      generalize leaf / 2 ^ k = i at he ⊢
      rw [besideN, if_pos (by omega), show 2 * (i / 2) + 1 = i by omega, show 2 * (i / 2) = i - 1 by omega]
theorem taken_sign (seed : ByteArray) (h leaf : Nat) (text : ByteArray) (hh : h ≤ 5) (hl : leaf < 2 ^ h) : takenB (rootS seed h) (h : Int) text (gsigS seed h leaf text) = true := by
  have h32 := pow_le5 h hh
  have hf : formB (h : Int) (gsigS seed h leaf text) = true := by
    refine decide_eq_true ⟨by omega, by omega, ?_, ?_⟩
    · rw [gsigS, mk_size, gsign_len seed h leaf text hl, Int.toNat_natCast]
    · rw [head_sign seed h leaf text (by omega), Int.toNat_natCast]
      exact hl
  rw [takenB, hf, head_sign seed h leaf text (by omega), Int.toNat_natCast, recN, one_sign, rec_sign]
  have := up_sign seed h leaf text hl h (Nat.le_refl _)
  rw [pubN] at this
  rw [this, Nat.div_eq_of_lt hl, Nat.zero_mul]
  show ((rootS seed h).toList == (rootS seed h).toList) = true
  simp
end Go.Proofs.Ytchlmcpnjpllnaa

/- A strings.Builder of one's own: written, and told. -/
namespace Go.Proofs.Ytchlmcpnjpllnaa
open Go.RowKit
open Go.Shelf

def ren169 : Go.Shelf.Ren := ⟨fun | 169 => 84 | n => n, fun | 70 => 118 | 9 => 9 | 0 => 0 | 72 => 120 | 37 => 57 | 127 => 138 | 3 => 3 | 5 => 5 | n => n, fun | n => n⟩
theorem lays169 : Go.Proofs.Lays.n169 Try.prog ren169 := {
  mixed := by kernel_rfl
  f169 := Try.func84.trans (congrArg some (by kernel_rfl))
  t0 := Try.underlying0
  a0 := Try.isAgg0
  z0 := Try.sizeOf0
  v0 := Try.zeroValue0
  t3 := Try.underlying3
  a3 := Try.isAgg3
  z3 := Try.sizeOf3
  v3 := Try.zeroValue3
  t9 := Try.underlying9
  a9 := Try.isAgg9
  z9 := Try.sizeOf9
  v9 := Try.zeroValue9
  t37 := Try.underlying57
  a37 := Try.isAgg57
  z37 := Try.sizeOf57
  v37 := Try.zeroValue57
  t70 := Try.underlying118
  a70 := Try.isAgg118
  z70 := Try.sizeOf118
  v70 := Try.zeroValue118
  t72 := Try.underlying120
  a72 := Try.isAgg120
  z72 := Try.sizeOf120
  v72 := Try.zeroValue120
  t127 := Try.underlying138
  a127 := Try.isAgg138
  z127 := Try.sizeOf138
  v127 := Try.zeroValue138 }
theorem extra169 : Builder.Extra Try.prog ren169 := {
  sizeBuilder := by kernel_rfl
  liesBuilder := by kernel_rfl
  t5 := Try.underlying5
  a5 := Try.isAgg5
  z5 := Try.sizeOf5
  v5 := Try.zeroValue5
  infoByte := by kernel_rfl
  cellsByte := by kernel_rfl
  sizeByte := by kernel_rfl
  neB5 := by decide }
theorem Try.lies120 : liesAt Try.prog Try.prog.depth 120 (2 / Try.prog.cellsOf 120) 0 120 1 = true := by kernel_rfl
theorem Try.size120 : (Try.prog.info? 120).map (·.size) = some 2 := by kernel_rfl
theorem bC_str (s : ByteArray) : Lib.strCells s = bC s.data.toList := rfl
theorem bC_bytes (l : List UInt8) : Lib.byteCells l = bC l := rfl

/-- The builder in block b, one of those from B on, holds the bytes l; nothing below B has turned since w0. -/
structure Bld (B : Nat) (w0 w : World) (b : Nat) (l : List UInt8) : Prop where
  is : Lib.IsBuilder 120 5 B b (bC l) w
  bel : Below B w0 w
  le : B ≤ w.heap.size
theorem at_keep {B b : Nat} {p : Value} {bs : List Value} {w w' : World} (h : Lib.BuilderAt 120 5 B b p bs w) (hb : Below w.heap.size w w') : Lib.BuilderAt 120 5 B b p bs w' := by
  obtain ⟨hB, v, hbk, hown, hne⟩ := h
  exact ⟨hB, v, (hb.block b (lt_of_blk hbk)).trans hbk, ownsRow_keep hown hb, hne⟩
theorem Bld.keep {B : Nat} {w0 w w' : World} {b : Nat} {l : List UInt8} (h : Bld B w0 w b l) (hb : Below w.heap.size w w') : Bld B w0 w' b l :=
  ⟨h.is.elim (fun k => .inl (at_keep k hb)) (fun k => .inr (at_keep k hb)), h.bel.trans (hb.mono h.le), Nat.le_trans h.le hb.size⟩
theorem Bld.new (w : World) (b : Nat) (hb : b = w.heap.size) : Bld w.heap.size w (w.alloc (.cells #[.pointer none, .slice none 0 0] 120)) b [] := by
  subst hb
  exact ⟨Lib.fresh_isBuilder _ _ w, (Below.refl _ _).alloc (Nat.le_refl _) _, by simp⟩

set_option maxHeartbeats 1000000 in
set_option maxRecDepth 100000 in
theorem check_used (b : Nat) (w : World) (h0 : w.cell? ⟨b, 0, none⟩ = some (.pointer (some ⟨b, 0, none⟩))) :
    Calls Try.prog 102 #[.pointer (some ⟨b, 0, none⟩)] w fun e w' => e = .returned (.tuple #[]) ∧ w' = w := by
  obtain ⟨j, hj, _⟩ := Option.map_eq_some_iff.1 Try.size120
  go_enter Try.func102, Try.ntmps102
  go_wp2
  rw [Lib.run_neq_ptr_same w _ Try.underlying118 hj]
  go_wp2
  go_end0
  exact ⟨rfl, rfl⟩

set_option maxHeartbeats 1000000 in
set_option maxRecDepth 100000 in
theorem check_fresh (b : Nat) (w : World) (h0 : w.cell? ⟨b, 0, none⟩ = some (.pointer none)) (hsh : w.shape? b = some (120, 2)) (hfz : w.frozen? ⟨b, 0, none⟩ = false) :
    Calls Try.prog 102 #[.pointer (some ⟨b, 0, none⟩)] w fun e w' => e = .returned (.tuple #[]) ∧ w' = w.setCell ⟨b, 0, none⟩ (.pointer (some ⟨b, 0, none⟩)) := by
  obtain ⟨j, hj, hjs⟩ := Option.map_eq_some_iff.1 Try.size120
  go_enter Try.func102, Try.ntmps102
  go_wp2
  rw [Lib.run_to_unsafe w ⟨b, 0, none⟩ Try.underlying118 Try.underlying146 hj (by rw [hjs]; decide) hsh (Nat.zero_lt_succ 1)]
  simp only [Result.andThen]
  rw [Oper.upon_value]
  go_wp2
  rw [run_callFunc_extern Try.func111 (by kernel_rfl) (by kernel_rfl) (by kernel_rfl) (e := Extern.AbiNoEscape.same) (by kernel_rfl)]
  rw [Lib.run_noEscape]
  simp only [Result.andThen]
  rw [Oper.upon_value]
  go_wp2
  rw [Lib.run_from_unsafe w ⟨b, 0, none⟩ Try.underlying146 Try.underlying118 hj hsh Try.lies120]
  simp only [Result.andThen]
  rw [Oper.upon_value]
  go_wp2
  go_end0
  exact ⟨rfl, rfl⟩

theorem check_any (B b : Nat) (bs : List Value) (w : World) (h : Lib.IsBuilder 120 5 B b bs w) :
    Calls Try.prog 102 #[.pointer (some ⟨b, 0, none⟩)] w fun e w' => e = .returned (.tuple #[]) ∧ Lib.BuilderAt 120 5 B b (.pointer (some ⟨b, 0, none⟩)) bs w' ∧ Below B w w' := by
  rcases h with h | h
  · refine (check_fresh b w h.cell0 h.shape h.frozen0).mono ?_
    rintro e w' ⟨rfl, rfl⟩
    exact ⟨rfl, h.used _, (Below.refl B w).setCell (p := ⟨b, 0, none⟩) h.1 _⟩
  · refine (check_used b w h.cell0).mono ?_
    rintro e w' ⟨rfl, rfl⟩
    exact ⟨rfl, h, Below.refl B _⟩

set_option maxHeartbeats 2000000 in
set_option maxRecDepth 100000 in
/-- What is written stands behind what stood there. -/
theorem bwrite_any (B : Nat) (w0 : World) (b : Nat) (l : List UInt8) (s : ByteArray) (w : World) (h : Bld B w0 w b l) (hlen : l.length + s.size ≤ 140737488355328) :
    Calls Try.prog 82 #[.pointer (some ⟨b, 0, none⟩), .string s] w fun e w' => (∃ n : Int, e = .returned (.tuple #[.int .i64 n, .nilIface])) ∧ Bld B w0 w' b (l ++ s.data.toList) := by
  obtain ⟨i0, hi, hz0, hz1, hz2⟩ := info_parts Try.info5
  have HB := hid h
  have HL := hid hlen
  clear h hlen
  go_enter Try.func82, Try.ntmps82
  go_wp2_with (first
    | (go_at_call 102; refine (check_any B b (bC l) _ HB.out.is).mono ?_; rintro e w1 ⟨rfl, h1, hb1⟩; obtain ⟨hB, v, hbk, hown, hne⟩ := h1; have c1 : w1.cell? ⟨b, 1, none⟩ = some v := (by rw [Lib.cell_of_heap hbk]; rfl); have HK := hid (And.intro hB (And.intro hbk (And.intro hown (And.intro hne hb1)))); clear hB hbk hown hne hb1)
    | (at_builtin; refine Lib.wpList_append_own_string _ rfl _ _ 57 9 rfl B 5 i0 Try.underlying57 Try.underlying9 hi hz0 hz1 hz2 _ _ _ rfl HK.out.2.2.1 s rfl (by have := HL.out; rw [bC_len]; unfold maxLen; omega) (by have := HL.out; rw [bC_len]; omega) (by have := HK.out.2.2.2.2.size; have := HB.out.le; omega) ?_; intro v' w2 hown' hgrow hnil; have HG := hid (And.intro hown' hgrow); clear hown' hgrow hnil; have hb2 : w2.heap[b]? = some (.cells #[.pointer (some ⟨b, 0, none⟩), v] 120 (0, 0)) := (by rw [HG.out.2.block b (lt_of_blk HK.out.2.1) (fun e => HK.out.2.2.2.1 e.symm)]; exact HK.out.2.1); have d1 : w2.cell? ⟨b, 1, none⟩ = some v := (by rw [Lib.cell_of_heap hb2]; rfl); have f1 : w2.frozen? ⟨b, 1, none⟩ = false := Lib.frozen_of_heap hb2 1; have HB2 := hid hb2; clear hb2; obtain ⟨ao, n', cap, rfl⟩ : ∃ ao n' cap, v' = .slice ao n' cap := (by rcases HG.out.1.2 with ⟨hv, _⟩ | ⟨g, cap, cur, hv, _⟩ <;> exact ⟨_, _, _, hv⟩)))
  go_ret2
  refine ⟨⟨_, rfl⟩, ?_⟩
  have hle : B ≤ w1.heap.size := by have := HK.out.2.2.2.2.size; have := HB.out.le; omega
  have hown2 := HG.out.1
  rw [bC_str, ← bC_app, show (bC l).length + s.size = (bC (l ++ s.data.toList)).length by rw [bC_len, bC_len, List.length_append, data_len]] at hown2
  have hbel := (HK.out.2.2.2.2.grown HG.out.2 hle (fun k hk => (HK.out.2.2.1.lt k hk).1)).setCell (p := ⟨b, 1, none⟩) HK.out.1 (.slice ao n' cap)
  refine ⟨.inr (Lib.BuilderAt.put HK.out.1 HB2.out hown2 (by decide)), HB.out.bel.trans hbel, ?_⟩
  have := hbel.size
  have := HB.out.le
  omega
/-- What was written is told. -/
theorem bstring_any (B : Nat) (w0 : World) (b : Nat) (l : List UInt8) (w : World) (h : Bld B w0 w b l) :
    Calls Try.prog 84 #[.pointer (some ⟨b, 0, none⟩)] w fun e w' => e = .returned (.string ⟨l.toArray⟩) ∧ Below B w0 w' := by
  refine (Any.Builder_String_any lays169 extra169 B b l w h.is h.le).mono ?_
  rintro e w' ⟨rfl, hb⟩
  exact ⟨rfl, h.bel.trans hb⟩
end Go.Proofs.Ytchlmcpnjpllnaa

/- Steps. -/
namespace Go.Proofs.Ytchlmcpnjpllnaa
open Go.RowKit

theorem shaS_16 (s : ByteArray) : (shaS s).extract 0 16 = st16 s := by rw [shaS, ext_take]; rfl
theorem sum_one (s : ByteArray) (hs : s.size ≤ 2000000) (u : World) (g : Nat) (hg : g = u.heap.size) :
    Calls Try.prog 99 #[.slice (some ⟨g, 0, none⟩) 1 1] (u.alloc (.cells #[.string s] 9)) fun e w' => e = .returned (.string (shaS s)) ∧ Below u.heap.size u w' := by
  subst hg
  have := ssum_new [s] #[.string s] 1 1 u rfl rfl (by rw [joinB_one, data_len]; omega) (by decide)
  rwa [joinB_one] at this
/-- How many steps are gone. -/
def clampN (n : Int) : Nat := (min (max n 0) 15).toNat
theorem clampN_le (n : Int) : clampN n ≤ 15 := by unfold clampN; omega
theorem clampN_of (k : Nat) (h : k ≤ 15) : clampN (k : Int) = k := by unfold clampN; omega

set_option maxRecDepth 100000 in
set_option maxHeartbeats 1600000 in
theorem ostep_le (x : ByteArray) (hx : x.size ≤ 1000000) (n : Int) (w : World) :
    Calls Try.prog 101 #[.string x, .int .i64 n] w fun e w' => e = .returned (.string (stepN (clampN n) x)) ∧ Below w.heap.size w w' := by
  have HX := hid hx
  clear hx
  by_cases h0 : n < 0
  · rw [show clampN n = 0 by unfold clampN; omega]
    go_enter Try.func101, Try.ntmps101
    go_wp2
    refine wp_loop_rounds 1 ?_
    rw [rounds_succ]
    go_wp2
    go_ret
    exact ⟨rfl, Below.refl _ _⟩
  by_cases h1 : 15 < n
  · rw [show clampN n = 15 by unfold clampN; omega]
    have h0 : 0 ≤ n := by omega
    go_enter Try.func101, Try.ntmps101
    go_wp2
    go_loopw [0, 8] (fun v i wr => ∃ j : Nat, j ≤ 15 ∧ i = .int .i64 (j : Int) ∧ v = .string (stepN j x) ∧ Below w.heap.size w wr)
      (fun _ i _ => ((15 : Int) - intOf i).toNat)
    case atStart => exact ⟨0, by omega, rfl, rfl, Below.refl _ _⟩
    case round =>
      obtain ⟨j, hj, rfl, rfl, hbel⟩ := hrel
      have HB := hid hbel
      clear hbel
      by_cases hjn : j = 15
      · have hj1 : ¬ ((j : Int) < (15 : Int)) := by omega
        have HJ := hid hjn
        clear hj hjn
        go_wp2
        go_ret
        exact ⟨by rw [HJ.out]; rfl, HB.out⟩
      · have hj1 : (j : Int) < (15 : Int) := by omega
        have hj0 : (0 : Int) ≤ (j : Int) := Int.natCast_nonneg _
        have hj15 : (j : Int) < 15 := by omega
        obtain ⟨y, ey⟩ : ∃ y, y = stepN j x := ⟨_, rfl⟩
        obtain ⟨T, eT⟩ : ∃ T, T = shaS y := ⟨_, rfl⟩
        have HS : Hid (∀ (u : World) (g : Nat), g = u.heap.size → Calls Try.prog 99 #[.slice (some ⟨g, 0, none⟩) 1 1] (u.alloc (.cells #[.string y] 9)) fun e w' => e = .returned (.string T) ∧ Below u.heap.size u w') :=
          hid (fun u g hg => by rw [eT]; exact sum_one y (by rw [ey]; exact Nat.le_trans (stepN_le j x 1000000 HX.out (by decide)) (by decide)) u g hg)
        have hT : (16 : Int) ≤ (T.size : Int) := by rw [eT, shaS_size]; decide
        have HT : Hid (T.extract 0 16 = stepN (j + 1) x) := hid (by rw [eT, shaS_16, ey, stepN_succ])
        rw [← ey]
        clear ey eT
        go_wp2_with (go_at_call 99; refine (HS.out _ _ (by simp)).mono ?_; rintro e w1 ⟨rfl, hb1⟩; have H1 := hid (HB.out.trans (hb1.mono HB.out.size)); clear hb1)
        go_roundw
        case rel => exact ⟨j + 1, by omega, by go_num, by rw [← HT.out], H1.out⟩
        case measure => simp [intOf]; omega
  · obtain ⟨k, rfl⟩ : ∃ k : Nat, n = (k : Int) := ⟨n.toNat, by omega⟩
    rw [show clampN (k : Int) = k by unfold clampN; omega]
    have hk : (k : Int) ≤ 15 := by omega
    clear h0 h1
    have h0 : (0 : Int) ≤ (k : Int) := by omega
    go_enter Try.func101, Try.ntmps101
    go_wp2
    go_loopw [0, 8] (fun v i wr => ∃ j : Nat, j ≤ k ∧ i = .int .i64 (j : Int) ∧ v = .string (stepN j x) ∧ Below w.heap.size w wr)
      (fun _ i _ => ((k : Int) - intOf i).toNat)
    case atStart => exact ⟨0, by omega, rfl, rfl, Below.refl _ _⟩
    case round =>
      obtain ⟨j, hj, rfl, rfl, hbel⟩ := hrel
      have HB := hid hbel
      clear hbel
      by_cases hjn : j = k
      · have hj1 : ¬ ((j : Int) < (k : Int)) := by omega
        have HJ := hid hjn
        clear hj hjn
        go_wp2
        go_ret
        exact ⟨by rw [HJ.out]; rfl, HB.out⟩
      · have hj1 : (j : Int) < (k : Int) := by omega
        have hj0 : (0 : Int) ≤ (j : Int) := Int.natCast_nonneg _
        have hj15 : (j : Int) < 15 := by omega
        obtain ⟨y, ey⟩ : ∃ y, y = stepN j x := ⟨_, rfl⟩
        obtain ⟨T, eT⟩ : ∃ T, T = shaS y := ⟨_, rfl⟩
        have HS : Hid (∀ (u : World) (g : Nat), g = u.heap.size → Calls Try.prog 99 #[.slice (some ⟨g, 0, none⟩) 1 1] (u.alloc (.cells #[.string y] 9)) fun e w' => e = .returned (.string T) ∧ Below u.heap.size u w') :=
          hid (fun u g hg => by rw [eT]; exact sum_one y (by rw [ey]; exact Nat.le_trans (stepN_le j x 1000000 HX.out (by decide)) (by decide)) u g hg)
        have hT : (16 : Int) ≤ (T.size : Int) := by rw [eT, shaS_size]; decide
        have HT : Hid (T.extract 0 16 = stepN (j + 1) x) := hid (by rw [eT, shaS_16, ey, stepN_succ])
        rw [← ey]
        clear ey eT
        go_wp2_with (go_at_call 99; refine (HS.out _ _ (by simp)).mono ?_; rintro e w1 ⟨rfl, hb1⟩; have H1 := hid (HB.out.trans (hb1.mono HB.out.size)); clear hb1)
        go_roundw
        case rel => exact ⟨j + 1, by omega, by go_num, by rw [← HT.out], H1.out⟩
        case measure => simp [intOf]; omega

end Go.Proofs.Ytchlmcpnjpllnaa

/- Digits. -/
namespace Go.Proofs.Ytchlmcpnjpllnaa
open Go.RowKit

theorem half_hi (x : UInt8) : (x.toNat : Int) / 16 % 256 = ((x.toNat / 16 : Nat) : Int) := by have := x.toNat_lt; omega
theorem half_lo (x : UInt8) : (x.toNat : Int) % 16 = ((x.toNat % 16 : Nat) : Int) := by omega
theorem two_ints (p q : Nat) : iC (nI [p, q]) = [.int .i64 (p : Int), .int .i64 (q : Int)] := rfl
theorem three_ints (p q r : Nat) : iC (nI [p, q, r]) = [.int .i64 (p : Int), .int .i64 (q : Int), .int .i64 (r : Int)] := rfl

set_option maxRecDepth 100000 in
set_option maxHeartbeats 1600000 in
theorem digitsOf_any (d : ByteArray) (hd : 16 ≤ d.size) (w : World) :
    Calls Try.prog 100 #[.string d] w fun e w' => ∃ v, e = .returned v ∧ OwnedI w.heap.size w w' v (nI (dgN (d.data.toList.take 16))) := by
  obtain ⟨i0, hi0, hz0, hz1, hz2⟩ := info_parts Try.info3
  have HMk : Hid (∀ u : World, (Instr.makeSlice 114 (.int .i64 0) (.int .i64 35)).run Try.prog u = .ok (.slice (some ⟨u.heap.size, 0, none⟩) 0 35) (u.alloc (.cells (madeCells #[.int .i64 0] 35) 3))) := hid (fun u => by
    have h := run_make (P := Try.prog) u 114 3 i0 (.int .i64 0) Try.underlying114 hi0 hz0 .i64 .i64 0 35 (by omega) (by omega) (by rw [hz2]; omega) (by omega)
    rw [hz1] at h
    exact h)
  obtain ⟨D, eD⟩ : ∃ D, D = d.data.toList.take 16 := ⟨_, rfl⟩
  have hD : D.length = 16 := by rw [eD, List.length_take, data_len]; omega
  rw [← eD]
  have hd2 : (16 : Int) ≤ (d.size : Int) := by omega
  have HD := hid (And.intro eD hD)
  clear eD hD hd
  go_enter Try.func100, Try.ntmps100
  go_wp2_with rw [HMk.out]
  go_loopw [3, 4, 9] (fun v l i wr => ∃ j : Nat, j ≤ 16 ∧ i = .int .i64 (j : Int) ∧ l = .int .i64 ((480 - sumN (D.take j) : Nat) : Int) ∧ OwnedI w.heap.size w wr v (nI (halfN (D.take j))))
    (fun _ _ i _ => (16 - intOf i).toNat)
  case atStart =>
    refine ⟨0, by omega, rfl, rfl, ?_, (Below.refl _ _).alloc (Nat.le_refl _) _, by simp⟩
    have := World.ownsRow_made (base := w.heap.size) (e := 3) (size := 1) w (madeCells #[.int .i64 0] 35) 35 (by simp) (by decide) (size_madeCells _ _)
    simpa [iC, nI, halfN] using this
  case round =>
    obtain ⟨j, hj, rfl, rfl, hO⟩ := hrel
    have HO := hid hO
    clear hO
    by_cases hj8 : j = 16
    · have hj1 : ¬ ((j : Int) < 16) := by omega
      have et : D.take j = D := List.take_of_length_le (by rw [HD.out.2]; omega)
      rw [et] at HO ⊢
      obtain ⟨L, eL⟩ : ∃ L, L = 480 - sumN D := ⟨_, rfl⟩
      rw [← eL]
      have HL := hid eL
      have hL : (L : Int) ≤ 480 := by omega
      have hL0 : (0 : Int) ≤ (L : Int) := Int.natCast_nonneg _
      have HN : Hid ((nI (halfN D)).length + 3 ≤ 40) := hid (by rw [nI_len, halfN_len, HD.out.2]; decide)
      clear eL et hj hj8
      go_wp2_with (at_builtin; refine wpList_append_own _ rfl _ _ 114 rfl w.heap.size 3 i0 (.int .i64 0) 1 8 Try.underlying114 hi0 hz0 hz1 hz2 rfl (by decide) _ _ _ rfl (HO.out.alloc _).own ⟨_, 0, none⟩ 3 3 (iC (nI [L / 256, L / 16 % 16, L % 16])) rfl rfl (World.news_of_block (t := 3) (fr := (0, 0)) (heap_alloc_last _ _)) (iC_one _) (by have := HN.out; unfold maxLen; omega) (by have := HN.out; omega) (HO.out.alloc _).le ?_; intro v3 w3 hown3 hgrow3 hnil3; have HO3 := hid ((HO.out.alloc _).grow (xs := nI [L / 256, L / 16 % 16, L % 16]) rfl hown3 hgrow3); clear hown3 hgrow3 hnil3)
      go_ret
      refine ⟨_, rfl, ?_⟩
      have := HO3.out
      rw [← nI_app, HL.out] at this
      exact this
    · have hj1 : (j : Int) < 16 := by omega
      have hj0 : (0 : Int) ≤ (j : Int) := Int.natCast_nonneg _
      obtain ⟨L, eL⟩ : ∃ L, L = 480 - sumN (D.take j) := ⟨_, rfl⟩
      rw [← eL]
      have HL := hid eL
      clear eL
      have hjd : (j : Int) < (d.size : Int) := by omega
      have hjn : j < d.size := by omega
      go_wp2
      go_quiet (fail)
      rw [half_hi, half_lo]
      have HO2 : Hid (OwnedI w.heap.size w (wr.drewN nq) u3 (nI (halfN (D.take j)))) := hid (HO.out.same rfl rfl rfl rfl)
      have hget : D[j]? = some d[j] := by
        rw [HD.out.1, List.getElem?_take_of_lt (by omega), Array.getElem?_toList]
        exact Array.getElem?_eq_getElem _
      have es := sumN_snoc D j _ hget
      have eh := halfN_snoc D j _ hget
      have hle := sumN_le (D.take (j + 1))
      rw [es, List.length_take, HD.out.2] at hle
      unfold twoN at eh
      have hb := d[j].toNat_lt
      generalize d[j].toNat = x at es eh hle hb ⊢
      obtain ⟨p, ep⟩ : ∃ p, p = x / 16 := ⟨_, rfl⟩
      obtain ⟨q, eq⟩ : ∃ q, q = x % 16 := ⟨_, rfl⟩
      rw [← ep, ← eq] at es eh hle ⊢
      have hp : (p : Int) < 16 := by omega
      have hq : (q : Int) < 16 := by omega
      have hp0 : (0 : Int) ≤ (p : Int) := by omega
      have hq0 : (0 : Int) ≤ (q : Int) := by omega
      have hL : (L : Int) ≤ 480 := by have := HL.out; omega
      have hL0 : (0 : Int) ≤ (L : Int) := by omega
      have HN : Hid ((nI (halfN (D.take j))).length + 2 ≤ 40) := hid (by rw [nI_len, halfN_len, List.length_take, HD.out.2]; omega)
      have HE := hid (And.intro es (And.intro eh hle))
      have HJ := hid (And.intro hj hj8)
      clear es eh hle hget HO ep eq hb hj hj8
      go_wp2_with (at_builtin; refine wpList_append_own _ rfl _ _ 114 rfl w.heap.size 3 i0 (.int .i64 0) 1 8 Try.underlying114 hi0 hz0 hz1 hz2 rfl (by decide) _ _ _ rfl (HO2.out.alloc _).own ⟨_, 0, none⟩ 2 2 (iC (nI [p, q])) rfl rfl (World.news_of_block (t := 3) (fr := (0, 0)) (heap_alloc_last _ _)) (iC_one _) (by have := HN.out; unfold maxLen; omega) (by have := HN.out; omega) (HO2.out.alloc _).le ?_; intro v3 w3 hown3 hgrow3 hnil3; have HO3 := hid ((HO2.out.alloc _).grow (xs := nI [p, q]) rfl hown3 hgrow3); clear hown3 hgrow3 hnil3)
      go_roundw
      case rel =>
        refine ⟨j + 1, by have := HJ.out; omega, by go_num, ?_, ?_⟩
        · have h1 := HL.out
          have h2 := HE.out.1
          have h3 := HE.out.2.2
          have h4 := HJ.out
          congr 1
          omega
        · have := HO3.out
          rw [← nI_app] at this
          rw [HE.out.2.1]
          exact this
      case measure => simp [intOf]; omega
theorem shaS_take (t : ByteArray) : (shaS t).data.toList.take 16 = (shaB t.data.toList).take 16 := rfl
set_option maxRecDepth 100000 in
set_option maxHeartbeats 1600000 in
/-- The digits of a text lie in a row of their own. -/
theorem odigits_le (t : ByteArray) (ht : t.size ≤ 1000000) (w : World) :
    Calls Try.prog 78 #[.string t] w fun e w' => ∃ g cap, e = .returned (.slice (some ⟨g, 0, none⟩) 35 cap) ∧ w.heap.size ≤ g ∧ g < w'.heap.size ∧ IntsIn w' (some ⟨g, 0, none⟩) (nI (txtN t)) ∧ Below w.heap.size w w' := by
  obtain ⟨T, eT⟩ : ∃ T, T = shaS t := ⟨_, rfl⟩
  have HS : Hid (∀ (u : World) (g : Nat), g = u.heap.size → Calls Try.prog 99 #[.slice (some ⟨g, 0, none⟩) 1 1] (u.alloc (.cells #[.string t] 9)) fun e w' => e = .returned (.string T) ∧ Below u.heap.size u w') :=
    hid (fun u g hg => by rw [eT]; exact sum_one t (by omega) u g hg)
  have HD : Hid (∀ u : World, Calls Try.prog 100 #[.string T] u fun e w' => ∃ v, e = .returned v ∧ OwnedI u.heap.size u w' v (nI (txtN t))) :=
    hid (fun u => by
      have := digitsOf_any T (by rw [eT, shaS_size]; decide) u
      rw [eT, shaS_take] at this
      rw [eT]
      exact this)
  clear eT ht
  go_enter Try.func78, Try.ntmps78
  go_wp2_with (first
    | (go_at_call 99; refine (HS.out _ _ (by simp)).mono ?_; rintro e w1 ⟨rfl, hb1⟩; have H1 := hid hb1; clear hb1)
    | (go_at_call 100; refine (HD.out _).mono ?_; rintro e w2 ⟨v, rfl, ho⟩; have H2 := hid ho; clear ho))
  go_ret
  obtain ⟨g, cap, hv, _, _, hg, hB, hc⟩ := H2.out.form (by rw [nI_len, txtN_len]; decide)
  rw [nI_len, txtN_len] at hv
  subst hv
  exact ⟨g, cap, rfl, Nat.le_trans H1.out.size hB, hg, .inr ⟨g, 0, rfl, hg, fun j z hz => by rw [Nat.zero_add]; exact hc j z hz⟩, H1.out.trans (H2.out.bel.mono H1.out.size)⟩
theorem dig_cell {u : World} {g : Nat} {t : ByteArray} (h : IntsIn u (some ⟨g, 0, none⟩) (nI (txtN t))) (j : Nat) (hj : j < 35) : g < u.heap.size ∧ u.cell? ⟨g, j, none⟩ = some (.int .i64 (((txtN t).getD j 0 : Nat) : Int)) := by
  obtain ⟨g', off, eg, hg, hc⟩ := h.at j _ (nI_get _ j (by rw [txtN_len]; exact hj))
  obtain ⟨rfl, rfl⟩ : g = g' ∧ 0 = off := by simp at eg; exact eg
  rw [Nat.zero_add] at hc
  exact ⟨hg, hc⟩
end Go.Proofs.Ytchlmcpnjpllnaa

/- Lists of texts made by make, and filled. -/
namespace Go.Proofs.Ytchlmcpnjpllnaa
open Go.RowKit

/-- As far as k filled. -/
def upTo (l : List ByteArray) (n k : Nat) : List ByteArray := l.take k ++ List.replicate (n - k) ⟨#[]⟩
theorem upTo_len (l : List ByteArray) (n k : Nat) (h : l.length = n) (hk : k ≤ n) : (upTo l n k).length = n := by
  rw [upTo, List.length_append, List.length_take, List.length_replicate]; omega
theorem upTo_set (l : List ByteArray) (n k : Nat) (x : ByteArray) (h : l.length = n) (hk : k < n) (hx : l[k]? = some x) : (upTo l n k).set k x = upTo l n (k + 1) := by
  have e : (l.take k).length = k := by rw [List.length_take]; omega
  have e2 : n - k = (n - (k + 1)) + 1 := by omega
  unfold upTo
  rw [List.set_append_right _ _ (by rw [e]; exact Nat.le_refl _), e, Nat.sub_self, e2, List.replicate_succ, List.take_add_one, hx]
  simp
theorem upTo_all (l : List ByteArray) (n : Nat) (h : l.length = n) : upTo l n n = l := by
  rw [upTo, Nat.sub_self, List.replicate_zero, List.append_nil, List.take_of_length_le (by omega)]
theorem made_strs (l : List ByteArray) (n : Nat) : (madeCells #[.string ⟨#[]⟩] n).toList = sC (upTo l n 0) := by
  rw [toList_madeCells_one, upTo, List.take_zero, List.nil_append, sC, List.map_replicate]
  rfl
end Go.Proofs.Ytchlmcpnjpllnaa

/- Where chains begin; the pieces of a signature. -/
namespace Go.Proofs.Ytchlmcpnjpllnaa
open Go.RowKit

def begL (seed : ByteArray) (leaf : Nat) : List ByteArray := (List.range 35).map (begS seed leaf)
def pieL (sig : ByteArray) : List ByteArray := (List.range 35).map (pieceS sig)
theorem begL_len (seed : ByteArray) (leaf : Nat) : (begL seed leaf).length = 35 := by simp [begL]
theorem pieL_len (sig : ByteArray) : (pieL sig).length = 35 := by simp [pieL]
theorem begL_get (seed : ByteArray) (leaf j : Nat) (h : j < 35) : (begL seed leaf)[j]? = some (begS seed leaf j) := by simp [begL, h]
theorem pieL_get (sig : ByteArray) (j : Nat) (h : j < 35) : (pieL sig)[j]? = some (pieceS sig j) := by simp [pieL, h]
theorem byte_in (n : Nat) (h : n < 256) : (Value.int .u8 ((UInt8.ofNat n).toNat : Int)) = .int .u8 (n : Int) := by
  congr 1
  simp
  omega
theorem two_bytes (a b : Nat) (ha : a < 256) (hb : b < 256) : bC [UInt8.ofNat a, UInt8.ofNat b] = [.int .u8 (a : Int), .int .u8 (b : Int)] := by
  show [Value.int .u8 ((UInt8.ofNat a).toNat : Int), Value.int .u8 ((UInt8.ofNat b).toNat : Int)] = _
  rw [byte_in a ha, byte_in b hb]
theorem two_text (a b : Nat) (ha : a < 256) (hb : b < 256) (u : World) (g : Nat) (hg : g = u.heap.size) :
    (convert 57 9 (.slice (some ⟨g, 0, none⟩) 2 2)).run Try.prog (u.alloc (.cells #[.int .u8 (a : Int), .int .u8 (b : Int)] 5)) = .ok (.string ⟨#[UInt8.ofNat a, UInt8.ofNat b]⟩) (u.alloc (.cells #[.int .u8 (a : Int), .int .u8 (b : Int)] 5)) := by
  subst hg
  refine row_text _ u.heap.size 2 [UInt8.ofNat a, UInt8.ofNat b] (fun j v hv => ?_) 2 rfl
  rw [two_bytes a b ha hb] at hv
  exact cell_at (L := [.int .u8 (a : Int), .int .u8 (b : Int)]) (t := 5) (fr := (0, 0)) (heap_alloc_last u _) j v hv
theorem run_make35 (u : World) : (Instr.makeSlice 40 (.int .i64 35) (.int .i64 35)).run Try.prog u = .ok (.slice (some ⟨u.heap.size, 0, none⟩) 35 35) (u.alloc (.cells (madeCells #[.string ⟨#[]⟩] 35) 9)) := by
  obtain ⟨i0, hi0, hz0, hz1, hz2⟩ := info_parts Try.info9
  have h := run_make (P := Try.prog) u 40 9 i0 (.string ⟨#[]⟩) Try.underlying40 hi0 hz0 .i64 .i64 35 35 (by omega) (by omega) (by rw [hz2]; omega) (by omega)
  rw [hz1] at h
  exact h

set_option maxRecDepth 100000 in
set_option maxHeartbeats 1600000 in
theorem begins_le (seed : ByteArray) (hs : seed.size ≤ 1000000) (leaf : Nat) (hl : leaf < 256) (w : World) :
    Calls Try.prog 80 #[.string seed, .int .i64 (leaf : Int)] w fun e w' => e = .returned (.slice (some ⟨w.heap.size, 0, none⟩) 35 35) ∧ StrsIn w' (some ⟨w.heap.size, 0, none⟩) (begL seed leaf) ∧ Below w.heap.size w w' := by
  obtain ⟨L, eL⟩ : ∃ L, L = begL seed leaf := ⟨_, rfl⟩
  rw [← eL]
  have HL : Hid (L.length = 35 ∧ ∀ j, j < 35 → L[j]? = some (begS seed leaf j)) := hid ⟨by rw [eL, begL_len], fun j hj => by rw [eL, begL_get _ _ _ hj]⟩
  have HMk := hid run_make35
  have HS := hid (And.intro hs hl)
  have hl0 : (0 : Int) ≤ (leaf : Int) := Int.natCast_nonneg _
  have hl1 : (leaf : Int) < 256 := by omega
  clear eL hs hl
  go_enter Try.func80, Try.ntmps80
  go_wp2_with rw [HMk.out]
  go_loopw [10] (fun i wr => ∃ j : Nat, j ≤ 35 ∧ i = .int .i64 (j : Int) ∧ wr.heap[w.heap.size]? = some (.cells (sC (upTo L 35 j)).toArray 9 (0, 0)) ∧ Below w.heap.size w wr)
    (fun i _ => (35 - intOf i).toNat)
  case atStart => exact ⟨0, by omega, rfl, by rw [← made_strs L 35]; exact heap_alloc_last w _, (Below.refl _ _).alloc (Nat.le_refl _) _⟩
  case round =>
    obtain ⟨j, hj, rfl, hblk, hbel⟩ := hrel
    have HR := hid (And.intro hblk hbel)
    clear hblk hbel
    by_cases hjn : j = 35
    · have hj1 : ¬ ((j : Int) < 35) := by omega
      have HJ := hid hjn
      clear hj hjn
      go_wp2
      go_ret
      refine ⟨rfl, ?_, HR.out.2⟩
      have hB := HR.out.1
      rw [HJ.out, upTo_all L 35 HL.out.1] at hB
      exact .inr ⟨w.heap.size, 0, rfl, lt_of_blk hB, fun i s hi => by rw [Nat.zero_add]; exact cell_at hB i _ (sC_get L i s hi)⟩
    · have hj1 : (j : Int) < 35 := by omega
      have hj0 : (0 : Int) ≤ (j : Int) := Int.natCast_nonneg _
      obtain ⟨c, ec⟩ : ∃ c : ByteArray, c = ⟨#[UInt8.ofNat leaf, UInt8.ofNat j]⟩ := ⟨_, rfl⟩
      obtain ⟨T, eT⟩ : ∃ T : ByteArray, T = ⟨(shaB (seed.data.toList ++ c.data.toList)).toArray⟩ := ⟨_, rfl⟩
      have HC : Hid (∀ (u : World), (convert 57 9 (.slice (some ⟨u.heap.size, 0, none⟩) 2 2)).run Try.prog (u.alloc (.cells #[.int .u8 (leaf : Int), .int .u8 (j : Int)] 5)) = .ok (.string c) (u.alloc (.cells #[.int .u8 (leaf : Int), .int .u8 (j : Int)] 5))) :=
        hid (fun u => by rw [ec]; exact two_text leaf j HS.out.2 (by omega) u _ rfl)
      have HT : Hid (T.extract 0 16 = begS seed leaf j) := hid (by rw [eT, ext_take, ec]; rfl)
      have hT : (16 : Int) ≤ (T.size : Int) := by rw [eT, mk_size, shaB_len]; decide
      have HM : Hid (∀ (u : World) (g : Nat), g = u.heap.size → Calls Try.prog 99 #[.slice (some ⟨g, 0, none⟩) 2 2] (u.alloc (.cells #[.string seed, .string c] 9)) fun e w' => e = .returned (.string T) ∧ Below u.heap.size u w') :=
        hid (fun u g hg => by rw [eT]; exact sum_two seed c (by have := HS.out.1; omega) (by rw [ec]; exact show (2 : Nat) ≤ 2000000 by decide) u g hg)
      have HJ := hid (And.intro hj hjn)
      clear ec eT hj hjn
      go_wp2_with (first
        | rw [HC.out]
        | (go_at_call 99; refine (HM.out _ _ (by simp)).mono ?_; rintro e w4 ⟨rfl, hb4⟩
           have hb5 : Below wr.heap.size wr w4 := ((Below.refl _ _).alloc (Nat.le_refl _) _).trans (hb4.mono (by simp))
           have H4 := hid (And.intro ((hb5.block _ (lt_of_blk HR.out.1)).trans HR.out.1) (HR.out.2.trans (hb5.mono HR.out.2.size)))
           clear hb4 hb5
           have c5 : ∃ v, w4.cell? ⟨w.heap.size, j, none⟩ = some v := ⟨_, cell_at H4.out.1 j _ (sC_get _ j _ (List.getElem?_eq_getElem (by rw [upTo_len L 35 j HL.out.1 HJ.out.1]; have := HJ.out; omega)))⟩
           obtain ⟨v5, c5⟩ := c5
           have f5 : w4.frozen? ⟨w.heap.size, j, none⟩ = false := free_at H4.out.1 j))
      go_roundw
      case rel =>
        refine ⟨j + 1, by have := HJ.out; omega, by go_num, ?_, ?_⟩
        · refine (blk_set H4.out.1 _ _).trans ?_
          rw [sC_set _ _ _ (begS seed leaf j) (by rw [← HT.out]), upTo_set L 35 j (begS seed leaf j) HL.out.1 (by have := HJ.out; omega) (HL.out.2 j (by have := HJ.out; omega))]
        · exact H4.out.2.setCell (Nat.le_refl _) _
      case measure => simp [intOf]; omega

set_option maxRecDepth 100000 in
set_option maxHeartbeats 1600000 in
theorem pieces_any (sig : ByteArray) (hs : sig.size = 560) (w : World) :
    Calls Try.prog 104 #[.string sig] w fun e w' => e = .returned (.slice (some ⟨w.heap.size, 0, none⟩) 35 35) ∧ StrsIn w' (some ⟨w.heap.size, 0, none⟩) (pieL sig) ∧ Below w.heap.size w w' := by
  obtain ⟨L, eL⟩ : ∃ L, L = pieL sig := ⟨_, rfl⟩
  rw [← eL]
  have HL : Hid (L.length = 35 ∧ ∀ j, j < 35 → L[j]? = some (pieceS sig j)) := hid ⟨by rw [eL, pieL_len], fun j hj => by rw [eL, pieL_get _ _ hj]⟩
  have HMk := hid run_make35
  have hs1 : (560 : Int) ≤ (sig.size : Int) := by omega
  clear eL hs
  go_enter Try.func104, Try.ntmps104
  go_wp2_with rw [HMk.out]
  go_loopw [8] (fun i wr => ∃ j : Nat, j ≤ 35 ∧ i = .int .i64 (j : Int) ∧ wr.heap[w.heap.size]? = some (.cells (sC (upTo L 35 j)).toArray 9 (0, 0)) ∧ Below w.heap.size w wr)
    (fun i _ => (35 - intOf i).toNat)
  case atStart => exact ⟨0, by omega, rfl, by rw [← made_strs L 35]; exact heap_alloc_last w _, (Below.refl _ _).alloc (Nat.le_refl _) _⟩
  case round =>
    obtain ⟨j, hj, rfl, hblk, hbel⟩ := hrel
    have HR := hid (And.intro hblk hbel)
    clear hblk hbel
    by_cases hjn : j = 35
    · have hj1 : ¬ ((j : Int) < 35) := by omega
      have HJ := hid hjn
      clear hj hjn
      go_wp2
      go_ret
      refine ⟨rfl, ?_, HR.out.2⟩
      have hB := HR.out.1
      rw [HJ.out, upTo_all L 35 HL.out.1] at hB
      exact .inr ⟨w.heap.size, 0, rfl, lt_of_blk hB, fun i s hi => by rw [Nat.zero_add]; exact cell_at hB i _ (sC_get L i s hi)⟩
    · have hj1 : (j : Int) < 35 := by omega
      have hj0 : (0 : Int) ≤ (j : Int) := Int.natCast_nonneg _
      have hj2 : ((j : Int) + 1) * 16 ≤ (sig.size : Int) := by omega
      have hj3 : (j : Int) * 16 ≤ ((j : Int) + 1) * 16 := by omega
      have c5 : ∃ v, wr.cell? ⟨w.heap.size, j, none⟩ = some v := ⟨_, cell_at HR.out.1 j _ (sC_get _ j _ (List.getElem?_eq_getElem (by rw [upTo_len L 35 j HL.out.1 hj]; omega)))⟩
      obtain ⟨v5, c5⟩ := c5
      have f5 : wr.frozen? ⟨w.heap.size, j, none⟩ = false := free_at HR.out.1 j
      have HJ := hid (And.intro hj hjn)
      clear hj hjn
      go_wp2
      go_roundw
      case rel =>
        refine ⟨j + 1, by have := HJ.out; omega, by go_num, ?_, ?_⟩
        · refine (blk_set HR.out.1 _ _).trans ?_
          rw [sC_set _ _ _ (pieceS sig j) (by rw [pieceS]; congr 2 <;> omega), upTo_set L 35 j (pieceS sig j) HL.out.1 (by have := HJ.out; omega) (HL.out.2 j (by have := HJ.out; omega))]
        · exact HR.out.2.setCell (Nat.le_refl _) _
      case measure => simp [intOf]; omega
end Go.Proofs.Ytchlmcpnjpllnaa
