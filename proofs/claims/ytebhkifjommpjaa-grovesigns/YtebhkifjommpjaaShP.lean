/- The document's digest: the walk. -/
import Derived.Test.YtebhkifjommpjaaShO
namespace Go.Proofs.Ytebhkifjommpjaa
open Go.RowKit

theorem Try.info74 : (Try.prog.info? 74).map (fun i => (i.zero, i.size)) = some (some (.agg (uC z8).toArray), 8) := by kernel_rfl
theorem Try.size74 : (Try.prog.info? 74).map (·.size) = some 8 := (zero_of_info Try.info74).2
theorem hList_len : (uC hList).length = 8 := by rw [uC_len]; rfl
theorem hList_start : hList = St.start.list := rfl

/-- All blocks but b are as they were. -/
structure KB (b : Nat) (w w' : World) : Prop where
  os : w'.os = w.os
  tape : w'.tape = w.tape
  output : w'.output = w.output
  size : w.heap.size ≤ w'.heap.size
  block : ∀ k, k < w.heap.size → k ≠ b → w'.heap[k]? = w.heap[k]?
theorem KB.refl (b : Nat) (w : World) : KB b w w := ⟨rfl, rfl, rfl, Nat.le_refl _, fun _ _ _ => rfl⟩
theorem KB.trans {b : Nat} {x y z : World} (h : KB b x y) (k : KB b y z) : KB b x z :=
  ⟨k.os.trans h.os, k.tape.trans h.tape, k.output.trans h.output, Nat.le_trans h.size k.size, fun i hi hb => by rw [k.block i (Nat.lt_of_lt_of_le hi h.size) hb, h.block i hi hb]⟩
theorem KB.of_below {b : Nat} {x y z : World} (h : KB b x y) (k : Below y.heap.size y z) : KB b x z :=
  h.trans ⟨k.os, k.tape, k.output, k.size, fun i hi _ => k.block i hi⟩
theorem KB.same {b : Nat} {x y z : World} (h : KB b x y) (h1 : z.os = y.os) (h2 : z.tape = y.tape) (h3 : z.output = y.output) (h4 : z.heap = y.heap) : KB b x z :=
  ⟨h1.trans h.os, h2.trans h.tape, h3.trans h.output, by rw [h4]; exact h.size, fun k hk hb => by rw [h4]; exact h.block k hk hb⟩
theorem KB.setCell {b : Nat} {x y : World} (h : KB b x y) (j : Nat) (v : Value) : KB b x (y.setCell ⟨b, j, none⟩ v) :=
  ⟨h.os, h.tape, h.output, by have := h.size; simpa [World.setCell] using this, fun i hi hb => by rw [Below.heap_setCell _ _ _ _ hb, h.block i hi hb]⟩
theorem KB.setRow {b : Nat} {x y : World} (h : KB b x y) (c : Array Value) : KB b x (y.setRow b c) :=
  ⟨h.os, h.tape, h.output, by have := h.size; simpa [World.setRow] using this, fun i hi hb => by rw [setRow_other _ _ _ _ hb, h.block i hi hb]⟩
theorem KB.new {b c : Nat} {x y z : World} (h : KB b x y) (k : KB c y z) (hc : x.heap.size ≤ c) : KB b x z :=
  ⟨k.os.trans h.os, k.tape.trans h.tape, k.output.trans h.output, Nat.le_trans h.size k.size, fun i hi hb => by rw [k.block i (Nat.lt_of_lt_of_le hi h.size) (by omega), h.block i hi hb]⟩
theorem KB.below {b B : Nat} {x y : World} (h : KB b x y) (hB : B ≤ b) (hx : B ≤ x.heap.size) : Below B x y :=
  ⟨h.os, h.tape, h.output, h.size, fun k hk => h.block k (by omega) (by omega)⟩
theorem KB.cell {b : Nat} {x y : World} (h : KB b x y) (k j : Nat) (hk : k < x.heap.size) (hb : k ≠ b) : y.cell? ⟨k, j, none⟩ = x.cell? ⟨k, j, none⟩ := by
  simp only [World.cell?, h.block k hk hb]

theorem ch_valx (e f g : BitVec 32) : bits .xor .u32 (bits .and .u32 (u e) (u f)) (bits .and .u32 (bits .xor .u32 IntKind.u32.max (u e)) (u g)) = u (ch e f g) := by
  rw [u_and, u_not, u_and, u_xor]; rfl
theorem maj_valx (a b c : BitVec 32) : bits .xor .u32 (bits .xor .u32 (bits .and .u32 (u a) (u b)) (bits .and .u32 (u a) (u c))) (bits .and .u32 (u b) (u c)) = u (maj a b c) := by
  rw [u_and, u_and, u_and, u_xor, u_xor]; rfl
theorem list8 {p q p' q' : Int} {b c d f g h : Value} (h1 : p = p') (h2 : q = q') : [Value.int .u32 p, b, c, d, .int .u32 q, f, g, h] = [Value.int .u32 p', b, c, d, .int .u32 q', f, g, h] := by rw [h1, h2]
theorem KB.drewN {b : Nat} {x y : World} (h : KB b x y) (n : Nat) : KB b x (y.drewN n) := h.same rfl rfl rfl rfl
theorem u_bytesw (x : BitVec 32) : [Value.int .u8 (IntKind.u8.wrap (u x / 16777216)), .int .u8 (IntKind.u8.wrap (u x / 65536)), .int .u8 (IntKind.u8.wrap (u x / 256)), .int .u8 (IntKind.u8.wrap (u x))] = bC (wBytes x) := by
  rw [← u_bytes]
  simp [IntKind.wrap, IntKind.bits, IntKind.signed]
theorem kC_def : kC = (uC kList).toArray := rfl
theorem kList_len2 : kList.length = 64 := rfl
theorem hash_step (A : List UInt8) (i : Nat) (h : 64 * i + 64 ≤ A.length) : hashB .start (A.take (64 * i + 64)) = step (hashB .start (A.take (64 * i))) ((A.drop (64 * i)).take 64) := by
  rw [List.take_add, hashB_app _ _ _ i (by rw [List.length_take]; omega), ← List.append_nil ((A.drop (64 * i)).take 64), hashB_cons _ _ _ (by rw [List.length_take, List.length_drop]; omega), hashB_short _ _ (by decide), List.append_nil]
theorem blk_len (A : List UInt8) (p : Nat) (h : p + 64 ≤ A.length) : ((A.drop p).take 64).length = 64 := by rw [List.length_take, List.length_drop]; omega
theorem blk_get (A : List UInt8) (p j : Nat) (v : Value) (h : (bC ((A.drop p).take 64))[j]? = some v) : (bC A)[p + j]? = some v := by
  have hj : j < ((A.drop p).take 64).length := by have := (List.getElem?_eq_some_iff.1 h).1; rwa [bC_len] at this
  have h64 : j < 64 := by rw [List.length_take] at hj; omega
  simp only [bC, List.getElem?_map] at h ⊢
  rw [List.getElem?_take, if_pos h64, List.getElem?_drop] at h
  exact h

set_option maxRecDepth 100000 in
set_option maxHeartbeats 1600000 in
theorem qsum_any (s : ByteArray) (hs : s.size ≤ 1099511627000) (w : World) :
    Calls Try.prog 36 #[.string s] w fun e w' => e = .returned (.string ⟨(shaB s.data.toList).toArray⟩) ∧ Below w.heap.size w w' := by
  have HS := hid hs
  clear hs
  go_enter Try.func36, Try.ntmps36
  go_wp2_with (first
    | refine wl_build_row rfl 74 _ rfl (.agg (uC hList).toArray) (by kernel_rfl) ?_
    | refine wl_alloc_row rfl 74 rfl _ _ Try.info74 ?_
    | (refine wl_store_row rfl 74 _ _ rfl w.heap.size 0 rfl 74 (uC z8) (uC hList) rfl (heap_alloc_last w _) 8 hList_len Try.size74 (by rw [z8_len]; decide) (uC_one _) ?_; intro w1 h1 e1)
    | (go_at_call 53; refine (qconstants_any _).mono ?_; rintro e w2 ⟨rfl, rfl⟩)
    | (refine wl_bytes rfl _ rfl s rfl (by have := HS.out; unfold maxLen; omega) ?_; intro cap w3 hc3 hb3 hl3 hm3; have q3 : (w1.alloc (.cells kC 73)).heap.size = w1.heap.size + 1 := by simp
       rw [q3] at hb3 hl3
       clear q3)
    | (go_at_call 54; refine (qpad_any _ (by have := HS.out; omega) _).mono ?_; rintro e w4 ⟨v4, rfl, hO4⟩; have HO4 := hid hO4; clear hO4)
    | (refine wl_all rfl _ _ rfl _ _ _ rfl s.data.toList rfl (hb3.out.keep HO4.out.bel) (w1.heap.size + 1) (Nat.le_refl _) _ _ _ (padB s.size) rfl HO4.out (by rw [padB_len]; omega) (by rw [padB_len]; have := HS.out; have := zerosN_lt s.size; omega) ?_; intro g2 cap2 w5 hA5 hB5))
  obtain ⟨b, eb⟩ : ∃ b, b = w.heap.size := ⟨_, rfl⟩
  obtain ⟨k0, ek⟩ : ∃ k, k = w1.heap.size := ⟨_, rfl⟩
  obtain ⟨A, eA⟩ : ∃ A, A = s.data.toList ++ padB s.size := ⟨_, rfl⟩
  obtain ⟨N, eN⟩ : ∃ N, N = s.size + (padB s.size).length := ⟨_, rfl⟩
  have hk0 : k0 = b + 1 := by
    have := congrArg (fun u : World => u.heap.size) e1.out
    simp [World.setRow] at this
    omega
  have hNA : A.length = N := by rw [eA, List.length_append, data_len, eN]
  have hN64 : N % 64 = 0 := by rw [← hNA, eA]; exact pad_mod s.data.toList
  have hN40 : N ≤ 1099511627776 := by rw [eN, padB_len]; have := HS.out; have := zerosN_lt s.size; omega
  have hN0 : 0 < N := by rw [eN, padB_len]; omega
  have f1 : w1.heap[b]? = some (.cells (uC hList).toArray 74 (0, 0)) := by
    have := h1.out
    rwa [splice_all _ _ (by rw [z8_len, hList_len]), ← eb] at this
  have l5 : Below (k0 + 1) (w1.alloc (.cells kC 73)) w5 := by
    rw [ek]
    exact (hl3.out.trans (HO4.out.bel.mono (by have := hl3.out.size; simp at this; omega))).trans hB5.out
  have f5 : w5.heap[b]? = some (.cells (uC hList).toArray 74 (0, 0)) := (l5.block b (by omega)).trans ((Below.heap_alloc _ _ _ (by rw [← ek]; omega)).trans f1)
  have g5 : w5.heap[k0]? = some (.cells kC 73 (0, 0)) := (l5.block k0 (by omega)).trans (by rw [ek]; exact heap_alloc_last w1 _)
  have b5 : Below b w w5 := by
    have hb1 : Below b w w1 := by
      rw [e1.out]
      exact Below.setRow ((Below.refl _ _).alloc (by rw [eb]; exact Nat.le_refl _) _) (by rw [eb]; exact Nat.le_refl _) _
    exact (hb1.alloc (by rw [← ek]; omega) _).trans (l5.mono (by omega))
  have a5 : AllAt w5 (k0 + 1) g2 cap2 A := by rw [ek, eA]; exact hA5.out
  rw [← eN, ← eb, ← ek]
  have F := hid (And.intro f5 (And.intro g5 (And.intro b5 (And.intro a5 (And.intro hNA (And.intro hN64 (And.intro hk0 (And.intro eA (And.intro eb hN0)))))))))
  have hN40' : (N : Int) ≤ 1099511627776 := by omega
  clear f5 g5 b5 a5 hNA hN64 hk0 eA eb l5 f1 eN ek hN40 hN0 hB5 hA5 HO4 hm3 hl3 hb3 hc3 e1 h1
  go_loopw [6] (fun v wr => ∃ (i : Nat) (S : St), v = .int .i64 ((64 * i : Nat) : Int) ∧ 64 * i ≤ N ∧ wr.heap[b]? = some (.cells (uC S.list).toArray 74 (0, 0)) ∧ S = hashB .start (A.take (64 * i)) ∧ KB b w5 wr)
    (fun v _ => ((N : Int) - intOf v).toNat)
  case atStart => exact ⟨0, .start, rfl, by omega, F.out.1, by rw [hashB_short _ _ (by simp)], KB.refl _ _⟩
  case round =>
    obtain ⟨i, S, rfl, hi, hS, hSt, hKB⟩ := hrel
    have H := hid (And.intro hi (And.intro hS (And.intro hSt hKB)))
    clear hi hS hSt hKB
    obtain ⟨p, ep⟩ : ∃ p, p = 64 * i := ⟨_, rfl⟩
    rw [← ep]
    by_cases hiN : 64 * i = N
    · have hk1 : ¬ ((p : Int) < (N : Int)) := by omega
      have HI := hid (And.intro hiN ep)
      clear hiN ep
      go_wp2
      rename World => wa
      obtain ⟨i0, hi0, hz0, hz1, hz2⟩ := info_parts Try.info5
      go_loopw [17, 18] (fun v i wz => ∃ j : Nat, j ≤ 8 ∧ i = .int .i64 (j : Int) ∧ Owned wa.heap.size wa wz v ((S.list.take j).flatMap wBytes))
        (fun _ i _ => (8 - intOf i).toNat)
      case atStart => exact ⟨0, by omega, rfl, Owned.nil (Below.refl _ _) (Nat.le_refl _)⟩
      case round =>
        obtain ⟨j, hj, rfl, hO⟩ := hrel
        have HO := hid hO
        clear hO
        have hbw : b < wa.heap.size := lt_of_blk H.out.2.1
        by_cases hj8 : j = 8
        · have hk3 : ¬ ((j : Int) < 8) := by omega
          have hc := HO.out.text
          have et : (S.list.take j).flatMap wBytes = shaB s.data.toList := by
            rw [hj8, List.take_of_length_le (by rw [list_len]; exact Nat.le_refl _), shaB, data_len, ← F.out.2.2.2.2.2.2.2.1, H.out.2.2.1, HI.out.1, ← F.out.2.2.2.2.1, List.take_of_length_le (Nat.le_refl _)]
            rfl
          rw [et] at hc
          have HC := hid (And.intro hc hbw)
          clear hc et hj hj8 hbw
          go_wp2_with rw [HC.out.1]
          go_ret
          have hw := F.out.2.2.2.2.2.2.2.2.1
          refine ⟨rfl, ?_⟩
          rw [← hw]
          exact (F.out.2.2.1.trans (H.out.2.2.2.below (Nat.le_refl _) (Nat.le_of_lt (lt_of_blk F.out.1)))).trans (HO.out.bel.mono (Nat.le_of_lt HC.out.2))
        · have hk3 : (j : Int) < 8 := by omega
          have hk4 : (0 : Int) ≤ (j : Int) := Int.natCast_nonneg _
          obtain ⟨x, ex⟩ : ∃ x, x = S.list.getD j 0 := ⟨_, rfl⟩
          have HC : Hid (∀ ww : World, ww.heap[b]? = wa.heap[b]? → ww.cell? ⟨b, j, none⟩ = some (.int .u32 (u x))) := hid (by
            intro ww hS
            rw [ex]
            exact cell_at (hS.trans H.out.2.1) j _ (uC_get _ j (by rw [list_len]; omega)))
          have HSW : Hid (wr.heap[b]? = wa.heap[b]?) := hid (HO.out.bel.block b hbw)
          have hlen : ((S.list.take j).flatMap wBytes).length + 4 ≤ 40 := by
            rw [flat_len, List.length_take, list_len]
            omega
          have HN := hid (And.intro hlen (And.intro ex (And.intro hj hbw)))
          clear hlen ex hj hbw
          go_wp2
          refine wp_region_held (S := fun ww => ww.heap[b]? = wa.heap[b]?) (by kernel_rfl) ?_
          try (change wpAnyH _ _ _ _ _ _ _ _ (World.drew _))
          refine wpAnyH_take (i := 0) (v := ?v1) rfl (by kernel_rfl) (by kernel_rfl) (by kernel_rfl) (fun _ _ _ h => h) (Or.inl ⟨by rfl, ?hy1⟩) HSW.out ?rest1
          case hy1 => (intro ww _; go_simp; try with_reducible rfl)
          go_simp
          refine wpAnyH_take (i := 1) (v := ?v2) rfl (by kernel_rfl) (by kernel_rfl) (by kernel_rfl) (fun _ _ _ h => h) (Or.inl ⟨by rfl, ?hy2⟩) HSW.out ?rest2
          case hy2 => (intro ww _; go_simp; try with_reducible rfl)
          go_simp
          refine wpAnyH_take (i := 2) (v := ?v3) rfl (by kernel_rfl) (by kernel_rfl) (by kernel_rfl) (fun _ _ _ h => h) (Or.inl ⟨by rfl, ?hy3⟩) HSW.out ?rest3
          case hy3 => (intro ww _; go_simp; try with_reducible rfl)
          go_simp
          refine wpAnyH_take (i := 3) (v := ?v4) rfl (by kernel_rfl) (by kernel_rfl) (by kernel_rfl) (fun _ _ _ h => h) (Or.inl ⟨by rfl, ?hy4⟩) HSW.out ?rest4
          case hy4 => (intro ww hS; have z0 := HC.out ww hS; go_simp; try with_reducible rfl)
          go_simp
          refine wpAnyH_take (i := 4) (v := ?v5) rfl (by kernel_rfl) (by kernel_rfl) (by kernel_rfl) (fun _ _ _ h => h) (Or.inl ⟨by rfl, ?hy5⟩) HSW.out ?rest5
          case hy5 => (intro ww _; go_simp; try with_reducible rfl)
          go_simp
          refine wpAnyH_take (i := 5) (v := ?v6) rfl (by kernel_rfl) (by kernel_rfl) (by kernel_rfl) (fun _ _ _ h => h) (Or.inl ⟨by rfl, ?hy6⟩) HSW.out ?rest6
          case hy6 => (intro ww _; go_simp; try with_reducible rfl)
          go_simp
          refine wpAnyH_take (i := 6) (v := ?v7) rfl (by kernel_rfl) (by kernel_rfl) (by kernel_rfl) (fun _ _ _ h => h) (Or.inl ⟨by rfl, ?hy7⟩) HSW.out ?rest7
          case hy7 => (intro ww _; go_simp; try with_reducible rfl)
          go_simp
          refine wpAnyH_take (i := 7) (v := ?v8) rfl (by kernel_rfl) (by kernel_rfl) (by kernel_rfl) (fun _ _ _ h => h) (Or.inl ⟨by rfl, ?hy8⟩) HSW.out ?rest8
          case hy8 => (intro ww _; go_simp; try with_reducible rfl)
          go_simp
          refine wpAnyH_take (i := 8) (v := ?v9) rfl (by kernel_rfl) (by kernel_rfl) (by kernel_rfl) (fun _ _ _ h => h) (Or.inl ⟨by rfl, ?hy9⟩) HSW.out ?rest9
          case hy9 => (intro ww hS; have z0 := HC.out ww hS; go_simp; try with_reducible rfl)
          go_simp
          refine wpAnyH_take (i := 9) (v := ?v10) rfl (by kernel_rfl) (by kernel_rfl) (by kernel_rfl) (fun _ _ _ h => h) (Or.inl ⟨by rfl, ?hy10⟩) HSW.out ?rest10
          case hy10 => (intro ww _; go_simp; try with_reducible rfl)
          go_simp
          refine wpAnyH_take (i := 10) (v := ?v11) rfl (by kernel_rfl) (by kernel_rfl) (by kernel_rfl) (fun _ _ _ h => h) (Or.inl ⟨by rfl, ?hy11⟩) HSW.out ?rest11
          case hy11 => (intro ww _; go_simp; try with_reducible rfl)
          go_simp
          refine wpAnyH_take (i := 11) (v := ?v12) rfl (by kernel_rfl) (by kernel_rfl) (by kernel_rfl) (fun _ _ _ h => h) (Or.inl ⟨by rfl, ?hy12⟩) HSW.out ?rest12
          case hy12 => (intro ww _; go_simp; try with_reducible rfl)
          go_simp
          refine wpAnyH_take (i := 12) (v := ?v13) rfl (by kernel_rfl) (by kernel_rfl) (by kernel_rfl) (fun _ _ _ h => h) (Or.inl ⟨by rfl, ?hy13⟩) HSW.out ?rest13
          case hy13 => (intro ww _; go_simp; try with_reducible rfl)
          go_simp
          refine wpAnyH_take (i := 13) (v := ?v14) rfl (by kernel_rfl) (by kernel_rfl) (by kernel_rfl) (fun _ _ _ h => h) (Or.inl ⟨by rfl, ?hy14⟩) HSW.out ?rest14
          case hy14 => (intro ww hS; have z0 := HC.out ww hS; go_simp; try with_reducible rfl)
          go_simp
          refine wpAnyH_take (i := 14) (v := ?v15) rfl (by kernel_rfl) (by kernel_rfl) (by kernel_rfl) (fun _ _ _ h => h) (Or.inl ⟨by rfl, ?hy15⟩) HSW.out ?rest15
          case hy15 => (intro ww _; go_simp; try with_reducible rfl)
          go_simp
          refine wpAnyH_take (i := 15) (v := ?v16) rfl (by kernel_rfl) (by kernel_rfl) (by kernel_rfl) (fun _ _ _ h => h) (Or.inl ⟨by rfl, ?hy16⟩) HSW.out ?rest16
          case hy16 => (intro ww _; go_simp; try with_reducible rfl)
          go_simp
          refine wpAnyH_take (i := 16) (v := ?v17) rfl (by kernel_rfl) (by kernel_rfl) (by kernel_rfl) (fun _ _ _ h => h) (Or.inl ⟨by rfl, ?hy17⟩) HSW.out ?rest17
          case hy17 => (intro ww _; go_simp; try with_reducible rfl)
          go_simp
          refine wpAnyH_take (i := 17) (v := ?v18) rfl (by kernel_rfl) (by kernel_rfl) (by kernel_rfl) (fun _ _ _ h => h) (Or.inl ⟨by rfl, ?hy18⟩) HSW.out ?rest18
          case hy18 => (intro ww _; go_simp; try with_reducible rfl)
          go_simp
          refine wpAnyH_take (i := 18) (v := ?v19) rfl (by kernel_rfl) (by kernel_rfl) (by kernel_rfl) (fun _ _ _ h => h) (Or.inl ⟨by rfl, ?hy19⟩) HSW.out ?rest19
          case hy19 => (intro ww hS; have z0 := HC.out ww hS; go_simp; try with_reducible rfl)
          go_simp
          refine wpAnyH_take (i := 19) (v := ?v20) rfl (by kernel_rfl) (by kernel_rfl) (by kernel_rfl) (fun _ _ _ h => h) (Or.inl ⟨by rfl, ?hy20⟩) HSW.out ?rest20
          case hy20 => (intro ww _; go_simp; try with_reducible rfl)
          go_simp
          refine wpAnyH_all (rs := [20]) (by kernel_rfl) (by simp) ?_
          intro i hi
          obtain rfl := List.mem_singleton.1 hi
          clear hi
          refine wpOp_k rfl rfl (fun K hK => ?_)
          go_simp
          refine hK _ _ ⟨(Below.heap_alloc _ _ _ (Nat.lt_of_lt_of_le HN.out.2.2.2 HO.out.le)).trans HSW.out, ?_⟩
          clear hK K
          refine wpAnyH_all (rs := [21]) (by kernel_rfl) (by simp) ?_
          intro i hi
          obtain rfl := List.mem_singleton.1 hi
          clear hi
          refine wpOp_k rfl rfl (fun K hK => ?_)
          refine wp_append_own _ _ _ 55 rfl wa.heap.size 5 i0 (.int .u8 0) 1 1 Try.underlying55 hi0 hz0 hz1 hz2 rfl (by decide) _ _ _ rfl (HO.out.alloc _).drew.own ⟨wr.heap.size, 0, none⟩ 4 4 (bC (wBytes x)) rfl rfl (by rw [← u_bytesw]; exact World.news_of_block (t := 5) (fr := (0, 0)) (heap_alloc_last wr _)) (bC_one _) (by have := HN.out.1; unfold maxLen; omega) (by have := HN.out.1; omega) (HO.out.alloc _).le ?_
          intro v3 w3 hown3 hgrow3 i3
          have HO3 := hid ((HO.out.alloc _).drew.grow (xs := wBytes x) rfl hown3 hgrow3)
          refine hK _ _ ⟨HO3.out.bel.block b HN.out.2.2.2, ?_⟩
          clear hown3 hgrow3 i3 hK K
          go_simp
          refine wpAnyH_take (i := 22) (v := ?v21) rfl (by kernel_rfl) (by kernel_rfl) (by kernel_rfl) (fun _ _ _ h => h) (Or.inl ⟨by rfl, ?hy21⟩) (HO3.out.bel.block b HN.out.2.2.2) ?rest21
          case hy21 => (intro ww _; go_simp; try with_reducible rfl)
          go_simp
          refine wpAnyH_done (by kernel_rfl) ?_ _
          go_simp
          go_wp2
          refine ⟨⟨j + 1, by omega, rfl, by rw [flat_snoc _ _ (by rw [list_len]; omega), ← HN.out.2.1]; exact HO3.out⟩, by simp [intOf]; omega⟩
    · have hlt : 64 * i + 64 ≤ N := by have := H.out.1; have := F.out.2.2.2.2.2.1; omega
      have hk1 : (p : Int) < (N : Int) := by omega
      have hp0 : (0 : Int) ≤ (p : Int) := Int.natCast_nonneg _
      have hcap : N ≤ cap2 := by have := F.out.2.2.2.1.le; rw [F.out.2.2.2.2.1] at this; exact this
      have hp1 : (p : Int) + 64 ≤ (cap2 : Int) := by omega
      have hp2 : (p : Int) ≤ (cap2 : Int) := by omega
      have hp3 : ¬ (cap2 = p) := by omega
      have hp4 : ((p : Int) + 64).toNat = p + 64 := by omega
      have hp5 : (0 : Int) ≤ (p : Int) + 64 := by omega
      have hp6 : p + 64 - p = 64 := by omega
      obtain ⟨L, eL⟩ : ∃ L, L = (A.drop p).take 64 := ⟨_, rfl⟩
      have hLl : L.length = 64 := by rw [eL]; exact blk_len A p (by rw [F.out.2.2.2.2.1]; omega)
      have hgb : g2 ≠ b := by have := F.out.2.2.2.1.ge; have := F.out.2.2.2.2.2.2.1; omega
      have hcell : ∀ j v, (bC L)[j]? = some v → wr.cell? ⟨g2, p + j, none⟩ = some v := fun j v hv => by
        rw [H.out.2.2.2.cell g2 (p + j) F.out.2.2.2.1.lt hgb]
        rw [eL] at hv
        exact F.out.2.2.2.1.cell (p + j) v (blk_get A p j v hv)
      have HW : Hid (∀ cc, Calls Try.prog 55 #[.slice (some ⟨g2, p, none⟩) 64 cc] wr fun e w' => ∃ v, e = .returned v ∧ OwnedU wr.heap.size wr w' v (sched L)) := hid (fun cc => qwords_any g2 p cc L hLl wr (Nat.lt_of_lt_of_le F.out.2.2.2.1.lt H.out.2.2.2.size) hcell)
      have HP := hid (And.intro eL (And.intro hLl (And.intro ep (And.intro hlt hcap))))
      clear eL hLl hgb hcell ep hlt hcap hiN
      go_wp2_with (first
        | (go_at_call 55; refine (HW.out _).mono ?_; rintro e w6 ⟨v6, rfl, hO6⟩; have HO6 := hid hO6; clear hO6)
        | refine wl_load_row rfl 74 _ rfl b 0 rfl (uC S.list) _ Try.underlying74 rfl 8 (by rw [uC_len]; exact list_len S) Try.size74 (heap_cells (t := 74) (fr := (0, 0)) ((HO6.out.bel.block b (lt_of_blk H.out.2.1)).trans H.out.2.1)) ?_
        | refine wl_alloc_row rfl 74 rfl _ _ Try.info74 ?_
        | (refine wl_store_row rfl 74 _ _ rfl w6.heap.size 0 rfl 74 (uC z8) (uC S.list) rfl (heap_alloc_last w6 _) 8 (by rw [uC_len]; exact list_len S) Try.size74 (by rw [z8_len]; decide) (uC_one _) ?_; intro w7 h7 e7))
      obtain ⟨W, eW⟩ : ∃ W, W = sched L := ⟨_, rfl⟩
      have hW : W.length = 64 := by rw [eW]; exact sched_len L HP.out.2.1
      rw [← eW] at HO6
      obtain ⟨gw, cw, hv6, cW6⟩ := HO6.out.form1 (by rw [hW]; decide)
      rw [hW] at hv6 cW6
      subst hv6
      obtain ⟨x0, ex0⟩ : ∃ x, x = w6.heap.size := ⟨_, rfl⟩
      have hbw : b < wr.heap.size := lt_of_blk H.out.2.1
      have hkw : k0 < wr.heap.size := Nat.lt_of_lt_of_le (lt_of_blk F.out.2.1) H.out.2.2.2.size
      have h6s := HO6.out.bel.size
      have hgw : gw < x0 := by
        have := cW6 0 (by decide)
        rw [ex0]
        by_cases hh : gw < w6.heap.size
        · exact hh
        · simp [World.cell?, Array.getElem?_eq_none (Nat.not_lt.1 hh)] at this
      have k7 : KB x0 w6 w7 := by
        have k6 : KB x0 w6 (w6.alloc (.cells (uC z8).toArray 74)) := ⟨rfl, rfl, rfl, by simp, fun k hk _ => Below.heap_alloc w6 _ k hk⟩
        rw [e7.out, ← ex0]
        exact k6.setRow _
      have x7 : w7.heap[x0]? = some (.cells (uC S.list).toArray 74 (0, 0)) := by
        have := h7.out
        rwa [splice_all _ _ (by rw [z8_len, uC_len, list_len]), ← ex0] at this
      have s7 : w7.heap[b]? = some (.cells (uC S.list).toArray 74 (0, 0)) := (k7.block b (by omega) (by omega)).trans ((HO6.out.bel.block b hbw).trans H.out.2.1)
      have n7 : w7.heap[k0]? = some (.cells kC 73 (0, 0)) := (k7.block k0 (by omega) (by omega)).trans ((HO6.out.bel.block k0 hkw).trans ((H.out.2.2.2.block k0 (lt_of_blk F.out.2.1) (by have := F.out.2.2.2.2.2.2.1; omega)).trans F.out.2.1))
      have c7 : ∀ j, j < 64 → w7.cell? ⟨gw, j, none⟩ = some (.int .u32 (u (W.getD j 0))) := fun j hj => (k7.cell gw j (by omega) (by omega)).trans (cW6 j hj)
      have q7 : KB b w5 w7 := (H.out.2.2.2.of_below HO6.out.bel).new k7 (by have := H.out.2.2.2.size; omega)
      rw [← ex0]
      have G := hid (And.intro x7 (And.intro s7 (And.intro n7 (And.intro c7 (And.intro q7 (And.intro eW (And.intro hW (And.intro hgw (by have := H.out.2.2.2.size; omega : b < x0 ∧ k0 < x0 ∧ w5.heap.size ≤ x0)))))))))
      clear x7 s7 n7 c7 q7 k7 e7 h7 hW eW cW6 HO6 HW hbw hkw h6s hgw ex0 hp1 hp2 hp3 hp4 hp5 hp6 hk1
      go_loopw [9] (fun v wz => ∃ (t : Nat) (X : St), t ≤ 64 ∧ v = .int .i64 (t : Int) ∧ wz.heap[x0]? = some (.cells (uC X.list).toArray 74 (0, 0)) ∧ KB x0 w7 wz ∧ roundsN W (64 - t) t X = roundsN W 64 0 S)
        (fun v _ => (64 - intOf v).toNat)
      case atStart => exact ⟨0, S, by omega, rfl, G.out.1, KB.refl _ _, rfl⟩
      case round =>
        obtain ⟨t, X, ht, rfl, hX, hZ, hR⟩ := hrel
        have R := hid (And.intro hX (And.intro hZ hR))
        clear hX hZ hR
        by_cases ht64 : t = 64
        · have hk2 : ¬ ((t : Int) < 64) := by omega
          have hX2 : X = roundsN W 64 0 S := by rw [← R.out.2.2, ht64]; rfl
          have HX := hid hX2
          clear hX2 ht ht64
          go_wp2
          go_loopw [16] (fun v wz => ∃ j : Nat, j ≤ 8 ∧ v = .int .i64 (j : Int) ∧ wz.heap[b]? = some (.cells (uC (addN S.list X.list j)).toArray 74 (0, 0)) ∧ wz.heap[x0]? = some (.cells (uC X.list).toArray 74 (0, 0)) ∧ KB b w5 wz)
            (fun v _ => (8 - intOf v).toNat)
          case atStart =>
            have hbx := G.out.2.2.2.2.2.2.2.2.1
            refine ⟨0, by omega, rfl, (R.out.2.1.block b (lt_of_blk G.out.2.1) (by omega)).trans G.out.2.1, R.out.1, G.out.2.2.2.2.1.new R.out.2.1 ?_⟩
            exact G.out.2.2.2.2.2.2.2.2.2.2
          case round =>
            obtain ⟨j, hj, rfl, hJ1, hJ2, hJ3⟩ := hrel
            have J := hid (And.intro hJ1 (And.intro hJ2 hJ3))
            clear hJ1 hJ2 hJ3
            by_cases hj8 : j = 8
            · have hk3 : ¬ ((j : Int) < 8) := by omega
              have hk4 : (p : Int) + 64 < 4611686018427387904 := by have := HP.out.2.2.1; have := HP.out.2.2.2.1; omega
              have HJ := hid hj8
              clear hj hj8
              go_wp2
              have ep := HP.out.2.2.1
              have hN := HP.out.2.2.2.1
              have eN := F.out.2.2.2.2.1
              refine ⟨⟨i + 1, S.plus X, by rw [show ((64 * (i + 1) : Nat) : Int) = (p : Int) + 64 by omega], by omega, ?_, ?_, J.out.2.2⟩, by simp [intOf]; omega⟩
              · rw [← addN_plus, ← HJ.out]
                exact J.out.1
              · rw [show 64 * (i + 1) = 64 * i + 64 by omega, hash_step A i (by omega), ← H.out.2.2.1, ← ep, ← HP.out.1, step, behindW, ← G.out.2.2.2.2.2.1, ← HX.out]
            · have hk3 : (j : Int) < 8 := by omega
              have hk4 : (0 : Int) ≤ (j : Int) := Int.natCast_nonneg _
              obtain ⟨y, ey⟩ : ∃ x, x = (addN S.list X.list j).getD j 0 := ⟨_, rfl⟩
              obtain ⟨x, ex⟩ : ∃ x, x = X.list.getD j 0 := ⟨_, rfl⟩
              have cy : wr.cell? ⟨b, j, none⟩ = some (.int .u32 (u y)) := by
                rw [ey]
                exact cell_at J.out.1 j _ (uC_get _ j (by rw [addN_len, list_len]; omega))
              have cx : wr.cell? ⟨x0, j, none⟩ = some (.int .u32 (u x)) := by
                rw [ex]
                exact cell_at J.out.2.1 j _ (uC_get _ j (by rw [list_len]; omega))
              have fw : wr.frozen? ⟨b, j, none⟩ = false := by simp [World.frozen?, J.out.1]
              have HK := hid (And.intro ey ex)
              clear ey ex
              go_wp2
              go_region
              go_wp2
              refine ⟨⟨j + 1, by omega, rfl, ?_, ?_, (J.out.2.2.setCell j _).same rfl rfl rfl rfl⟩, by simp [intOf]; omega⟩
              · refine (blk_set J.out.1 _ _).trans ?_
                rw [uC_set _ _ _ (y + x) (by rw [u_add]), addN, HK.out.1, HK.out.2]
              · exact (Below.heap_setCell _ _ _ _ (by have := G.out.2.2.2.2.2.2.2.2.1; show x0 ≠ b; omega)).trans J.out.2.1
        · have hk2 : (t : Int) < 64 := by omega
          have ht0 : (0 : Int) ≤ (t : Int) := Int.natCast_nonneg _
          obtain ⟨k, ek⟩ : ∃ x, x = kList.getD t 0 := ⟨_, rfl⟩
          obtain ⟨x, ex⟩ : ∃ x, x = W.getD t 0 := ⟨_, rfl⟩
          have xc : ∀ j v, (uC X.list)[j]? = some v → wr.cell? ⟨x0, 0 + j, none⟩ = some v := heap_cells R.out.1
          have c0 : wr.cell? ⟨x0, 0, none⟩ = some (.int .u32 (u X.a)) := xc 0 _ rfl
          have c1 : wr.cell? ⟨x0, 1, none⟩ = some (.int .u32 (u X.b)) := xc 1 _ rfl
          have c2 : wr.cell? ⟨x0, 2, none⟩ = some (.int .u32 (u X.c)) := xc 2 _ rfl
          have c3 : wr.cell? ⟨x0, 3, none⟩ = some (.int .u32 (u X.d)) := xc 3 _ rfl
          have c4 : wr.cell? ⟨x0, 4, none⟩ = some (.int .u32 (u X.e)) := xc 4 _ rfl
          have c5 : wr.cell? ⟨x0, 5, none⟩ = some (.int .u32 (u X.f)) := xc 5 _ rfl
          have c6 : wr.cell? ⟨x0, 6, none⟩ = some (.int .u32 (u X.g)) := xc 6 _ rfl
          have c7 : wr.cell? ⟨x0, 7, none⟩ = some (.int .u32 (u X.h)) := xc 7 _ rfl
          have ck : wr.cell? ⟨k0, t, none⟩ = some (.int .u32 (u k)) := by
            rw [R.out.2.1.cell k0 t (lt_of_blk G.out.2.2.1) (by have := G.out.2.2.2.2.2.2.2.2.2; omega), ek]
            have hk7 := G.out.2.2.1
            rw [kC_def] at hk7
            exact cell_at hk7 t _ (uC_get kList t (by rw [kList_len2]; omega))
          have cx : wr.cell? ⟨gw, t, none⟩ = some (.int .u32 (u x)) := by
            rw [R.out.2.1.cell gw t (Nat.lt_trans G.out.2.2.2.2.2.2.2.1 (lt_of_blk G.out.1)) (by have := G.out.2.2.2.2.2.2.2.1; omega), ex]
            exact G.out.2.2.2.1 t (by omega)
          have HK := hid (And.intro ek (And.intro ex (by omega : t < 64)))
          clear xc ek ex ht ht64
          go_wp2
          go_quiet (fail)
          go_wp2_with (go_at_call 56; refine (turn_any _ _ _ (by decide)).mono ?_; rintro e wt ⟨rfl, rfl⟩)
          go_quiet (fail)
          go_wp2_with (first
            | (go_at_call 56; refine (turn_any _ _ _ (by decide)).mono ?_; rintro e wt ⟨rfl, rfl⟩)
            | (refine wl_store_row rfl 74 _ _ rfl x0 0 rfl 74 (uC X.list) (uC (round1 X k x).list) ?hx (by exact R.out.1) 8 (by rw [uC_len]; exact list_len _) Try.size74 (by rw [uC_len, list_len]; decide) (uC_one _) ?_; rotate_left; intro w8 h8 e8))
          · refine ⟨⟨t + 1, round1 X k x, by have := HK.out.2.2; omega, rfl, ?_, ?_, ?_⟩, by simp [intOf]; omega⟩
            · have := h8.out
              rwa [splice_all _ _ (by rw [uC_len, uC_len, list_len, list_len])] at this
            · rw [e8.out]
              exact (R.out.2.1.drewN _).setRow _
            · have := R.out.2.2
              rw [show 64 - t = 64 - (t + 1) + 1 by have := HK.out.2.2; omega, roundsN, ← HK.out.1, ← HK.out.2.1] at this
              exact this
          · simp only [Sg0_val, Sg1_val, ch_valx, maj_valx]
            refine list8 ?_ ?_
            · simp only [round1, rU, rV, u_sum]
              omega
            · simp only [round1, rU, u_sum]
              omega
end Go.Proofs.Ytebhkifjommpjaa
