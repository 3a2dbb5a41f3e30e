/- The document's words of a block. -/
import Derived.Test.YtebhkifjommpjaaShM
import Derived.OrdersHeld
import Derived.BigQuiet
namespace Go.Proofs.Ytebhkifjommpjaa
open Go.RowKit

theorem Try.infw73 : (Try.prog.info? 73).map (fun i => (i.zero, i.size, i.bytes)) = some (some (.int .u32 0), 1, 4) := by kernel_rfl

/-- The slice v holds the words l; nothing below B has turned since w0. -/
structure OwnedU (B : Nat) (w0 w : World) (v : Value) (l : List (BitVec 32)) : Prop where
  own : w.ownsRow B 73 1 v l.length (uC l)
  bel : Below B w0 w
  le : B ≤ w.heap.size
theorem OwnedU.alloc {B : Nat} {w0 w : World} {v : Value} {l : List (BitVec 32)} (h : OwnedU B w0 w v l) (o : Obj) : OwnedU B w0 (w.alloc o) v l :=
  ⟨h.own.alloc o, h.bel.alloc h.le o, by have := h.le; simp; omega⟩
theorem OwnedU.drew {B : Nat} {w0 w : World} {v : Value} {l : List (BitVec 32)} (h : OwnedU B w0 w v l) : OwnedU B w0 w.drew v l :=
  ⟨ownsRow_heap rfl h.own, h.bel.drew, h.le⟩
theorem OwnedU.drewN {B : Nat} {w0 w : World} {v : Value} {l : List (BitVec 32)} (h : OwnedU B w0 w v l) (n : Nat) : OwnedU B w0 (w.drewN n) v l :=
  ⟨ownsRow_heap rfl h.own, Below.same h.bel rfl rfl rfl rfl, h.le⟩
theorem OwnedU.grow {B : Nat} {w0 w w2 : World} {v v2 : Value} {l xs : List (BitVec 32)} {m : Nat} (h : OwnedU B w0 w v l) (hm : xs.length = m) (h2 : w2.ownsRow B 73 1 v2 (l.length + m) (uC l ++ uC xs)) (hg : w.grownBy w2 v.ownBlock) : OwnedU B w0 w2 v2 (l ++ xs) :=
  ⟨by rw [List.length_append, uC_app, hm]; exact h2, h.bel.grown hg h.le (fun k hk => (h.own.lt k hk).1), Nat.le_trans h.le hg.size⟩
theorem OwnedU.form {B : Nat} {w0 w : World} {v : Value} {l : List (BitVec 32)} (h : OwnedU B w0 w v l) : ∃ a cap, v = .slice a l.length cap := by
  rcases h.own.2 with ⟨hv, h0⟩ | ⟨g, cap, cur, hv, _⟩
  · exact ⟨none, 0, by rw [hv, h0]⟩
  · exact ⟨_, _, hv⟩
theorem OwnedU.form1 {B : Nat} {w0 w : World} {v : Value} {l : List (BitVec 32)} (h : OwnedU B w0 w v l) (hl : 0 < l.length) : ∃ g cap, v = .slice (some ⟨g, 0, none⟩) l.length cap ∧ ∀ j, j < l.length → w.cell? ⟨g, j, none⟩ = some (.int .u32 (u (l.getD j 0))) := by
  rcases h.own.2 with ⟨_, h0⟩ | ⟨g, cap, cur, hv, _⟩
  · omega
  · refine ⟨g, cap, hv, fun j hj => ?_⟩
    subst hv
    have := h.own.cells (g := g) rfl j _ (uC_get l j hj)
    rwa [Addr.add_lit, Nat.zero_add] at this

section
variable {P : Program} {o : Oper} {a : Act} {w : World} {K : Act → World → Prop} {Q : Exit → Act → World → Prop} {ops : Array Oper}
theorem wpOp_k {i : Nat} (hi : ops[i]? = some o) (hgd : o.guard = none) (h : ∀ K' : Act → World → Prop, (∀ a w, K a w → K' a w) → o.wp P a w K' Q) : wpOp P ops Q i K a w := by
  unfold Go.wpOp
  simp only [hi]
  have hw : Region.wanted o (yielded ops a.tmps) = true := by simp [Region.wanted, hgd]
  simp only [hw, if_true]
  exact .inl (h K (fun _ _ h => h))
end

theorem be4_or (a b c d : UInt8) : ((bW a <<< 24 ||| bW b <<< 16) ||| bW c <<< 8) ||| bW d = be4 a b c d := by
  rw [← four_bytes]
  simp only [BitVec.shiftLeft_or_distrib, ← BitVec.shiftLeft_add]
  simp
theorem be4_val (a b c d : UInt8) : bits .or .u32 (bits .or .u32 (bits .or .u32 ((a.toNat : Int) * 16777216 % 4294967296) ((b.toNat : Int) * 65536 % 4294967296)) ((c.toNat : Int) * 256 % 4294967296)) (d.toNat : Int) = u (be4 a b c d) := by
  rw [u_bW, u_bW, u_bW, u_bW, show (16777216 : Int) = ((2 ^ 24 : Nat) : Int) from rfl, show (65536 : Int) = ((2 ^ 16 : Nat) : Int) from rfl, show (256 : Int) = ((2 ^ 8 : Nat) : Int) from rfl, u_shl, u_shl, u_shl, u_or, u_or, u_or, be4_or]

theorem wrap_u32 (x : Int) : IntKind.u32.wrap x = x % 4294967296 := by simp [IntKind.wrap, IntKind.bits, IntKind.signed]
theorem be4_wrap (a b c d : UInt8) : bits .or .u32 (bits .or .u32 (bits .or .u32 (IntKind.u32.wrap (IntKind.u32.wrap (a.toNat : Int) * 16777216)) (IntKind.u32.wrap (IntKind.u32.wrap (b.toNat : Int) * 65536))) (IntKind.u32.wrap (IntKind.u32.wrap (c.toNat : Int) * 256))) (IntKind.u32.wrap (d.toNat : Int)) = u (be4 a b c d) := by
  have h : ∀ x : UInt8, (x.toNat : Int) % 4294967296 = (x.toNat : Int) := fun x => Int.emod_eq_of_lt (Int.natCast_nonneg _) (by have := x.toNat_lt; omega)
  simp only [wrap_u32, h]
  exact be4_val a b c d

theorem next_wrap (x1 x2 x3 x4 : BitVec 32) : IntKind.u32.wrap (IntKind.u32.wrap (IntKind.u32.wrap (bits .xor .u32 (bits .xor .u32 (u (rotr x2 17)) (u (rotr x2 19))) (u x2 / 1024) + u x3) + bits .xor .u32 (bits .xor .u32 (u (rotr x1 7)) (u (rotr x1 18))) (u x1 / 8)) + u x4) = u (sg1 x2 + x3 + sg0 x1 + x4) := by
  simp only [wrap_u32, sg1_val, sg0_val, u_add]

theorem words_take (L : List UInt8) (hL : L.length = 64) (q : Nat) (hq : q < 16) : (words16 16 L).take (q + 1) = (words16 16 L).take q ++ [be4 (L.getD (4 * q) 0) (L.getD (4 * q + 1) 0) (L.getD (4 * q + 2) 0) (L.getD (4 * q + 3) 0)] := by
  have h : ∀ m, m ≤ 16 → (words16 16 L).take m = words16 m (L.take (4 * m)) := by
    intro m hm
    have e1 := pw_all L hL
    have e2 := pw_words L hL m hm
    have hl : (words16 m (L.take (4 * m))).length = m := words16_len m _ (by simp; omega)
    have key : ∀ (r : Nat), m + r = 16 → (words16 16 L).take m = words16 m (L.take (4 * m)) := by
      intro r
      induction r generalizing m with
      | zero => intro hr; obtain rfl : m = 16 := by omega
                rw [List.take_of_length_le (by rw [words16_len 16 L (by omega)]; exact Nat.le_refl _), List.take_of_length_le (by omega)]
      | succ r ih =>
        intro hr
        have h1 := ih (m + 1) (by omega) (pw_words L hL (m + 1) (by omega)) (words16_len (m + 1) _ (by simp; omega)) (by omega)
        rw [show 4 * (m + 1) = 4 * m + 4 by omega, take4 L (4 * m) (by omega), words16_snoc m _ (by simp; omega)] at h1
        have h2 : (words16 16 L).take m = ((words16 16 L).take (m + 1)).take m := by rw [List.take_take, Nat.min_eq_left (by omega)]
        rw [h2, h1, List.take_append_of_le_length (by rw [hl]; exact Nat.le_refl _), List.take_of_length_le (by rw [hl]; exact Nat.le_refl _)]
    exact key (16 - m) (by omega)
  rw [h (q + 1) (by omega), h q (by omega), show 4 * (q + 1) = 4 * q + 4 by omega, take4 L (4 * q) (by omega), words16_snoc q _ (by simp; omega)]

set_option maxRecDepth 100000 in
set_option maxHeartbeats 3200000 in
theorem qwords_any (g off cap : Nat) (L : List UInt8) (hL : L.length = 64) (w : World) (hg : g < w.heap.size) (hc : ∀ j v, (bC L)[j]? = some v → w.cell? ⟨g, off + j, none⟩ = some v) :
    Calls Try.prog 55 #[.slice (some ⟨g, off, none⟩) 64 cap] w fun e w' => ∃ v, e = .returned v ∧ OwnedU w.heap.size w w' v (sched L) := by
  obtain ⟨i0, hi0, hz0, hz1, hz2⟩ := info_parts Try.infw73
  have HL := hid (And.intro hL (And.intro hg hc))
  clear hL hg hc
  go_enter Try.func55, Try.ntmps55
  go_wp2
  go_loopw [3, 4] (fun v i wr => ∃ q : Nat, q ≤ 16 ∧ i = .int .i64 ((4 * q : Nat) : Int) ∧ OwnedU w.heap.size w wr v ((words16 16 L).take q))
    (fun _ i _ => (64 - intOf i).toNat)
  case atStart => exact ⟨0, by omega, rfl, ⟨rfl, .inl ⟨rfl, rfl⟩⟩, Below.refl _ _, Nat.le_refl _⟩
  case round =>
    obtain ⟨q, hq, rfl, hO⟩ := hrel
    by_cases hq16 : q = 16
    · have hO2 : OwnedU w.heap.size w wr u3 (words16 16 L) := by
        rw [hq16, List.take_of_length_le (by rw [words16_len 16 L (by rw [HL.out.1])]; exact Nat.le_refl _)] at hO
        exact hO
      have HO2 := hid hO2
      have hk1 : ¬ (((4 * q : Nat) : Int) < 64) := by omega
      clear hO hO2 hq hq16
      go_wp2
      have hb4 : decide (4 * (q : Int) < 64) = false := by simp; omega
      try rw [hb4]
      clear hb4
      go_loopw [3, 5] (fun v i wr => ∃ (l : List (BitVec 32)) (m : Nat), l.length = m + 16 ∧ m ≤ 48 ∧ i = .int .i64 ((m : Int) + 16) ∧ moreW (48 - m) l = sched L ∧ OwnedU w.heap.size w wr v l)
        (fun _ i _ => (64 - intOf i).toNat)
      case atStart => exact ⟨words16 16 L, 0, by rw [words16_len 16 L (by rw [HL.out.1])], by omega, rfl, rfl, HO2.out⟩
      case round =>
        clear HO2
        obtain ⟨l, m, hl, hm, rfl, hs, hO⟩ := hrel
        by_cases hm48 : m = 48
        · have HO := hid (And.intro hO (And.intro hs hm48))
          have hk2 : ¬ ((m : Int) + 16 < 64) := by omega
          clear hO hs hl hm hm48
          go_wp2
          go_ret
          have e := HO.out.2.1
          rw [HO.out.2.2] at e
          exact ⟨_, rfl, by rw [← e]; exact HO.out.1⟩
        · have hm1 : (m : Int) < 48 := by omega
          have hm0 : (0 : Int) ≤ (m : Int) := Int.natCast_nonneg _
          obtain ⟨gv, cv, hv, cell⟩ := hO.form1 (by omega)
          rw [hl] at hv cell
          subst hv
          obtain ⟨x1, e1⟩ : ∃ x, x = l.getD (m + 1) 0 := ⟨_, rfl⟩
          obtain ⟨x2, e2⟩ : ∃ x, x = l.getD (m + 14) 0 := ⟨_, rfl⟩
          obtain ⟨x3, e3⟩ : ∃ x, x = l.getD (m + 9) 0 := ⟨_, rfl⟩
          obtain ⟨x4, e4⟩ : ∃ x, x = l.getD m 0 := ⟨_, rfl⟩
          have c1 := cell (m + 1) (by omega)
          have c2 := cell (m + 14) (by omega)
          have c3 := cell (m + 9) (by omega)
          have c4 := cell m (by omega)
          rw [← e1] at c1
          rw [← e2] at c2
          rw [← e3] at c3
          rw [← e4] at c4
          have en : nextW l = sg1 x2 + x3 + sg0 x1 + x4 := by
            rw [nextW, hl, e1, e2, e3, e4, show m + 16 - 2 = m + 14 by omega, show m + 16 - 7 = m + 9 by omega, show m + 16 - 15 = m + 1 by omega, show m + 16 - 16 = m by omega]
          have HO := hid hO
          have HX := hid (And.intro en (And.intro hl (And.intro hs hm)))
          clear e1 e2 e3 e4 cell en hO hl hs hm hm48
          go_wp2
          go_quiet (fail)
          go_wp2_with (go_at_call 56; refine (turn_any _ _ _ (by decide)).mono ?_; rintro e w1 ⟨rfl, rfl⟩)
          have h9 : (0 : Int) ≤ (m : Int) + 9 := by omega
          have hmm : (m : Int) < (m : Int) + 16 := by omega
          have ht9 : ((m : Int) + 9).toNat = m + 9 := by omega
          refine wp_region_any (by kernel_rfl) ?_
          try (change wpAny _ _ _ _ _ _ _ (World.drew _))
          refine wpAny_take (i := 0) (v := ?v1) rfl (by kernel_rfl) (by kernel_rfl) (by kernel_rfl) (fun _ _ _ h => h) (Or.inl ⟨by rfl, ?hy1⟩) ?rest1
          case hy1 => (intro ww; go_simp; try with_reducible rfl)
          go_simp
          refine wpAny_take (i := 1) (v := ?v2) rfl (by kernel_rfl) (by kernel_rfl) (by kernel_rfl) (fun _ _ _ h => h) (Or.inl ⟨by rfl, ?hy2⟩) ?rest2
          case hy2 => (intro ww; go_simp; try with_reducible rfl)
          go_simp
          refine wpAny_take (i := 2) (v := ?v3) rfl (by kernel_rfl) (by kernel_rfl) (by kernel_rfl) (fun _ _ _ h => h) (Or.inl ⟨by rfl, ?hy3⟩) ?rest3
          case hy3 => (intro ww; go_simp; try with_reducible rfl)
          go_simp
          refine wpAny_take (i := 3) (v := ?v4) rfl (by kernel_rfl) (by kernel_rfl) (by kernel_rfl) (fun _ _ _ h => h) (Or.inl ⟨by rfl, ?hy4⟩) ?rest4
          case hy4 => (intro ww; go_simp; try with_reducible rfl)
          go_simp
          refine wpAny_take (i := 4) (v := .int .i64 ((m : Int) + 9)) rfl (by kernel_rfl) (by kernel_rfl) (by kernel_rfl) (fun _ _ _ h => h) (Or.inl ⟨by rfl, ?_⟩) ?_
          · intro ww; go_simp; rw [wrap_small _ (by omega) (by omega)]; omega
          go_simp
          refine wpAny_take (i := 5) (v := ?v5) rfl (by kernel_rfl) (by kernel_rfl) (by kernel_rfl) (fun _ _ _ h => h) (Or.inl ⟨by rfl, ?hy5⟩) ?rest5
          case hy5 => (intro ww; go_simp; try with_reducible rfl)
          go_simp
          refine wpAny_take (i := 8) (v := ?v6) rfl (by kernel_rfl) (by kernel_rfl) (by kernel_rfl) (fun _ _ _ h => h) (Or.inl ⟨by rfl, ?hy6⟩) ?rest6
          case hy6 => (intro ww; go_simp; try with_reducible rfl)
          go_simp
          refine wpAny_take (i := 10) (v := ?v7) rfl (by kernel_rfl) (by kernel_rfl) (by kernel_rfl) (fun _ _ _ h => h) (Or.inl ⟨by rfl, ?hy7⟩) ?rest7
          case hy7 => (intro ww; go_simp; try with_reducible rfl)
          go_simp
          refine wpAny_take (i := 11) (v := ?v8) rfl (by kernel_rfl) (by kernel_rfl) (by kernel_rfl) (fun _ _ _ h => h) (Or.inl ⟨by rfl, ?hy8⟩) ?rest8
          case hy8 => (intro ww; go_simp; try with_reducible rfl)
          go_simp
          refine wpAny_take (i := 12) (v := .int .i64 (m : Int)) rfl (by kernel_rfl) (by kernel_rfl) (by kernel_rfl) (fun _ _ _ h => h) (Or.inl ⟨by rfl, ?_⟩) ?_
          · intro ww; go_simp; exact wrap_small _ (by omega) (by omega)
          go_simp
          refine wpAny_take (i := 13) (v := ?v9) rfl (by kernel_rfl) (by kernel_rfl) (by kernel_rfl) (fun _ _ _ h => h) (Or.inl ⟨by rfl, ?hy9⟩) ?rest9
          case hy9 => (intro ww; go_simp; try with_reducible rfl)
          go_simp
          refine wpAny_ready (rs := [6, 14]) (by kernel_rfl) (by simp) ?_
          refine AllReady.cons rfl (fun K hK => ?_) ?_
          · go_simp
            refine hK _ _ ?_
            clear hK K
            refine wpAny_take (i := 7) (v := ?v10) rfl (by kernel_rfl) (by kernel_rfl) (by kernel_rfl) (fun _ _ _ h => h) (Or.inl ⟨by rfl, ?hy10⟩) ?rest10
            case hy10 => (intro ww; go_simp; try with_reducible rfl)
            go_simp
            refine wpAny_take (i := 9) (v := ?v11) rfl (by kernel_rfl) (by kernel_rfl) (by kernel_rfl) (fun _ _ _ h => h) (Or.inl ⟨by rfl, ?hy11⟩) ?rest11
            case hy11 => (intro ww; go_simp; try with_reducible rfl)
            go_simp
            refine wpAny_ready (rs := [14]) (by kernel_rfl) (by simp) ?_
            refine AllReady.cons rfl (fun K hK => ?_) ?_
            · go_simp
              refine hK _ _ ?_
              clear hK K
              refine wpAny_take (i := 15) (v := ?v12) rfl (by kernel_rfl) (by kernel_rfl) (by kernel_rfl) (fun _ _ _ h => h) (Or.inl ⟨by rfl, ?hy12⟩) ?rest12
              case hy12 => (intro ww; go_simp; try with_reducible rfl)
              go_simp
              refine wpAny_ready (rs := [16]) (by kernel_rfl) (by simp) ?_
              refine AllReady.cons rfl (fun K hK => ?_) ?_
              · go_simp
                refine hK _ _ ?_
                clear hK K
                rw [next_wrap]
                refine wpAny_ready (rs := [17]) (by kernel_rfl) (by simp) ?_
                refine AllReady.cons rfl (fun K hK => ?_) ?_
                · refine step_of rfl ?_
                  refine wp_append_own _ _ _ 75 rfl w.heap.size 73 i0 (.int .u32 0) 1 4 Try.underlying75 hi0 hz0 hz1 hz2 rfl (by decide) _ _ _ rfl ((HO.out.drewN nq).alloc _).drew.own ⟨wr.heap.size, 0, none⟩ 1 1 (uC [sg1 x2 + x3 + sg0 x1 + x4]) rfl rfl (World.news_of_block (t := 73) (fr := (0, 0)) (heap_alloc_last wr _)) (uC_one _) (by rw [HX.out.2.1]; have := HX.out.2.2.2; unfold maxLen; omega) (by rw [HX.out.2.1]; have := HX.out.2.2.2; omega) (HO.out.alloc _).le ?_
                  intro v3 w3 hown3 hgrow3 i3
                  have HO3 := hid (((HO.out.drewN nq).alloc _).drew.grow (xs := [sg1 x2 + x3 + sg0 x1 + x4]) rfl hown3 hgrow3)
                  refine hK _ _ ?_
                  clear hown3 hgrow3 i3 hK K
                  go_simp
                  refine wpAny_take (i := 18) (v := ?v13) rfl (by kernel_rfl) (by kernel_rfl) (by kernel_rfl) (fun _ _ _ h => h) (Or.inl ⟨by rfl, ?hy13⟩) ?rest13
                  case hy13 => (intro ww; go_simp; try with_reducible rfl)
                  go_simp
                  refine wpAny_done (by kernel_rfl) ?_ _
                  go_simp
                  go_wp2
                  refine ⟨⟨l ++ [nextW l], m + 1, by rw [List.length_append, HX.out.2.1]; rfl, by omega, by rw [show ((m + 1 : Nat) : Int) + 16 = (m : Int) + 16 + 1 by omega], ?_, by rw [HX.out.1]; exact HO3.out⟩, by simp [intOf]; omega⟩
                  have := HX.out.2.2.1
                  rw [show 48 - m = 48 - (m + 1) + 1 by omega, moreW] at this
                  exact this
                exact AllReady.nil
              exact AllReady.nil
            exact AllReady.nil
          refine AllReady.cons rfl (fun K hK => ?_) ?_
          · go_simp
            refine hK _ _ ?_
            clear hK K
            refine wpAny_ready (rs := [6]) (by kernel_rfl) (by simp) ?_
            refine AllReady.cons rfl (fun K hK => ?_) ?_
            · go_simp
              refine hK _ _ ?_
              clear hK K
              refine wpAny_take (i := 7) (v := ?v14) rfl (by kernel_rfl) (by kernel_rfl) (by kernel_rfl) (fun _ _ _ h => h) (Or.inl ⟨by rfl, ?hy14⟩) ?rest14
              case hy14 => (intro ww; go_simp; try with_reducible rfl)
              go_simp
              refine wpAny_take (i := 9) (v := ?v15) rfl (by kernel_rfl) (by kernel_rfl) (by kernel_rfl) (fun _ _ _ h => h) (Or.inl ⟨by rfl, ?hy15⟩) ?rest15
              case hy15 => (intro ww; go_simp; try with_reducible rfl)
              go_simp
              refine wpAny_take (i := 15) (v := ?v16) rfl (by kernel_rfl) (by kernel_rfl) (by kernel_rfl) (fun _ _ _ h => h) (Or.inl ⟨by rfl, ?hy16⟩) ?rest16
              case hy16 => (intro ww; go_simp; try with_reducible rfl)
              go_simp
              refine wpAny_ready (rs := [16]) (by kernel_rfl) (by simp) ?_
              refine AllReady.cons rfl (fun K hK => ?_) ?_
              · go_simp
                refine hK _ _ ?_
                clear hK K
                rw [next_wrap]
                refine wpAny_ready (rs := [17]) (by kernel_rfl) (by simp) ?_
                refine AllReady.cons rfl (fun K hK => ?_) ?_
                · refine step_of rfl ?_
                  refine wp_append_own _ _ _ 75 rfl w.heap.size 73 i0 (.int .u32 0) 1 4 Try.underlying75 hi0 hz0 hz1 hz2 rfl (by decide) _ _ _ rfl ((HO.out.drewN nq).alloc _).drew.own ⟨wr.heap.size, 0, none⟩ 1 1 (uC [sg1 x2 + x3 + sg0 x1 + x4]) rfl rfl (World.news_of_block (t := 73) (fr := (0, 0)) (heap_alloc_last wr _)) (uC_one _) (by rw [HX.out.2.1]; have := HX.out.2.2.2; unfold maxLen; omega) (by rw [HX.out.2.1]; have := HX.out.2.2.2; omega) (HO.out.alloc _).le ?_
                  intro v3 w3 hown3 hgrow3 i3
                  have HO3 := hid (((HO.out.drewN nq).alloc _).drew.grow (xs := [sg1 x2 + x3 + sg0 x1 + x4]) rfl hown3 hgrow3)
                  refine hK _ _ ?_
                  clear hown3 hgrow3 i3 hK K
                  go_simp
                  refine wpAny_take (i := 18) (v := ?v17) rfl (by kernel_rfl) (by kernel_rfl) (by kernel_rfl) (fun _ _ _ h => h) (Or.inl ⟨by rfl, ?hy17⟩) ?rest17
                  case hy17 => (intro ww; go_simp; try with_reducible rfl)
                  go_simp
                  refine wpAny_done (by kernel_rfl) ?_ _
                  go_simp
                  go_wp2
                  refine ⟨⟨l ++ [nextW l], m + 1, by rw [List.length_append, HX.out.2.1]; rfl, by omega, by rw [show ((m + 1 : Nat) : Int) + 16 = (m : Int) + 16 + 1 by omega], ?_, by rw [HX.out.1]; exact HO3.out⟩, by simp [intOf]; omega⟩
                  have := HX.out.2.2.1
                  rw [show 48 - m = 48 - (m + 1) + 1 by omega, moreW] at this
                  exact this
                exact AllReady.nil
              exact AllReady.nil
            exact AllReady.nil
          exact AllReady.nil
    · have hk1 : ((4 * q : Nat) : Int) < 64 := by omega
      obtain ⟨p, ep⟩ : ∃ p, p = 4 * q := ⟨_, rfl⟩
      have hlen : ((words16 16 L).take q).length = q := by rw [List.length_take, words16_len 16 L (by rw [HL.out.1])]; omega
      obtain ⟨av, cv, hv⟩ := hO.form
      rw [hlen] at hv
      subst hv
      have ew := words_take L HL.out.1 q (by omega)
      rw [← ep] at hk1 ew ⊢
      obtain ⟨a, ea⟩ : ∃ x, x = L.getD p 0 := ⟨_, rfl⟩
      obtain ⟨b, eb⟩ : ∃ x, x = L.getD (p + 1) 0 := ⟨_, rfl⟩
      obtain ⟨c, ec⟩ : ∃ x, x = L.getD (p + 2) 0 := ⟨_, rfl⟩
      obtain ⟨d, ed⟩ : ∃ x, x = L.getD (p + 3) 0 := ⟨_, rfl⟩
      rw [← ea, ← eb, ← ec, ← ed] at ew
      have HC : Hid (∀ ww : World, ww.heap[g]? = w.heap[g]? → ww.cell? ⟨g, off + p, none⟩ = some (.int .u8 (a.toNat : Int)) ∧ ww.cell? ⟨g, off + (p + 1), none⟩ = some (.int .u8 (b.toNat : Int)) ∧ ww.cell? ⟨g, off + (p + 2), none⟩ = some (.int .u8 (c.toNat : Int)) ∧ ww.cell? ⟨g, off + (p + 3), none⟩ = some (.int .u8 (d.toNat : Int))) := hid (by
        intro ww hS
        have hcl : ∀ j, ww.cell? ⟨g, j, none⟩ = w.cell? ⟨g, j, none⟩ := fun j => by simp only [World.cell?, hS]
        have hb : ∀ j, j < 64 → ww.cell? ⟨g, off + j, none⟩ = some (.int .u8 ((L.getD j 0).toNat : Int)) := fun j hj => (hcl _).trans (HL.out.2.2 j _ (bC_get L j (by rw [HL.out.1]; exact hj)))
        rw [ea, eb, ec, ed]
        exact ⟨hb p (by omega), hb (p + 1) (by omega), hb (p + 2) (by omega), hb (p + 3) (by omega)⟩)
      have HO := hid hO
      have HSW : Hid (wr.heap[g]? = w.heap[g]?) := hid (hO.bel.block g HL.out.2.1)
      have HW := hid (And.intro ew (And.intro hlen (And.intro hq ep)))
      have hp0 : (0 : Int) ≤ (p : Int) := Int.natCast_nonneg _
      have hp1 : (p : Int) + 1 < 64 := by omega
      have hp2 : (p : Int) + 2 < 64 := by omega
      have hp3 : (p : Int) + 3 < 64 := by omega
      have hp4 : (0 : Int) ≤ (p : Int) + 1 := by omega
      have hp5 : (0 : Int) ≤ (p : Int) + 2 := by omega
      have hp6 : (0 : Int) ≤ (p : Int) + 3 := by omega
      have ht2 : ((p : Int) + 2).toNat = p + 2 := by omega
      have ht3 : ((p : Int) + 3).toNat = p + 3 := by omega
      clear ea eb ec ed hO ew hlen hq hq16 ep
      go_wp2
      refine wp_region_held (S := fun ww => ww.heap[g]? = w.heap[g]?) (by kernel_rfl) ?_
      try (change wpAnyH _ _ _ _ _ _ _ _ (World.drew _))
      refine wpAnyH_take (i := 0) (v := ?v18) rfl (by kernel_rfl) (by kernel_rfl) (by kernel_rfl) (fun _ _ _ h => h) (Or.inl ⟨by rfl, ?hy18⟩) HSW.out ?rest18
      case hy18 => (intro ww _; go_simp; try with_reducible rfl)
      go_simp
      refine wpAnyH_take (i := 1) (v := ?v19) rfl (by kernel_rfl) (by kernel_rfl) (by kernel_rfl) (fun _ _ _ h => h) (Or.inl ⟨by rfl, ?hy19⟩) HSW.out ?rest19
      case hy19 => (intro ww _; go_simp; try with_reducible rfl)
      go_simp
      refine wpAnyH_take (i := 2) (v := ?v20) rfl (by kernel_rfl) (by kernel_rfl) (by kernel_rfl) (fun _ _ _ h => h) (Or.inl ⟨by rfl, ?hy20⟩) HSW.out ?rest20
      case hy20 => (intro ww _; go_simp; try with_reducible rfl)
      go_simp
      refine wpAnyH_take (i := 3) (v := ?v21) rfl (by kernel_rfl) (by kernel_rfl) (by kernel_rfl) (fun _ _ _ h => h) (Or.inl ⟨by rfl, ?hy21⟩) HSW.out ?rest21
      case hy21 => (intro ww _; go_simp; try with_reducible rfl)
      go_simp
      refine wpAnyH_take (i := 4) (v := ?v22) rfl (by kernel_rfl) (by kernel_rfl) (by kernel_rfl) (fun _ _ _ h => h) (Or.inl ⟨by rfl, ?hy22⟩) HSW.out ?rest22
      case hy22 => (intro ww hS; obtain ⟨z0, z1, z2, z3⟩ := HC.out ww hS; go_simp; try with_reducible rfl)
      go_simp
      refine wpAnyH_take (i := 5) (v := ?v23) rfl (by kernel_rfl) (by kernel_rfl) (by kernel_rfl) (fun _ _ _ h => h) (Or.inl ⟨by rfl, ?hy23⟩) HSW.out ?rest23
      case hy23 => (intro ww _; go_simp; try with_reducible rfl)
      go_simp
      refine wpAnyH_take (i := 6) (v := ?v24) rfl (by kernel_rfl) (by kernel_rfl) (by kernel_rfl) (fun _ _ _ h => h) (Or.inl ⟨by rfl, ?hy24⟩) HSW.out ?rest24
      case hy24 => (intro ww _; go_simp; try with_reducible rfl)
      go_simp
      refine wpAnyH_take (i := 7) (v := ?v25) rfl (by kernel_rfl) (by kernel_rfl) (by kernel_rfl) (fun _ _ _ h => h) (Or.inl ⟨by rfl, ?hy25⟩) HSW.out ?rest25
      case hy25 => (intro ww _; go_simp; try with_reducible rfl)
      go_simp
      refine wpAnyH_take (i := 8) (v := ?v26) rfl (by kernel_rfl) (by kernel_rfl) (by kernel_rfl) (fun _ _ _ h => h) (Or.inl ⟨by rfl, ?hy26⟩) HSW.out ?rest26
      case hy26 => (intro ww _; go_simp; try with_reducible rfl)
      go_simp
      refine wpAnyH_take (i := 9) (v := .int .i64 ((p : Int) + 1)) rfl (by kernel_rfl) (by kernel_rfl) (by kernel_rfl) (fun _ _ _ h => h) (Or.inl ⟨by rfl, ?_⟩) HSW.out ?_
      · intro ww _; go_simp; exact wrap_small _ (by omega) (by omega)
      go_simp
      refine wpAnyH_take (i := 10) (v := ?v27) rfl (by kernel_rfl) (by kernel_rfl) (by kernel_rfl) (fun _ _ _ h => h) (Or.inl ⟨by rfl, ?hy27⟩) HSW.out ?rest27
      case hy27 => (intro ww _; go_simp; try with_reducible rfl)
      go_simp
      refine wpAnyH_take (i := 11) (v := ?v28) rfl (by kernel_rfl) (by kernel_rfl) (by kernel_rfl) (fun _ _ _ h => h) (Or.inl ⟨by rfl, ?hy28⟩) HSW.out ?rest28
      case hy28 => (intro ww hS; obtain ⟨z0, z1, z2, z3⟩ := HC.out ww hS; go_simp; try with_reducible rfl)
      go_simp
      refine wpAnyH_take (i := 12) (v := ?v29) rfl (by kernel_rfl) (by kernel_rfl) (by kernel_rfl) (fun _ _ _ h => h) (Or.inl ⟨by rfl, ?hy29⟩) HSW.out ?rest29
      case hy29 => (intro ww _; go_simp; try with_reducible rfl)
      go_simp
      refine wpAnyH_take (i := 13) (v := ?v30) rfl (by kernel_rfl) (by kernel_rfl) (by kernel_rfl) (fun _ _ _ h => h) (Or.inl ⟨by rfl, ?hy30⟩) HSW.out ?rest30
      case hy30 => (intro ww _; go_simp; try with_reducible rfl)
      go_simp
      refine wpAnyH_take (i := 14) (v := ?v31) rfl (by kernel_rfl) (by kernel_rfl) (by kernel_rfl) (fun _ _ _ h => h) (Or.inl ⟨by rfl, ?hy31⟩) HSW.out ?rest31
      case hy31 => (intro ww _; go_simp; try with_reducible rfl)
      go_simp
      refine wpAnyH_take (i := 15) (v := ?v32) rfl (by kernel_rfl) (by kernel_rfl) (by kernel_rfl) (fun _ _ _ h => h) (Or.inl ⟨by rfl, ?hy32⟩) HSW.out ?rest32
      case hy32 => (intro ww _; go_simp; try with_reducible rfl)
      go_simp
      refine wpAnyH_take (i := 16) (v := ?v33) rfl (by kernel_rfl) (by kernel_rfl) (by kernel_rfl) (fun _ _ _ h => h) (Or.inl ⟨by rfl, ?hy33⟩) HSW.out ?rest33
      case hy33 => (intro ww _; go_simp; try with_reducible rfl)
      go_simp
      refine wpAnyH_take (i := 17) (v := .int .i64 ((p : Int) + 2)) rfl (by kernel_rfl) (by kernel_rfl) (by kernel_rfl) (fun _ _ _ h => h) (Or.inl ⟨by rfl, ?_⟩) HSW.out ?_
      · intro ww _; go_simp; exact wrap_small _ (by omega) (by omega)
      go_simp
      refine wpAnyH_take (i := 18) (v := ?v34) rfl (by kernel_rfl) (by kernel_rfl) (by kernel_rfl) (fun _ _ _ h => h) (Or.inl ⟨by rfl, ?hy34⟩) HSW.out ?rest34
      case hy34 => (intro ww _; go_simp; try with_reducible rfl)
      go_simp
      refine wpAnyH_take (i := 19) (v := ?v35) rfl (by kernel_rfl) (by kernel_rfl) (by kernel_rfl) (fun _ _ _ h => h) (Or.inl ⟨by rfl, ?hy35⟩) HSW.out ?rest35
      case hy35 => (intro ww hS; obtain ⟨z0, z1, z2, z3⟩ := HC.out ww hS; go_simp; try with_reducible rfl)
      go_simp
      refine wpAnyH_take (i := 20) (v := ?v36) rfl (by kernel_rfl) (by kernel_rfl) (by kernel_rfl) (fun _ _ _ h => h) (Or.inl ⟨by rfl, ?hy36⟩) HSW.out ?rest36
      case hy36 => (intro ww _; go_simp; try with_reducible rfl)
      go_simp
      refine wpAnyH_take (i := 21) (v := ?v37) rfl (by kernel_rfl) (by kernel_rfl) (by kernel_rfl) (fun _ _ _ h => h) (Or.inl ⟨by rfl, ?hy37⟩) HSW.out ?rest37
      case hy37 => (intro ww _; go_simp; try with_reducible rfl)
      go_simp
      refine wpAnyH_take (i := 22) (v := ?v38) rfl (by kernel_rfl) (by kernel_rfl) (by kernel_rfl) (fun _ _ _ h => h) (Or.inl ⟨by rfl, ?hy38⟩) HSW.out ?rest38
      case hy38 => (intro ww _; go_simp; try with_reducible rfl)
      go_simp
      refine wpAnyH_take (i := 23) (v := ?v39) rfl (by kernel_rfl) (by kernel_rfl) (by kernel_rfl) (fun _ _ _ h => h) (Or.inl ⟨by rfl, ?hy39⟩) HSW.out ?rest39
      case hy39 => (intro ww _; go_simp; try with_reducible rfl)
      go_simp
      refine wpAnyH_take (i := 24) (v := ?v40) rfl (by kernel_rfl) (by kernel_rfl) (by kernel_rfl) (fun _ _ _ h => h) (Or.inl ⟨by rfl, ?hy40⟩) HSW.out ?rest40
      case hy40 => (intro ww _; go_simp; try with_reducible rfl)
      go_simp
      refine wpAnyH_take (i := 25) (v := .int .i64 ((p : Int) + 3)) rfl (by kernel_rfl) (by kernel_rfl) (by kernel_rfl) (fun _ _ _ h => h) (Or.inl ⟨by rfl, ?_⟩) HSW.out ?_
      · intro ww _; go_simp; exact wrap_small _ (by omega) (by omega)
      go_simp
      refine wpAnyH_take (i := 26) (v := ?v41) rfl (by kernel_rfl) (by kernel_rfl) (by kernel_rfl) (fun _ _ _ h => h) (Or.inl ⟨by rfl, ?hy41⟩) HSW.out ?rest41
      case hy41 => (intro ww _; go_simp; try with_reducible rfl)
      go_simp
      refine wpAnyH_take (i := 27) (v := ?v42) rfl (by kernel_rfl) (by kernel_rfl) (by kernel_rfl) (fun _ _ _ h => h) (Or.inl ⟨by rfl, ?hy42⟩) HSW.out ?rest42
      case hy42 => (intro ww hS; obtain ⟨z0, z1, z2, z3⟩ := HC.out ww hS; go_simp; try with_reducible rfl)
      go_simp
      refine wpAnyH_take (i := 28) (v := ?v43) rfl (by kernel_rfl) (by kernel_rfl) (by kernel_rfl) (fun _ _ _ h => h) (Or.inl ⟨by rfl, ?hy43⟩) HSW.out ?rest43
      case hy43 => (intro ww _; go_simp; try with_reducible rfl)
      go_simp
      refine wpAnyH_take (i := 29) (v := ?v44) rfl (by kernel_rfl) (by kernel_rfl) (by kernel_rfl) (fun _ _ _ h => h) (Or.inl ⟨by rfl, ?hy44⟩) HSW.out ?rest44
      case hy44 => (intro ww _; go_simp; try with_reducible rfl)
      go_simp
      refine wpAnyH_all (rs := [30]) (by kernel_rfl) (by simp) ?_
      intro i hi
      obtain rfl := List.mem_singleton.1 hi
      clear hi
      refine wpOp_k rfl rfl (fun K hK => ?_)
      go_simp
      refine hK _ _ ⟨?_, ?_⟩
      · exact (Below.heap_alloc _ _ _ (Nat.lt_of_lt_of_le HL.out.2.1 HO.out.le)).trans HSW.out
      clear hK K
      refine wpAnyH_all (rs := [31]) (by kernel_rfl) (by simp) ?_
      intro i hi
      obtain rfl := List.mem_singleton.1 hi
      clear hi
      refine wpOp_k rfl rfl (fun K hK => ?_)
      rw [be4_wrap]
      refine wp_append_own _ _ _ 75 rfl w.heap.size 73 i0 (.int .u32 0) 1 4 Try.underlying75 hi0 hz0 hz1 hz2 rfl (by decide) _ _ _ rfl (HO.out.alloc _).drew.own ⟨wr.heap.size, 0, none⟩ 1 1 (uC [be4 a b c d]) rfl rfl (World.news_of_block (t := 73) (fr := (0, 0)) (heap_alloc_last wr _)) (uC_one _) (by rw [HW.out.2.1]; have := HW.out.2.2.1; unfold maxLen; omega) (by rw [HW.out.2.1]; have := HW.out.2.2.1; omega) (HO.out.alloc _).le ?_
      intro v3 w3 hown3 hgrow3 i3
      have HO3 := hid ((HO.out.alloc _).drew.grow (xs := [be4 a b c d]) rfl hown3 hgrow3)
      refine hK _ _ ⟨HO3.out.bel.block g HL.out.2.1, ?_⟩
      clear hown3 hgrow3 i3 hK K
      go_simp
      refine wpAnyH_take (i := 32) (v := ?v45) rfl (by kernel_rfl) (by kernel_rfl) (by kernel_rfl) (fun _ _ _ h => h) (Or.inl ⟨by rfl, ?hy45⟩) (HO3.out.bel.block g HL.out.2.1) ?rest45
      case hy45 => (intro ww _; go_simp; try with_reducible rfl)
      go_simp
      refine wpAnyH_done (by kernel_rfl) ?_ _
      go_simp
      go_wp2
      refine ⟨⟨q + 1, by have := HW.out.2.2.2; omega, by rw [show ((4 * (q + 1) : Nat) : Int) = (p : Int) + 4 by have := HW.out.2.2.2; omega], by rw [HW.out.1]; exact HO3.out⟩, by simp [intOf]; omega⟩
end Go.Proofs.Ytebhkifjommpjaa
