/- Unlike changes have unlike texts. -/
import Derived.Test.YtpflcneoojakdaaChLM
import Derived.Test.YtpflcneoojakdaaChWM
import Derived.Deep.DeepCutAuto
namespace Go.Proofs.Ytpflcneoojakdaa
open Go.RowKit

/-- Both changes in variables of their own. -/
structure UnA (w0 wx : World) (b5 b6 : Nat) (va vb : List Value) : Prop where
  x5 : BxAt wx b5 va 26
  x6 : BxAt wx b6 vb 26
  bel : Below w0.heap.size w0 wx
/-- And two certificates in variables of their own. -/
structure UnB (w0 wx : World) (b5 b6 : Nat) (va vb : List Value) (b13 b14 : Nat) (xa xb : List Value) : Prop where
  a : UnA w0 wx b5 b6 va vb
  x13 : BxAt wx b13 xa 52
  x14 : BxAt wx b14 xb 52
theorem UnA.keep {w0 wx w' : World} {b5 b6 : Nat} {va vb : List Value} (h : UnA w0 wx b5 b6 va vb) (hb : Below wx.heap.size wx w') : UnA w0 w' b5 b6 va vb := ⟨h.x5.keep hb, h.x6.keep hb, h.bel.trans (hb.mono h.bel.size)⟩
theorem UnB.keep {w0 wx w' : World} {b5 b6 : Nat} {va vb : List Value} {b13 b14 : Nat} {xa xb : List Value} (h : UnB w0 wx b5 b6 va vb b13 b14 xa xb) (hb : Below wx.heap.size wx w') : UnB w0 w' b5 b6 va vb b13 b14 xa xb := ⟨h.a.keep hb, h.x13.keep hb, h.x14.keep hb⟩
set_option maxRecDepth 100000 in
set_option maxHeartbeats 1600000 in
theorem changeUnlike_walk {F : Nat → Prop} (ep ot : Int) (A B : Cg) (aa : Option Addr) (na ka : Nat) (ab : Option Addr) (nb kb : Nat) (hA : cgR A) (hB : cgR B) (w : World) (hRA : Reads F w (.slice aa na ka) (dCts A.2.2.1)) (hRB : Reads F w (.slice ab nb kb) (dCts B.2.2.1)) :
    Calls Try.prog 6 #[.agg #[.int .i64 ep, .int .i64 ot, .int .i64 A.1, .int .i64 A.2.1, .slice aa na ka, .int .i64 A.2.2.2.1, .string A.2.2.2.2, .int .i64 B.1, .int .i64 B.2.1, .slice ab nb kb, .int .i64 B.2.2.2.1, .string B.2.2.2.2]] w fun e w' => e = .returned (.bool true) ∧ Below w.heap.size w w' := by
  have HL : Hid (∀ u : World, Calls Try.prog 9 #[] u fun e w' => e = .returned (.bool true) ∧ Below u.heap.size u w') := hid ulives_any
  have H0 : Hid (BxAt (w.alloc (.cells #[.int .i64 ep, .int .i64 ot, .int .i64 A.1, .int .i64 A.2.1, .slice aa na ka, .int .i64 A.2.2.2.1, .string A.2.2.2.2, .int .i64 B.1, .int .i64 B.2.1, .slice ab nb kb, .int .i64 B.2.2.2.1, .string B.2.2.2.2] 44)) w.heap.size [.int .i64 ep, .int .i64 ot, .int .i64 A.1, .int .i64 A.2.1, .slice aa na ka, .int .i64 A.2.2.2.1, .string A.2.2.2.2, .int .i64 B.1, .int .i64 B.2.1, .slice ab nb kb, .int .i64 B.2.2.2.1, .string B.2.2.2.2] 44 ∧ Below w.heap.size w (w.alloc (.cells #[.int .i64 ep, .int .i64 ot, .int .i64 A.1, .int .i64 A.2.1, .slice aa na ka, .int .i64 A.2.2.2.1, .string A.2.2.2.2, .int .i64 B.1, .int .i64 B.2.1, .slice ab nb kb, .int .i64 B.2.2.2.1, .string B.2.2.2.2] 44))) := hid ⟨heap_alloc_last w _, (Below.refl w.heap.size w).alloc (Nat.le_refl _) _⟩
  have HRs := hid (And.intro hA (And.intro hB (And.intro hRA hRB)))
  clear hA hB hRA hRB
  go_enter Try.func6, Try.ntmps6
  go_upto_region 3 with (go_at_call 9; go_must (refine (HL.out _).mono ?_); rintro e w1 ⟨rfl, hb⟩; have H1 : Hid (BxAt w1 w.heap.size [.int .i64 ep, .int .i64 ot, .int .i64 A.1, .int .i64 A.2.1, .slice aa na ka, .int .i64 A.2.2.2.1, .string A.2.2.2.2, .int .i64 B.1, .int .i64 B.2.1, .slice ab nb kb, .int .i64 B.2.2.2.1, .string B.2.2.2.2] 44 ∧ Below w.heap.size w w1) := hid ⟨H0.out.1.keep hb, H0.out.2.trans (hb.mono H0.out.2.size)⟩; clear hb)
  go_simp
  go_cut [3, 4, 5, 6] (fun v3 v4 v5 v6 wx => v3 = .int .i64 ep ∧ v4 = .int .i64 ot ∧ ∃ b5 b6, v5 = .pointer (some ⟨b5, 0, none⟩) ∧ v6 = .pointer (some ⟨b6, 0, none⟩) ∧ UnA w wx b5 b6 [.int .i64 A.1, .int .i64 A.2.1, .slice aa na ka, .int .i64 A.2.2.2.1, .string A.2.2.2.2] [.int .i64 B.1, .int .i64 B.2.1, .slice ab nb kb, .int .i64 B.2.2.2.1, .string B.2.2.2.2])
  case first =>
    have HS : Hid (BxAt w1.drew w.heap.size [.int .i64 ep, .int .i64 ot, .int .i64 A.1, .int .i64 A.2.1, .slice aa na ka, .int .i64 A.2.2.2.1, .string A.2.2.2.2, .int .i64 B.1, .int .i64 B.2.1, .slice ab nb kb, .int .i64 B.2.2.2.1, .string B.2.2.2.2] 44) := hid H1.out.1
    have HKp : Hid (∀ u : World, Below w1.heap.size w1 u → BxAt u w.heap.size [.int .i64 ep, .int .i64 ot, .int .i64 A.1, .int .i64 A.2.1, .slice aa na ka, .int .i64 A.2.2.2.1, .string A.2.2.2.2, .int .i64 B.1, .int .i64 B.2.1, .slice ab nb kb, .int .i64 B.2.2.2.1, .string B.2.2.2.2] 44) := hid (fun u hu => H1.out.1.keep hu)
    refine wp_region_G (S := fun ww => BxAt ww w.heap.size [.int .i64 ep, .int .i64 ot, .int .i64 A.1, .int .i64 A.2.1, .slice aa na ka, .int .i64 A.2.2.2.1, .string A.2.2.2.2, .int .i64 B.1, .int .i64 B.2.1, .slice ab nb kb, .int .i64 B.2.2.2.1, .string B.2.2.2.2] 44) (ex := []) (by kernel_rfl) ?_
    try (change wpAnyG _ _ _ _ _ _ _ _ _ (World.drew _))
    refine wpAnyG_take (i := 0) (v := ?v1) rfl (by kernel_rfl) (fun _ _ _ h => h) (Or.inl ⟨by rfl, ?hy1⟩) HS.out ?rest1
    case hy1 => (intro ww _; go_simp; try with_reducible rfl)
    go_simp
    refine wpAnyG_take (i := 1) (v := ?v2) rfl (by kernel_rfl) (fun _ _ _ h => h) (Or.inl ⟨by rfl, ?hy2⟩) HS.out ?rest2
    case hy2 => (intro ww hS; have y0 := hS.cell 0 _ rfl; go_simp; try with_reducible rfl)
    go_simp
    refine wpAnyG_take (i := 2) (v := ?v3) rfl (by kernel_rfl) (fun _ _ _ h => h) (Or.inl ⟨by rfl, ?hy3⟩) HS.out ?rest3
    case hy3 => (intro ww _; go_simp; try with_reducible rfl)
    go_simp
    refine wpAnyG_take (i := 3) (v := ?v4) rfl (by kernel_rfl) (fun _ _ _ h => h) (Or.inl ⟨by rfl, ?hy4⟩) HS.out ?rest4
    case hy4 => (intro ww hS; have y1 := hS.cell 1 _ rfl; go_simp; try with_reducible rfl)
    go_simp
    refine wpAnyG_take (i := 4) (v := ?v5) rfl (by kernel_rfl) (fun _ _ _ h => h) (Or.inl ⟨by rfl, ?hy5⟩) HS.out ?rest5
    case hy5 => (intro ww _; go_simp; try with_reducible rfl)
    go_simp
    refine wpAnyG_take (i := 5) (v := ?v6) rfl (by kernel_rfl) (fun _ _ _ h => h) (Or.inl ⟨by rfl, ?hy6⟩) HS.out ?rest6
    case hy6 => (intro ww hS; have y2 := hS.cell 2 _ rfl; have y3 := hS.cell 3 _ rfl; have y4 := hS.cell 4 _ rfl; have y5 := hS.cell 5 _ rfl; have y6 := hS.cell 6 _ rfl; go_simp; try with_reducible rfl)
    go_simp
    refine wpAnyG_take (i := 6) (v := ?v7) rfl (by kernel_rfl) (fun _ _ _ h => h) (Or.inl ⟨by rfl, ?hy7⟩) HS.out ?rest7
    case hy7 => (intro ww _; go_simp; try with_reducible rfl)
    go_simp
    refine wpAnyG_take (i := 7) (v := ?v8) rfl (by kernel_rfl) (fun _ _ _ h => h) (Or.inl ⟨by rfl, ?hy8⟩) HS.out ?rest8
    case hy8 => (intro ww hS; have y7 := hS.cell 7 _ rfl; have y8 := hS.cell 8 _ rfl; have y9 := hS.cell 9 _ rfl; have y10 := hS.cell 10 _ rfl; have y11 := hS.cell 11 _ rfl; go_simp; try with_reducible rfl)
    go_simp
    refine wpAnyG_all (rs := [8, 9]) (by kernel_rfl) (by simp) ?_
    intro i hi
    rcases List.mem_cons.1 hi with rfl | hi
    · clear hi
      refine wpOp_d rfl (by rfl) (fun K hK => ?_)
      go_simp
      obtain ⟨v1, ev1⟩ : ∃ v1, v1 = (w1.alloc (.cells #[.int .i64 0, .int .i64 0, .slice none 0 0, .int .i64 0, .string ⟨#[]⟩] 26)).drew := ⟨_, rfl⟩
      have hb1 : Below w1.heap.size w1 v1 := by rw [ev1]; exact ((Below.refl _ _).alloc (Nat.le_refl _) _).drew
      have T1 : Hid ((BxAt v1 w.heap.size [.int .i64 ep, .int .i64 ot, .int .i64 A.1, .int .i64 A.2.1, .slice aa na ka, .int .i64 A.2.2.2.1, .string A.2.2.2.2, .int .i64 B.1, .int .i64 B.2.1, .slice ab nb kb, .int .i64 B.2.2.2.1, .string B.2.2.2.2] 44) ∧ BxAt v1 w1.heap.size [.int .i64 0, .int .i64 0, .slice none 0 0, .int .i64 0, .string ⟨#[]⟩] 26 ∧ Below w1.heap.size w1 v1 ∧ w1.heap.size < v1.heap.size) := hid ⟨HKp.out _ hb1, by rw [ev1]; exact heap_alloc_last w1 _, hb1, by rw [ev1]; show _ < (w1.alloc _).heap.size; simp⟩
      rw [← ev1]
      clear ev1 hb1
      refine hK _ _ ⟨fun _ => T1.out.1, ?_⟩
      clear hK K
      go_simp
      refine wpAnyG_all (rs := [9]) (by kernel_rfl) (by simp) ?_
      intro i hi
      obtain rfl := List.mem_singleton.1 hi
      clear hi
      refine wpOp_d rfl (by rfl) (fun K hK => ?_)
      go_simp
      obtain ⟨v2, ev2⟩ : ∃ v2, v2 = v1.alloc (.cells #[.int .i64 0, .int .i64 0, .slice none 0 0, .int .i64 0, .string ⟨#[]⟩] 26) := ⟨_, rfl⟩
      have hb2 : Below v1.heap.size v1 v2 := by rw [ev2]; exact (Below.refl _ _).alloc (Nat.le_refl _) _
      have T2 : Hid ((BxAt v2 w.heap.size [.int .i64 ep, .int .i64 ot, .int .i64 A.1, .int .i64 A.2.1, .slice aa na ka, .int .i64 A.2.2.2.1, .string A.2.2.2.2, .int .i64 B.1, .int .i64 B.2.1, .slice ab nb kb, .int .i64 B.2.2.2.1, .string B.2.2.2.2] 44) ∧ BxAt v2 w1.heap.size [.int .i64 0, .int .i64 0, .slice none 0 0, .int .i64 0, .string ⟨#[]⟩] 26 ∧ BxAt v2 v1.heap.size [.int .i64 0, .int .i64 0, .slice none 0 0, .int .i64 0, .string ⟨#[]⟩] 26 ∧ Below w1.heap.size w1 v2) := hid (by
        have h1 : BxAt v2 w1.heap.size [.int .i64 0, .int .i64 0, .slice none 0 0, .int .i64 0, .string ⟨#[]⟩] 26 := T1.out.2.1.keep hb2
        have h2 : BxAt v2 v1.heap.size [.int .i64 0, .int .i64 0, .slice none 0 0, .int .i64 0, .string ⟨#[]⟩] 26 := by rw [ev2]; exact heap_alloc_last v1 _
        have h3 := T1.out.2.2.1.trans (hb2.mono T1.out.2.2.1.size)
        exact ⟨HKp.out _ h3, h1, h2, h3⟩)
      rw [← ev2]
      clear ev2 hb2
      refine hK _ _ ⟨fun _ => T2.out.1, ?_⟩
      clear hK K
      go_simp
      refine wpAnyG_take (i := 10) (v := ?v9) rfl (by kernel_rfl) (fun _ _ _ h => h) (Or.inl ⟨by rfl, ?hy9⟩) T2.out.1 ?rest9
      case hy9 => (intro ww _; go_simp; try with_reducible rfl)
      go_simp
      refine wpAnyG_take (i := 11) (v := ?v10) rfl (by kernel_rfl) (fun _ _ _ h => h) (Or.inl ⟨by rfl, ?hy10⟩) T2.out.1 ?rest10
      case hy10 => (intro ww _; go_simp; try with_reducible rfl)
      go_simp
      refine wpAnyG_all (rs := [12]) (by kernel_rfl) (by simp) ?_
      intro i hi
      obtain rfl := List.mem_singleton.1 hi
      clear hi
      refine wpOp_d rfl (by rfl) (fun K hK => ?_)
      refine owp_store_blk 26 _ _ rfl w1.heap.size 0 rfl #[.int .i64 A.1, .int .i64 A.2.1, .slice aa na ka, .int .i64 A.2.2.2.1, .string A.2.2.2.2] rfl [.int .i64 0, .int .i64 0, .slice none 0 0, .int .i64 0, .string ⟨#[]⟩] 26 T2.out.2.1 (by simp) (by kernel_rfl) (by simp [Value.oneCell']) (fun v3 Hz => ?_)
      have T3 : Hid ((BxAt v3 w.heap.size [.int .i64 ep, .int .i64 ot, .int .i64 A.1, .int .i64 A.2.1, .slice aa na ka, .int .i64 A.2.2.2.1, .string A.2.2.2.2, .int .i64 B.1, .int .i64 B.2.1, .slice ab nb kb, .int .i64 B.2.2.2.1, .string B.2.2.2.2] 44) ∧ BxAt v3 w1.heap.size [.int .i64 A.1, .int .i64 A.2.1, .slice aa na ka, .int .i64 A.2.2.2.1, .string A.2.2.2.2] 26 ∧ BxAt v3 v1.heap.size [.int .i64 0, .int .i64 0, .slice none 0 0, .int .i64 0, .string ⟨#[]⟩] 26 ∧ Below w1.heap.size w1 v3) := hid (by
        have hlt := T1.out.2.2.2
        have hb3 := Hz.out.2.below T2.out.2.2.2 (by omega)
        exact ⟨HKp.out _ hb3, Hz.out.1, (Hz.out.2.block _ (by omega)).trans T2.out.2.2.1, hb3⟩)
      clear Hz
      refine hK _ _ ⟨fun _ => T3.out.1, ?_⟩
      clear hK K
      go_simp
      refine wpAnyG_all (rs := [13]) (by kernel_rfl) (by simp) ?_
      intro i hi
      obtain rfl := List.mem_singleton.1 hi
      clear hi
      refine wpOp_d rfl (by rfl) (fun K hK => ?_)
      refine owp_store_blk 26 _ _ rfl v1.heap.size 0 rfl #[.int .i64 B.1, .int .i64 B.2.1, .slice ab nb kb, .int .i64 B.2.2.2.1, .string B.2.2.2.2] rfl [.int .i64 0, .int .i64 0, .slice none 0 0, .int .i64 0, .string ⟨#[]⟩] 26 T3.out.2.2.1 (by simp) (by kernel_rfl) (by simp [Value.oneCell']) (fun v4 Hz => ?_)
      have T4 : Hid ((BxAt v4 w.heap.size [.int .i64 ep, .int .i64 ot, .int .i64 A.1, .int .i64 A.2.1, .slice aa na ka, .int .i64 A.2.2.2.1, .string A.2.2.2.2, .int .i64 B.1, .int .i64 B.2.1, .slice ab nb kb, .int .i64 B.2.2.2.1, .string B.2.2.2.2] 44) ∧ BxAt v4 w1.heap.size [.int .i64 A.1, .int .i64 A.2.1, .slice aa na ka, .int .i64 A.2.2.2.1, .string A.2.2.2.2] 26 ∧ BxAt v4 v1.heap.size [.int .i64 B.1, .int .i64 B.2.1, .slice ab nb kb, .int .i64 B.2.2.2.1, .string B.2.2.2.2] 26 ∧ Below w1.heap.size w1 v4) := hid (by
        have hlt := T1.out.2.2.2
        have hb3 := Hz.out.2.below T3.out.2.2.2 (by omega)
        exact ⟨HKp.out _ hb3, (Hz.out.2.block _ (by omega)).trans T3.out.2.1, Hz.out.1, hb3⟩)
      clear Hz
      refine hK _ _ ⟨fun _ => T4.out.1, ?_⟩
      clear hK K
      go_simp
      refine wpAnyG_done (by kernel_rfl) ?_ _
      go_simp
      go_wp2_with fail
      go_meet
      exact ⟨rfl, rfl, w1.heap.size, v1.heap.size, rfl, rfl, T4.out.2.1, T4.out.2.2.1, H1.out.2.trans (T4.out.2.2.2.mono H1.out.2.size)⟩
    · obtain rfl := List.mem_singleton.1 hi
      clear hi
      refine wpOp_d rfl (by rfl) (fun K hK => ?_)
      go_simp
      obtain ⟨v1, ev1⟩ : ∃ v1, v1 = (w1.alloc (.cells #[.int .i64 0, .int .i64 0, .slice none 0 0, .int .i64 0, .string ⟨#[]⟩] 26)).drew := ⟨_, rfl⟩
      have hb1 : Below w1.heap.size w1 v1 := by rw [ev1]; exact ((Below.refl _ _).alloc (Nat.le_refl _) _).drew
      have T1 : Hid ((BxAt v1 w.heap.size [.int .i64 ep, .int .i64 ot, .int .i64 A.1, .int .i64 A.2.1, .slice aa na ka, .int .i64 A.2.2.2.1, .string A.2.2.2.2, .int .i64 B.1, .int .i64 B.2.1, .slice ab nb kb, .int .i64 B.2.2.2.1, .string B.2.2.2.2] 44) ∧ BxAt v1 w1.heap.size [.int .i64 0, .int .i64 0, .slice none 0 0, .int .i64 0, .string ⟨#[]⟩] 26 ∧ Below w1.heap.size w1 v1 ∧ w1.heap.size < v1.heap.size) := hid ⟨HKp.out _ hb1, by rw [ev1]; exact heap_alloc_last w1 _, hb1, by rw [ev1]; show _ < (w1.alloc _).heap.size; simp⟩
      rw [← ev1]
      clear ev1 hb1
      refine hK _ _ ⟨fun _ => T1.out.1, ?_⟩
      clear hK K
      go_simp
      refine wpAnyG_all (rs := [8]) (by kernel_rfl) (by simp) ?_
      intro i hi
      obtain rfl := List.mem_singleton.1 hi
      clear hi
      refine wpOp_d rfl (by rfl) (fun K hK => ?_)
      go_simp
      obtain ⟨v2, ev2⟩ : ∃ v2, v2 = v1.alloc (.cells #[.int .i64 0, .int .i64 0, .slice none 0 0, .int .i64 0, .string ⟨#[]⟩] 26) := ⟨_, rfl⟩
      have hb2 : Below v1.heap.size v1 v2 := by rw [ev2]; exact (Below.refl _ _).alloc (Nat.le_refl _) _
      have T2 : Hid ((BxAt v2 w.heap.size [.int .i64 ep, .int .i64 ot, .int .i64 A.1, .int .i64 A.2.1, .slice aa na ka, .int .i64 A.2.2.2.1, .string A.2.2.2.2, .int .i64 B.1, .int .i64 B.2.1, .slice ab nb kb, .int .i64 B.2.2.2.1, .string B.2.2.2.2] 44) ∧ BxAt v2 v1.heap.size [.int .i64 0, .int .i64 0, .slice none 0 0, .int .i64 0, .string ⟨#[]⟩] 26 ∧ BxAt v2 w1.heap.size [.int .i64 0, .int .i64 0, .slice none 0 0, .int .i64 0, .string ⟨#[]⟩] 26 ∧ Below w1.heap.size w1 v2) := hid (by
        have h1 : BxAt v2 w1.heap.size [.int .i64 0, .int .i64 0, .slice none 0 0, .int .i64 0, .string ⟨#[]⟩] 26 := T1.out.2.1.keep hb2
        have h2 : BxAt v2 v1.heap.size [.int .i64 0, .int .i64 0, .slice none 0 0, .int .i64 0, .string ⟨#[]⟩] 26 := by rw [ev2]; exact heap_alloc_last v1 _
        have h3 := T1.out.2.2.1.trans (hb2.mono T1.out.2.2.1.size)
        exact ⟨HKp.out _ h3, h2, h1, h3⟩)
      rw [← ev2]
      clear ev2 hb2
      refine hK _ _ ⟨fun _ => T2.out.1, ?_⟩
      clear hK K
      go_simp
      refine wpAnyG_take (i := 10) (v := ?v11) rfl (by kernel_rfl) (fun _ _ _ h => h) (Or.inl ⟨by rfl, ?hy11⟩) T2.out.1 ?rest11
      case hy11 => (intro ww _; go_simp; try with_reducible rfl)
      go_simp
      refine wpAnyG_take (i := 11) (v := ?v12) rfl (by kernel_rfl) (fun _ _ _ h => h) (Or.inl ⟨by rfl, ?hy12⟩) T2.out.1 ?rest12
      case hy12 => (intro ww _; go_simp; try with_reducible rfl)
      go_simp
      refine wpAnyG_all (rs := [12]) (by kernel_rfl) (by simp) ?_
      intro i hi
      obtain rfl := List.mem_singleton.1 hi
      clear hi
      refine wpOp_d rfl (by rfl) (fun K hK => ?_)
      refine owp_store_blk 26 _ _ rfl v1.heap.size 0 rfl #[.int .i64 A.1, .int .i64 A.2.1, .slice aa na ka, .int .i64 A.2.2.2.1, .string A.2.2.2.2] rfl [.int .i64 0, .int .i64 0, .slice none 0 0, .int .i64 0, .string ⟨#[]⟩] 26 T2.out.2.1 (by simp) (by kernel_rfl) (by simp [Value.oneCell']) (fun v3 Hz => ?_)
      have T3 : Hid ((BxAt v3 w.heap.size [.int .i64 ep, .int .i64 ot, .int .i64 A.1, .int .i64 A.2.1, .slice aa na ka, .int .i64 A.2.2.2.1, .string A.2.2.2.2, .int .i64 B.1, .int .i64 B.2.1, .slice ab nb kb, .int .i64 B.2.2.2.1, .string B.2.2.2.2] 44) ∧ BxAt v3 v1.heap.size [.int .i64 A.1, .int .i64 A.2.1, .slice aa na ka, .int .i64 A.2.2.2.1, .string A.2.2.2.2] 26 ∧ BxAt v3 w1.heap.size [.int .i64 0, .int .i64 0, .slice none 0 0, .int .i64 0, .string ⟨#[]⟩] 26 ∧ Below w1.heap.size w1 v3) := hid (by
        have hlt := T1.out.2.2.2
        have hb3 := Hz.out.2.below T2.out.2.2.2 (by omega)
        exact ⟨HKp.out _ hb3, Hz.out.1, (Hz.out.2.block _ (by omega)).trans T2.out.2.2.1, hb3⟩)
      clear Hz
      refine hK _ _ ⟨fun _ => T3.out.1, ?_⟩
      clear hK K
      go_simp
      refine wpAnyG_all (rs := [13]) (by kernel_rfl) (by simp) ?_
      intro i hi
      obtain rfl := List.mem_singleton.1 hi
      clear hi
      refine wpOp_d rfl (by rfl) (fun K hK => ?_)
      refine owp_store_blk 26 _ _ rfl w1.heap.size 0 rfl #[.int .i64 B.1, .int .i64 B.2.1, .slice ab nb kb, .int .i64 B.2.2.2.1, .string B.2.2.2.2] rfl [.int .i64 0, .int .i64 0, .slice none 0 0, .int .i64 0, .string ⟨#[]⟩] 26 T3.out.2.2.1 (by simp) (by kernel_rfl) (by simp [Value.oneCell']) (fun v4 Hz => ?_)
      have T4 : Hid ((BxAt v4 w.heap.size [.int .i64 ep, .int .i64 ot, .int .i64 A.1, .int .i64 A.2.1, .slice aa na ka, .int .i64 A.2.2.2.1, .string A.2.2.2.2, .int .i64 B.1, .int .i64 B.2.1, .slice ab nb kb, .int .i64 B.2.2.2.1, .string B.2.2.2.2] 44) ∧ BxAt v4 v1.heap.size [.int .i64 A.1, .int .i64 A.2.1, .slice aa na ka, .int .i64 A.2.2.2.1, .string A.2.2.2.2] 26 ∧ BxAt v4 w1.heap.size [.int .i64 B.1, .int .i64 B.2.1, .slice ab nb kb, .int .i64 B.2.2.2.1, .string B.2.2.2.2] 26 ∧ Below w1.heap.size w1 v4) := hid (by
        have hlt := T1.out.2.2.2
        have hb3 := Hz.out.2.below T3.out.2.2.2 (by omega)
        exact ⟨HKp.out _ hb3, (Hz.out.2.block _ (by omega)).trans T3.out.2.1, Hz.out.1, hb3⟩)
      clear Hz
      refine hK _ _ ⟨fun _ => T4.out.1, ?_⟩
      clear hK K
      go_simp
      refine wpAnyG_done (by kernel_rfl) ?_ _
      go_simp
      go_wp2_with fail
      go_meet
      exact ⟨rfl, rfl, v1.heap.size, w1.heap.size, rfl, rfl, T4.out.2.1, T4.out.2.2.1, H1.out.2.trans (T4.out.2.2.2.mono H1.out.2.size)⟩
  case rest =>
    obtain ⟨rfl, rfl, b5, b6, rfl, rfl, hUA⟩ := hcut
    have HU : Hid (UnA w wc b5 b6 [.int .i64 A.1, .int .i64 A.2.1, .slice aa na ka, .int .i64 A.2.2.2.1, .string A.2.2.2.2] [.int .i64 B.1, .int .i64 B.2.1, .slice ab nb kb, .int .i64 B.2.2.2.1, .string B.2.2.2.2]) := hid hUA
    clear hUA H0 HL
    have HT : Hid ((∀ u : World, Below w.heap.size w u → Calls Try.prog 10 #[.int .i64 ep, .agg #[.int .i64 A.1, .int .i64 A.2.1, .slice aa na ka, .int .i64 A.2.2.2.1, .string A.2.2.2.2]] u fun e w' => e = .returned (.tuple #[.string (chT ep A), .int .i64 (chE ep A)]) ∧ Below u.heap.size u w') ∧ (∀ u : World, Below w.heap.size w u → Calls Try.prog 10 #[.int .i64 ot, .agg #[.int .i64 B.1, .int .i64 B.2.1, .slice ab nb kb, .int .i64 B.2.2.2.1, .string B.2.2.2.2]] u fun e w' => e = .returned (.tuple #[.string (chT ot B), .int .i64 (chE ot B)]) ∧ Below u.heap.size u w')) := hid ⟨fun u hu => ztext_any ep A aa na ka HRs.out.1.2.1.1 HRs.out.1.2.1.2 u (HRs.out.2.2.1.under hu (Nat.le_refl _)), fun u hu => ztext_any ot B ab nb kb HRs.out.2.1.2.1.1 HRs.out.2.1.2.1.2 u (HRs.out.2.2.2.under hu (Nat.le_refl _))⟩
    have HR : Hid (chE ep A = 0 → chE ot B = 0 → (chT ep A = chT ot B ↔ unH ep ot A B = true ∧ allTo (unP A B) A.2.2.1.length = true)) := hid (fun h1 h2 => (chT_iff h1 h2 (fun x hx => (HRs.out.1.2.1.2 x hx).2.1.2.2.2) (fun x hx => (HRs.out.2.1.2.1.2 x hx).2.1.2.2.2)).trans (un_iff ep ot A B))
    have hna : A.2.2.1.length = na := by
      obtain ⟨ad, cp, hv⟩ := HRs.out.2.2.1.form
      rw [List.length_map] at hv
      cases hv
      rfl
    have hnb : B.2.2.1.length = nb := by
      obtain ⟨ad, cp, hv⟩ := HRs.out.2.2.2.form
      rw [List.length_map] at hv
      cases hv
      rfl
    have hma : (na : Int) ≤ 9223372036854775807 := by have := HRs.out.1.2.1.1; unfold maxLen at this; omega
    have HN := hid (And.intro hna hnb)
    clear hna hnb
    generalize chT ep A = sA at HT HR
    generalize chE ep A = eA at HT HR
    generalize chT ot B = sB at HT HR
    generalize chE ot B = eB at HT HR
    have c0 := HU.out.x5.cell 0 _ rfl; have c1 := HU.out.x5.cell 1 _ rfl; have c2 := HU.out.x5.cell 2 _ rfl; have c3 := HU.out.x5.cell 3 _ rfl; have c4 := HU.out.x5.cell 4 _ rfl; have d0 := HU.out.x6.cell 0 _ rfl; have d1 := HU.out.x6.cell 1 _ rfl; have d2 := HU.out.x6.cell 2 _ rfl; have d3 := HU.out.x6.cell 3 _ rfl; have d4 := HU.out.x6.cell 4 _ rfl
    by_cases heA : ¬ eA = 0
    · have hb1 : (eA != 0) = true := by simpa using heA
      clear heA
      go_wp2_with (go_at_call 10; first | (have hq := HU2.out.bel; clear hq; refine (HT.out.2 _ HU2.out.bel).mono ?_; rintro e w3 ⟨rfl, hb⟩; have HU3 : Hid (UnA w w3 b5 b6 [.int .i64 A.1, .int .i64 A.2.1, .slice aa na ka, .int .i64 A.2.2.2.1, .string A.2.2.2.2] [.int .i64 B.1, .int .i64 B.2.1, .slice ab nb kb, .int .i64 B.2.2.2.1, .string B.2.2.2.2]) := hid ⟨HU2.out.x5.keep hb, HU2.out.x6.keep hb, HU2.out.bel.trans (hb.mono HU2.out.bel.size)⟩; clear hb; clear c0 d0 c1 d1 c2 d2 c3 d3 c4 d4; have c0 := HU3.out.x5.cell 0 _ rfl; have c1 := HU3.out.x5.cell 1 _ rfl; have c2 := HU3.out.x5.cell 2 _ rfl; have c3 := HU3.out.x5.cell 3 _ rfl; have c4 := HU3.out.x5.cell 4 _ rfl; have d0 := HU3.out.x6.cell 0 _ rfl; have d1 := HU3.out.x6.cell 1 _ rfl; have d2 := HU3.out.x6.cell 2 _ rfl; have d3 := HU3.out.x6.cell 3 _ rfl; have d4 := HU3.out.x6.cell 4 _ rfl) | (refine (HT.out.1 _ HU.out.bel).mono ?_; rintro e w2 ⟨rfl, hb⟩; have HU2 : Hid (UnA w w2 b5 b6 [.int .i64 A.1, .int .i64 A.2.1, .slice aa na ka, .int .i64 A.2.2.2.1, .string A.2.2.2.2] [.int .i64 B.1, .int .i64 B.2.1, .slice ab nb kb, .int .i64 B.2.2.2.1, .string B.2.2.2.2]) := hid ⟨HU.out.x5.keep hb, HU.out.x6.keep hb, HU.out.bel.trans (hb.mono HU.out.bel.size)⟩; clear hb; clear c0 d0 c1 d1 c2 d2 c3 d3 c4 d4; have c0 := HU2.out.x5.cell 0 _ rfl; have c1 := HU2.out.x5.cell 1 _ rfl; have c2 := HU2.out.x5.cell 2 _ rfl; have c3 := HU2.out.x5.cell 3 _ rfl; have c4 := HU2.out.x5.cell 4 _ rfl; have d0 := HU2.out.x6.cell 0 _ rfl; have d1 := HU2.out.x6.cell 1 _ rfl; have d2 := HU2.out.x6.cell 2 _ rfl; have d3 := HU2.out.x6.cell 3 _ rfl; have d4 := HU2.out.x6.cell 4 _ rfl))
      go_ret
      exact ⟨rfl, HU3.out.bel⟩
    have hb1 : (eA != 0) = false := by simpa using heA
    by_cases heB : ¬ eB = 0
    · have hb2 : (eB != 0) = true := by simpa using heB
      clear heA heB
      go_wp2_with (go_at_call 10; first | (have hq := HU2.out.bel; clear hq; refine (HT.out.2 _ HU2.out.bel).mono ?_; rintro e w3 ⟨rfl, hb⟩; have HU3 : Hid (UnA w w3 b5 b6 [.int .i64 A.1, .int .i64 A.2.1, .slice aa na ka, .int .i64 A.2.2.2.1, .string A.2.2.2.2] [.int .i64 B.1, .int .i64 B.2.1, .slice ab nb kb, .int .i64 B.2.2.2.1, .string B.2.2.2.2]) := hid ⟨HU2.out.x5.keep hb, HU2.out.x6.keep hb, HU2.out.bel.trans (hb.mono HU2.out.bel.size)⟩; clear hb; clear c0 d0 c1 d1 c2 d2 c3 d3 c4 d4; have c0 := HU3.out.x5.cell 0 _ rfl; have c1 := HU3.out.x5.cell 1 _ rfl; have c2 := HU3.out.x5.cell 2 _ rfl; have c3 := HU3.out.x5.cell 3 _ rfl; have c4 := HU3.out.x5.cell 4 _ rfl; have d0 := HU3.out.x6.cell 0 _ rfl; have d1 := HU3.out.x6.cell 1 _ rfl; have d2 := HU3.out.x6.cell 2 _ rfl; have d3 := HU3.out.x6.cell 3 _ rfl; have d4 := HU3.out.x6.cell 4 _ rfl) | (refine (HT.out.1 _ HU.out.bel).mono ?_; rintro e w2 ⟨rfl, hb⟩; have HU2 : Hid (UnA w w2 b5 b6 [.int .i64 A.1, .int .i64 A.2.1, .slice aa na ka, .int .i64 A.2.2.2.1, .string A.2.2.2.2] [.int .i64 B.1, .int .i64 B.2.1, .slice ab nb kb, .int .i64 B.2.2.2.1, .string B.2.2.2.2]) := hid ⟨HU.out.x5.keep hb, HU.out.x6.keep hb, HU.out.bel.trans (hb.mono HU.out.bel.size)⟩; clear hb; clear c0 d0 c1 d1 c2 d2 c3 d3 c4 d4; have c0 := HU2.out.x5.cell 0 _ rfl; have c1 := HU2.out.x5.cell 1 _ rfl; have c2 := HU2.out.x5.cell 2 _ rfl; have c3 := HU2.out.x5.cell 3 _ rfl; have c4 := HU2.out.x5.cell 4 _ rfl; have d0 := HU2.out.x6.cell 0 _ rfl; have d1 := HU2.out.x6.cell 1 _ rfl; have d2 := HU2.out.x6.cell 2 _ rfl; have d3 := HU2.out.x6.cell 3 _ rfl; have d4 := HU2.out.x6.cell 4 _ rfl))
      go_ret
      exact ⟨rfl, HU3.out.bel⟩
    have hb2 : (eB != 0) = false := by simpa using heB
    have HQ := hid (HR.out (Classical.not_not.1 heA) (Classical.not_not.1 heB))
    clear heA heB HR
    go_upto_region 8 with (go_at_call 10; first | (have hq := HU2.out.bel; clear hq; refine (HT.out.2 _ HU2.out.bel).mono ?_; rintro e w3 ⟨rfl, hb⟩; have HU3 : Hid (UnA w w3 b5 b6 [.int .i64 A.1, .int .i64 A.2.1, .slice aa na ka, .int .i64 A.2.2.2.1, .string A.2.2.2.2] [.int .i64 B.1, .int .i64 B.2.1, .slice ab nb kb, .int .i64 B.2.2.2.1, .string B.2.2.2.2]) := hid ⟨HU2.out.x5.keep hb, HU2.out.x6.keep hb, HU2.out.bel.trans (hb.mono HU2.out.bel.size)⟩; clear hb; clear c0 d0 c1 d1 c2 d2 c3 d3 c4 d4; have c0 := HU3.out.x5.cell 0 _ rfl; have c1 := HU3.out.x5.cell 1 _ rfl; have c2 := HU3.out.x5.cell 2 _ rfl; have c3 := HU3.out.x5.cell 3 _ rfl; have c4 := HU3.out.x5.cell 4 _ rfl; have d0 := HU3.out.x6.cell 0 _ rfl; have d1 := HU3.out.x6.cell 1 _ rfl; have d2 := HU3.out.x6.cell 2 _ rfl; have d3 := HU3.out.x6.cell 3 _ rfl; have d4 := HU3.out.x6.cell 4 _ rfl) | (refine (HT.out.1 _ HU.out.bel).mono ?_; rintro e w2 ⟨rfl, hb⟩; have HU2 : Hid (UnA w w2 b5 b6 [.int .i64 A.1, .int .i64 A.2.1, .slice aa na ka, .int .i64 A.2.2.2.1, .string A.2.2.2.2] [.int .i64 B.1, .int .i64 B.2.1, .slice ab nb kb, .int .i64 B.2.2.2.1, .string B.2.2.2.2]) := hid ⟨HU.out.x5.keep hb, HU.out.x6.keep hb, HU.out.bel.trans (hb.mono HU.out.bel.size)⟩; clear hb; clear c0 d0 c1 d1 c2 d2 c3 d3 c4 d4; have c0 := HU2.out.x5.cell 0 _ rfl; have c1 := HU2.out.x5.cell 1 _ rfl; have c2 := HU2.out.x5.cell 2 _ rfl; have c3 := HU2.out.x5.cell 3 _ rfl; have c4 := HU2.out.x5.cell 4 _ rfl; have d0 := HU2.out.x6.cell 0 _ rfl; have d1 := HU2.out.x6.cell 1 _ rfl; have d2 := HU2.out.x6.cell 2 _ rfl; have d3 := HU2.out.x6.cell 3 _ rfl; have d4 := HU2.out.x6.cell 4 _ rfl))
    go_simp
    go_cut [11] (fun v11 wz => v11 = .bool (unH ep ot A B) ∧ wz = w3)
    case first =>
      by_cases he0 : ¬ ep = ot
      · have hc0 : (ep == ot) = false := by simpa using he0
        have HF : Hid (unH ep ot A B = false) := hid (by rw [unH, decide_eq_false he0]; rfl)
        clear he0
        go_wp2_with fail
        go_meet
        exact ⟨by rw [HF.out], rfl⟩
      have he0 : ep = ot := Classical.not_not.1 he0
      have hc0 : (ep == ot) = true := by simpa using he0
      by_cases he1 : ¬ A.1 = B.1
      · have hc1 : (A.1 == B.1) = false := by simpa using he1
        have HF : Hid (unH ep ot A B = false) := hid (by rw [unH, decide_eq_true he0, decide_eq_false he1]; rfl)
        clear he0 he1
        go_wp2_with fail
        go_meet
        exact ⟨by rw [HF.out], rfl⟩
      have he1 : A.1 = B.1 := Classical.not_not.1 he1
      have hc1 : (A.1 == B.1) = true := by simpa using he1
      by_cases he2 : ¬ A.2.1 = B.2.1
      · have hc2 : (A.2.1 == B.2.1) = false := by simpa using he2
        have HF : Hid (unH ep ot A B = false) := hid (by rw [unH, decide_eq_true he0, decide_eq_true he1, decide_eq_false he2]; rfl)
        clear he0 he1 he2
        go_wp2_with fail
        go_meet
        exact ⟨by rw [HF.out], rfl⟩
      have he2 : A.2.1 = B.2.1 := Classical.not_not.1 he2
      have hc2 : (A.2.1 == B.2.1) = true := by simpa using he2
      by_cases he3 : ¬ A.2.2.1.length = B.2.2.1.length
      · have hc3 : ((na : Int) == (nb : Int)) = false := by have := HN.out.1; have := HN.out.2; rw [beq_eq_false_iff_ne]; omega
        have HF : Hid (unH ep ot A B = false) := hid (by rw [unH, decide_eq_true he0, decide_eq_true he1, decide_eq_true he2, decide_eq_false he3]; rfl)
        clear he0 he1 he2 he3
        go_wp2_with fail
        go_meet
        exact ⟨by rw [HF.out], rfl⟩
      have he3 : A.2.2.1.length = B.2.2.1.length := Classical.not_not.1 he3
      have hc3 : ((na : Int) == (nb : Int)) = true := by have := HN.out.1; have := HN.out.2; rw [beq_iff_eq]; omega
      have HF : Hid (unH ep ot A B = true) := hid (by rw [unH, decide_eq_true he0, decide_eq_true he1, decide_eq_true he2, decide_eq_true he3]; rfl)
      clear he0 he1 he2 he3
      go_wp2_with fail
      go_meet
      exact ⟨by rw [HF.out], rfl⟩

    case rest =>
      obtain ⟨rfl, rfl⟩ := hcut
      obtain ⟨b0, eb0⟩ : ∃ b0, b0 = unH ep ot A B := ⟨_, rfl⟩
      rw [← eb0]
      have HB0 := hid eb0
      clear eb0
      go_wp2
      go_loopw [11, 12] (fun f i wr => ∃ (j : Nat) (b : Bool), j ≤ na ∧ i = .int .i64 (j : Int) ∧ f = .bool b ∧ UnA w wr b5 b6 [.int .i64 A.1, .int .i64 A.2.1, .slice aa na ka, .int .i64 A.2.2.2.1, .string A.2.2.2.2] [.int .i64 B.1, .int .i64 B.2.1, .slice ab nb kb, .int .i64 B.2.2.2.1, .string B.2.2.2.2] ∧ (b = true → unH ep ot A B = true ∧ allTo (unP A B) j = true) ∧ (b = false → ¬ sA = sB)) (fun _ i _ => ((na : Int) - intOf i).toNat)
      case atStart => exact ⟨0, b0, Nat.zero_le _, rfl, rfl, HU3.out, fun h => ⟨HB0.out.symm.trans h, rfl⟩, fun h e => by have := (HQ.out.1 e).1; rw [← HB0.out, h] at this; cases this⟩
      case round =>
        clear c0 d0 c1 d1 c2 d2 c3 d3 c4 d4
        obtain ⟨j, b, hj, rfl, rfl, hu, hk1, hk2⟩ := hrel
        have HV := hid hu
        have HK := hid (And.intro hk1 hk2)
        clear hu hk1 hk2 HU HU2 HU3 HT
        have c0 := HV.out.x5.cell 0 _ rfl; have c1 := HV.out.x5.cell 1 _ rfl; have c2 := HV.out.x5.cell 2 _ rfl; have d0 := HV.out.x6.cell 0 _ rfl; have d1 := HV.out.x6.cell 1 _ rfl; have d2 := HV.out.x6.cell 2 _ rfl
        have hj0 : (0 : Int) ≤ (j : Int) := Int.natCast_nonneg _
        cases b with
        | false =>
          have hs := text_neU (HK.out.2 rfl)
          go_wp2
          go_ret
          exact ⟨rfl, HV.out.bel⟩
        | true =>
          by_cases hjn : j = na
          · have hj1 : ¬ ((j : Int) < (na : Int)) := by omega
            have hs : sA = sB := HQ.out.2 ⟨(HK.out.1 rfl).1, by rw [HN.out.1, ← hjn]; exact (HK.out.1 rfl).2⟩
            have hst : (sA.toList == sB.toList) = true := by rw [hs]; simp
            clear hj hjn hs
            go_wp2
            go_ret
            exact ⟨rfl, HV.out.bel⟩
          · have hj1 : (j : Int) < (na : Int) := by omega
            have hj2 : j < B.2.2.1.length := by have h := (HK.out.1 rfl).1; simp only [unH, Bool.and_eq_true, decide_eq_true_eq] at h; have := HN.out.1; omega
            have hj3 : (j : Int) < (nb : Int) := by have := HN.out.2; omega
            have hjl1 : j < A.2.2.1.length := by have := HN.out.1; omega
            obtain ⟨g1, off1, cp1, ax, kx, hv1, hP1, hg1, hq1⟩ := ct_at HRs.out.2.2.1 j hjl1
            obtain ⟨g2, off2, cp2, ay, ky, hv2, hP2, hg2, hq2⟩ := ct_at HRs.out.2.2.2 j hj2
            have HBx := hid (And.intro (HRs.out.1.2.1.2 (A.2.2.1.getD j ct0) (by rw [List.getD_eq_getElem?_getD, List.getElem?_eq_getElem hjl1]; exact List.getElem_mem hjl1)) (HRs.out.2.1.2.1.2 (B.2.2.1.getD j ct0) (by rw [List.getD_eq_getElem?_getD, List.getElem?_eq_getElem hj2]; exact List.getElem_mem hj2)))
            clear c0 c1 c2 d0 d1 d2
            simp only [Value.slice.injEq] at hv1 hv2
            obtain ⟨rfl, -, rfl⟩ := hv1
            obtain ⟨rfl, -, rfl⟩ := hv2
            have HFa : Hid (ctSm (A.2.2.1.getD j ct0) (B.2.2.1.getD j ct0) = false → ¬ sA = sB) := hid (fun e hs => by have h := allTo_at (HQ.out.1 hs).2 j hjl1; rw [unP, e] at h; cases h)
            have HTr : Hid (ctSm (A.2.2.1.getD j ct0) (B.2.2.1.getD j ct0) = true → unH ep ot A B = true ∧ allTo (unP A B) (j + 1) = true) := hid (fun e => ⟨(HK.out.1 rfl).1, by rw [allTo, (HK.out.1 rfl).2, unP, e]; rfl⟩)
            have HP := hid (And.intro hP1 hP2)
            have HG := hid (And.intro (And.intro hg1 hq1) (And.intro hg2 hq2))
            have HJ := hid (And.intro hj hjn)
            generalize A.2.2.1.getD j ct0 = x at HP HFa HTr HBx HG
            generalize B.2.2.1.getD j ct0 = y at HP HFa HTr HBx HG
            clear hj hjn hjl1 hj2 hP1 hP2 hg1 hg2 hq1 hq2
            have c2 := HV.out.x5.cell 2 _ rfl
            go_upto_region 12 with fail
            go_simp
            go_cut [13, 14] (fun v13 v14 wz => ∃ b13 b14, v13 = .pointer (some ⟨b13, 0, none⟩) ∧ v14 = .pointer (some ⟨b14, 0, none⟩) ∧ UnB w wz b5 b6 [.int .i64 A.1, .int .i64 A.2.1, .slice (some ⟨g1, off1, none⟩) na ka, .int .i64 A.2.2.2.1, .string A.2.2.2.2] [.int .i64 B.1, .int .i64 B.2.1, .slice (some ⟨g2, off2, none⟩) nb kb, .int .i64 B.2.2.2.1, .string B.2.2.2.2] b13 b14 [.int .i64 x.1, .int .i64 x.2.1, .int .i64 x.2.2.1.c, .int .i64 x.2.2.1.st, .int .i64 x.2.2.1.k, .string x.2.2.1.key, .float .f64 x.2.2.1.b, .int .i64 x.2.2.1.id, .slice ax x.2.2.2.length kx] [.int .i64 y.1, .int .i64 y.2.1, .int .i64 y.2.2.1.c, .int .i64 y.2.2.1.st, .int .i64 y.2.2.1.k, .string y.2.2.1.key, .float .f64 y.2.2.1.b, .int .i64 y.2.2.1.id, .slice ay y.2.2.2.length ky])
            case first =>
              have HS : Hid (UnA w wr.drew b5 b6 [.int .i64 A.1, .int .i64 A.2.1, .slice (some ⟨g1, off1, none⟩) na ka, .int .i64 A.2.2.2.1, .string A.2.2.2.2] [.int .i64 B.1, .int .i64 B.2.1, .slice (some ⟨g2, off2, none⟩) nb kb, .int .i64 B.2.2.2.1, .string B.2.2.2.2]) := hid ⟨HV.out.x5, HV.out.x6, HV.out.bel.drew⟩
              have HKp : Hid (∀ u : World, Below wr.heap.size wr u → UnA w u b5 b6 [.int .i64 A.1, .int .i64 A.2.1, .slice (some ⟨g1, off1, none⟩) na ka, .int .i64 A.2.2.2.1, .string A.2.2.2.2] [.int .i64 B.1, .int .i64 B.2.1, .slice (some ⟨g2, off2, none⟩) nb kb, .int .i64 B.2.2.2.1, .string B.2.2.2.2]) := hid (fun u hu => HV.out.keep hu)
              refine wp_region_G (S := fun ww => UnA w ww b5 b6 [.int .i64 A.1, .int .i64 A.2.1, .slice (some ⟨g1, off1, none⟩) na ka, .int .i64 A.2.2.2.1, .string A.2.2.2.2] [.int .i64 B.1, .int .i64 B.2.1, .slice (some ⟨g2, off2, none⟩) nb kb, .int .i64 B.2.2.2.1, .string B.2.2.2.2]) (ex := []) (by kernel_rfl) ?_
              try (change wpAnyG _ _ _ _ _ _ _ _ _ (World.drew _))
              refine wpAnyG_take (i := 0) (v := ?v41) rfl (by kernel_rfl) (fun _ _ _ h => h) (Or.inl ⟨by rfl, ?hy41⟩) HS.out ?rest41
              case hy41 => (intro ww _; go_simp; try with_reducible rfl)
              go_simp
              refine wpAnyG_take (i := 1) (v := ?v42) rfl (by kernel_rfl) (fun _ _ _ h => h) (Or.inl ⟨by rfl, ?hy42⟩) HS.out ?rest42
              case hy42 => (intro ww hS; have y2 := hS.x5.cell 2 _ rfl; go_simp; try with_reducible rfl)
              go_simp
              refine wpAnyG_take (i := 2) (v := ?v43) rfl (by kernel_rfl) (fun _ _ _ h => h) (Or.inl ⟨by rfl, ?hy43⟩) HS.out ?rest43
              case hy43 => (intro ww _; go_simp; try with_reducible rfl)
              go_simp
              refine wpAnyG_take (i := 3) (v := ?v44) rfl (by kernel_rfl) (fun _ _ _ h => h) (Or.inl ⟨by rfl, ?hy44⟩) HS.out ?rest44
              case hy44 => (intro ww hS; skip; go_simp; try with_reducible rfl)
              go_simp
              refine wpAnyG_take (i := 4) (v := ?v45) rfl (by kernel_rfl) (fun _ _ _ h => h) (Or.inl ⟨by rfl, ?hy45⟩) HS.out ?rest45
              case hy45 => (intro ww hS; have y0 : ww.cell? ⟨g1, off1 + j * 9, none⟩ = some (.int .i64 x.1) := (hS.bel.cell (p := ⟨g1, off1 + j * 9 + 0, none⟩) HG.out.1.1).trans (HG.out.1.2 0 _ rfl); have y1 : ww.cell? ⟨g1, off1 + j * 9 + 1, none⟩ = some (.int .i64 x.2.1) := (hS.bel.cell (p := ⟨g1, off1 + j * 9 + 1, none⟩) HG.out.1.1).trans (HG.out.1.2 1 _ rfl); have y2 : ww.cell? ⟨g1, off1 + j * 9 + 2, none⟩ = some (.int .i64 x.2.2.1.c) := (hS.bel.cell (p := ⟨g1, off1 + j * 9 + 2, none⟩) HG.out.1.1).trans (HG.out.1.2 2 _ rfl); have y3 : ww.cell? ⟨g1, off1 + j * 9 + 3, none⟩ = some (.int .i64 x.2.2.1.st) := (hS.bel.cell (p := ⟨g1, off1 + j * 9 + 3, none⟩) HG.out.1.1).trans (HG.out.1.2 3 _ rfl); have y4 : ww.cell? ⟨g1, off1 + j * 9 + 4, none⟩ = some (.int .i64 x.2.2.1.k) := (hS.bel.cell (p := ⟨g1, off1 + j * 9 + 4, none⟩) HG.out.1.1).trans (HG.out.1.2 4 _ rfl); have y5 : ww.cell? ⟨g1, off1 + j * 9 + 5, none⟩ = some (.string x.2.2.1.key) := (hS.bel.cell (p := ⟨g1, off1 + j * 9 + 5, none⟩) HG.out.1.1).trans (HG.out.1.2 5 _ rfl); have y6 : ww.cell? ⟨g1, off1 + j * 9 + 6, none⟩ = some (.float .f64 x.2.2.1.b) := (hS.bel.cell (p := ⟨g1, off1 + j * 9 + 6, none⟩) HG.out.1.1).trans (HG.out.1.2 6 _ rfl); have y7 : ww.cell? ⟨g1, off1 + j * 9 + 7, none⟩ = some (.int .i64 x.2.2.1.id) := (hS.bel.cell (p := ⟨g1, off1 + j * 9 + 7, none⟩) HG.out.1.1).trans (HG.out.1.2 7 _ rfl); have y8 : ww.cell? ⟨g1, off1 + j * 9 + 8, none⟩ = some (.slice ax x.2.2.2.length kx) := (hS.bel.cell (p := ⟨g1, off1 + j * 9 + 8, none⟩) HG.out.1.1).trans (HG.out.1.2 8 _ rfl); go_simp; try with_reducible rfl)
              go_simp
              refine wpAnyG_take (i := 5) (v := ?v46) rfl (by kernel_rfl) (fun _ _ _ h => h) (Or.inl ⟨by rfl, ?hy46⟩) HS.out ?rest46
              case hy46 => (intro ww _; go_simp; try with_reducible rfl)
              go_simp
              refine wpAnyG_take (i := 6) (v := ?v47) rfl (by kernel_rfl) (fun _ _ _ h => h) (Or.inl ⟨by rfl, ?hy47⟩) HS.out ?rest47
              case hy47 => (intro ww hS; have y2 := hS.x6.cell 2 _ rfl; go_simp; try with_reducible rfl)
              go_simp
              refine wpAnyG_take (i := 7) (v := ?v48) rfl (by kernel_rfl) (fun _ _ _ h => h) (Or.inl ⟨by rfl, ?hy48⟩) HS.out ?rest48
              case hy48 => (intro ww _; go_simp; try with_reducible rfl)
              go_simp
              refine wpAnyG_take (i := 8) (v := ?v49) rfl (by kernel_rfl) (fun _ _ _ h => h) (Or.inl ⟨by rfl, ?hy49⟩) HS.out ?rest49
              case hy49 => (intro ww hS; skip; go_simp; try with_reducible rfl)
              go_simp
              refine wpAnyG_take (i := 9) (v := ?v50) rfl (by kernel_rfl) (fun _ _ _ h => h) (Or.inl ⟨by rfl, ?hy50⟩) HS.out ?rest50
              case hy50 => (intro ww hS; have y0 : ww.cell? ⟨g2, off2 + j * 9, none⟩ = some (.int .i64 y.1) := (hS.bel.cell (p := ⟨g2, off2 + j * 9 + 0, none⟩) HG.out.2.1).trans (HG.out.2.2 0 _ rfl); have y1 : ww.cell? ⟨g2, off2 + j * 9 + 1, none⟩ = some (.int .i64 y.2.1) := (hS.bel.cell (p := ⟨g2, off2 + j * 9 + 1, none⟩) HG.out.2.1).trans (HG.out.2.2 1 _ rfl); have y2 : ww.cell? ⟨g2, off2 + j * 9 + 2, none⟩ = some (.int .i64 y.2.2.1.c) := (hS.bel.cell (p := ⟨g2, off2 + j * 9 + 2, none⟩) HG.out.2.1).trans (HG.out.2.2 2 _ rfl); have y3 : ww.cell? ⟨g2, off2 + j * 9 + 3, none⟩ = some (.int .i64 y.2.2.1.st) := (hS.bel.cell (p := ⟨g2, off2 + j * 9 + 3, none⟩) HG.out.2.1).trans (HG.out.2.2 3 _ rfl); have y4 : ww.cell? ⟨g2, off2 + j * 9 + 4, none⟩ = some (.int .i64 y.2.2.1.k) := (hS.bel.cell (p := ⟨g2, off2 + j * 9 + 4, none⟩) HG.out.2.1).trans (HG.out.2.2 4 _ rfl); have y5 : ww.cell? ⟨g2, off2 + j * 9 + 5, none⟩ = some (.string y.2.2.1.key) := (hS.bel.cell (p := ⟨g2, off2 + j * 9 + 5, none⟩) HG.out.2.1).trans (HG.out.2.2 5 _ rfl); have y6 : ww.cell? ⟨g2, off2 + j * 9 + 6, none⟩ = some (.float .f64 y.2.2.1.b) := (hS.bel.cell (p := ⟨g2, off2 + j * 9 + 6, none⟩) HG.out.2.1).trans (HG.out.2.2 6 _ rfl); have y7 : ww.cell? ⟨g2, off2 + j * 9 + 7, none⟩ = some (.int .i64 y.2.2.1.id) := (hS.bel.cell (p := ⟨g2, off2 + j * 9 + 7, none⟩) HG.out.2.1).trans (HG.out.2.2 7 _ rfl); have y8 : ww.cell? ⟨g2, off2 + j * 9 + 8, none⟩ = some (.slice ay y.2.2.2.length ky) := (hS.bel.cell (p := ⟨g2, off2 + j * 9 + 8, none⟩) HG.out.2.1).trans (HG.out.2.2 8 _ rfl); go_simp; try with_reducible rfl)
              go_simp
              refine wpAnyG_all (rs := [10, 11]) (by kernel_rfl) (by simp) ?_
              intro i hi
              rcases List.mem_cons.1 hi with rfl | hi
              · clear hi
                refine wpOp_d rfl (by rfl) (fun K hK => ?_)
                go_simp
                obtain ⟨v1, ev1⟩ : ∃ v1, v1 = (wr.alloc (.cells #[.int .i64 0, .int .i64 0, .int .i64 0, .int .i64 0, .int .i64 0, .string ⟨#[]⟩, .float .f64 0, .int .i64 0, .slice none 0 0] 52)).drew := ⟨_, rfl⟩
                have hb1 : Below wr.heap.size wr v1 := by rw [ev1]; exact ((Below.refl _ _).alloc (Nat.le_refl _) _).drew
                have T1 : Hid ((UnA w v1 b5 b6 [.int .i64 A.1, .int .i64 A.2.1, .slice (some ⟨g1, off1, none⟩) na ka, .int .i64 A.2.2.2.1, .string A.2.2.2.2] [.int .i64 B.1, .int .i64 B.2.1, .slice (some ⟨g2, off2, none⟩) nb kb, .int .i64 B.2.2.2.1, .string B.2.2.2.2]) ∧ BxAt v1 wr.heap.size [.int .i64 0, .int .i64 0, .int .i64 0, .int .i64 0, .int .i64 0, .string ⟨#[]⟩, .float .f64 0, .int .i64 0, .slice none 0 0] 52 ∧ Below wr.heap.size wr v1 ∧ wr.heap.size < v1.heap.size) := hid ⟨HKp.out _ hb1, by rw [ev1]; exact heap_alloc_last wr _, hb1, by rw [ev1]; show _ < (wr.alloc _).heap.size; simp⟩
                rw [← ev1]
                clear ev1 hb1
                refine hK _ _ ⟨fun _ => T1.out.1, ?_⟩
                clear hK K
                go_simp
                refine wpAnyG_all (rs := [11]) (by kernel_rfl) (by simp) ?_
                intro i hi
                obtain rfl := List.mem_singleton.1 hi
                clear hi
                refine wpOp_d rfl (by rfl) (fun K hK => ?_)
                go_simp
                obtain ⟨v2, ev2⟩ : ∃ v2, v2 = v1.alloc (.cells #[.int .i64 0, .int .i64 0, .int .i64 0, .int .i64 0, .int .i64 0, .string ⟨#[]⟩, .float .f64 0, .int .i64 0, .slice none 0 0] 52) := ⟨_, rfl⟩
                have hb2 : Below v1.heap.size v1 v2 := by rw [ev2]; exact (Below.refl _ _).alloc (Nat.le_refl _) _
                have T2 : Hid ((UnA w v2 b5 b6 [.int .i64 A.1, .int .i64 A.2.1, .slice (some ⟨g1, off1, none⟩) na ka, .int .i64 A.2.2.2.1, .string A.2.2.2.2] [.int .i64 B.1, .int .i64 B.2.1, .slice (some ⟨g2, off2, none⟩) nb kb, .int .i64 B.2.2.2.1, .string B.2.2.2.2]) ∧ BxAt v2 wr.heap.size [.int .i64 0, .int .i64 0, .int .i64 0, .int .i64 0, .int .i64 0, .string ⟨#[]⟩, .float .f64 0, .int .i64 0, .slice none 0 0] 52 ∧ BxAt v2 v1.heap.size [.int .i64 0, .int .i64 0, .int .i64 0, .int .i64 0, .int .i64 0, .string ⟨#[]⟩, .float .f64 0, .int .i64 0, .slice none 0 0] 52 ∧ Below wr.heap.size wr v2) := hid (by
                  have h1 : BxAt v2 wr.heap.size [.int .i64 0, .int .i64 0, .int .i64 0, .int .i64 0, .int .i64 0, .string ⟨#[]⟩, .float .f64 0, .int .i64 0, .slice none 0 0] 52 := T1.out.2.1.keep hb2
                  have h2 : BxAt v2 v1.heap.size [.int .i64 0, .int .i64 0, .int .i64 0, .int .i64 0, .int .i64 0, .string ⟨#[]⟩, .float .f64 0, .int .i64 0, .slice none 0 0] 52 := by rw [ev2]; exact heap_alloc_last v1 _
                  have h3 := T1.out.2.2.1.trans (hb2.mono T1.out.2.2.1.size)
                  exact ⟨HKp.out _ h3, h1, h2, h3⟩)
                rw [← ev2]
                clear ev2 hb2
                refine hK _ _ ⟨fun _ => T2.out.1, ?_⟩
                clear hK K
                go_simp
                refine wpAnyG_all (rs := [12]) (by kernel_rfl) (by simp) ?_
                intro i hi
                obtain rfl := List.mem_singleton.1 hi
                clear hi
                refine wpOp_d rfl (by rfl) (fun K hK => ?_)
                refine owp_store_blk 52 _ _ rfl wr.heap.size 0 rfl #[.int .i64 x.1, .int .i64 x.2.1, .int .i64 x.2.2.1.c, .int .i64 x.2.2.1.st, .int .i64 x.2.2.1.k, .string x.2.2.1.key, .float .f64 x.2.2.1.b, .int .i64 x.2.2.1.id, .slice ax x.2.2.2.length kx] rfl [.int .i64 0, .int .i64 0, .int .i64 0, .int .i64 0, .int .i64 0, .string ⟨#[]⟩, .float .f64 0, .int .i64 0, .slice none 0 0] 52 T2.out.2.1 (by simp) (by kernel_rfl) (by simp [Value.oneCell']) (fun v3 Hz => ?_)
                have T3 : Hid ((UnA w v3 b5 b6 [.int .i64 A.1, .int .i64 A.2.1, .slice (some ⟨g1, off1, none⟩) na ka, .int .i64 A.2.2.2.1, .string A.2.2.2.2] [.int .i64 B.1, .int .i64 B.2.1, .slice (some ⟨g2, off2, none⟩) nb kb, .int .i64 B.2.2.2.1, .string B.2.2.2.2]) ∧ BxAt v3 wr.heap.size [.int .i64 x.1, .int .i64 x.2.1, .int .i64 x.2.2.1.c, .int .i64 x.2.2.1.st, .int .i64 x.2.2.1.k, .string x.2.2.1.key, .float .f64 x.2.2.1.b, .int .i64 x.2.2.1.id, .slice ax x.2.2.2.length kx] 52 ∧ BxAt v3 v1.heap.size [.int .i64 0, .int .i64 0, .int .i64 0, .int .i64 0, .int .i64 0, .string ⟨#[]⟩, .float .f64 0, .int .i64 0, .slice none 0 0] 52 ∧ Below wr.heap.size wr v3) := hid (by
                  have hlt := T1.out.2.2.2
                  have hb3 := Hz.out.2.below T2.out.2.2.2 (by omega)
                  exact ⟨HKp.out _ hb3, Hz.out.1, (Hz.out.2.block _ (by omega)).trans T2.out.2.2.1, hb3⟩)
                clear Hz
                refine hK _ _ ⟨fun _ => T3.out.1, ?_⟩
                clear hK K
                go_simp
                refine wpAnyG_all (rs := [13]) (by kernel_rfl) (by simp) ?_
                intro i hi
                obtain rfl := List.mem_singleton.1 hi
                clear hi
                refine wpOp_d rfl (by rfl) (fun K hK => ?_)
                refine owp_store_blk 52 _ _ rfl v1.heap.size 0 rfl #[.int .i64 y.1, .int .i64 y.2.1, .int .i64 y.2.2.1.c, .int .i64 y.2.2.1.st, .int .i64 y.2.2.1.k, .string y.2.2.1.key, .float .f64 y.2.2.1.b, .int .i64 y.2.2.1.id, .slice ay y.2.2.2.length ky] rfl [.int .i64 0, .int .i64 0, .int .i64 0, .int .i64 0, .int .i64 0, .string ⟨#[]⟩, .float .f64 0, .int .i64 0, .slice none 0 0] 52 T3.out.2.2.1 (by simp) (by kernel_rfl) (by simp [Value.oneCell']) (fun v4 Hz => ?_)
                have T4 : Hid ((UnA w v4 b5 b6 [.int .i64 A.1, .int .i64 A.2.1, .slice (some ⟨g1, off1, none⟩) na ka, .int .i64 A.2.2.2.1, .string A.2.2.2.2] [.int .i64 B.1, .int .i64 B.2.1, .slice (some ⟨g2, off2, none⟩) nb kb, .int .i64 B.2.2.2.1, .string B.2.2.2.2]) ∧ BxAt v4 wr.heap.size [.int .i64 x.1, .int .i64 x.2.1, .int .i64 x.2.2.1.c, .int .i64 x.2.2.1.st, .int .i64 x.2.2.1.k, .string x.2.2.1.key, .float .f64 x.2.2.1.b, .int .i64 x.2.2.1.id, .slice ax x.2.2.2.length kx] 52 ∧ BxAt v4 v1.heap.size [.int .i64 y.1, .int .i64 y.2.1, .int .i64 y.2.2.1.c, .int .i64 y.2.2.1.st, .int .i64 y.2.2.1.k, .string y.2.2.1.key, .float .f64 y.2.2.1.b, .int .i64 y.2.2.1.id, .slice ay y.2.2.2.length ky] 52 ∧ Below wr.heap.size wr v4) := hid (by
                  have hlt := T1.out.2.2.2
                  have hb3 := Hz.out.2.below T3.out.2.2.2 (by omega)
                  exact ⟨HKp.out _ hb3, (Hz.out.2.block _ (by omega)).trans T3.out.2.1, Hz.out.1, hb3⟩)
                clear Hz
                refine hK _ _ ⟨fun _ => T4.out.1, ?_⟩
                clear hK K
                go_simp
                refine wpAnyG_done (by kernel_rfl) ?_ _
                go_simp
                go_wp2_with fail
                go_meet
                exact ⟨wr.heap.size, v1.heap.size, rfl, rfl, T4.out.1, T4.out.2.1, T4.out.2.2.1⟩
              · obtain rfl := List.mem_singleton.1 hi
                clear hi
                refine wpOp_d rfl (by rfl) (fun K hK => ?_)
                go_simp
                obtain ⟨v1, ev1⟩ : ∃ v1, v1 = (wr.alloc (.cells #[.int .i64 0, .int .i64 0, .int .i64 0, .int .i64 0, .int .i64 0, .string ⟨#[]⟩, .float .f64 0, .int .i64 0, .slice none 0 0] 52)).drew := ⟨_, rfl⟩
                have hb1 : Below wr.heap.size wr v1 := by rw [ev1]; exact ((Below.refl _ _).alloc (Nat.le_refl _) _).drew
                have T1 : Hid ((UnA w v1 b5 b6 [.int .i64 A.1, .int .i64 A.2.1, .slice (some ⟨g1, off1, none⟩) na ka, .int .i64 A.2.2.2.1, .string A.2.2.2.2] [.int .i64 B.1, .int .i64 B.2.1, .slice (some ⟨g2, off2, none⟩) nb kb, .int .i64 B.2.2.2.1, .string B.2.2.2.2]) ∧ BxAt v1 wr.heap.size [.int .i64 0, .int .i64 0, .int .i64 0, .int .i64 0, .int .i64 0, .string ⟨#[]⟩, .float .f64 0, .int .i64 0, .slice none 0 0] 52 ∧ Below wr.heap.size wr v1 ∧ wr.heap.size < v1.heap.size) := hid ⟨HKp.out _ hb1, by rw [ev1]; exact heap_alloc_last wr _, hb1, by rw [ev1]; show _ < (wr.alloc _).heap.size; simp⟩
                rw [← ev1]
                clear ev1 hb1
                refine hK _ _ ⟨fun _ => T1.out.1, ?_⟩
                clear hK K
                go_simp
                refine wpAnyG_all (rs := [10]) (by kernel_rfl) (by simp) ?_
                intro i hi
                obtain rfl := List.mem_singleton.1 hi
                clear hi
                refine wpOp_d rfl (by rfl) (fun K hK => ?_)
                go_simp
                obtain ⟨v2, ev2⟩ : ∃ v2, v2 = v1.alloc (.cells #[.int .i64 0, .int .i64 0, .int .i64 0, .int .i64 0, .int .i64 0, .string ⟨#[]⟩, .float .f64 0, .int .i64 0, .slice none 0 0] 52) := ⟨_, rfl⟩
                have hb2 : Below v1.heap.size v1 v2 := by rw [ev2]; exact (Below.refl _ _).alloc (Nat.le_refl _) _
                have T2 : Hid ((UnA w v2 b5 b6 [.int .i64 A.1, .int .i64 A.2.1, .slice (some ⟨g1, off1, none⟩) na ka, .int .i64 A.2.2.2.1, .string A.2.2.2.2] [.int .i64 B.1, .int .i64 B.2.1, .slice (some ⟨g2, off2, none⟩) nb kb, .int .i64 B.2.2.2.1, .string B.2.2.2.2]) ∧ BxAt v2 v1.heap.size [.int .i64 0, .int .i64 0, .int .i64 0, .int .i64 0, .int .i64 0, .string ⟨#[]⟩, .float .f64 0, .int .i64 0, .slice none 0 0] 52 ∧ BxAt v2 wr.heap.size [.int .i64 0, .int .i64 0, .int .i64 0, .int .i64 0, .int .i64 0, .string ⟨#[]⟩, .float .f64 0, .int .i64 0, .slice none 0 0] 52 ∧ Below wr.heap.size wr v2) := hid (by
                  have h1 : BxAt v2 wr.heap.size [.int .i64 0, .int .i64 0, .int .i64 0, .int .i64 0, .int .i64 0, .string ⟨#[]⟩, .float .f64 0, .int .i64 0, .slice none 0 0] 52 := T1.out.2.1.keep hb2
                  have h2 : BxAt v2 v1.heap.size [.int .i64 0, .int .i64 0, .int .i64 0, .int .i64 0, .int .i64 0, .string ⟨#[]⟩, .float .f64 0, .int .i64 0, .slice none 0 0] 52 := by rw [ev2]; exact heap_alloc_last v1 _
                  have h3 := T1.out.2.2.1.trans (hb2.mono T1.out.2.2.1.size)
                  exact ⟨HKp.out _ h3, h2, h1, h3⟩)
                rw [← ev2]
                clear ev2 hb2
                refine hK _ _ ⟨fun _ => T2.out.1, ?_⟩
                clear hK K
                go_simp
                refine wpAnyG_all (rs := [12]) (by kernel_rfl) (by simp) ?_
                intro i hi
                obtain rfl := List.mem_singleton.1 hi
                clear hi
                refine wpOp_d rfl (by rfl) (fun K hK => ?_)
                refine owp_store_blk 52 _ _ rfl v1.heap.size 0 rfl #[.int .i64 x.1, .int .i64 x.2.1, .int .i64 x.2.2.1.c, .int .i64 x.2.2.1.st, .int .i64 x.2.2.1.k, .string x.2.2.1.key, .float .f64 x.2.2.1.b, .int .i64 x.2.2.1.id, .slice ax x.2.2.2.length kx] rfl [.int .i64 0, .int .i64 0, .int .i64 0, .int .i64 0, .int .i64 0, .string ⟨#[]⟩, .float .f64 0, .int .i64 0, .slice none 0 0] 52 T2.out.2.1 (by simp) (by kernel_rfl) (by simp [Value.oneCell']) (fun v3 Hz => ?_)
                have T3 : Hid ((UnA w v3 b5 b6 [.int .i64 A.1, .int .i64 A.2.1, .slice (some ⟨g1, off1, none⟩) na ka, .int .i64 A.2.2.2.1, .string A.2.2.2.2] [.int .i64 B.1, .int .i64 B.2.1, .slice (some ⟨g2, off2, none⟩) nb kb, .int .i64 B.2.2.2.1, .string B.2.2.2.2]) ∧ BxAt v3 v1.heap.size [.int .i64 x.1, .int .i64 x.2.1, .int .i64 x.2.2.1.c, .int .i64 x.2.2.1.st, .int .i64 x.2.2.1.k, .string x.2.2.1.key, .float .f64 x.2.2.1.b, .int .i64 x.2.2.1.id, .slice ax x.2.2.2.length kx] 52 ∧ BxAt v3 wr.heap.size [.int .i64 0, .int .i64 0, .int .i64 0, .int .i64 0, .int .i64 0, .string ⟨#[]⟩, .float .f64 0, .int .i64 0, .slice none 0 0] 52 ∧ Below wr.heap.size wr v3) := hid (by
                  have hlt := T1.out.2.2.2
                  have hb3 := Hz.out.2.below T2.out.2.2.2 (by omega)
                  exact ⟨HKp.out _ hb3, Hz.out.1, (Hz.out.2.block _ (by omega)).trans T2.out.2.2.1, hb3⟩)
                clear Hz
                refine hK _ _ ⟨fun _ => T3.out.1, ?_⟩
                clear hK K
                go_simp
                refine wpAnyG_all (rs := [13]) (by kernel_rfl) (by simp) ?_
                intro i hi
                obtain rfl := List.mem_singleton.1 hi
                clear hi
                refine wpOp_d rfl (by rfl) (fun K hK => ?_)
                refine owp_store_blk 52 _ _ rfl wr.heap.size 0 rfl #[.int .i64 y.1, .int .i64 y.2.1, .int .i64 y.2.2.1.c, .int .i64 y.2.2.1.st, .int .i64 y.2.2.1.k, .string y.2.2.1.key, .float .f64 y.2.2.1.b, .int .i64 y.2.2.1.id, .slice ay y.2.2.2.length ky] rfl [.int .i64 0, .int .i64 0, .int .i64 0, .int .i64 0, .int .i64 0, .string ⟨#[]⟩, .float .f64 0, .int .i64 0, .slice none 0 0] 52 T3.out.2.2.1 (by simp) (by kernel_rfl) (by simp [Value.oneCell']) (fun v4 Hz => ?_)
                have T4 : Hid ((UnA w v4 b5 b6 [.int .i64 A.1, .int .i64 A.2.1, .slice (some ⟨g1, off1, none⟩) na ka, .int .i64 A.2.2.2.1, .string A.2.2.2.2] [.int .i64 B.1, .int .i64 B.2.1, .slice (some ⟨g2, off2, none⟩) nb kb, .int .i64 B.2.2.2.1, .string B.2.2.2.2]) ∧ BxAt v4 v1.heap.size [.int .i64 x.1, .int .i64 x.2.1, .int .i64 x.2.2.1.c, .int .i64 x.2.2.1.st, .int .i64 x.2.2.1.k, .string x.2.2.1.key, .float .f64 x.2.2.1.b, .int .i64 x.2.2.1.id, .slice ax x.2.2.2.length kx] 52 ∧ BxAt v4 wr.heap.size [.int .i64 y.1, .int .i64 y.2.1, .int .i64 y.2.2.1.c, .int .i64 y.2.2.1.st, .int .i64 y.2.2.1.k, .string y.2.2.1.key, .float .f64 y.2.2.1.b, .int .i64 y.2.2.1.id, .slice ay y.2.2.2.length ky] 52 ∧ Below wr.heap.size wr v4) := hid (by
                  have hlt := T1.out.2.2.2
                  have hb3 := Hz.out.2.below T3.out.2.2.2 (by omega)
                  exact ⟨HKp.out _ hb3, (Hz.out.2.block _ (by omega)).trans T3.out.2.1, Hz.out.1, hb3⟩)
                clear Hz
                refine hK _ _ ⟨fun _ => T4.out.1, ?_⟩
                clear hK K
                go_simp
                refine wpAnyG_done (by kernel_rfl) ?_ _
                go_simp
                go_wp2_with fail
                go_meet
                exact ⟨v1.heap.size, wr.heap.size, rfl, rfl, T4.out.1, T4.out.2.1, T4.out.2.2.1⟩
            case rest =>
              obtain ⟨b13, b14, rfl, rfl, hUB⟩ := hcut
              have HB4 : Hid (UnB w _ b5 b6 [.int .i64 A.1, .int .i64 A.2.1, .slice (some ⟨g1, off1, none⟩) na ka, .int .i64 A.2.2.2.1, .string A.2.2.2.2] [.int .i64 B.1, .int .i64 B.2.1, .slice (some ⟨g2, off2, none⟩) nb kb, .int .i64 B.2.2.2.1, .string B.2.2.2.2] b13 b14 [.int .i64 x.1, .int .i64 x.2.1, .int .i64 x.2.2.1.c, .int .i64 x.2.2.1.st, .int .i64 x.2.2.1.k, .string x.2.2.1.key, .float .f64 x.2.2.1.b, .int .i64 x.2.2.1.id, .slice ax x.2.2.2.length kx] [.int .i64 y.1, .int .i64 y.2.1, .int .i64 y.2.2.1.c, .int .i64 y.2.2.1.st, .int .i64 y.2.2.1.k, .string y.2.2.1.key, .float .f64 y.2.2.1.b, .int .i64 y.2.2.1.id, .slice ay y.2.2.2.length ky]) := hid hUB
              clear hUB c2
              have HWh : Hid (∀ u : World, Calls Try.prog 17 #[.agg #[.int .i64 x.2.2.1.c, .int .i64 x.2.2.1.st, .int .i64 x.2.2.1.k, .string x.2.2.1.key, .float .f64 x.2.2.1.b, .int .i64 x.2.2.1.id], .agg #[.int .i64 y.2.2.1.c, .int .i64 y.2.2.1.st, .int .i64 y.2.2.1.k, .string y.2.2.1.key, .float .f64 y.2.2.1.b, .int .i64 y.2.2.1.id]] u fun e w' => e = .returned (.bool (wholeB x.2.2.1 y.2.2.1)) ∧ Below u.heap.size u w') := hid (fun u => qwhole_any x.2.2.1 y.2.2.1 u)
              have e0 := HB4.out.x13.cell 0 _ rfl; have e1 := HB4.out.x13.cell 1 _ rfl; have e2 := HB4.out.x13.cell 2 _ rfl; have e3 := HB4.out.x13.cell 3 _ rfl; have e4 := HB4.out.x13.cell 4 _ rfl; have e5 := HB4.out.x13.cell 5 _ rfl; have e6 := HB4.out.x13.cell 6 _ rfl; have e7 := HB4.out.x13.cell 7 _ rfl; have e8 := HB4.out.x13.cell 8 _ rfl; have f0 := HB4.out.x14.cell 0 _ rfl; have f1 := HB4.out.x14.cell 1 _ rfl; have f2 := HB4.out.x14.cell 2 _ rfl; have f3 := HB4.out.x14.cell 3 _ rfl; have f4 := HB4.out.x14.cell 4 _ rfl; have f5 := HB4.out.x14.cell 5 _ rfl; have f6 := HB4.out.x14.cell 6 _ rfl; have f7 := HB4.out.x14.cell 7 _ rfl; have f8 := HB4.out.x14.cell 8 _ rfl
              go_upto_region 13 with fail
              go_simp
              go_cut [11] (fun v11 wz => v11 = .bool (ctHd x y) ∧ UnB w wz b5 b6 [.int .i64 A.1, .int .i64 A.2.1, .slice (some ⟨g1, off1, none⟩) na ka, .int .i64 A.2.2.2.1, .string A.2.2.2.2] [.int .i64 B.1, .int .i64 B.2.1, .slice (some ⟨g2, off2, none⟩) nb kb, .int .i64 B.2.2.2.1, .string B.2.2.2.2] b13 b14 [.int .i64 x.1, .int .i64 x.2.1, .int .i64 x.2.2.1.c, .int .i64 x.2.2.1.st, .int .i64 x.2.2.1.k, .string x.2.2.1.key, .float .f64 x.2.2.1.b, .int .i64 x.2.2.1.id, .slice ax x.2.2.2.length kx] [.int .i64 y.1, .int .i64 y.2.1, .int .i64 y.2.2.1.c, .int .i64 y.2.2.1.st, .int .i64 y.2.2.1.k, .string y.2.2.1.key, .float .f64 y.2.2.1.b, .int .i64 y.2.2.1.id, .slice ay y.2.2.2.length ky])
              case first =>
                by_cases he0 : ¬ x.1 = y.1
                · have hc0 : (x.1 == y.1) = false := by simpa using he0
                  have HF : Hid (ctHd x y = false) := hid (by rw [ctHd, decide_eq_false he0]; rfl)
                  clear he0
                  go_wp2_with fail
                  go_meet
                  exact ⟨by rw [HF.out], HB4.out⟩
                have he0 : x.1 = y.1 := Classical.not_not.1 he0
                have hc0 : (x.1 == y.1) = true := by simpa using he0
                by_cases he1 : ¬ x.2.1 = y.2.1
                · have hc1 : (x.2.1 == y.2.1) = false := by simpa using he1
                  have HF : Hid (ctHd x y = false) := hid (by rw [ctHd, decide_eq_true he0, decide_eq_false he1]; rfl)
                  clear he0 he1
                  go_wp2_with fail
                  go_meet
                  exact ⟨by rw [HF.out], HB4.out⟩
                have he1 : x.2.1 = y.2.1 := Classical.not_not.1 he1
                have hc1 : (x.2.1 == y.2.1) = true := by simpa using he1
                have HC : Hid (ctHd x y = (wholeB x.2.2.1 y.2.2.1 && decide (x.2.2.2.length = y.2.2.2.length))) := hid (by rw [ctHd, decide_eq_true he0, decide_eq_true he1]; rfl)
                clear he0 he1
                cases hw : wholeB x.2.2.1 y.2.2.1 with
                | false =>
                  rw [hw] at HWh HC
                  clear hw
                  go_wp2_with (go_at_call 17; refine (HWh.out _).mono ?_; rintro e w5 ⟨rfl, hb⟩; have HB5 : Hid (UnB w w5 b5 b6 [.int .i64 A.1, .int .i64 A.2.1, .slice (some ⟨g1, off1, none⟩) na ka, .int .i64 A.2.2.2.1, .string A.2.2.2.2] [.int .i64 B.1, .int .i64 B.2.1, .slice (some ⟨g2, off2, none⟩) nb kb, .int .i64 B.2.2.2.1, .string B.2.2.2.2] b13 b14 [.int .i64 x.1, .int .i64 x.2.1, .int .i64 x.2.2.1.c, .int .i64 x.2.2.1.st, .int .i64 x.2.2.1.k, .string x.2.2.1.key, .float .f64 x.2.2.1.b, .int .i64 x.2.2.1.id, .slice ax x.2.2.2.length kx] [.int .i64 y.1, .int .i64 y.2.1, .int .i64 y.2.2.1.c, .int .i64 y.2.2.1.st, .int .i64 y.2.2.1.k, .string y.2.2.1.key, .float .f64 y.2.2.1.b, .int .i64 y.2.2.1.id, .slice ay y.2.2.2.length ky]) := hid (HB4.out.keep hb); clear hb; clear e0 f0 e1 f1 e2 f2 e3 f3 e4 f4 e5 f5 e6 f6 e7 f7 e8 f8; have e0 := HB5.out.x13.cell 0 _ rfl; have e1 := HB5.out.x13.cell 1 _ rfl; have e2 := HB5.out.x13.cell 2 _ rfl; have e3 := HB5.out.x13.cell 3 _ rfl; have e4 := HB5.out.x13.cell 4 _ rfl; have e5 := HB5.out.x13.cell 5 _ rfl; have e6 := HB5.out.x13.cell 6 _ rfl; have e7 := HB5.out.x13.cell 7 _ rfl; have e8 := HB5.out.x13.cell 8 _ rfl; have f0 := HB5.out.x14.cell 0 _ rfl; have f1 := HB5.out.x14.cell 1 _ rfl; have f2 := HB5.out.x14.cell 2 _ rfl; have f3 := HB5.out.x14.cell 3 _ rfl; have f4 := HB5.out.x14.cell 4 _ rfl; have f5 := HB5.out.x14.cell 5 _ rfl; have f6 := HB5.out.x14.cell 6 _ rfl; have f7 := HB5.out.x14.cell 7 _ rfl; have f8 := HB5.out.x14.cell 8 _ rfl)
                  go_meet
                  exact ⟨by rw [HC.out]; rfl, HB5.out⟩
                | true =>
                  rw [hw] at HWh HC
                  clear hw
                  by_cases he3 : ¬ x.2.2.2.length = y.2.2.2.length
                  · have hc3 : ((x.2.2.2.length : Int) == (y.2.2.2.length : Int)) = false := by rw [beq_eq_false_iff_ne]; omega
                    have HF : Hid (ctHd x y = false) := hid (by rw [HC.out, decide_eq_false he3]; rfl)
                    clear he3
                    go_wp2_with (go_at_call 17; refine (HWh.out _).mono ?_; rintro e w5 ⟨rfl, hb⟩; have HB5 : Hid (UnB w w5 b5 b6 [.int .i64 A.1, .int .i64 A.2.1, .slice (some ⟨g1, off1, none⟩) na ka, .int .i64 A.2.2.2.1, .string A.2.2.2.2] [.int .i64 B.1, .int .i64 B.2.1, .slice (some ⟨g2, off2, none⟩) nb kb, .int .i64 B.2.2.2.1, .string B.2.2.2.2] b13 b14 [.int .i64 x.1, .int .i64 x.2.1, .int .i64 x.2.2.1.c, .int .i64 x.2.2.1.st, .int .i64 x.2.2.1.k, .string x.2.2.1.key, .float .f64 x.2.2.1.b, .int .i64 x.2.2.1.id, .slice ax x.2.2.2.length kx] [.int .i64 y.1, .int .i64 y.2.1, .int .i64 y.2.2.1.c, .int .i64 y.2.2.1.st, .int .i64 y.2.2.1.k, .string y.2.2.1.key, .float .f64 y.2.2.1.b, .int .i64 y.2.2.1.id, .slice ay y.2.2.2.length ky]) := hid (HB4.out.keep hb); clear hb; clear e0 f0 e1 f1 e2 f2 e3 f3 e4 f4 e5 f5 e6 f6 e7 f7 e8 f8; have e0 := HB5.out.x13.cell 0 _ rfl; have e1 := HB5.out.x13.cell 1 _ rfl; have e2 := HB5.out.x13.cell 2 _ rfl; have e3 := HB5.out.x13.cell 3 _ rfl; have e4 := HB5.out.x13.cell 4 _ rfl; have e5 := HB5.out.x13.cell 5 _ rfl; have e6 := HB5.out.x13.cell 6 _ rfl; have e7 := HB5.out.x13.cell 7 _ rfl; have e8 := HB5.out.x13.cell 8 _ rfl; have f0 := HB5.out.x14.cell 0 _ rfl; have f1 := HB5.out.x14.cell 1 _ rfl; have f2 := HB5.out.x14.cell 2 _ rfl; have f3 := HB5.out.x14.cell 3 _ rfl; have f4 := HB5.out.x14.cell 4 _ rfl; have f5 := HB5.out.x14.cell 5 _ rfl; have f6 := HB5.out.x14.cell 6 _ rfl; have f7 := HB5.out.x14.cell 7 _ rfl; have f8 := HB5.out.x14.cell 8 _ rfl)
                    go_meet
                    exact ⟨by rw [HF.out], HB5.out⟩
                  have he3 : x.2.2.2.length = y.2.2.2.length := Classical.not_not.1 he3
                  have hc3 : ((x.2.2.2.length : Int) == (y.2.2.2.length : Int)) = true := by rw [beq_iff_eq]; omega
                  have HF : Hid (ctHd x y = true) := hid (by rw [HC.out, decide_eq_true he3]; rfl)
                  clear he3
                  go_wp2_with (go_at_call 17; refine (HWh.out _).mono ?_; rintro e w5 ⟨rfl, hb⟩; have HB5 : Hid (UnB w w5 b5 b6 [.int .i64 A.1, .int .i64 A.2.1, .slice (some ⟨g1, off1, none⟩) na ka, .int .i64 A.2.2.2.1, .string A.2.2.2.2] [.int .i64 B.1, .int .i64 B.2.1, .slice (some ⟨g2, off2, none⟩) nb kb, .int .i64 B.2.2.2.1, .string B.2.2.2.2] b13 b14 [.int .i64 x.1, .int .i64 x.2.1, .int .i64 x.2.2.1.c, .int .i64 x.2.2.1.st, .int .i64 x.2.2.1.k, .string x.2.2.1.key, .float .f64 x.2.2.1.b, .int .i64 x.2.2.1.id, .slice ax x.2.2.2.length kx] [.int .i64 y.1, .int .i64 y.2.1, .int .i64 y.2.2.1.c, .int .i64 y.2.2.1.st, .int .i64 y.2.2.1.k, .string y.2.2.1.key, .float .f64 y.2.2.1.b, .int .i64 y.2.2.1.id, .slice ay y.2.2.2.length ky]) := hid (HB4.out.keep hb); clear hb; clear e0 f0 e1 f1 e2 f2 e3 f3 e4 f4 e5 f5 e6 f6 e7 f7 e8 f8; have e0 := HB5.out.x13.cell 0 _ rfl; have e1 := HB5.out.x13.cell 1 _ rfl; have e2 := HB5.out.x13.cell 2 _ rfl; have e3 := HB5.out.x13.cell 3 _ rfl; have e4 := HB5.out.x13.cell 4 _ rfl; have e5 := HB5.out.x13.cell 5 _ rfl; have e6 := HB5.out.x13.cell 6 _ rfl; have e7 := HB5.out.x13.cell 7 _ rfl; have e8 := HB5.out.x13.cell 8 _ rfl; have f0 := HB5.out.x14.cell 0 _ rfl; have f1 := HB5.out.x14.cell 1 _ rfl; have f2 := HB5.out.x14.cell 2 _ rfl; have f3 := HB5.out.x14.cell 3 _ rfl; have f4 := HB5.out.x14.cell 4 _ rfl; have f5 := HB5.out.x14.cell 5 _ rfl; have f6 := HB5.out.x14.cell 6 _ rfl; have f7 := HB5.out.x14.cell 7 _ rfl; have f8 := HB5.out.x14.cell 8 _ rfl)
                  go_meet
                  exact ⟨by rw [HF.out], HB5.out⟩
              case rest =>
                obtain ⟨rfl, hUC⟩ := hcut
                have HB6 : Hid (UnB w _ b5 b6 [.int .i64 A.1, .int .i64 A.2.1, .slice (some ⟨g1, off1, none⟩) na ka, .int .i64 A.2.2.2.1, .string A.2.2.2.2] [.int .i64 B.1, .int .i64 B.2.1, .slice (some ⟨g2, off2, none⟩) nb kb, .int .i64 B.2.2.2.1, .string B.2.2.2.2] b13 b14 [.int .i64 x.1, .int .i64 x.2.1, .int .i64 x.2.2.1.c, .int .i64 x.2.2.1.st, .int .i64 x.2.2.1.k, .string x.2.2.1.key, .float .f64 x.2.2.1.b, .int .i64 x.2.2.1.id, .slice ax x.2.2.2.length kx] [.int .i64 y.1, .int .i64 y.2.1, .int .i64 y.2.2.1.c, .int .i64 y.2.2.1.st, .int .i64 y.2.2.1.k, .string y.2.2.1.key, .float .f64 y.2.2.1.b, .int .i64 y.2.2.1.id, .slice ay y.2.2.2.length ky]) := hid hUC
                clear hUC HWh
                clear e0 f0 e1 f1 e2 f2 e3 f3 e4 f4 e5 f5 e6 f6 e7 f7 e8 f8
                obtain ⟨h0, eh⟩ : ∃ h0, h0 = ctHd x y := ⟨_, rfl⟩
                rw [← eh]
                have HH := hid eh
                clear eh
                have hmx : (x.2.2.2.length : Int) ≤ 9223372036854775807 := by have := HBx.out.1.2.2.1; unfold maxLen at this; omega
                go_wp2
                go_loopw [11, 15] (fun f i ws => ∃ (q : Nat) (b : Bool), q ≤ x.2.2.2.length ∧ i = .int .i64 (q : Int) ∧ f = .bool b ∧ UnB w ws b5 b6 [.int .i64 A.1, .int .i64 A.2.1, .slice (some ⟨g1, off1, none⟩) na ka, .int .i64 A.2.2.2.1, .string A.2.2.2.2] [.int .i64 B.1, .int .i64 B.2.1, .slice (some ⟨g2, off2, none⟩) nb kb, .int .i64 B.2.2.2.1, .string B.2.2.2.2] b13 b14 [.int .i64 x.1, .int .i64 x.2.1, .int .i64 x.2.2.1.c, .int .i64 x.2.2.1.st, .int .i64 x.2.2.1.k, .string x.2.2.1.key, .float .f64 x.2.2.1.b, .int .i64 x.2.2.1.id, .slice ax x.2.2.2.length kx] [.int .i64 y.1, .int .i64 y.2.1, .int .i64 y.2.2.1.c, .int .i64 y.2.2.1.st, .int .i64 y.2.2.1.k, .string y.2.2.1.key, .float .f64 y.2.2.1.b, .int .i64 y.2.2.1.id, .slice ay y.2.2.2.length ky] ∧ (b = true → ctHd x y = true ∧ x.2.2.2.take q = y.2.2.2.take q) ∧ (b = false → ctSm x y = false)) (fun _ i _ => ((x.2.2.2.length : Int) - intOf i).toNat)
                case atStart => exact ⟨0, h0, Nat.zero_le _, rfl, rfl, HB6.out, fun h => ⟨HH.out.symm.trans h, rfl⟩, fun h => ctSm_hd (HH.out.symm.trans h)⟩
                case round =>
                  obtain ⟨q, b, hq, rfl, rfl, hu, hk1, hk2⟩ := hrel
                  have HB7 := hid hu
                  have HK2 := hid (And.intro hk1 hk2)
                  clear hu hk1 hk2 HB4 HB6
                  have e8 := HB7.out.x13.cell 8 _ rfl
                  have f8 := HB7.out.x14.cell 8 _ rfl
                  have hq0 : (0 : Int) ≤ (q : Int) := Int.natCast_nonneg _
                  cases b with
                  | false =>
                    have HE := hid (HFa.out (HK2.out.2 rfl))
                    go_wp2
                    go_roundw
                    case rel => exact ⟨j + 1, false, by have := HJ.out; omega, rfl, rfl, HB7.out.a, (fun h => by cases h), fun _ => HE.out⟩
                    case measure => have := HJ.out; simp [intOf]; omega
                  | true =>
                    by_cases hqn : q = x.2.2.2.length
                    · have hq1 : ¬ ((q : Int) < (x.2.2.2.length : Int)) := by omega
                      have hsg : x.2.2.2 = y.2.2.2 := by
                        have h := (HK2.out.1 rfl).2
                        have hl := (HK2.out.1 rfl).1
                        simp only [ctHd, Bool.and_eq_true, decide_eq_true_eq] at hl
                        rw [List.take_of_length_le (by omega), List.take_of_length_le (by omega)] at h
                        exact h
                      have HE := hid (HTr.out (ctSm_yes (HK2.out.1 rfl).1 hsg))
                      clear hsg hq hqn
                      go_wp2
                      go_roundw
                      case rel => exact ⟨j + 1, true, by have := HJ.out; omega, rfl, rfl, HB7.out.a, fun _ => HE.out, (fun h => by cases h)⟩
                      case measure => have := HJ.out; simp [intOf]; omega
                    · have hq1 : (q : Int) < (x.2.2.2.length : Int) := by omega
                      have hq2 : (q : Int) < (y.2.2.2.length : Int) := by
                        have hl := (HK2.out.1 rfl).1
                        simp only [ctHd, Bool.and_eq_true, decide_eq_true_eq] at hl
                        omega
                      obtain ⟨s, es⟩ : ∃ s, x.2.2.2[q]? = some s := ⟨_, List.getElem?_eq_getElem (by omega)⟩
                      obtain ⟨t, et⟩ : ∃ t, y.2.2.2[q]? = some t := ⟨_, List.getElem?_eq_getElem (by omega)⟩
                      obtain ⟨g3, off3, rfl, _, hx1, hy1⟩ := pairs_atU (HP.out.1.keep HB7.out.a.bel (Nat.le_refl _)) q s es
                      obtain ⟨g4, off4, rfl, _, hx2, hy2⟩ := pairs_atU (HP.out.2.keep HB7.out.a.bel (Nat.le_refl _)) q t et
                      have HS := hid (And.intro es et)
                      have HJ2 := hid (And.intro hq hqn)
                      clear es et hq hqn
                      by_cases hst : s = t
                      · subst hst
                        have HE := hid (take_growU (HK2.out.1 rfl).2 HS.out.1 HS.out.2)
                        have HE2 := hid (HK2.out.1 rfl).1
                        go_wp2
                        go_quiet (fail)
                        go_wp2
                        go_roundw
                        case rel => exact ⟨q + 1, true, by have := HJ2.out; omega, rfl, rfl, HB7.out.keep (by have r := Below.refl wr.heap.size wr; exact ⟨r.os, r.tape, r.output, r.size, r.block⟩), fun _ => ⟨HE2.out, HE.out⟩, (fun h => by cases h)⟩
                        case measure => have := HJ2.out; simp [intOf]; omega
                      · have HE := hid (ctSm_no (ne_atU HS.out.1 HS.out.2 hst))
                        by_cases hs1 : s.1 = t.1
                        · have hs2 : ¬ s.2 = t.2 := fun e => hst (Prod.ext hs1 e)
                          have hb3 : (s.1 == t.1) = true := by simpa using hs1
                          have hb4 : (s.2.toList == t.2.toList) = false := text_neU hs2
                          clear hs1 hst hs2
                          go_wp2
                          go_quiet (fail)
                          go_wp2
                          go_roundw
                          case rel => exact ⟨q + 1, false, by have := HJ2.out; omega, rfl, rfl, HB7.out.keep (by have r := Below.refl wr.heap.size wr; exact ⟨r.os, r.tape, r.output, r.size, r.block⟩), (fun h => by cases h), fun _ => HE.out⟩
                          case measure => have := HJ2.out; simp [intOf]; omega
                        · have hb3 : (s.1 == t.1) = false := by simpa using hs1
                          clear hst hs1
                          go_wp2
                          go_quiet (fail)
                          go_wp2
                          go_roundw
                          case rel => exact ⟨q + 1, false, by have := HJ2.out; omega, rfl, rfl, HB7.out.keep (by have r := Below.refl wr.heap.size wr; exact ⟨r.os, r.tape, r.output, r.size, r.block⟩), (fun h => by cases h), fun _ => HE.out⟩
                          case measure => have := HJ2.out; simp [intOf]; omega
end Go.Proofs.Ytpflcneoojakdaa
