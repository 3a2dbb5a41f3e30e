/- A tally that is not there. -/
import Derived.Test.YtkceihnjnjbceaaKh1
namespace Go.Proofs.Ytkceihnjnjbceaa
open Go.RowKit

def VwAt (w : World) (p : Nat) (f : Int) (t : ByteArray) (v : Value) (z : Int) : Prop := w.heap[p]? = some (.cells #[.int .i64 f, .string t, v, .int .i64 z] 38 (0, 0))
theorem VwAt.cells {w : World} {p : Nat} {f : Int} {t : ByteArray} {v : Value} {z : Int} (h : VwAt w p f t v z) : w.cell? ⟨p, 0, none⟩ = some (.int .i64 f) ∧ w.cell? ⟨p, 1, none⟩ = some (.string t) ∧ w.cell? ⟨p, 2, none⟩ = some v ∧ w.cell? ⟨p, 3, none⟩ = some (.int .i64 z) := ⟨cell_at (L := [_, _, _, _]) h 0 _ rfl, cell_at (L := [_, _, _, _]) h 1 _ rfl, cell_at (L := [_, _, _, _]) h 2 _ rfl, cell_at (L := [_, _, _, _]) h 3 _ rfl⟩
theorem VwAt.keep {w w' : World} {p : Nat} {f : Int} {t : ByteArray} {v : Value} {z : Int} (h : VwAt w p f t v z) (hb : Below w.heap.size w w') : VwAt w' p f t v z := (hb.block p (lt_of_blk h)).trans h
/-- The vote, and what is settled: nothing. -/
structure NlSt (w0 w : World) (q : Nat) (f : Int) (t : ByteArray) (v : Value) (z : Int) : Prop where
  vt : VwAt w w0.heap.size f t v z
  st : w.heap[q]? = some (.cells #[.string ⟨#[]⟩, .slice none 0 0, .int .i64 0, .slice none 0 0, .slice none 0 0] 51 (0, 0))
  bel : Below w0.heap.size w0 w
theorem NlSt.keep {w0 w w' : World} {q : Nat} {f : Int} {t : ByteArray} {v : Value} {z : Int} (h : NlSt w0 w q f t v z) (hb : Below w.heap.size w w') : NlSt w0 w' q f t v z := ⟨h.vt.keep hb, (hb.block _ (lt_of_blk h.st)).trans h.st, h.bel.trans (hb.mono h.bel.size)⟩
set_option maxRecDepth 100000 in
set_option maxHeartbeats 6400000 in
theorem votesNil_walk (f : Int) (t : ByteArray) (ht : t.size ≤ 140737488355328) (b : Option Addr) (k cp : Nat) (nx : List Int) (hk : nx.length = k) (hkm : k ≤ maxLen) (z : Int) (w : World) (hN : IntsIn w b nx) :
    Calls Try.prog 8 #[.agg #[.int .i64 f, .string t, .slice b k cp, .int .i64 z]] w fun e w' => e = .returned (.bool true) ∧ Below w.heap.size w w' := by
  have HL : Hid (∀ u : World, Calls Try.prog 9 #[] u fun e w' => e = .returned (.bool true) ∧ Below u.heap.size u w') := hid ulives_any
  have HS : Hid (∀ u : World, Calls Try.prog 18 #[.pointer none] u fun e w' => e = .returned (.tuple #[.agg #[.string ⟨#[]⟩, .slice none 0 0, .int .i64 0, .slice none 0 0, .slice none 0 0], .bool false]) ∧ Below u.heap.size u w') := hid vsettled_nil
  have HF : Hid (∀ u : World, Calls Try.prog 29 #[] u fun e w' => ∃ ad cp, e = .returned (.agg #[.int .i64 0, .slice ad 4 cp]) ∧ IntsIn w' ad lvM ∧ Below u.heap.size u w') := hid ufour_any
  have HG : Hid (∀ (u : World) (ad : Option Addr) (cc : Nat), Below w.heap.size w u → IntsIn u ad lvM → Calls Try.prog 14 #[.agg #[.int .i64 f, .string t, .slice b k cp, .int .i64 z], .agg #[.int .i64 0, .slice ad 4 cc]] u fun e w' => ∃ a5 n5 c5, e = .returned (.slice a5 n5 c5) ∧ Below u.heap.size u w') := hid (fun u ad cc hu hi => (usigs_any f t ht b k cp nx hk hkm z 0 ad 4 cc lvM rfl (by decide) u hi (hN.keep hu (Nat.le_refl _))).mono fun e w' ⟨a5, c5, k1, _, k3⟩ => ⟨a5, _, c5, k1, k3⟩)
  have H0 : Hid (VwAt (w.alloc (.cells #[.int .i64 f, .string t, .slice b k cp, .int .i64 z] 38)) w.heap.size f t (.slice b k cp) z ∧ Below w.heap.size w (w.alloc (.cells #[.int .i64 f, .string t, .slice b k cp, .int .i64 z] 38))) := hid ⟨heap_alloc_last w _, (Below.refl _ _).alloc (Nat.le_refl _) _⟩
  clear hN
  go_enter Try.func8, Try.ntmps8
  go_wp2_with (first
    | (go_at_call 9; refine (HL.out _).mono ?_; rintro e w1 ⟨rfl, hb1⟩; have H1 : Hid (VwAt w1 w.heap.size f t (.slice b k cp) z ∧ Below w.heap.size w w1) := hid ⟨H0.out.1.keep hb1, H0.out.2.trans (hb1.mono H0.out.2.size)⟩; clear hb1)
    | (go_at_call 18; refine (HS.out _).mono ?_; rintro e w2 ⟨rfl, hb2⟩; have H2 : Hid (VwAt w2 w.heap.size f t (.slice b k cp) z ∧ Below w.heap.size w w2) := hid ⟨H1.out.1.keep hb2, H1.out.2.trans (hb2.mono H1.out.2.size)⟩; clear hb2))
  obtain ⟨wz, ez⟩ : ∃ wz, wz = w2.alloc (.cells #[.string ⟨#[]⟩, .slice none 0 0, .int .i64 0, .slice none 0 0, .slice none 0 0] 51) := ⟨_, rfl⟩
  have hbz : Below w2.heap.size w2 wz := by rw [ez]; exact (Below.refl _ _).alloc (Nat.le_refl _) _
  have HZ : Hid (NlSt w wz w2.heap.size f t (.slice b k cp) z) := hid ⟨H2.out.1.keep hbz, by rw [ez]; exact heap_alloc_last w2 _, H2.out.2.trans (hbz.mono H2.out.2.size)⟩
  rw [← ez]
  clear ez hbz
  generalize w2.heap.size = q at HZ ⊢
  have HV : Hid (NlSt w wz.drew q f t (.slice b k cp) z) := hid (HZ.out.keep (Below.refl _ _).drew)
  refine wp_region_G (S := fun ww => NlSt w ww q f t (.slice b k cp) z) (ex := []) (by kernel_rfl) ?_
  try (change wpAnyG _ _ _ _ _ _ _ _ _ (World.drew _))
  refine wpAnyG_take (i := 0) (v := ?v1) rfl (by kernel_rfl) (fun _ _ _ h => h) (Or.inl ⟨by rfl, ?hy1⟩) HV.out ?rest1
  case hy1 => (intro ww _; go_simp; try with_reducible rfl)
  go_simp
  refine wpAnyG_take (i := 1) (v := ?v2) rfl (by kernel_rfl) (fun _ _ _ h => h) (Or.inl ⟨by rfl, ?hy2⟩) HV.out ?rest2
  case hy2 => (intro ww _; go_simp; try with_reducible rfl)
  go_simp
  refine wpAnyG_take (i := 2) (v := ?v3) rfl (by kernel_rfl) (fun _ _ _ h => h) (Or.inl ⟨by rfl, ?hy3⟩) HV.out ?rest3
  case hy3 => (intro ww hS; obtain ⟨y0, y1, y2, y3⟩ := hS.vt.cells; go_simp; try with_reducible rfl)
  go_simp
  refine wpAnyG_take (i := 3) (v := ?v4) rfl (by kernel_rfl) (fun _ _ _ h => h) (Or.inl ⟨by rfl, ?hy4⟩) HV.out ?rest4
  case hy4 => (intro ww _; go_simp; try with_reducible rfl)
  go_simp
  refine wpAnyG_take (i := 4) (v := ?v5) rfl (by kernel_rfl) (fun _ _ _ h => h) (Or.inl ⟨by rfl, ?hy5⟩) HV.out ?rest5
  case hy5 => (intro ww hS; obtain ⟨y0, y1, y2, y3⟩ := hS.vt.cells; go_simp; try with_reducible rfl)
  go_simp
  refine wpAnyG_take (i := 5) (v := ?v6) rfl (by kernel_rfl) (fun _ _ _ h => h) (Or.inl ⟨by rfl, ?hy6⟩) HV.out ?rest6
  case hy6 => (intro ww _; go_simp; try with_reducible rfl)
  go_simp
  refine wpAnyG_take (i := 6) (v := ?v7) rfl (by kernel_rfl) (fun _ _ _ h => h) (Or.inl ⟨by rfl, ?hy7⟩) HV.out ?rest7
  case hy7 => (intro ww hS; obtain ⟨y0, y1, y2, y3⟩ := hS.vt.cells; go_simp; try with_reducible rfl)
  go_simp
  refine wpAnyG_take (i := 7) (v := ?v8) rfl (by kernel_rfl) (fun _ _ _ h => h) (Or.inl ⟨by rfl, ?hy8⟩) HV.out ?rest8
  case hy8 => (intro ww hS; obtain ⟨y0, y1, y2, y3⟩ := hS.vt.cells; go_simp; try with_reducible rfl)
  go_simp
  refine wpAnyG_all (rs := [8]) (by kernel_rfl) (by simp) ?_
  intro i hi
  obtain rfl := List.mem_singleton.1 hi
  clear hi
  refine wpOp_v rfl (by rfl) (fun K hK => ?_)
  go_simp
  refine (HF.out _).mono ?_
  rintro e w4 ⟨ad4, cp4, rfl, hi4, hb⟩
  have H4 : Hid (NlSt w w4 q f t (.slice b k cp) z) := hid (HV.out.keep hb)
  have HI4 := hid hi4
  clear hb hi4
  refine hK _ _ ⟨fun _ => H4.out, ?_⟩
  clear hK K
  go_simp
  refine wpAnyG_all (rs := [9]) (by kernel_rfl) (by simp) ?_
  intro i hi
  obtain rfl := List.mem_singleton.1 hi
  clear hi
  refine wpOp_v rfl (by rfl) (fun K hK => ?_)
  go_simp
  refine (HG.out _ _ _ H4.out.bel HI4.out).mono ?_
  rintro e w5 ⟨a5, n5, c5, rfl, hb⟩
  have H5 : Hid (NlSt w w5 q f t (.slice b k cp) z) := hid (H4.out.keep hb)
  clear hb
  refine hK _ _ ⟨fun _ => H5.out, ?_⟩
  clear hK K
  go_simp
  refine wpAnyG_all (rs := [10]) (by kernel_rfl) (by simp) ?_
  intro i hi
  obtain rfl := List.mem_singleton.1 hi
  clear hi
  refine wpOp_v rfl (by rfl) (fun K hK => ?_)
  go_simp
  refine (vadd_nil _ _ _ _ _ _ _ _ _).mono ?_
  rintro e w6 ⟨rfl, hb⟩
  have H6 : Hid (NlSt w w6 q f t (.slice b k cp) z) := hid (H5.out.keep hb)
  clear hb
  refine hK _ _ ⟨fun _ => H6.out, ?_⟩
  clear hK K
  go_simp
  refine wpAnyG_take (i := 11) (v := ?v9) rfl (by kernel_rfl) (fun _ _ _ h => h) (Or.inl ⟨by rfl, ?hy9⟩) H6.out ?rest9
  case hy9 => (intro ww _; go_simp; try with_reducible rfl)
  go_simp
  refine wpAnyG_take (i := 12) (v := ?v10) rfl (by kernel_rfl) (fun _ _ _ h => h) (Or.inl ⟨by rfl, ?hy10⟩) H6.out ?rest10
  case hy10 => (intro ww _; go_simp; try with_reducible rfl)
  go_simp
  refine wpAnyG_take (i := 13) (v := ?v11) rfl (by kernel_rfl) (fun _ _ _ h => h) (Or.inl ⟨by rfl, ?hy11⟩) H6.out ?rest11
  case hy11 => (intro ww _; go_simp; try with_reducible rfl)
  go_simp
  refine wpAnyG_all (rs := [14]) (by kernel_rfl) (by simp) ?_
  intro i hi
  obtain rfl := List.mem_singleton.1 hi
  clear hi
  refine wpOp_v rfl (by rfl) (fun K hK => ?_)
  go_simp
  refine (vcount_nil _).mono ?_
  rintro e w7 ⟨rfl, hb⟩
  have H7 : Hid (NlSt w w7 q f t (.slice b k cp) z) := hid (H6.out.keep hb)
  clear hb
  refine hK _ _ ⟨fun _ => H7.out, ?_⟩
  clear hK K
  go_simp
  refine wpAnyG_take (i := 15) (v := ?v12) rfl (by kernel_rfl) (fun _ _ _ h => h) (Or.inl ⟨by rfl, ?hy12⟩) H7.out ?rest12
  case hy12 => (intro ww _; go_simp; try with_reducible rfl)
  go_simp
  refine wpAnyG_take (i := 16) (v := ?v13) rfl (by kernel_rfl) (fun _ _ _ h => h) (Or.inl ⟨by rfl, ?hy13⟩) H7.out ?rest13
  case hy13 => (intro ww _; go_simp; try with_reducible rfl)
  go_simp
  refine wpAnyG_take (i := 17) (v := ?v14) rfl (by kernel_rfl) (fun _ _ _ h => h) (Or.inl ⟨by rfl, ?hy14⟩) H7.out ?rest14
  case hy14 => (intro ww _; go_simp; try with_reducible rfl)
  go_simp
  refine wpAnyG_take (i := 18) (v := ?v15) rfl (by kernel_rfl) (fun _ _ _ h => h) (Or.inl ⟨by rfl, ?hy15⟩) H7.out ?rest15
  case hy15 => (intro ww _; go_simp; try with_reducible rfl)
  go_simp
  refine wpAnyG_take (i := 19) (v := ?v16) rfl (by kernel_rfl) (fun _ _ _ h => h) (Or.inl ⟨by rfl, ?hy16⟩) H7.out ?rest16
  case hy16 => (intro ww _; go_simp; try with_reducible rfl)
  go_simp
  refine wpAnyG_take (i := 20) (v := ?v17) rfl (by kernel_rfl) (fun _ _ _ h => h) (Or.inl ⟨by rfl, ?hy17⟩) H7.out ?rest17
  case hy17 => (intro ww _; go_simp; try with_reducible rfl)
  go_simp
  refine wpAnyG_take (i := 21) (v := ?v18) rfl (by kernel_rfl) (fun _ _ _ h => h) (Or.inl ⟨by rfl, ?hy18⟩) H7.out ?rest18
  case hy18 => (intro ww _; go_simp; try with_reducible rfl)
  go_simp
  refine wpAnyG_take (i := 22) (v := ?v19) rfl (by kernel_rfl) (fun _ _ _ h => h) (Or.inl ⟨by rfl, ?hy19⟩) H7.out ?rest19
  case hy19 => (intro ww _; go_simp; try with_reducible rfl)
  go_simp
  refine wpAnyG_take (i := 23) (v := ?v20) rfl (by kernel_rfl) (fun _ _ _ h => h) (Or.inl ⟨by rfl, ?hy20⟩) H7.out ?rest20
  case hy20 => (intro ww hS; have y4 := cell_at (L := [_, _, _, _, _]) hS.st 0 _ rfl; have y5 := cell_at (L := [_, _, _, _, _]) hS.st 1 _ rfl; go_simp; try with_reducible rfl)
  go_simp
  refine wpAnyG_take (i := 24) (v := ?v21) rfl (by kernel_rfl) (fun _ _ _ h => h) (Or.inl ⟨by rfl, ?hy21⟩) H7.out ?rest21
  case hy21 => (intro ww _; go_simp; try with_reducible rfl)
  go_simp
  refine wpAnyG_take (i := 25) (v := ?v22) rfl (by kernel_rfl) (fun _ _ _ h => h) (Or.inl ⟨by rfl, ?hy22⟩) H7.out ?rest22
  case hy22 => (intro ww _; go_simp; try with_reducible rfl)
  go_simp
  refine wpAnyG_take (i := 26) (v := ?v23) rfl (by kernel_rfl) (fun _ _ _ h => h) (Or.inl ⟨by rfl, ?hy23⟩) H7.out ?rest23
  case hy23 => (intro ww _; go_simp; try with_reducible rfl)
  go_simp
  refine wpAnyG_take (i := 27) (v := ?v24) rfl (by kernel_rfl) (fun _ _ _ h => h) (Or.inl ⟨by rfl, ?hy24⟩) H7.out ?rest24
  case hy24 => (intro ww _; go_simp; try with_reducible rfl)
  go_simp
  refine wpAnyG_take (i := 28) (v := ?v25) rfl (by kernel_rfl) (fun _ _ _ h => h) (Or.inl ⟨by rfl, ?hy25⟩) H7.out ?rest25
  case hy25 => (intro ww hS; have y4 := cell_at (L := [_, _, _, _, _]) hS.st 0 _ rfl; have y5 := cell_at (L := [_, _, _, _, _]) hS.st 1 _ rfl; go_simp; try with_reducible rfl)
  go_simp
  refine wpAnyG_all (rs := [29]) (by kernel_rfl) (by simp) ?_
  intro i hi
  obtain rfl := List.mem_singleton.1 hi
  clear hi
  refine wpOp_v rfl (by rfl) (fun K hK => ?_)
  go_simp
  refine hK _ _ ⟨fun _ => H7.out, ?_⟩
  clear hK K
  go_simp
  refine wpAnyG_take (i := 30) (v := ?v26) rfl (by kernel_rfl) (fun _ _ _ h => h) (Or.inl ⟨by rfl, ?hy26⟩) H7.out ?rest26
  case hy26 => (intro ww _; go_simp; try with_reducible rfl)
  go_simp
  refine wpAnyG_take (i := 31) (v := ?v27) rfl (by kernel_rfl) (fun _ _ _ h => h) (Or.inl ⟨by rfl, ?hy27⟩) H7.out ?rest27
  case hy27 => (intro ww _; go_simp; try with_reducible rfl)
  go_simp
  refine wpAnyG_all (rs := [32]) (by kernel_rfl) (by simp) ?_
  intro i hi
  obtain rfl := List.mem_singleton.1 hi
  clear hi
  refine wpOp_v rfl (by rfl) (fun K hK => ?_)
  go_simp
  refine hK _ _ ⟨fun _ => H7.out, ?_⟩
  clear hK K
  go_simp
  refine wpAnyG_done (by kernel_rfl) ?_ _
  go_simp
  go_wp2
  go_ret
  exact ⟨rfl, H7.out.bel⟩
end Go.Proofs.Ytkceihnjnjbceaa
