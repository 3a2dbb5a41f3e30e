/- TermsProves, walked. -/
import Derived.Test.YtgnapfgiefdlaaaTeL
import Derived.Deep.RegionHeld3
namespace Go.Proofs.Ytgnapfgiefdlaaa
open Go.RowKit

section
variable {P : Program} {ops : Array Oper} {o : Oper} {a : Act} {w : World} {Q : Exit → Act → World → Prop} {K : Act → World → Prop}
theorem wpOp_g {i : Nat} (hi : ops[i]? = some o) (hw : Region.wanted o (yielded ops a.tmps) = true) (h : ∀ K' : Act → World → Prop, (∀ a w, K a w → K' a w) → o.wp P a w K' Q) : wpOp P ops Q i K a w := by
  unfold Go.wpOp
  simp only [hi, hw, if_true]
  exact .inl (h _ (fun _ _ h => h))
end
set_option maxRecDepth 100000 in
set_option maxHeartbeats 3200000 in
theorem termsProves_walk (ep : Int) (a : Option Addr) (n cap : Nat) (l : List Int) (hn : l.length = n) (hm8 : n * 8 ≤ 140737488355328) (t : ByteArray) (b : Option Addr) (m cp : Nat) (ss : List (Int × ByteArray)) (hsn : ss.length = m) (hsm : m * 24 ≤ 140737488355328) (w : World) (hI : IntsIn w a l) (hP : PairsIn w b ss) :
    Calls Try.prog 3 #[.agg #[.int .i64 ep, .slice a n cap, .string t, .slice b m cp]] w fun e w' => e = .returned (.bool true) ∧ Below w.heap.size w w' := by
  have hm : n ≤ maxLen := by unfold maxLen; omega
  have HM8 := hid hm8
  clear hm8
  have HW : Hid ((w.alloc (.cells #[.int .i64 ep, .slice a n cap, .string t, .slice b m cp] 27)).heap[w.heap.size]? = some (.cells [.int .i64 ep, .slice a n cap, .string t, .slice b m cp].toArray 27 (0, 0)) ∧ Below w.heap.size w (w.alloc (.cells #[.int .i64 ep, .slice a n cap, .string t, .slice b m cp] 27))) := hid ⟨heap_alloc_last w _, (Below.refl _ _).alloc (Nat.le_refl _) _⟩
  have HD := hid (And.intro hI hP)
  have HL := hid (And.intro (And.intro hn hm) (And.intro hsn hsm))
  clear hI hP hn hm hsn hsm
  go_enter Try.func3, Try.ntmps3
  go_wp2_with (go_at_call 9; refine (tlives_any _).mono ?_; rintro e w1 ⟨rfl, hb1⟩; have H1 : Hid (w1.heap[w.heap.size]? = some (.cells [.int .i64 ep, .slice a n cap, .string t, .slice b m cp].toArray 27 (0, 0)) ∧ Below w.heap.size w w1) := hid ⟨(hb1.block _ (lt_of_blk HW.out.1)).trans HW.out.1, HW.out.2.trans (hb1.mono HW.out.2.size)⟩; clear hb1)
  have HS1 : Hid (w1.drew.heap[w.heap.size]? = some (.cells [.int .i64 ep, .slice a n cap, .string t, .slice b m cp].toArray 27 (0, 0))) := hid H1.out.1
  have HC : Hid (∀ ww : World, ww.heap[w.heap.size]? = some (.cells [.int .i64 ep, .slice a n cap, .string t, .slice b m cp].toArray 27 (0, 0)) → ww.cell? ⟨w.heap.size, 0, none⟩ = some (.int .i64 ep) ∧ ww.cell? ⟨w.heap.size, 1, none⟩ = some (.slice a n cap) ∧ ww.cell? ⟨w.heap.size, 2, none⟩ = some (.string t) ∧ ww.cell? ⟨w.heap.size, 3, none⟩ = some (.slice b m cp)) := hid (fun ww h => ⟨cell_at h 0 _ rfl, cell_at h 1 _ rfl, cell_at h 2 _ rfl, cell_at h 3 _ rfl⟩)
  refine wp_region_held (S := fun ww => ww.heap[w.heap.size]? = some (.cells [.int .i64 ep, .slice a n cap, .string t, .slice b m cp].toArray 27 (0, 0))) (by kernel_rfl) ?_
  try (change wpAnyH _ _ _ _ _ _ _ _ (World.drew _))
  refine wpAnyH_take (i := 0) (v := ?v1) rfl (by kernel_rfl) (by kernel_rfl) (by kernel_rfl) (fun _ _ _ h => h) (Or.inl ⟨by rfl, ?hy1⟩) HS1.out ?rest1
  case hy1 => (intro ww _; go_simp; try with_reducible rfl)
  go_simp
  refine wpAnyH_take (i := 1) (v := ?v2) rfl (by kernel_rfl) (by kernel_rfl) (by kernel_rfl) (fun _ _ _ h => h) (Or.inl ⟨by rfl, ?hy2⟩) HS1.out ?rest2
  case hy2 => (intro ww hS; obtain ⟨z0, z1, z2, z3⟩ := HC.out ww hS; go_simp; try with_reducible rfl)
  go_simp
  refine wpAnyH_take (i := 2) (v := ?v3) rfl (by kernel_rfl) (by kernel_rfl) (by kernel_rfl) (fun _ _ _ h => h) (Or.inl ⟨by rfl, ?hy3⟩) HS1.out ?rest3
  case hy3 => (intro ww _; go_simp; try with_reducible rfl)
  go_simp
  refine wpAnyH_take (i := 3) (v := ?v4) rfl (by kernel_rfl) (by kernel_rfl) (by kernel_rfl) (fun _ _ _ h => h) (Or.inl ⟨by rfl, ?hy4⟩) HS1.out ?rest4
  case hy4 => (intro ww hS; obtain ⟨z0, z1, z2, z3⟩ := HC.out ww hS; go_simp; try with_reducible rfl)
  go_simp
  refine wpAnyH_take (i := 4) (v := ?v5) rfl (by kernel_rfl) (by kernel_rfl) (by kernel_rfl) (fun _ _ _ h => h) (Or.inl ⟨by rfl, ?hy5⟩) HS1.out ?rest5
  case hy5 => (intro ww _; go_simp; try with_reducible rfl)
  go_simp
  refine wpAnyH_take (i := 5) (v := ?v6) rfl (by kernel_rfl) (by kernel_rfl) (by kernel_rfl) (fun _ _ _ h => h) (Or.inl ⟨by rfl, ?hy6⟩) HS1.out ?rest6
  case hy6 => (intro ww hS; obtain ⟨z0, z1, z2, z3⟩ := HC.out ww hS; go_simp; try with_reducible rfl)
  go_simp
  refine wpAnyH_take (i := 7) (v := ?v7) rfl (by kernel_rfl) (by kernel_rfl) (by kernel_rfl) (fun _ _ _ h => h) (Or.inl ⟨by rfl, ?hy7⟩) HS1.out ?rest7
  case hy7 => (intro ww _; go_simp; try with_reducible rfl)
  go_simp
  refine wpAnyH_take (i := 8) (v := ?v8) rfl (by kernel_rfl) (by kernel_rfl) (by kernel_rfl) (fun _ _ _ h => h) (Or.inl ⟨by rfl, ?hy8⟩) HS1.out ?rest8
  case hy8 => (intro ww hS; obtain ⟨z0, z1, z2, z3⟩ := HC.out ww hS; go_simp; try with_reducible rfl)
  go_simp
  refine wpAnyH_take (i := 9) (v := ?v9) rfl (by kernel_rfl) (by kernel_rfl) (by kernel_rfl) (fun _ _ _ h => h) (Or.inl ⟨by rfl, ?hy9⟩) HS1.out ?rest9
  case hy9 => (intro ww _; go_simp; try with_reducible rfl)
  go_simp
  refine wpAnyH_take (i := 10) (v := ?v10) rfl (by kernel_rfl) (by kernel_rfl) (by kernel_rfl) (fun _ _ _ h => h) (Or.inl ⟨by rfl, ?hy10⟩) HS1.out ?rest10
  case hy10 => (intro ww hS; obtain ⟨z0, z1, z2, z3⟩ := HC.out ww hS; go_simp; try with_reducible rfl)
  go_simp
  refine wpAnyH_take (i := 11) (v := ?v11) rfl (by kernel_rfl) (by kernel_rfl) (by kernel_rfl) (fun _ _ _ h => h) (Or.inl ⟨by rfl, ?hy11⟩) HS1.out ?rest11
  case hy11 => (intro ww _; go_simp; try with_reducible rfl)
  go_simp
  refine wpAnyH_take (i := 12) (v := ?v12) rfl (by kernel_rfl) (by kernel_rfl) (by kernel_rfl) (fun _ _ _ h => h) (Or.inl ⟨by rfl, ?hy12⟩) HS1.out ?rest12
  case hy12 => (intro ww hS; obtain ⟨z0, z1, z2, z3⟩ := HC.out ww hS; go_simp; try with_reducible rfl)
  go_simp
  have H2 : Hid (w1.drew.heap[w.heap.size]? = some (.cells [.int .i64 ep, .slice a n cap, .string t, .slice b m cp].toArray 27 (0, 0)) ∧ Below w.heap.size w w1.drew) := hid ⟨H1.out.1, H1.out.2.drew⟩
  refine wpAnyH_all (rs := [6]) (by kernel_rfl) (by simp) ?_
  intro i hi
  obtain rfl := List.mem_singleton.1 hi
  clear hi
  refine wpOp_g rfl (by rfl) (fun K hK => ?_)
  go_simp
  refine (tproves_any ep a n cap l HL.out.1.1 HL.out.1.2 t b m cp ss HL.out.2.1 (by have := HL.out.2.2; unfold maxLen; omega) _ (HD.out.1.keep H2.out.2 (Nat.le_refl _)) (HD.out.2.keep H2.out.2 (Nat.le_refl _))).mono ?_
  rintro e w3 ⟨rfl, hb3⟩
  have H3 : Hid (w3.heap[w.heap.size]? = some (.cells [.int .i64 ep, .slice a n cap, .string t, .slice b m cp].toArray 27 (0, 0)) ∧ Below w.heap.size w w3) := hid ⟨(hb3.block _ (lt_of_blk H2.out.1)).trans H2.out.1, H2.out.2.trans (hb3.mono H2.out.2.size)⟩
  clear hb3
  refine hK _ _ ⟨H3.out.1, ?_⟩
  clear hK K
  go_simp
  refine wpAnyH_all (rs := [13]) (by kernel_rfl) (by simp) ?_
  intro i hi
  obtain rfl := List.mem_singleton.1 hi
  clear hi
  refine wpOp_g rfl (by rfl) (fun K hK => ?_)
  go_simp
  refine (wproves_any ep a n cap l HL.out.1.1 HL.out.1.2 t b m cp ss HL.out.2.1 (by have := HL.out.2.2; unfold maxLen; omega) _ (HD.out.1.keep H3.out.2 (Nat.le_refl _)) (HD.out.2.keep H3.out.2 (Nat.le_refl _))).mono ?_
  rintro e w4 ⟨rfl, hb4⟩
  have H4 : Hid (w4.heap[w.heap.size]? = some (.cells [.int .i64 ep, .slice a n cap, .string t, .slice b m cp].toArray 27 (0, 0)) ∧ Below w.heap.size w w4) := hid ⟨(hb4.block _ (lt_of_blk H3.out.1)).trans H3.out.1, H3.out.2.trans (hb4.mono H3.out.2.size)⟩
  clear hb4
  refine hK _ _ ⟨H4.out.1, ?_⟩
  clear hK K
  go_simp
  refine wpAnyH_take (i := 14) (v := ?v13) rfl (by kernel_rfl) (by kernel_rfl) (by kernel_rfl) (fun _ _ _ h => h) (Or.inl ⟨by rfl, ?hy13⟩) H4.out.1 ?rest13
  case hy13 => (intro ww _; go_simp; try with_reducible rfl)
  go_simp
  refine wpAnyH_take (i := 15) (v := ?v14) rfl (by kernel_rfl) (by kernel_rfl) (by kernel_rfl) (fun _ _ _ h => h) (Or.inl ⟨by rfl, ?hy14⟩) H4.out.1 ?rest14
  case hy14 => (intro ww _; go_simp; try with_reducible rfl)
  go_simp
  refine wpAnyH_take (i := 16) (v := ?v15) rfl (by kernel_rfl) (by kernel_rfl) (by kernel_rfl) (fun _ _ _ h => h) (Or.inl ⟨by rfl, ?hy15⟩) H4.out.1 ?rest15
  case hy15 => (intro ww _; go_simp; try with_reducible rfl)
  go_simp
  refine wpAnyH_take (i := 17) (v := ?v16) rfl (by kernel_rfl) (by kernel_rfl) (by kernel_rfl) (fun _ _ _ h => h) (Or.inl ⟨by rfl, ?hy16⟩) H4.out.1 ?rest16
  case hy16 => (intro ww hS; obtain ⟨z0, z1, z2, z3⟩ := HC.out ww hS; go_simp; try with_reducible rfl)
  go_simp
  refine wpAnyH_take (i := 18) (v := ?v17) rfl (by kernel_rfl) (by kernel_rfl) (by kernel_rfl) (fun _ _ _ h => h) (Or.inl ⟨by rfl, ?hy17⟩) H4.out.1 ?rest17
  case hy17 => (intro ww _; go_simp; try with_reducible rfl)
  go_simp
  refine wpAnyH_take (i := 19) (v := ?v18) rfl (by kernel_rfl) (by kernel_rfl) (by kernel_rfl) (fun _ _ _ h => h) (Or.inl ⟨by rfl, ?hy18⟩) H4.out.1 ?rest18
  case hy18 => (intro ww hS; obtain ⟨z0, z1, z2, z3⟩ := HC.out ww hS; go_simp; try with_reducible rfl)
  go_simp
  refine wpAnyH_take (i := 20) (v := ?v19) rfl (by kernel_rfl) (by kernel_rfl) (by kernel_rfl) (fun _ _ _ h => h) (Or.inl ⟨by rfl, ?hy19⟩) H4.out.1 ?rest19
  case hy19 => (intro ww _; go_simp; try with_reducible rfl)
  go_simp
  refine wpAnyH_take (i := 21) (v := ?v20) rfl (by kernel_rfl) (by kernel_rfl) (by kernel_rfl) (fun _ _ _ h => h) (Or.inl ⟨by rfl, ?hy20⟩) H4.out.1 ?rest20
  case hy20 => (intro ww hS; obtain ⟨z0, z1, z2, z3⟩ := HC.out ww hS; go_simp; try with_reducible rfl)
  go_simp
  refine wpAnyH_take (i := 23) (v := ?v21) rfl (by kernel_rfl) (by kernel_rfl) (by kernel_rfl) (fun _ _ _ h => h) (Or.inl ⟨by rfl, ?hy21⟩) H4.out.1 ?rest21
  case hy21 => (intro ww _; go_simp; try with_reducible rfl)
  go_simp
  refine wpAnyH_take (i := 24) (v := ?v22) rfl (by kernel_rfl) (by kernel_rfl) (by kernel_rfl) (fun _ _ _ h => h) (Or.inl ⟨by rfl, ?hy22⟩) H4.out.1 ?rest22
  case hy22 => (intro ww hS; obtain ⟨z0, z1, z2, z3⟩ := HC.out ww hS; go_simp; try with_reducible rfl)
  go_simp
  refine wpAnyH_take (i := 25) (v := ?v23) rfl (by kernel_rfl) (by kernel_rfl) (by kernel_rfl) (fun _ _ _ h => h) (Or.inl ⟨by rfl, ?hy23⟩) H4.out.1 ?rest23
  case hy23 => (intro ww _; go_simp; try with_reducible rfl)
  go_simp
  refine wpAnyH_take (i := 26) (v := ?v24) rfl (by kernel_rfl) (by kernel_rfl) (by kernel_rfl) (fun _ _ _ h => h) (Or.inl ⟨by rfl, ?hy24⟩) H4.out.1 ?rest24
  case hy24 => (intro ww hS; obtain ⟨z0, z1, z2, z3⟩ := HC.out ww hS; go_simp; try with_reducible rfl)
  go_simp
  refine wpAnyH_take (i := 27) (v := ?v25) rfl (by kernel_rfl) (by kernel_rfl) (by kernel_rfl) (fun _ _ _ h => h) (Or.inl ⟨by rfl, ?hy25⟩) H4.out.1 ?rest25
  case hy25 => (intro ww _; go_simp; try with_reducible rfl)
  go_simp
  refine wpAnyH_take (i := 28) (v := ?v26) rfl (by kernel_rfl) (by kernel_rfl) (by kernel_rfl) (fun _ _ _ h => h) (Or.inl ⟨by rfl, ?hy26⟩) H4.out.1 ?rest26
  case hy26 => (intro ww hS; obtain ⟨z0, z1, z2, z3⟩ := HC.out ww hS; go_simp; try with_reducible rfl)
  go_simp
  refine wpAnyH_all (rs := [22]) (by kernel_rfl) (by simp) ?_
  intro i hi
  obtain rfl := List.mem_singleton.1 hi
  clear hi
  refine wpOp_g rfl (by rfl) (fun K hK => ?_)
  go_simp
  refine (tcount_any ep a n cap l HL.out.1.1 HM8.out t b m cp ss HL.out.2.1 HL.out.2.2 _ (HD.out.1.keep H4.out.2 (Nat.le_refl _)) (HD.out.2.keep H4.out.2 (Nat.le_refl _))).mono ?_
  rintro e w5 ⟨rfl, hb5⟩
  have H5 : Hid (w5.heap[w.heap.size]? = some (.cells [.int .i64 ep, .slice a n cap, .string t, .slice b m cp].toArray 27 (0, 0)) ∧ Below w.heap.size w w5) := hid ⟨(hb5.block _ (lt_of_blk H4.out.1)).trans H4.out.1, H4.out.2.trans (hb5.mono H4.out.2.size)⟩
  clear hb5
  refine hK _ _ ⟨H5.out.1, ?_⟩
  clear hK K
  go_simp
  refine wpAnyH_all (rs := [29]) (by kernel_rfl) (by simp) ?_
  intro i hi
  obtain rfl := List.mem_singleton.1 hi
  clear hi
  refine wpOp_g rfl (by rfl) (fun K hK => ?_)
  go_simp
  refine (wgather_any ep a n cap l HL.out.1.1 HL.out.1.2 t b m cp ss HL.out.2.1 HL.out.2.2 _ (HD.out.1.keep H5.out.2 (Nat.le_refl _)) (HD.out.2.keep H5.out.2 (Nat.le_refl _))).mono ?_
  rintro e w6 ⟨v6, rfl, hown6, hb6⟩
  obtain ⟨ad6, cp6, rfl, _⟩ := own_pairsT (ps := gP t (gathL l t ss)) (by rw [gP_len]; exact hown6)
  rw [gP_len] at *
  clear hown6
  have H6 : Hid (w6.heap[w.heap.size]? = some (.cells [.int .i64 ep, .slice a n cap, .string t, .slice b m cp].toArray 27 (0, 0)) ∧ Below w.heap.size w w6) := hid ⟨(hb6.block _ (lt_of_blk H5.out.1)).trans H5.out.1, H5.out.2.trans (hb6.mono H5.out.2.size)⟩
  clear hb6
  refine hK _ _ ⟨H6.out.1, ?_⟩
  clear hK K
  go_simp
  refine wpAnyH_take (i := 30) (v := ?v27) rfl (by kernel_rfl) (by kernel_rfl) (by kernel_rfl) (fun _ _ _ h => h) (Or.inl ⟨by rfl, ?hy27⟩) H6.out.1 ?rest27
  case hy27 => (intro ww _; go_simp; try with_reducible rfl)
  go_simp
  refine wpAnyH_take (i := 31) (v := ?v28) rfl (by kernel_rfl) (by kernel_rfl) (by kernel_rfl) (fun _ _ _ h => h) (Or.inl ⟨by rfl, ?hy28⟩) H6.out.1 ?rest28
  case hy28 => (intro ww _; go_simp; try with_reducible rfl)
  go_simp
  refine wpAnyH_take (i := 32) (v := ?v29) rfl (by kernel_rfl) (by kernel_rfl) (by kernel_rfl) (fun _ _ _ h => h) (Or.inl ⟨by rfl, ?hy29⟩) H6.out.1 ?rest29
  case hy29 => (intro ww _; go_simp; try with_reducible rfl)
  go_simp
  refine wpAnyH_take (i := 33) (v := ?v30) rfl (by kernel_rfl) (by kernel_rfl) (by kernel_rfl) (fun _ _ _ h => h) (Or.inl ⟨by rfl, ?hy30⟩) H6.out.1 ?rest30
  case hy30 => (intro ww _; go_simp; try with_reducible rfl)
  go_simp
  refine wpAnyH_done (by kernel_rfl) ?_ _
  go_simp
  go_wp2
  go_ret
  exact ⟨rfl, H6.out.2⟩
end Go.Proofs.Ytgnapfgiefdlaaa
