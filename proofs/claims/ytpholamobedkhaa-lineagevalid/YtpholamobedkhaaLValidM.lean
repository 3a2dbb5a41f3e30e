/- The law: which link is good behind which configuration. -/
import Derived.Test.YtpholamobedkhaaMg13
namespace Go.Proofs.Ytpholamobedkhaa
open Go.RowKit

set_option maxRecDepth 100000 in
set_option maxHeartbeats 6400000 in
theorem lvalids_any (ep : Int) (a : Option Addr) (n cap : Nat) (l : List Int) (hn : l.length = n) (hm : n ≤ maxLen) (e2 : Int) (a2 : Option Addr) (n2 c2 : Nat) (l2 : List Int) (hn2 : l2.length = n2) (hm2 : n2 ≤ maxLen) (b : Option Addr) (m cp : Nat) (ss : List (Int × ByteArray)) (hsn : ss.length = m) (hsm : m ≤ maxLen) (w : World) (hI : IntsIn w a l) (hI2 : IntsIn w a2 l2) (hP : PairsIn w b ss) :
    Calls Try.prog 3 #[.agg #[.int .i64 ep, .slice a n cap], .agg #[.int .i64 e2, .slice a2 n2 c2, .slice b m cp]] w fun r w' => r = .returned (.bool true) ∧ Below w.heap.size w w' := by
  obtain ⟨W, eW⟩ : ∃ W, W = ((w.alloc (.cells #[.int .i64 ep, .slice a n cap] 24)).alloc (.cells #[.int .i64 e2, .slice a2 n2 c2, .slice b m cp] 27)) := ⟨_, rfl⟩
  have h0 : W.heap[w.heap.size]? = some (.cells #[.int .i64 ep, .slice a n cap] 24 (0, 0)) := by
    rw [eW, heap_alloc_old _ _ (by simp)]
    exact heap_alloc_last _ _
  have h1 : W.heap[w.heap.size + 1]? = some (.cells #[.int .i64 e2, .slice a2 n2 c2, .slice b m cp] 27 (0, 0)) := by rw [eW]; exact snd_alloc w _ _
  have hb : Below w.heap.size w W := by rw [eW]; exact ((Below.refl _ _).alloc (Nat.le_refl _) _).alloc (by simp) _
  have HW : Hid (∀ u, Below W.heap.size W u → (u.cell? ⟨w.heap.size, 0, none⟩ = some (.int .i64 ep) ∧ u.cell? ⟨w.heap.size, 1, none⟩ = some (.slice a n cap)) ∧ u.cell? ⟨w.heap.size + 1, 0, none⟩ = some (.int .i64 e2) ∧ u.cell? ⟨w.heap.size + 1, 1, none⟩ = some (.slice a2 n2 c2) ∧ u.cell? ⟨w.heap.size + 1, 2, none⟩ = some (.slice b m cp)) := hid (fun u hu => ⟨cell_two ((hu.block _ (lt_of_blk h0)).trans h0), cell_three ((hu.block _ (lt_of_blk h1)).trans h1)⟩)
  have HD : Hid (∀ u, Below W.heap.size W u → IntsIn u a l ∧ IntsIn u a2 l2 ∧ PairsIn u b ss) := hid (fun u hu => by
    have hq := hb.trans (hu.mono hb.size)
    exact ⟨hI.keep hq (Nat.le_refl _), hI2.keep hq (Nat.le_refl _), hP.keep hq (Nat.le_refl _)⟩)
  have HB := hid hb
  have HL : Hid (∀ u, Below W.heap.size W u → Calls Try.prog 10 #[.agg #[.int .i64 ep, .slice a n cap], .agg #[.int .i64 e2, .slice a2 n2 c2, .slice b m cp]] u fun e w' => e = .returned (.int .i64 (validE ep l e2 l2 ss)) ∧ Below u.heap.size u w') := hid (fun u hu => lvalid_any ep a n cap l hn hm e2 a2 n2 c2 l2 hn2 hm2 b m cp ss hsn hsm u (HD.out u hu).1 (HD.out u hu).2.1 (HD.out u hu).2.2)
  have HR : Hid (∀ u, Below W.heap.size W u → Calls Try.prog 11 #[.agg #[.int .i64 ep, .slice a n cap], .agg #[.int .i64 e2, .slice a2 n2 c2, .slice b m cp]] u fun e w' => e = .returned (.int .i64 (validE ep l e2 l2 ss)) ∧ Below u.heap.size u w') := hid (fun u hu => wvalid_any ep a n cap l hn hm e2 a2 n2 c2 l2 hn2 hm2 b m cp ss hsn hsm u (HD.out u hu).1 (HD.out u hu).2.1 (HD.out u hu).2.2)
  generalize validE ep l e2 l2 ss = E at HL HR
  clear h0 h1 hb hI hI2 hP hn hm hn2 hm2 hsn hsm
  go_enter Try.func3, Try.ntmps3
  go_wp2
  rw [← eW]
  clear eW
  have HS : Hid (Below W.heap.size W W.drew) := hid (Below.refl _ _).drew
  refine wp_region_held (S := fun ww => Below W.heap.size W ww) (by kernel_rfl) ?_
  try (change wpAnyH _ _ _ _ _ _ _ _ (World.drew _))
  refine wpAnyH_all (rs := [0]) (by kernel_rfl) (by simp) ?_
  intro i hi
  obtain rfl := List.mem_singleton.1 hi
  clear hi
  refine wpOp_k rfl (by rfl) (fun K hK => ?_)
  go_simp
  refine (jlives_any _).mono ?_
  rintro r w1 ⟨rfl, hb⟩
  have HT := hid (HS.out.trans (hb.mono HS.out.size))
  clear hb HS
  have HS := hid HT.out
  clear HT
  refine hK _ _ ⟨HS.out, ?_⟩
  clear hK K
  go_simp
  refine wpAnyH_take (i := 1) (v := ?v1) rfl (by kernel_rfl) (by kernel_rfl) (by kernel_rfl) (fun _ _ _ h => h) (Or.inl ⟨by rfl, ?hy1⟩) HS.out ?rest1
  case hy1 => (intro ww _; go_simp; try with_reducible rfl)
  go_simp
  refine wpAnyH_take (i := 2) (v := ?v2) rfl (by kernel_rfl) (by kernel_rfl) (by kernel_rfl) (fun _ _ _ h => h) (Or.inl ⟨by rfl, ?hy2⟩) HS.out ?rest2
  case hy2 => (intro ww hS; obtain ⟨⟨y0, y1⟩, y2, y3, y4⟩ := HW.out ww hS; go_simp; try with_reducible rfl)
  go_simp
  refine wpAnyH_take (i := 3) (v := ?v3) rfl (by kernel_rfl) (by kernel_rfl) (by kernel_rfl) (fun _ _ _ h => h) (Or.inl ⟨by rfl, ?hy3⟩) HS.out ?rest3
  case hy3 => (intro ww hS; obtain ⟨⟨y0, y1⟩, y2, y3, y4⟩ := HW.out ww hS; go_simp; try with_reducible rfl)
  go_simp
  refine wpAnyH_take (i := 5) (v := ?v4) rfl (by kernel_rfl) (by kernel_rfl) (by kernel_rfl) (fun _ _ _ h => h) (Or.inl ⟨by rfl, ?hy4⟩) HS.out ?rest4
  case hy4 => (intro ww hS; obtain ⟨⟨y0, y1⟩, y2, y3, y4⟩ := HW.out ww hS; go_simp; try with_reducible rfl)
  go_simp
  refine wpAnyH_take (i := 6) (v := ?v5) rfl (by kernel_rfl) (by kernel_rfl) (by kernel_rfl) (fun _ _ _ h => h) (Or.inl ⟨by rfl, ?hy5⟩) HS.out ?rest5
  case hy5 => (intro ww hS; obtain ⟨⟨y0, y1⟩, y2, y3, y4⟩ := HW.out ww hS; go_simp; try with_reducible rfl)
  go_simp
  refine wpAnyH_all (rs := [4]) (by kernel_rfl) (by simp) ?_
  intro i hi
  obtain rfl := List.mem_singleton.1 hi
  clear hi
  refine wpOp_k rfl (by rfl) (fun K hK => ?_)
  go_simp
  refine (HL.out _ HS.out).mono ?_
  rintro r w2 ⟨rfl, hb⟩
  have HT := hid (HS.out.trans (hb.mono HS.out.size))
  clear hb HS
  have HS := hid HT.out
  clear HT
  refine hK _ _ ⟨HS.out, ?_⟩
  clear hK K
  go_simp
  refine wpAnyH_all (rs := [7]) (by kernel_rfl) (by simp) ?_
  intro i hi
  obtain rfl := List.mem_singleton.1 hi
  clear hi
  refine wpOp_k rfl (by rfl) (fun K hK => ?_)
  go_simp
  refine (HR.out _ HS.out).mono ?_
  rintro r w3 ⟨rfl, hb⟩
  have HT := hid (HS.out.trans (hb.mono HS.out.size))
  clear hb HS
  have HS := hid HT.out
  clear HT
  refine hK _ _ ⟨HS.out, ?_⟩
  clear hK K
  go_simp
  refine wpAnyH_take (i := 8) (v := ?v6) rfl (by kernel_rfl) (by kernel_rfl) (by kernel_rfl) (fun _ _ _ h => h) (Or.inl ⟨by rfl, ?hy6⟩) HS.out ?rest6
  case hy6 => (intro ww _; go_simp; try with_reducible rfl)
  go_simp
  refine wpAnyH_take (i := 9) (v := ?v7) rfl (by kernel_rfl) (by kernel_rfl) (by kernel_rfl) (fun _ _ _ h => h) (Or.inl ⟨by rfl, ?hy7⟩) HS.out ?rest7
  case hy7 => (intro ww _; go_simp; try with_reducible rfl)
  go_simp
  refine wpAnyH_take (i := 10) (v := ?v8) rfl (by kernel_rfl) (by kernel_rfl) (by kernel_rfl) (fun _ _ _ h => h) (Or.inl ⟨by rfl, ?hy8⟩) HS.out ?rest8
  case hy8 => (intro ww _; go_simp; try with_reducible rfl)
  go_simp
  refine wpAnyH_done (by kernel_rfl) ?_ _
  go_simp
  go_wp2
  go_ret
  exact ⟨rfl, HB.out.trans (HS.out.mono HB.out.size)⟩
end Go.Proofs.Ytpholamobedkhaa
