/- DeedsTexts: which requests are right, null, the same, and their texts, is what the document says. -/
import Derived.Test.YtpgfdnmlkaoigaaDsK
import Derived.Deep.DeepCutAuto
namespace Go.Proofs.Ytpgfdnmlkaoigaa
open Go.RowKit

set_option maxRecDepth 100000 in
set_option maxHeartbeats 12800000 in
theorem dtexts_any (a b : Rq) (ha : a.b < 18446744073709551616) (hb : b.b < 18446744073709551616) (w : World) : Calls Try.prog 3 #[.agg #[.int .i64 a.c, .int .i64 a.st, .int .i64 a.k, .string a.key, .int .u64 (a.b : Int), .int .i64 a.id], .agg #[.int .i64 b.c, .int .i64 b.st, .int .i64 b.k, .string b.key, .int .u64 (b.b : Int), .int .i64 b.id]] w fun r w' => r = .returned (.bool true) ∧ Below w.heap.size w w' := by
  have HT1 := hid (dtext_any a ha)
  have HT2 := hid (qtext_any a ha)
  have HR1 := hid (dright_any a)
  have HR2 := hid (qright_any a)
  have HN1 := hid (dnull_any a)
  have HN2 := hid (qnull_any a)
  have HS1 := hid (dsame_any a b ha hb)
  have HS2 := hid (qsame_any a b ha hb)
  generalize rqT a = T at *
  generalize rqE a = E at *
  generalize rightB a = R at *
  generalize nullB a = N at *
  generalize sameB a b = S at *
  have H0 : Hid (Tw w ((w.alloc (.cells #[.int .i64 a.c, .int .i64 a.st, .int .i64 a.k, .string a.key, .int .u64 (a.b : Int), .int .i64 a.id] 24)).alloc (.cells #[.int .i64 b.c, .int .i64 b.st, .int .i64 b.k, .string b.key, .int .u64 (b.b : Int), .int .i64 b.id] 24)) a b) := hid (tw_new w a b)
  clear ha hb
  go_enter Try.func3, Try.ntmps3
  go_upto_region 3 with (go_at_call 9; refine (dlives_any _).mono ?_; rintro r w1 ⟨rfl, hb1⟩; have H1 := hid (H0.out.keep hb1); clear hb1)
  go_cut [5, 6] (fun v5 v6 wx => ∃ (b5 b6 : Nat), v5 = .pointer (some ⟨b5, 0, none⟩) ∧ v6 = .pointer (some ⟨b6, 0, none⟩) ∧ RqAt wx b5 a ∧ RqAt wx b6 b ∧ Below w.heap.size w wx)
  case first =>
    have H2 := hid (H1.out.keep (Below.refl _ _).drew)
    have HS := hid H2.out
    refine wp_region_held (S := fun ww => Tw w ww a b) (by kernel_rfl) ?_
    try (change wpAnyH _ _ _ _ _ _ _ _ (World.drew _))
    obtain ⟨w2, e2⟩ : ∃ u, u = w1.drew := ⟨_, rfl⟩
    rw [← e2] at H2 HS
    try rw [← e2]
    clear e2
    refine wpAnyH_take (i := 0) (v := ?v1) rfl (by kernel_rfl) (by kernel_rfl) (by kernel_rfl) (fun _ _ _ h => h) (Or.inl ⟨by rfl, ?hy1⟩) HS.out ?rest1
    case hy1 => (intro ww hS; obtain ⟨⟨y0, y1⟩, y2, y3, y4, y5⟩ := hS.ak.cells; go_simp; try with_reducible rfl)
    go_simp
    refine wpAnyH_take (i := 2) (v := ?v2) rfl (by kernel_rfl) (by kernel_rfl) (by kernel_rfl) (fun _ _ _ h => h) (Or.inl ⟨by rfl, ?hy2⟩) HS.out ?rest2
    case hy2 => (intro ww hS; obtain ⟨⟨y0, y1⟩, y2, y3, y4, y5⟩ := hS.bk.cells; go_simp; try with_reducible rfl)
    go_simp
    refine wpAnyH_all (rs := [1, 4, 5]) (by kernel_rfl) (by simp) ?_
    intro i hi
    rcases List.mem_cons.1 hi with rfl | hi
    · clear hi
      refine wpOp_d rfl (by rfl) (fun K hK => ?_)
      go_simp
      refine (drequest_any a _).mono ?_
      rintro r w3 ⟨rfl, hb⟩
      have H3 := hid (H2.out.keep hb)
      clear hb
      refine hK _ _ ⟨H3.out, ?_⟩
      clear hK K
      go_simp
      refine wpAnyH_all (rs := [3, 4, 5]) (by kernel_rfl) (by simp) ?_
      intro i hi
      rcases List.mem_cons.1 hi with rfl | hi
      · clear hi
        refine wpOp_d rfl (by rfl) (fun K hK => ?_)
        go_simp
        refine (drequest_any b _).mono ?_
        rintro r w4 ⟨rfl, hb⟩
        have H4 := hid (H3.out.keep hb)
        clear hb
        refine hK _ _ ⟨H4.out, ?_⟩
        clear hK K
        go_simp
        refine wpAnyH_all (rs := [4, 5]) (by kernel_rfl) (by simp) ?_
        intro i hi
        rcases List.mem_cons.1 hi with rfl | hi
        · clear hi
          refine wpOp_d rfl (by rfl) (fun K hK => ?_)
          go_simp
          have H5 := hid (H4.out.al)
          obtain ⟨w5, e5⟩ : ∃ u, u = w4.alloc (.cells #[.int .i64 0, .int .i64 0, .int .i64 0, .string ⟨#[]⟩, .float .f64 0, .int .i64 0] 30) := ⟨_, rfl⟩
          rw [← e5] at H5 ⊢
          clear e5
          refine hK _ _ ⟨H5.out.tw, ?_⟩
          clear hK K
          go_simp
          refine wpAnyH_all (rs := [5]) (by kernel_rfl) (by simp) ?_
          intro i hi
          obtain rfl := List.mem_singleton.1 hi
          clear hi
          refine wpOp_d rfl (by rfl) (fun K hK => ?_)
          go_simp
          have H6 := hid (H5.out.al)
          obtain ⟨w6, e6⟩ : ∃ u, u = w5.alloc (.cells #[.int .i64 0, .int .i64 0, .int .i64 0, .string ⟨#[]⟩, .float .f64 0, .int .i64 0] 30) := ⟨_, rfl⟩
          rw [← e6] at H6 ⊢
          clear e6
          refine hK _ _ ⟨H6.out.tw, ?_⟩
          clear hK K
          go_simp
          refine wpAnyH_all (rs := [6]) (by kernel_rfl) (by simp) ?_
          intro i hi
          obtain rfl := List.mem_singleton.1 hi
          clear hi
          refine wpOp_d rfl (by rfl) (fun K hK => ?_)
          refine owp_store_rq _ _ rfl w4.heap.size rfl zeroQ a rfl H6.out.rx ?_
          intro w7 Hq
          have H7 := hid (H6.out.put Hq.out)
          refine hK _ _ ⟨H7.out.tw, ?_⟩
          clear hK K Hq
          go_simp
          refine wpAnyH_all (rs := [7]) (by kernel_rfl) (by simp) ?_
          intro i hi
          obtain rfl := List.mem_singleton.1 hi
          clear hi
          refine wpOp_d rfl (by rfl) (fun K hK => ?_)
          refine owp_store_rq _ _ rfl w5.heap.size rfl zeroQ b rfl H7.out.ry ?_
          intro w8 Hq
          have H8 := hid (H7.out.swap.put Hq.out)
          refine hK _ _ ⟨H8.out.tw, ?_⟩
          clear hK K Hq
          go_simp
          refine wpAnyH_done (by kernel_rfl) ?_ _
          go_simp
          go_wp2_with fail
          go_meet
          exact ⟨w4.heap.size, w5.heap.size, rfl, rfl, H8.out.ry, H8.out.rx, H8.out.tw.bel⟩
        obtain rfl := List.mem_singleton.1 hi
        clear hi
        refine wpOp_d rfl (by rfl) (fun K hK => ?_)
        go_simp
        have H5 := hid (H4.out.al)
        obtain ⟨w5, e5⟩ : ∃ u, u = w4.alloc (.cells #[.int .i64 0, .int .i64 0, .int .i64 0, .string ⟨#[]⟩, .float .f64 0, .int .i64 0] 30) := ⟨_, rfl⟩
        rw [← e5] at H5 ⊢
        clear e5
        refine hK _ _ ⟨H5.out.tw, ?_⟩
        clear hK K
        go_simp
        refine wpAnyH_all (rs := [4]) (by kernel_rfl) (by simp) ?_
        intro i hi
        obtain rfl := List.mem_singleton.1 hi
        clear hi
        refine wpOp_d rfl (by rfl) (fun K hK => ?_)
        go_simp
        have H6 := hid (H5.out.al.swap)
        obtain ⟨w6, e6⟩ : ∃ u, u = w5.alloc (.cells #[.int .i64 0, .int .i64 0, .int .i64 0, .string ⟨#[]⟩, .float .f64 0, .int .i64 0] 30) := ⟨_, rfl⟩
        rw [← e6] at H6 ⊢
        clear e6
        refine hK _ _ ⟨H6.out.tw, ?_⟩
        clear hK K
        go_simp
        refine wpAnyH_all (rs := [6]) (by kernel_rfl) (by simp) ?_
        intro i hi
        obtain rfl := List.mem_singleton.1 hi
        clear hi
        refine wpOp_d rfl (by rfl) (fun K hK => ?_)
        refine owp_store_rq _ _ rfl w5.heap.size rfl zeroQ a rfl H6.out.rx ?_
        intro w7 Hq
        have H7 := hid (H6.out.put Hq.out)
        refine hK _ _ ⟨H7.out.tw, ?_⟩
        clear hK K Hq
        go_simp
        refine wpAnyH_all (rs := [7]) (by kernel_rfl) (by simp) ?_
        intro i hi
        obtain rfl := List.mem_singleton.1 hi
        clear hi
        refine wpOp_d rfl (by rfl) (fun K hK => ?_)
        refine owp_store_rq _ _ rfl w4.heap.size rfl zeroQ b rfl H7.out.ry ?_
        intro w8 Hq
        have H8 := hid (H7.out.swap.put Hq.out)
        refine hK _ _ ⟨H8.out.tw, ?_⟩
        clear hK K Hq
        go_simp
        refine wpAnyH_done (by kernel_rfl) ?_ _
        go_simp
        go_wp2_with fail
        go_meet
        exact ⟨w5.heap.size, w4.heap.size, rfl, rfl, H8.out.ry, H8.out.rx, H8.out.tw.bel⟩
      rcases List.mem_cons.1 hi with rfl | hi
      · clear hi
        refine wpOp_d rfl (by rfl) (fun K hK => ?_)
        go_simp
        have H4 := hid (H3.out.al)
        obtain ⟨w4, e4⟩ : ∃ u, u = w3.alloc (.cells #[.int .i64 0, .int .i64 0, .int .i64 0, .string ⟨#[]⟩, .float .f64 0, .int .i64 0] 30) := ⟨_, rfl⟩
        rw [← e4] at H4 ⊢
        clear e4
        refine hK _ _ ⟨H4.out.tw, ?_⟩
        clear hK K
        go_simp
        refine wpAnyH_all (rs := [3, 5]) (by kernel_rfl) (by simp) ?_
        intro i hi
        rcases List.mem_cons.1 hi with rfl | hi
        · clear hi
          refine wpOp_d rfl (by rfl) (fun K hK => ?_)
          go_simp
          refine (drequest_any b _).mono ?_
          rintro r w5 ⟨rfl, hb⟩
          have H5 := hid (H4.out.keep hb)
          clear hb
          refine hK _ _ ⟨H5.out.tw, ?_⟩
          clear hK K
          go_simp
          refine wpAnyH_all (rs := [5]) (by kernel_rfl) (by simp) ?_
          intro i hi
          obtain rfl := List.mem_singleton.1 hi
          clear hi
          refine wpOp_d rfl (by rfl) (fun K hK => ?_)
          go_simp
          have H6 := hid (H5.out.al)
          obtain ⟨w6, e6⟩ : ∃ u, u = w5.alloc (.cells #[.int .i64 0, .int .i64 0, .int .i64 0, .string ⟨#[]⟩, .float .f64 0, .int .i64 0] 30) := ⟨_, rfl⟩
          rw [← e6] at H6 ⊢
          clear e6
          refine hK _ _ ⟨H6.out.tw, ?_⟩
          clear hK K
          go_simp
          refine wpAnyH_all (rs := [6]) (by kernel_rfl) (by simp) ?_
          intro i hi
          obtain rfl := List.mem_singleton.1 hi
          clear hi
          refine wpOp_d rfl (by rfl) (fun K hK => ?_)
          refine owp_store_rq _ _ rfl w3.heap.size rfl zeroQ a rfl H6.out.rx ?_
          intro w7 Hq
          have H7 := hid (H6.out.put Hq.out)
          refine hK _ _ ⟨H7.out.tw, ?_⟩
          clear hK K Hq
          go_simp
          refine wpAnyH_all (rs := [7]) (by kernel_rfl) (by simp) ?_
          intro i hi
          obtain rfl := List.mem_singleton.1 hi
          clear hi
          refine wpOp_d rfl (by rfl) (fun K hK => ?_)
          refine owp_store_rq _ _ rfl w5.heap.size rfl zeroQ b rfl H7.out.ry ?_
          intro w8 Hq
          have H8 := hid (H7.out.swap.put Hq.out)
          refine hK _ _ ⟨H8.out.tw, ?_⟩
          clear hK K Hq
          go_simp
          refine wpAnyH_done (by kernel_rfl) ?_ _
          go_simp
          go_wp2_with fail
          go_meet
          exact ⟨w3.heap.size, w5.heap.size, rfl, rfl, H8.out.ry, H8.out.rx, H8.out.tw.bel⟩
        obtain rfl := List.mem_singleton.1 hi
        clear hi
        refine wpOp_d rfl (by rfl) (fun K hK => ?_)
        go_simp
        have H5 := hid (H4.out.al)
        obtain ⟨w5, e5⟩ : ∃ u, u = w4.alloc (.cells #[.int .i64 0, .int .i64 0, .int .i64 0, .string ⟨#[]⟩, .float .f64 0, .int .i64 0] 30) := ⟨_, rfl⟩
        rw [← e5] at H5 ⊢
        clear e5
        refine hK _ _ ⟨H5.out.tw, ?_⟩
        clear hK K
        go_simp
        refine wpAnyH_all (rs := [3]) (by kernel_rfl) (by simp) ?_
        intro i hi
        obtain rfl := List.mem_singleton.1 hi
        clear hi
        refine wpOp_d rfl (by rfl) (fun K hK => ?_)
        go_simp
        refine (drequest_any b _).mono ?_
        rintro r w6 ⟨rfl, hb⟩
        have H6 := hid (H5.out.keep hb)
        clear hb
        refine hK _ _ ⟨H6.out.tw, ?_⟩
        clear hK K
        go_simp
        refine wpAnyH_all (rs := [6]) (by kernel_rfl) (by simp) ?_
        intro i hi
        obtain rfl := List.mem_singleton.1 hi
        clear hi
        refine wpOp_d rfl (by rfl) (fun K hK => ?_)
        refine owp_store_rq _ _ rfl w3.heap.size rfl zeroQ a rfl H6.out.rx ?_
        intro w7 Hq
        have H7 := hid (H6.out.put Hq.out)
        refine hK _ _ ⟨H7.out.tw, ?_⟩
        clear hK K Hq
        go_simp
        refine wpAnyH_all (rs := [7]) (by kernel_rfl) (by simp) ?_
        intro i hi
        obtain rfl := List.mem_singleton.1 hi
        clear hi
        refine wpOp_d rfl (by rfl) (fun K hK => ?_)
        refine owp_store_rq _ _ rfl w4.heap.size rfl zeroQ b rfl H7.out.ry ?_
        intro w8 Hq
        have H8 := hid (H7.out.swap.put Hq.out)
        refine hK _ _ ⟨H8.out.tw, ?_⟩
        clear hK K Hq
        go_simp
        refine wpAnyH_done (by kernel_rfl) ?_ _
        go_simp
        go_wp2_with fail
        go_meet
        exact ⟨w3.heap.size, w4.heap.size, rfl, rfl, H8.out.ry, H8.out.rx, H8.out.tw.bel⟩
      obtain rfl := List.mem_singleton.1 hi
      clear hi
      refine wpOp_d rfl (by rfl) (fun K hK => ?_)
      go_simp
      have H4 := hid (H3.out.al)
      obtain ⟨w4, e4⟩ : ∃ u, u = w3.alloc (.cells #[.int .i64 0, .int .i64 0, .int .i64 0, .string ⟨#[]⟩, .float .f64 0, .int .i64 0] 30) := ⟨_, rfl⟩
      rw [← e4] at H4 ⊢
      clear e4
      refine hK _ _ ⟨H4.out.tw, ?_⟩
      clear hK K
      go_simp
      refine wpAnyH_all (rs := [3, 4]) (by kernel_rfl) (by simp) ?_
      intro i hi
      rcases List.mem_cons.1 hi with rfl | hi
      · clear hi
        refine wpOp_d rfl (by rfl) (fun K hK => ?_)
        go_simp
        refine (drequest_any b _).mono ?_
        rintro r w5 ⟨rfl, hb⟩
        have H5 := hid (H4.out.keep hb)
        clear hb
        refine hK _ _ ⟨H5.out.tw, ?_⟩
        clear hK K
        go_simp
        refine wpAnyH_all (rs := [4]) (by kernel_rfl) (by simp) ?_
        intro i hi
        obtain rfl := List.mem_singleton.1 hi
        clear hi
        refine wpOp_d rfl (by rfl) (fun K hK => ?_)
        go_simp
        have H6 := hid (H5.out.al.swap)
        obtain ⟨w6, e6⟩ : ∃ u, u = w5.alloc (.cells #[.int .i64 0, .int .i64 0, .int .i64 0, .string ⟨#[]⟩, .float .f64 0, .int .i64 0] 30) := ⟨_, rfl⟩
        rw [← e6] at H6 ⊢
        clear e6
        refine hK _ _ ⟨H6.out.tw, ?_⟩
        clear hK K
        go_simp
        refine wpAnyH_all (rs := [6]) (by kernel_rfl) (by simp) ?_
        intro i hi
        obtain rfl := List.mem_singleton.1 hi
        clear hi
        refine wpOp_d rfl (by rfl) (fun K hK => ?_)
        refine owp_store_rq _ _ rfl w5.heap.size rfl zeroQ a rfl H6.out.rx ?_
        intro w7 Hq
        have H7 := hid (H6.out.put Hq.out)
        refine hK _ _ ⟨H7.out.tw, ?_⟩
        clear hK K Hq
        go_simp
        refine wpAnyH_all (rs := [7]) (by kernel_rfl) (by simp) ?_
        intro i hi
        obtain rfl := List.mem_singleton.1 hi
        clear hi
        refine wpOp_d rfl (by rfl) (fun K hK => ?_)
        refine owp_store_rq _ _ rfl w3.heap.size rfl zeroQ b rfl H7.out.ry ?_
        intro w8 Hq
        have H8 := hid (H7.out.swap.put Hq.out)
        refine hK _ _ ⟨H8.out.tw, ?_⟩
        clear hK K Hq
        go_simp
        refine wpAnyH_done (by kernel_rfl) ?_ _
        go_simp
        go_wp2_with fail
        go_meet
        exact ⟨w5.heap.size, w3.heap.size, rfl, rfl, H8.out.ry, H8.out.rx, H8.out.tw.bel⟩
      obtain rfl := List.mem_singleton.1 hi
      clear hi
      refine wpOp_d rfl (by rfl) (fun K hK => ?_)
      go_simp
      have H5 := hid (H4.out.al.swap)
      obtain ⟨w5, e5⟩ : ∃ u, u = w4.alloc (.cells #[.int .i64 0, .int .i64 0, .int .i64 0, .string ⟨#[]⟩, .float .f64 0, .int .i64 0] 30) := ⟨_, rfl⟩
      rw [← e5] at H5 ⊢
      clear e5
      refine hK _ _ ⟨H5.out.tw, ?_⟩
      clear hK K
      go_simp
      refine wpAnyH_all (rs := [3]) (by kernel_rfl) (by simp) ?_
      intro i hi
      obtain rfl := List.mem_singleton.1 hi
      clear hi
      refine wpOp_d rfl (by rfl) (fun K hK => ?_)
      go_simp
      refine (drequest_any b _).mono ?_
      rintro r w6 ⟨rfl, hb⟩
      have H6 := hid (H5.out.keep hb)
      clear hb
      refine hK _ _ ⟨H6.out.tw, ?_⟩
      clear hK K
      go_simp
      refine wpAnyH_all (rs := [6]) (by kernel_rfl) (by simp) ?_
      intro i hi
      obtain rfl := List.mem_singleton.1 hi
      clear hi
      refine wpOp_d rfl (by rfl) (fun K hK => ?_)
      refine owp_store_rq _ _ rfl w4.heap.size rfl zeroQ a rfl H6.out.rx ?_
      intro w7 Hq
      have H7 := hid (H6.out.put Hq.out)
      refine hK _ _ ⟨H7.out.tw, ?_⟩
      clear hK K Hq
      go_simp
      refine wpAnyH_all (rs := [7]) (by kernel_rfl) (by simp) ?_
      intro i hi
      obtain rfl := List.mem_singleton.1 hi
      clear hi
      refine wpOp_d rfl (by rfl) (fun K hK => ?_)
      refine owp_store_rq _ _ rfl w3.heap.size rfl zeroQ b rfl H7.out.ry ?_
      intro w8 Hq
      have H8 := hid (H7.out.swap.put Hq.out)
      refine hK _ _ ⟨H8.out.tw, ?_⟩
      clear hK K Hq
      go_simp
      refine wpAnyH_done (by kernel_rfl) ?_ _
      go_simp
      go_wp2_with fail
      go_meet
      exact ⟨w4.heap.size, w3.heap.size, rfl, rfl, H8.out.ry, H8.out.rx, H8.out.tw.bel⟩
    rcases List.mem_cons.1 hi with rfl | hi
    · clear hi
      refine wpOp_d rfl (by rfl) (fun K hK => ?_)
      go_simp
      have H3 := hid (H2.out.al)
      obtain ⟨w3, e3⟩ : ∃ u, u = w2.alloc (.cells #[.int .i64 0, .int .i64 0, .int .i64 0, .string ⟨#[]⟩, .float .f64 0, .int .i64 0] 30) := ⟨_, rfl⟩
      rw [← e3] at H3 ⊢
      clear e3
      refine hK _ _ ⟨H3.out.tw, ?_⟩
      clear hK K
      go_simp
      refine wpAnyH_all (rs := [1, 5]) (by kernel_rfl) (by simp) ?_
      intro i hi
      rcases List.mem_cons.1 hi with rfl | hi
      · clear hi
        refine wpOp_d rfl (by rfl) (fun K hK => ?_)
        go_simp
        refine (drequest_any a _).mono ?_
        rintro r w4 ⟨rfl, hb⟩
        have H4 := hid (H3.out.keep hb)
        clear hb
        refine hK _ _ ⟨H4.out.tw, ?_⟩
        clear hK K
        go_simp
        refine wpAnyH_all (rs := [3, 5]) (by kernel_rfl) (by simp) ?_
        intro i hi
        rcases List.mem_cons.1 hi with rfl | hi
        · clear hi
          refine wpOp_d rfl (by rfl) (fun K hK => ?_)
          go_simp
          refine (drequest_any b _).mono ?_
          rintro r w5 ⟨rfl, hb⟩
          have H5 := hid (H4.out.keep hb)
          clear hb
          refine hK _ _ ⟨H5.out.tw, ?_⟩
          clear hK K
          go_simp
          refine wpAnyH_all (rs := [5]) (by kernel_rfl) (by simp) ?_
          intro i hi
          obtain rfl := List.mem_singleton.1 hi
          clear hi
          refine wpOp_d rfl (by rfl) (fun K hK => ?_)
          go_simp
          have H6 := hid (H5.out.al)
          obtain ⟨w6, e6⟩ : ∃ u, u = w5.alloc (.cells #[.int .i64 0, .int .i64 0, .int .i64 0, .string ⟨#[]⟩, .float .f64 0, .int .i64 0] 30) := ⟨_, rfl⟩
          rw [← e6] at H6 ⊢
          clear e6
          refine hK _ _ ⟨H6.out.tw, ?_⟩
          clear hK K
          go_simp
          refine wpAnyH_all (rs := [6]) (by kernel_rfl) (by simp) ?_
          intro i hi
          obtain rfl := List.mem_singleton.1 hi
          clear hi
          refine wpOp_d rfl (by rfl) (fun K hK => ?_)
          refine owp_store_rq _ _ rfl w2.heap.size rfl zeroQ a rfl H6.out.rx ?_
          intro w7 Hq
          have H7 := hid (H6.out.put Hq.out)
          refine hK _ _ ⟨H7.out.tw, ?_⟩
          clear hK K Hq
          go_simp
          refine wpAnyH_all (rs := [7]) (by kernel_rfl) (by simp) ?_
          intro i hi
          obtain rfl := List.mem_singleton.1 hi
          clear hi
          refine wpOp_d rfl (by rfl) (fun K hK => ?_)
          refine owp_store_rq _ _ rfl w5.heap.size rfl zeroQ b rfl H7.out.ry ?_
          intro w8 Hq
          have H8 := hid (H7.out.swap.put Hq.out)
          refine hK _ _ ⟨H8.out.tw, ?_⟩
          clear hK K Hq
          go_simp
          refine wpAnyH_done (by kernel_rfl) ?_ _
          go_simp
          go_wp2_with fail
          go_meet
          exact ⟨w2.heap.size, w5.heap.size, rfl, rfl, H8.out.ry, H8.out.rx, H8.out.tw.bel⟩
        obtain rfl := List.mem_singleton.1 hi
        clear hi
        refine wpOp_d rfl (by rfl) (fun K hK => ?_)
        go_simp
        have H5 := hid (H4.out.al)
        obtain ⟨w5, e5⟩ : ∃ u, u = w4.alloc (.cells #[.int .i64 0, .int .i64 0, .int .i64 0, .string ⟨#[]⟩, .float .f64 0, .int .i64 0] 30) := ⟨_, rfl⟩
        rw [← e5] at H5 ⊢
        clear e5
        refine hK _ _ ⟨H5.out.tw, ?_⟩
        clear hK K
        go_simp
        refine wpAnyH_all (rs := [3]) (by kernel_rfl) (by simp) ?_
        intro i hi
        obtain rfl := List.mem_singleton.1 hi
        clear hi
        refine wpOp_d rfl (by rfl) (fun K hK => ?_)
        go_simp
        refine (drequest_any b _).mono ?_
        rintro r w6 ⟨rfl, hb⟩
        have H6 := hid (H5.out.keep hb)
        clear hb
        refine hK _ _ ⟨H6.out.tw, ?_⟩
        clear hK K
        go_simp
        refine wpAnyH_all (rs := [6]) (by kernel_rfl) (by simp) ?_
        intro i hi
        obtain rfl := List.mem_singleton.1 hi
        clear hi
        refine wpOp_d rfl (by rfl) (fun K hK => ?_)
        refine owp_store_rq _ _ rfl w2.heap.size rfl zeroQ a rfl H6.out.rx ?_
        intro w7 Hq
        have H7 := hid (H6.out.put Hq.out)
        refine hK _ _ ⟨H7.out.tw, ?_⟩
        clear hK K Hq
        go_simp
        refine wpAnyH_all (rs := [7]) (by kernel_rfl) (by simp) ?_
        intro i hi
        obtain rfl := List.mem_singleton.1 hi
        clear hi
        refine wpOp_d rfl (by rfl) (fun K hK => ?_)
        refine owp_store_rq _ _ rfl w4.heap.size rfl zeroQ b rfl H7.out.ry ?_
        intro w8 Hq
        have H8 := hid (H7.out.swap.put Hq.out)
        refine hK _ _ ⟨H8.out.tw, ?_⟩
        clear hK K Hq
        go_simp
        refine wpAnyH_done (by kernel_rfl) ?_ _
        go_simp
        go_wp2_with fail
        go_meet
        exact ⟨w2.heap.size, w4.heap.size, rfl, rfl, H8.out.ry, H8.out.rx, H8.out.tw.bel⟩
      obtain rfl := List.mem_singleton.1 hi
      clear hi
      refine wpOp_d rfl (by rfl) (fun K hK => ?_)
      go_simp
      have H4 := hid (H3.out.al)
      obtain ⟨w4, e4⟩ : ∃ u, u = w3.alloc (.cells #[.int .i64 0, .int .i64 0, .int .i64 0, .string ⟨#[]⟩, .float .f64 0, .int .i64 0] 30) := ⟨_, rfl⟩
      rw [← e4] at H4 ⊢
      clear e4
      refine hK _ _ ⟨H4.out.tw, ?_⟩
      clear hK K
      go_simp
      refine wpAnyH_all (rs := [1]) (by kernel_rfl) (by simp) ?_
      intro i hi
      obtain rfl := List.mem_singleton.1 hi
      clear hi
      refine wpOp_d rfl (by rfl) (fun K hK => ?_)
      go_simp
      refine (drequest_any a _).mono ?_
      rintro r w5 ⟨rfl, hb⟩
      have H5 := hid (H4.out.keep hb)
      clear hb
      refine hK _ _ ⟨H5.out.tw, ?_⟩
      clear hK K
      go_simp
      refine wpAnyH_all (rs := [3]) (by kernel_rfl) (by simp) ?_
      intro i hi
      obtain rfl := List.mem_singleton.1 hi
      clear hi
      refine wpOp_d rfl (by rfl) (fun K hK => ?_)
      go_simp
      refine (drequest_any b _).mono ?_
      rintro r w6 ⟨rfl, hb⟩
      have H6 := hid (H5.out.keep hb)
      clear hb
      refine hK _ _ ⟨H6.out.tw, ?_⟩
      clear hK K
      go_simp
      refine wpAnyH_all (rs := [6]) (by kernel_rfl) (by simp) ?_
      intro i hi
      obtain rfl := List.mem_singleton.1 hi
      clear hi
      refine wpOp_d rfl (by rfl) (fun K hK => ?_)
      refine owp_store_rq _ _ rfl w2.heap.size rfl zeroQ a rfl H6.out.rx ?_
      intro w7 Hq
      have H7 := hid (H6.out.put Hq.out)
      refine hK _ _ ⟨H7.out.tw, ?_⟩
      clear hK K Hq
      go_simp
      refine wpAnyH_all (rs := [7]) (by kernel_rfl) (by simp) ?_
      intro i hi
      obtain rfl := List.mem_singleton.1 hi
      clear hi
      refine wpOp_d rfl (by rfl) (fun K hK => ?_)
      refine owp_store_rq _ _ rfl w3.heap.size rfl zeroQ b rfl H7.out.ry ?_
      intro w8 Hq
      have H8 := hid (H7.out.swap.put Hq.out)
      refine hK _ _ ⟨H8.out.tw, ?_⟩
      clear hK K Hq
      go_simp
      refine wpAnyH_done (by kernel_rfl) ?_ _
      go_simp
      go_wp2_with fail
      go_meet
      exact ⟨w2.heap.size, w3.heap.size, rfl, rfl, H8.out.ry, H8.out.rx, H8.out.tw.bel⟩
    obtain rfl := List.mem_singleton.1 hi
    clear hi
    refine wpOp_d rfl (by rfl) (fun K hK => ?_)
    go_simp
    have H3 := hid (H2.out.al)
    obtain ⟨w3, e3⟩ : ∃ u, u = w2.alloc (.cells #[.int .i64 0, .int .i64 0, .int .i64 0, .string ⟨#[]⟩, .float .f64 0, .int .i64 0] 30) := ⟨_, rfl⟩
    rw [← e3] at H3 ⊢
    clear e3
    refine hK _ _ ⟨H3.out.tw, ?_⟩
    clear hK K
    go_simp
    refine wpAnyH_all (rs := [1, 4]) (by kernel_rfl) (by simp) ?_
    intro i hi
    rcases List.mem_cons.1 hi with rfl | hi
    · clear hi
      refine wpOp_d rfl (by rfl) (fun K hK => ?_)
      go_simp
      refine (drequest_any a _).mono ?_
      rintro r w4 ⟨rfl, hb⟩
      have H4 := hid (H3.out.keep hb)
      clear hb
      refine hK _ _ ⟨H4.out.tw, ?_⟩
      clear hK K
      go_simp
      refine wpAnyH_all (rs := [3, 4]) (by kernel_rfl) (by simp) ?_
      intro i hi
      rcases List.mem_cons.1 hi with rfl | hi
      · clear hi
        refine wpOp_d rfl (by rfl) (fun K hK => ?_)
        go_simp
        refine (drequest_any b _).mono ?_
        rintro r w5 ⟨rfl, hb⟩
        have H5 := hid (H4.out.keep hb)
        clear hb
        refine hK _ _ ⟨H5.out.tw, ?_⟩
        clear hK K
        go_simp
        refine wpAnyH_all (rs := [4]) (by kernel_rfl) (by simp) ?_
        intro i hi
        obtain rfl := List.mem_singleton.1 hi
        clear hi
        refine wpOp_d rfl (by rfl) (fun K hK => ?_)
        go_simp
        have H6 := hid (H5.out.al.swap)
        obtain ⟨w6, e6⟩ : ∃ u, u = w5.alloc (.cells #[.int .i64 0, .int .i64 0, .int .i64 0, .string ⟨#[]⟩, .float .f64 0, .int .i64 0] 30) := ⟨_, rfl⟩
        rw [← e6] at H6 ⊢
        clear e6
        refine hK _ _ ⟨H6.out.tw, ?_⟩
        clear hK K
        go_simp
        refine wpAnyH_all (rs := [6]) (by kernel_rfl) (by simp) ?_
        intro i hi
        obtain rfl := List.mem_singleton.1 hi
        clear hi
        refine wpOp_d rfl (by rfl) (fun K hK => ?_)
        refine owp_store_rq _ _ rfl w5.heap.size rfl zeroQ a rfl H6.out.rx ?_
        intro w7 Hq
        have H7 := hid (H6.out.put Hq.out)
        refine hK _ _ ⟨H7.out.tw, ?_⟩
        clear hK K Hq
        go_simp
        refine wpAnyH_all (rs := [7]) (by kernel_rfl) (by simp) ?_
        intro i hi
        obtain rfl := List.mem_singleton.1 hi
        clear hi
        refine wpOp_d rfl (by rfl) (fun K hK => ?_)
        refine owp_store_rq _ _ rfl w2.heap.size rfl zeroQ b rfl H7.out.ry ?_
        intro w8 Hq
        have H8 := hid (H7.out.swap.put Hq.out)
        refine hK _ _ ⟨H8.out.tw, ?_⟩
        clear hK K Hq
        go_simp
        refine wpAnyH_done (by kernel_rfl) ?_ _
        go_simp
        go_wp2_with fail
        go_meet
        exact ⟨w5.heap.size, w2.heap.size, rfl, rfl, H8.out.ry, H8.out.rx, H8.out.tw.bel⟩
      obtain rfl := List.mem_singleton.1 hi
      clear hi
      refine wpOp_d rfl (by rfl) (fun K hK => ?_)
      go_simp
      have H5 := hid (H4.out.al.swap)
      obtain ⟨w5, e5⟩ : ∃ u, u = w4.alloc (.cells #[.int .i64 0, .int .i64 0, .int .i64 0, .string ⟨#[]⟩, .float .f64 0, .int .i64 0] 30) := ⟨_, rfl⟩
      rw [← e5] at H5 ⊢
      clear e5
      refine hK _ _ ⟨H5.out.tw, ?_⟩
      clear hK K
      go_simp
      refine wpAnyH_all (rs := [3]) (by kernel_rfl) (by simp) ?_
      intro i hi
      obtain rfl := List.mem_singleton.1 hi
      clear hi
      refine wpOp_d rfl (by rfl) (fun K hK => ?_)
      go_simp
      refine (drequest_any b _).mono ?_
      rintro r w6 ⟨rfl, hb⟩
      have H6 := hid (H5.out.keep hb)
      clear hb
      refine hK _ _ ⟨H6.out.tw, ?_⟩
      clear hK K
      go_simp
      refine wpAnyH_all (rs := [6]) (by kernel_rfl) (by simp) ?_
      intro i hi
      obtain rfl := List.mem_singleton.1 hi
      clear hi
      refine wpOp_d rfl (by rfl) (fun K hK => ?_)
      refine owp_store_rq _ _ rfl w4.heap.size rfl zeroQ a rfl H6.out.rx ?_
      intro w7 Hq
      have H7 := hid (H6.out.put Hq.out)
      refine hK _ _ ⟨H7.out.tw, ?_⟩
      clear hK K Hq
      go_simp
      refine wpAnyH_all (rs := [7]) (by kernel_rfl) (by simp) ?_
      intro i hi
      obtain rfl := List.mem_singleton.1 hi
      clear hi
      refine wpOp_d rfl (by rfl) (fun K hK => ?_)
      refine owp_store_rq _ _ rfl w2.heap.size rfl zeroQ b rfl H7.out.ry ?_
      intro w8 Hq
      have H8 := hid (H7.out.swap.put Hq.out)
      refine hK _ _ ⟨H8.out.tw, ?_⟩
      clear hK K Hq
      go_simp
      refine wpAnyH_done (by kernel_rfl) ?_ _
      go_simp
      go_wp2_with fail
      go_meet
      exact ⟨w4.heap.size, w2.heap.size, rfl, rfl, H8.out.ry, H8.out.rx, H8.out.tw.bel⟩
    obtain rfl := List.mem_singleton.1 hi
    clear hi
    refine wpOp_d rfl (by rfl) (fun K hK => ?_)
    go_simp
    have H4 := hid (H3.out.al.swap)
    obtain ⟨w4, e4⟩ : ∃ u, u = w3.alloc (.cells #[.int .i64 0, .int .i64 0, .int .i64 0, .string ⟨#[]⟩, .float .f64 0, .int .i64 0] 30) := ⟨_, rfl⟩
    rw [← e4] at H4 ⊢
    clear e4
    refine hK _ _ ⟨H4.out.tw, ?_⟩
    clear hK K
    go_simp
    refine wpAnyH_all (rs := [1]) (by kernel_rfl) (by simp) ?_
    intro i hi
    obtain rfl := List.mem_singleton.1 hi
    clear hi
    refine wpOp_d rfl (by rfl) (fun K hK => ?_)
    go_simp
    refine (drequest_any a _).mono ?_
    rintro r w5 ⟨rfl, hb⟩
    have H5 := hid (H4.out.keep hb)
    clear hb
    refine hK _ _ ⟨H5.out.tw, ?_⟩
    clear hK K
    go_simp
    refine wpAnyH_all (rs := [3]) (by kernel_rfl) (by simp) ?_
    intro i hi
    obtain rfl := List.mem_singleton.1 hi
    clear hi
    refine wpOp_d rfl (by rfl) (fun K hK => ?_)
    go_simp
    refine (drequest_any b _).mono ?_
    rintro r w6 ⟨rfl, hb⟩
    have H6 := hid (H5.out.keep hb)
    clear hb
    refine hK _ _ ⟨H6.out.tw, ?_⟩
    clear hK K
    go_simp
    refine wpAnyH_all (rs := [6]) (by kernel_rfl) (by simp) ?_
    intro i hi
    obtain rfl := List.mem_singleton.1 hi
    clear hi
    refine wpOp_d rfl (by rfl) (fun K hK => ?_)
    refine owp_store_rq _ _ rfl w3.heap.size rfl zeroQ a rfl H6.out.rx ?_
    intro w7 Hq
    have H7 := hid (H6.out.put Hq.out)
    refine hK _ _ ⟨H7.out.tw, ?_⟩
    clear hK K Hq
    go_simp
    refine wpAnyH_all (rs := [7]) (by kernel_rfl) (by simp) ?_
    intro i hi
    obtain rfl := List.mem_singleton.1 hi
    clear hi
    refine wpOp_d rfl (by rfl) (fun K hK => ?_)
    refine owp_store_rq _ _ rfl w2.heap.size rfl zeroQ b rfl H7.out.ry ?_
    intro w8 Hq
    have H8 := hid (H7.out.swap.put Hq.out)
    refine hK _ _ ⟨H8.out.tw, ?_⟩
    clear hK K Hq
    go_simp
    refine wpAnyH_done (by kernel_rfl) ?_ _
    go_simp
    go_wp2_with fail
    go_meet
    exact ⟨w3.heap.size, w2.heap.size, rfl, rfl, H8.out.ry, H8.out.rx, H8.out.tw.bel⟩
  case rest =>
    obtain ⟨b5, b6, rfl, rfl, hA⟩ := hcut
    have H20 := hid hA
    clear hA
    obtain ⟨⟨c0_0, c0_1⟩, c0_2, c0_3, c0_4, c0_5⟩ := H20.out.1.cells
    obtain ⟨⟨c1_0, c1_1⟩, c1_2, c1_3, c1_4, c1_5⟩ := H20.out.2.1.cells
    clear H1
    go_wp2_with (first
      | (go_at_call 12; have := H21; refine (HT2.out _).mono ?_; rintro e w22 ⟨rfl, hb⟩; have H22 : Hid (RqAt w22 b5 a ∧ RqAt w22 b6 b ∧ Below w.heap.size w w22) := hid (⟨H21.out.1.keep hb, H21.out.2.1.keep hb, H21.out.2.2.trans (hb.mono H21.out.2.2.size)⟩); clear hb; clear c0_0 c0_1 c0_2 c0_3 c0_4 c0_5 c1_0 c1_1 c1_2 c1_3 c1_4 c1_5; obtain ⟨⟨c0_0, c0_1⟩, c0_2, c0_3, c0_4, c0_5⟩ := H22.out.1.cells; obtain ⟨⟨c1_0, c1_1⟩, c1_2, c1_3, c1_4, c1_5⟩ := H22.out.2.1.cells)
      | (go_at_call 11; have := H20; refine (HT1.out _).mono ?_; rintro e w21 ⟨rfl, hb⟩; have H21 : Hid (RqAt w21 b5 a ∧ RqAt w21 b6 b ∧ Below w.heap.size w w21) := hid (⟨H20.out.1.keep hb, H20.out.2.1.keep hb, H20.out.2.2.trans (hb.mono H20.out.2.2.size)⟩); clear hb; clear c0_0 c0_1 c0_2 c0_3 c0_4 c0_5 c1_0 c1_1 c1_2 c1_3 c1_4 c1_5; obtain ⟨⟨c0_0, c0_1⟩, c0_2, c0_3, c0_4, c0_5⟩ := H21.out.1.cells; obtain ⟨⟨c1_0, c1_1⟩, c1_2, c1_3, c1_4, c1_5⟩ := H21.out.2.1.cells))
    clear c0_0 c0_1 c0_2 c0_3 c0_4 c0_5 c1_0 c1_1 c1_2 c1_3 c1_4 c1_5
    haveI := Cls.ne w22
    have q0_0 : ∀ u : Cls w22, u.1.cell? ⟨b5, 0, none⟩ = some (.int .i64 a.c) := fun u => (H22.out.1.keep u.2).cells.1.1
    have q0_1 : ∀ u : Cls w22, u.1.cell? ⟨b5, 1, none⟩ = some (.int .i64 a.st) := fun u => (H22.out.1.keep u.2).cells.1.2
    have q0_2 : ∀ u : Cls w22, u.1.cell? ⟨b5, 2, none⟩ = some (.int .i64 a.k) := fun u => (H22.out.1.keep u.2).cells.2.1
    have q0_3 : ∀ u : Cls w22, u.1.cell? ⟨b5, 3, none⟩ = some (.string a.key) := fun u => (H22.out.1.keep u.2).cells.2.2.1
    have q0_4 : ∀ u : Cls w22, u.1.cell? ⟨b5, 4, none⟩ = some (.float .f64 a.b) := fun u => (H22.out.1.keep u.2).cells.2.2.2.1
    have q0_5 : ∀ u : Cls w22, u.1.cell? ⟨b5, 5, none⟩ = some (.int .i64 a.id) := fun u => (H22.out.1.keep u.2).cells.2.2.2.2
    have q1_0 : ∀ u : Cls w22, u.1.cell? ⟨b6, 0, none⟩ = some (.int .i64 b.c) := fun u => (H22.out.2.1.keep u.2).cells.1.1
    have q1_1 : ∀ u : Cls w22, u.1.cell? ⟨b6, 1, none⟩ = some (.int .i64 b.st) := fun u => (H22.out.2.1.keep u.2).cells.1.2
    have q1_2 : ∀ u : Cls w22, u.1.cell? ⟨b6, 2, none⟩ = some (.int .i64 b.k) := fun u => (H22.out.2.1.keep u.2).cells.2.1
    have q1_3 : ∀ u : Cls w22, u.1.cell? ⟨b6, 3, none⟩ = some (.string b.key) := fun u => (H22.out.2.1.keep u.2).cells.2.2.1
    have q1_4 : ∀ u : Cls w22, u.1.cell? ⟨b6, 4, none⟩ = some (.float .f64 b.b) := fun u => (H22.out.2.1.keep u.2).cells.2.2.2.1
    have q1_5 : ∀ u : Cls w22, u.1.cell? ⟨b6, 5, none⟩ = some (.int .i64 b.id) := fun u => (H22.out.2.1.keep u.2).cells.2.2.2.2
    refine wp_region_cls w22 (by kernel_rfl) (by kernel_rfl) ?_
    repeat (go_big_quiet_step ((first | (go_at_call 13; exact Cls.of _ (fun u _ => HR1.out u)) | (go_at_call 14; exact Cls.of _ (fun u _ => HR2.out u)) | (go_at_call 15; exact Cls.of _ (fun u _ => HN1.out u)) | (go_at_call 16; exact Cls.of _ (fun u _ => HN2.out u)) | (go_at_call 17; exact Cls.of _ (fun u _ => HS1.out u)) | (go_at_call 18; exact Cls.of _ (fun u _ => HS2.out u)))))
    rintro w23 ⟨u, hu⟩
    have hw : Below w22.heap.size w22 w23 := by first | exact hu ▸ u.2 | (rw [hu]; exact u.2) | (rw [← hu]; exact u.2)
    clear q0_0 q0_1 q0_2 q0_3 q0_4 q0_5 q1_0 q1_1 q1_2 q1_3 q1_4 q1_5 hu u
    have H23 : Hid (RqAt w23 b5 a ∧ RqAt w23 b6 b ∧ Below w.heap.size w w23) := hid ⟨H22.out.1.keep hw, H22.out.2.1.keep hw, H22.out.2.2.trans (hw.mono H22.out.2.2.size)⟩
    clear hw
    obtain ⟨⟨c0_0, c0_1⟩, c0_2, c0_3, c0_4, c0_5⟩ := H23.out.1.cells
    obtain ⟨⟨c1_0, c1_1⟩, c1_2, c1_3, c1_4, c1_5⟩ := H23.out.2.1.cells
    go_wp2
    go_ret
    exact ⟨rfl, H23.out.2.2⟩
end Go.Proofs.Ytpgfdnmlkaoigaa
