/- DeedsApart: what is prepared elsewhere, or is another request, has another text; none of these is a state's, a configuration's, a request's. -/
import Derived.Test.YtpgfdnmlkaoigabDsMM
import Derived.Deep.DeepCutAuto
namespace Go.Proofs.Ytpgfdnmlkaoigab
open Go.RowKit

set_option maxRecDepth 100000 in
set_option maxHeartbeats 25600000 in
theorem dapart_any (e v s : Int) (hi : e ≤ 9223372036854775807 ∧ v ≤ 9223372036854775807 ∧ s ≤ 9223372036854775807) (a : Rq) (ha : a.b < 18446744073709551616) (e' v' s' : Int) (hi' : e' ≤ 9223372036854775807 ∧ v' ≤ 9223372036854775807 ∧ s' ≤ 9223372036854775807) (b : Rq) (hb : b.b < 18446744073709551616) (hk : b.key.size ≤ 140737488355328) (ep : Int) (ad : Option Addr) (n cap : Nat) (l : List Int) (hn : l.length = n) (hm : n ≤ maxLen) (w : World) (hI : IntsIn w ad l) :
    Calls Try.prog 3 #[.agg #[.int .i64 e, .int .i64 v, .int .i64 s, .int .i64 a.c, .int .i64 a.st, .int .i64 a.k, .string a.key, .int .u64 (a.b : Int), .int .i64 a.id], .agg #[.int .i64 e', .int .i64 v', .int .i64 s', .int .i64 b.c, .int .i64 b.st, .int .i64 b.k, .string b.key, .int .u64 (b.b : Int), .int .i64 b.id], .agg #[.int .i64 ep, .slice ad n cap]] w fun r w' => r = .returned (.bool true) ∧ Below w.heap.size w w' := by
  have HP1 : Hid (∀ u, Calls Try.prog 6 #[.int .i64 e, .int .i64 v, .int .i64 s, .agg #[.int .i64 a.c, .int .i64 a.st, .int .i64 a.k, .string a.key, .float .f64 a.b, .int .i64 a.id]] u fun r w' => r = .returned (.tuple #[.string (prT e v s a), .int .i64 (prE e v s a)]) ∧ Below u.heap.size u w') := hid (fun u => by exact dprepared_any e v s hi a ha u)
  have HP2 : Hid (∀ u, Calls Try.prog 6 #[.int .i64 e', .int .i64 v', .int .i64 s', .agg #[.int .i64 b.c, .int .i64 b.st, .int .i64 b.k, .string b.key, .float .f64 b.b, .int .i64 b.id]] u fun r w' => r = .returned (.tuple #[.string (prT e' v' s' b), .int .i64 (prE e' v' s' b)]) ∧ Below u.heap.size u w') := hid (fun u => by exact dprepared_any e' v' s' hi' b hb u)
  have HSm : Hid (∀ B, sameB a b = B → ∀ u, Calls Try.prog 7 #[.agg #[.int .i64 a.c, .int .i64 a.st, .int .i64 a.k, .string a.key, .float .f64 a.b, .int .i64 a.id], .agg #[.int .i64 b.c, .int .i64 b.st, .int .i64 b.k, .string b.key, .float .f64 b.b, .int .i64 b.id]] u fun r w' => r = .returned (.bool B) ∧ Below u.heap.size u w') := hid (fun B hB u => by rw [← hB]; exact dsame_any a b ha hb u)
  have HSt : Hid (∀ u, Calls Try.prog 8 #[.int .i64 s', .string b.key] u fun r w' => r = .returned (.tuple #[.string (stT s' b.key), .int .i64 (stE s')]) ∧ Below u.heap.size u w') := hid (fun u => by exact dstate_any s' hi'.2.2 b.key hk u)
  have HCt : Hid (∀ u, Below w.heap.size w u → Calls Try.prog 9 #[.agg #[.int .i64 ep, .slice ad n cap]] u fun r w' => r = .returned (.tuple #[.string (textC ep l), .int .i64 (textE ep l)]) ∧ Below u.heap.size u w') := hid (fun u hu => by exact ctext_any ep ad n cap l hn hm u (hI.keep hu (Nat.le_refl _)))
  have HTb : Hid (∀ u, Calls Try.prog 10 #[.agg #[.int .i64 b.c, .int .i64 b.st, .int .i64 b.k, .string b.key, .float .f64 b.b, .int .i64 b.id]] u fun r w' => r = .returned (.tuple #[.string (rqT b), .int .i64 (rqE b)]) ∧ Below u.heap.size u w') := hid (fun u => by exact dtext_any b hb u)
  have HE : Hid ((prE e v s a = 0 ∨ prE e v s a = 1) ∧ (prE e' v' s' b = 0 ∨ prE e' v' s' b = 1) ∧ (stE s' = 0 ∨ stE s' = 1) ∧ (textE ep l = 0 ∨ textE ep l = 1) ∧ (rqE b = 0 ∨ rqE b = 1)) := hid ⟨codes01 e v s a, codes01 e' v' s' b, codes02 s', codes03 ep l, text_codes b⟩
  have HPS : Hid (prE e v s a = 0 → stE s' = 0 → ((prT e v s a).toList == (stT s' b.key).toList) = false) := hid (fun h1 h2 => first_ne (pr_first h1) (st_first h2) (by decide))
  have HPC : Hid (prE e v s a = 0 → textE ep l = 0 → ((prT e v s a).toList == (textC ep l).toList) = false) := hid (fun h1 h2 => first_ne (pr_first h1) (conf_first h2) (by decide))
  have HPT : Hid (prE e v s a = 0 → rqE b = 0 → ((prT e v s a).toList == (rqT b).toList) = false) := hid (fun h1 h2 => by
    rcases rq_first h2 with h | h
    · exact first_ne (pr_first h1) h (by decide)
    · exact first_ne (pr_first h1) h (by decide))
  have HSC : Hid (stE s' = 0 → textE ep l = 0 → ((stT s' b.key).toList == (textC ep l).toList) = false) := hid (fun h1 h2 => first_ne (st_first h1) (conf_first h2) (by decide))
  have HPP : Hid (prE e v s a = 0 → prE e' v' s' b = 0 → (prT e v s a = prT e' v' s' b ↔ (e = e' ∧ v = v' ∧ s = s' ∧ rqT a = rqT b)) ∧ (rqT a = rqT b ↔ sameB a b = true)) := hid (fun h1 h2 => ⟨pr_parts h1 h2, fun h => same_of (prE_ok h1).1 (prE_ok h2).1 h, same_text⟩)
  have HPN : Hid (prE e v s a = 1 → prT e v s a = ⟨#[]⟩) := hid (fun h => prE_bad (by rw [h]; decide))
  have H0 : Hid (Uw w (((w.alloc (.cells #[.int .i64 e, .int .i64 v, .int .i64 s, .int .i64 a.c, .int .i64 a.st, .int .i64 a.k, .string a.key, .int .u64 (a.b : Int), .int .i64 a.id] 28)).alloc (.cells #[.int .i64 e', .int .i64 v', .int .i64 s', .int .i64 b.c, .int .i64 b.st, .int .i64 b.k, .string b.key, .int .u64 (b.b : Int), .int .i64 b.id] 28)).alloc (.cells #[.int .i64 ep, .slice ad n cap] 31)) e v s a e' v' s' b ep (.slice ad n cap)) := hid
    ⟨(Below.heap_alloc _ _ _ (by simp; omega)).trans ((Below.heap_alloc _ _ _ (by simp)).trans (heap_alloc_last w _)), (Below.heap_alloc _ _ _ (by simp)).trans (snd_alloc w _ _), trd_alloc w _ _ _, (((Below.refl _ _).alloc (Nat.le_refl _) _).alloc (by simp) _).alloc (by simp; omega) _⟩
  clear ha hb hk hn hm hI hi hi'
  generalize prT e v s a = P at *
  generalize prT e' v' s' b = P' at *
  generalize stT s' b.key = U at *
  generalize textC ep l = V at *
  generalize rqT b = T at *
  generalize prE e v s a = E at *
  generalize prE e' v' s' b = F at *
  generalize stE s' = G at *
  generalize textE ep l = D at *
  generalize rqE b = I at *
  go_enter Try.func3, Try.ntmps3
  go_upto_region 3 with (go_at_call 4; refine (dlives_any _).mono ?_; rintro r w1 ⟨rfl, hb1⟩; have H1 := hid (H0.out.keep hb1); clear hb1)
  go_cut [7, 8] (fun v7 v8 wx => ∃ (b7 b8 : Nat), v7 = .pointer (some ⟨b7, 0, none⟩) ∧ v8 = .pointer (some ⟨b8, 0, none⟩) ∧ RqAt wx b7 a ∧ RqAt wx b8 b ∧ Uw w wx e v s a e' v' s' b ep (.slice ad n cap))
  case first =>
    have H2 := hid (H1.out.keep (Below.refl _ _).drew)
    have HS := hid H2.out
    refine wp_region_held (S := fun ww => Uw w ww e v s a e' v' s' b ep (.slice ad n cap)) (by kernel_rfl) ?_
    try (change wpAnyH _ _ _ _ _ _ _ _ (World.drew _))
    obtain ⟨w2, e2⟩ : ∃ u, u = w1.drew := ⟨_, rfl⟩
    rw [← e2] at H2 HS
    try rw [← e2]
    clear e2
    refine wpAnyH_take (i := 0) (v := ?v1) rfl (by kernel_rfl) (by kernel_rfl) (by kernel_rfl) (fun _ _ _ h => h) (Or.inl ⟨by rfl, ?hy1⟩) HS.out ?rest1
    case hy1 => (intro ww _; go_simp; try with_reducible rfl)
    go_simp
    refine wpAnyH_take (i := 1) (v := ?v2) rfl (by kernel_rfl) (by kernel_rfl) (by kernel_rfl) (fun _ _ _ h => h) (Or.inl ⟨by rfl, ?hy2⟩) HS.out ?rest2
    case hy2 => (intro ww hS; obtain ⟨y0, y1, y2, y3, y4, y5, y6, y7, y8⟩ := hS.ak.cells; go_simp; try with_reducible rfl)
    go_simp
    refine wpAnyH_take (i := 3) (v := ?v3) rfl (by kernel_rfl) (by kernel_rfl) (by kernel_rfl) (fun _ _ _ h => h) (Or.inl ⟨by rfl, ?hy3⟩) HS.out ?rest3
    case hy3 => (intro ww _; go_simp; try with_reducible rfl)
    go_simp
    refine wpAnyH_take (i := 4) (v := ?v4) rfl (by kernel_rfl) (by kernel_rfl) (by kernel_rfl) (fun _ _ _ h => h) (Or.inl ⟨by rfl, ?hy4⟩) HS.out ?rest4
    case hy4 => (intro ww hS; obtain ⟨y0, y1, y2, y3, y4, y5, y6, y7, y8⟩ := hS.bk.cells; go_simp; try with_reducible rfl)
    go_simp
    refine wpAnyH_all (rs := [2, 6, 7]) (by kernel_rfl) (by simp) ?_
    intro i hi
    rcases List.mem_cons.1 hi with rfl | hi
    · clear hi
      refine wpOp_d rfl (by rfl) (fun K hK => ?_)
      go_simp
      refine (drequest_any a _).mono ?_
      rintro r w3 ⟨rfl, hb⟩
      have H3 := hid (H2.out.keep hb)
      clear hb
      refine hK _ _ ⟨H3.out, ?_⟩
      clear hK K
      go_simp
      refine wpAnyH_all (rs := [5, 6, 7]) (by kernel_rfl) (by simp) ?_
      intro i hi
      rcases List.mem_cons.1 hi with rfl | hi
      · clear hi
        refine wpOp_d rfl (by rfl) (fun K hK => ?_)
        go_simp
        refine (drequest_any b _).mono ?_
        rintro r w4 ⟨rfl, hb⟩
        have H4 := hid (H3.out.keep hb)
        clear hb
        refine hK _ _ ⟨H4.out, ?_⟩
        clear hK K
        go_simp
        refine wpAnyH_all (rs := [6, 7]) (by kernel_rfl) (by simp) ?_
        intro i hi
        rcases List.mem_cons.1 hi with rfl | hi
        · clear hi
          refine wpOp_d rfl (by rfl) (fun K hK => ?_)
          go_simp
          have H5 := hid (H4.out.al)
          obtain ⟨w5, e5⟩ : ∃ u, u = w4.alloc (.cells #[.int .i64 0, .int .i64 0, .int .i64 0, .string ⟨#[]⟩, .float .f64 0, .int .i64 0] 37) := ⟨_, rfl⟩
          rw [← e5] at H5 ⊢
          clear e5
          refine hK _ _ ⟨H5.out.tw, ?_⟩
          clear hK K
          go_simp
          refine wpAnyH_all (rs := [7]) (by kernel_rfl) (by simp) ?_
          intro i hi
          obtain rfl := List.mem_singleton.1 hi
          clear hi
          refine wpOp_d rfl (by rfl) (fun K hK => ?_)
          go_simp
          have H6 := hid (H5.out.al)
          obtain ⟨w6, e6⟩ : ∃ u, u = w5.alloc (.cells #[.int .i64 0, .int .i64 0, .int .i64 0, .string ⟨#[]⟩, .float .f64 0, .int .i64 0] 37) := ⟨_, rfl⟩
          rw [← e6] at H6 ⊢
          clear e6
          refine hK _ _ ⟨H6.out.tw, ?_⟩
          clear hK K
          go_simp
          refine wpAnyH_all (rs := [8]) (by kernel_rfl) (by simp) ?_
          intro i hi
          obtain rfl := List.mem_singleton.1 hi
          clear hi
          refine wpOp_d rfl (by rfl) (fun K hK => ?_)
          refine owp_store_rq _ _ rfl w4.heap.size rfl zeroQ a rfl H6.out.rx ?_
          intro w7 Hq
          have H7 := hid (H6.out.put Hq.out)
          refine hK _ _ ⟨H7.out.tw, ?_⟩
          clear hK K Hq
          go_simp
          refine wpAnyH_all (rs := [9]) (by kernel_rfl) (by simp) ?_
          intro i hi
          obtain rfl := List.mem_singleton.1 hi
          clear hi
          refine wpOp_d rfl (by rfl) (fun K hK => ?_)
          refine owp_store_rq _ _ rfl w5.heap.size rfl zeroQ b rfl H7.out.ry ?_
          intro w8 Hq
          have H8 := hid (H7.out.swap.put Hq.out)
          refine hK _ _ ⟨H8.out.tw, ?_⟩
          clear hK K Hq
          go_simp
          refine wpAnyH_done (by kernel_rfl) ?_ _
          go_simp
          go_wp2_with fail
          go_meet
          exact ⟨w4.heap.size, w5.heap.size, rfl, rfl, H8.out.ry, H8.out.rx, H8.out.tw⟩
        obtain rfl := List.mem_singleton.1 hi
        clear hi
        refine wpOp_d rfl (by rfl) (fun K hK => ?_)
        go_simp
        have H5 := hid (H4.out.al)
        obtain ⟨w5, e5⟩ : ∃ u, u = w4.alloc (.cells #[.int .i64 0, .int .i64 0, .int .i64 0, .string ⟨#[]⟩, .float .f64 0, .int .i64 0] 37) := ⟨_, rfl⟩
        rw [← e5] at H5 ⊢
        clear e5
        refine hK _ _ ⟨H5.out.tw, ?_⟩
        clear hK K
        go_simp
        refine wpAnyH_all (rs := [6]) (by kernel_rfl) (by simp) ?_
        intro i hi
        obtain rfl := List.mem_singleton.1 hi
        clear hi
        refine wpOp_d rfl (by rfl) (fun K hK => ?_)
        go_simp
        have H6 := hid (H5.out.al.swap)
        obtain ⟨w6, e6⟩ : ∃ u, u = w5.alloc (.cells #[.int .i64 0, .int .i64 0, .int .i64 0, .string ⟨#[]⟩, .float .f64 0, .int .i64 0] 37) := ⟨_, rfl⟩
        rw [← e6] at H6 ⊢
        clear e6
        refine hK _ _ ⟨H6.out.tw, ?_⟩
        clear hK K
        go_simp
        refine wpAnyH_all (rs := [8]) (by kernel_rfl) (by simp) ?_
        intro i hi
        obtain rfl := List.mem_singleton.1 hi
        clear hi
        refine wpOp_d rfl (by rfl) (fun K hK => ?_)
        refine owp_store_rq _ _ rfl w5.heap.size rfl zeroQ a rfl H6.out.rx ?_
        intro w7 Hq
        have H7 := hid (H6.out.put Hq.out)
        refine hK _ _ ⟨H7.out.tw, ?_⟩
        clear hK K Hq
        go_simp
        refine wpAnyH_all (rs := [9]) (by kernel_rfl) (by simp) ?_
        intro i hi
        obtain rfl := List.mem_singleton.1 hi
        clear hi
        refine wpOp_d rfl (by rfl) (fun K hK => ?_)
        refine owp_store_rq _ _ rfl w4.heap.size rfl zeroQ b rfl H7.out.ry ?_
        intro w8 Hq
        have H8 := hid (H7.out.swap.put Hq.out)
        refine hK _ _ ⟨H8.out.tw, ?_⟩
        clear hK K Hq
        go_simp
        refine wpAnyH_done (by kernel_rfl) ?_ _
        go_simp
        go_wp2_with fail
        go_meet
        exact ⟨w5.heap.size, w4.heap.size, rfl, rfl, H8.out.ry, H8.out.rx, H8.out.tw⟩
      rcases List.mem_cons.1 hi with rfl | hi
      · clear hi
        refine wpOp_d rfl (by rfl) (fun K hK => ?_)
        go_simp
        have H4 := hid (H3.out.al)
        obtain ⟨w4, e4⟩ : ∃ u, u = w3.alloc (.cells #[.int .i64 0, .int .i64 0, .int .i64 0, .string ⟨#[]⟩, .float .f64 0, .int .i64 0] 37) := ⟨_, rfl⟩
        rw [← e4] at H4 ⊢
        clear e4
        refine hK _ _ ⟨H4.out.tw, ?_⟩
        clear hK K
        go_simp
        refine wpAnyH_all (rs := [5, 7]) (by kernel_rfl) (by simp) ?_
        intro i hi
        rcases List.mem_cons.1 hi with rfl | hi
        · clear hi
          refine wpOp_d rfl (by rfl) (fun K hK => ?_)
          go_simp
          refine (drequest_any b _).mono ?_
          rintro r w5 ⟨rfl, hb⟩
          have H5 := hid (H4.out.keep hb)
          clear hb
          refine hK _ _ ⟨H5.out.tw, ?_⟩
          clear hK K
          go_simp
          refine wpAnyH_all (rs := [7]) (by kernel_rfl) (by simp) ?_
          intro i hi
          obtain rfl := List.mem_singleton.1 hi
          clear hi
          refine wpOp_d rfl (by rfl) (fun K hK => ?_)
          go_simp
          have H6 := hid (H5.out.al)
          obtain ⟨w6, e6⟩ : ∃ u, u = w5.alloc (.cells #[.int .i64 0, .int .i64 0, .int .i64 0, .string ⟨#[]⟩, .float .f64 0, .int .i64 0] 37) := ⟨_, rfl⟩
          rw [← e6] at H6 ⊢
          clear e6
          refine hK _ _ ⟨H6.out.tw, ?_⟩
          clear hK K
          go_simp
          refine wpAnyH_all (rs := [8]) (by kernel_rfl) (by simp) ?_
          intro i hi
          obtain rfl := List.mem_singleton.1 hi
          clear hi
          refine wpOp_d rfl (by rfl) (fun K hK => ?_)
          refine owp_store_rq _ _ rfl w3.heap.size rfl zeroQ a rfl H6.out.rx ?_
          intro w7 Hq
          have H7 := hid (H6.out.put Hq.out)
          refine hK _ _ ⟨H7.out.tw, ?_⟩
          clear hK K Hq
          go_simp
          refine wpAnyH_all (rs := [9]) (by kernel_rfl) (by simp) ?_
          intro i hi
          obtain rfl := List.mem_singleton.1 hi
          clear hi
          refine wpOp_d rfl (by rfl) (fun K hK => ?_)
          refine owp_store_rq _ _ rfl w5.heap.size rfl zeroQ b rfl H7.out.ry ?_
          intro w8 Hq
          have H8 := hid (H7.out.swap.put Hq.out)
          refine hK _ _ ⟨H8.out.tw, ?_⟩
          clear hK K Hq
          go_simp
          refine wpAnyH_done (by kernel_rfl) ?_ _
          go_simp
          go_wp2_with fail
          go_meet
          exact ⟨w3.heap.size, w5.heap.size, rfl, rfl, H8.out.ry, H8.out.rx, H8.out.tw⟩
        obtain rfl := List.mem_singleton.1 hi
        clear hi
        refine wpOp_d rfl (by rfl) (fun K hK => ?_)
        go_simp
        have H5 := hid (H4.out.al)
        obtain ⟨w5, e5⟩ : ∃ u, u = w4.alloc (.cells #[.int .i64 0, .int .i64 0, .int .i64 0, .string ⟨#[]⟩, .float .f64 0, .int .i64 0] 37) := ⟨_, rfl⟩
        rw [← e5] at H5 ⊢
        clear e5
        refine hK _ _ ⟨H5.out.tw, ?_⟩
        clear hK K
        go_simp
        refine wpAnyH_all (rs := [5]) (by kernel_rfl) (by simp) ?_
        intro i hi
        obtain rfl := List.mem_singleton.1 hi
        clear hi
        refine wpOp_d rfl (by rfl) (fun K hK => ?_)
        go_simp
        refine (drequest_any b _).mono ?_
        rintro r w6 ⟨rfl, hb⟩
        have H6 := hid (H5.out.keep hb)
        clear hb
        refine hK _ _ ⟨H6.out.tw, ?_⟩
        clear hK K
        go_simp
        refine wpAnyH_all (rs := [8]) (by kernel_rfl) (by simp) ?_
        intro i hi
        obtain rfl := List.mem_singleton.1 hi
        clear hi
        refine wpOp_d rfl (by rfl) (fun K hK => ?_)
        refine owp_store_rq _ _ rfl w3.heap.size rfl zeroQ a rfl H6.out.rx ?_
        intro w7 Hq
        have H7 := hid (H6.out.put Hq.out)
        refine hK _ _ ⟨H7.out.tw, ?_⟩
        clear hK K Hq
        go_simp
        refine wpAnyH_all (rs := [9]) (by kernel_rfl) (by simp) ?_
        intro i hi
        obtain rfl := List.mem_singleton.1 hi
        clear hi
        refine wpOp_d rfl (by rfl) (fun K hK => ?_)
        refine owp_store_rq _ _ rfl w4.heap.size rfl zeroQ b rfl H7.out.ry ?_
        intro w8 Hq
        have H8 := hid (H7.out.swap.put Hq.out)
        refine hK _ _ ⟨H8.out.tw, ?_⟩
        clear hK K Hq
        go_simp
        refine wpAnyH_done (by kernel_rfl) ?_ _
        go_simp
        go_wp2_with fail
        go_meet
        exact ⟨w3.heap.size, w4.heap.size, rfl, rfl, H8.out.ry, H8.out.rx, H8.out.tw⟩
      obtain rfl := List.mem_singleton.1 hi
      clear hi
      refine wpOp_d rfl (by rfl) (fun K hK => ?_)
      go_simp
      have H4 := hid (H3.out.al)
      obtain ⟨w4, e4⟩ : ∃ u, u = w3.alloc (.cells #[.int .i64 0, .int .i64 0, .int .i64 0, .string ⟨#[]⟩, .float .f64 0, .int .i64 0] 37) := ⟨_, rfl⟩
      rw [← e4] at H4 ⊢
      clear e4
      refine hK _ _ ⟨H4.out.tw, ?_⟩
      clear hK K
      go_simp
      refine wpAnyH_all (rs := [5, 6]) (by kernel_rfl) (by simp) ?_
      intro i hi
      rcases List.mem_cons.1 hi with rfl | hi
      · clear hi
        refine wpOp_d rfl (by rfl) (fun K hK => ?_)
        go_simp
        refine (drequest_any b _).mono ?_
        rintro r w5 ⟨rfl, hb⟩
        have H5 := hid (H4.out.keep hb)
        clear hb
        refine hK _ _ ⟨H5.out.tw, ?_⟩
        clear hK K
        go_simp
        refine wpAnyH_all (rs := [6]) (by kernel_rfl) (by simp) ?_
        intro i hi
        obtain rfl := List.mem_singleton.1 hi
        clear hi
        refine wpOp_d rfl (by rfl) (fun K hK => ?_)
        go_simp
        have H6 := hid (H5.out.al.swap)
        obtain ⟨w6, e6⟩ : ∃ u, u = w5.alloc (.cells #[.int .i64 0, .int .i64 0, .int .i64 0, .string ⟨#[]⟩, .float .f64 0, .int .i64 0] 37) := ⟨_, rfl⟩
        rw [← e6] at H6 ⊢
        clear e6
        refine hK _ _ ⟨H6.out.tw, ?_⟩
        clear hK K
        go_simp
        refine wpAnyH_all (rs := [8]) (by kernel_rfl) (by simp) ?_
        intro i hi
        obtain rfl := List.mem_singleton.1 hi
        clear hi
        refine wpOp_d rfl (by rfl) (fun K hK => ?_)
        refine owp_store_rq _ _ rfl w5.heap.size rfl zeroQ a rfl H6.out.rx ?_
        intro w7 Hq
        have H7 := hid (H6.out.put Hq.out)
        refine hK _ _ ⟨H7.out.tw, ?_⟩
        clear hK K Hq
        go_simp
        refine wpAnyH_all (rs := [9]) (by kernel_rfl) (by simp) ?_
        intro i hi
        obtain rfl := List.mem_singleton.1 hi
        clear hi
        refine wpOp_d rfl (by rfl) (fun K hK => ?_)
        refine owp_store_rq _ _ rfl w3.heap.size rfl zeroQ b rfl H7.out.ry ?_
        intro w8 Hq
        have H8 := hid (H7.out.swap.put Hq.out)
        refine hK _ _ ⟨H8.out.tw, ?_⟩
        clear hK K Hq
        go_simp
        refine wpAnyH_done (by kernel_rfl) ?_ _
        go_simp
        go_wp2_with fail
        go_meet
        exact ⟨w5.heap.size, w3.heap.size, rfl, rfl, H8.out.ry, H8.out.rx, H8.out.tw⟩
      obtain rfl := List.mem_singleton.1 hi
      clear hi
      refine wpOp_d rfl (by rfl) (fun K hK => ?_)
      go_simp
      have H5 := hid (H4.out.al.swap)
      obtain ⟨w5, e5⟩ : ∃ u, u = w4.alloc (.cells #[.int .i64 0, .int .i64 0, .int .i64 0, .string ⟨#[]⟩, .float .f64 0, .int .i64 0] 37) := ⟨_, rfl⟩
      rw [← e5] at H5 ⊢
      clear e5
      refine hK _ _ ⟨H5.out.tw, ?_⟩
      clear hK K
      go_simp
      refine wpAnyH_all (rs := [5]) (by kernel_rfl) (by simp) ?_
      intro i hi
      obtain rfl := List.mem_singleton.1 hi
      clear hi
      refine wpOp_d rfl (by rfl) (fun K hK => ?_)
      go_simp
      refine (drequest_any b _).mono ?_
      rintro r w6 ⟨rfl, hb⟩
      have H6 := hid (H5.out.keep hb)
      clear hb
      refine hK _ _ ⟨H6.out.tw, ?_⟩
      clear hK K
      go_simp
      refine wpAnyH_all (rs := [8]) (by kernel_rfl) (by simp) ?_
      intro i hi
      obtain rfl := List.mem_singleton.1 hi
      clear hi
      refine wpOp_d rfl (by rfl) (fun K hK => ?_)
      refine owp_store_rq _ _ rfl w4.heap.size rfl zeroQ a rfl H6.out.rx ?_
      intro w7 Hq
      have H7 := hid (H6.out.put Hq.out)
      refine hK _ _ ⟨H7.out.tw, ?_⟩
      clear hK K Hq
      go_simp
      refine wpAnyH_all (rs := [9]) (by kernel_rfl) (by simp) ?_
      intro i hi
      obtain rfl := List.mem_singleton.1 hi
      clear hi
      refine wpOp_d rfl (by rfl) (fun K hK => ?_)
      refine owp_store_rq _ _ rfl w3.heap.size rfl zeroQ b rfl H7.out.ry ?_
      intro w8 Hq
      have H8 := hid (H7.out.swap.put Hq.out)
      refine hK _ _ ⟨H8.out.tw, ?_⟩
      clear hK K Hq
      go_simp
      refine wpAnyH_done (by kernel_rfl) ?_ _
      go_simp
      go_wp2_with fail
      go_meet
      exact ⟨w4.heap.size, w3.heap.size, rfl, rfl, H8.out.ry, H8.out.rx, H8.out.tw⟩
    rcases List.mem_cons.1 hi with rfl | hi
    · clear hi
      refine wpOp_d rfl (by rfl) (fun K hK => ?_)
      go_simp
      have H3 := hid (H2.out.al)
      obtain ⟨w3, e3⟩ : ∃ u, u = w2.alloc (.cells #[.int .i64 0, .int .i64 0, .int .i64 0, .string ⟨#[]⟩, .float .f64 0, .int .i64 0] 37) := ⟨_, rfl⟩
      rw [← e3] at H3 ⊢
      clear e3
      refine hK _ _ ⟨H3.out.tw, ?_⟩
      clear hK K
      go_simp
      refine wpAnyH_all (rs := [2, 7]) (by kernel_rfl) (by simp) ?_
      intro i hi
      rcases List.mem_cons.1 hi with rfl | hi
      · clear hi
        refine wpOp_d rfl (by rfl) (fun K hK => ?_)
        go_simp
        refine (drequest_any a _).mono ?_
        rintro r w4 ⟨rfl, hb⟩
        have H4 := hid (H3.out.keep hb)
        clear hb
        refine hK _ _ ⟨H4.out.tw, ?_⟩
        clear hK K
        go_simp
        refine wpAnyH_all (rs := [5, 7]) (by kernel_rfl) (by simp) ?_
        intro i hi
        rcases List.mem_cons.1 hi with rfl | hi
        · clear hi
          refine wpOp_d rfl (by rfl) (fun K hK => ?_)
          go_simp
          refine (drequest_any b _).mono ?_
          rintro r w5 ⟨rfl, hb⟩
          have H5 := hid (H4.out.keep hb)
          clear hb
          refine hK _ _ ⟨H5.out.tw, ?_⟩
          clear hK K
          go_simp
          refine wpAnyH_all (rs := [7]) (by kernel_rfl) (by simp) ?_
          intro i hi
          obtain rfl := List.mem_singleton.1 hi
          clear hi
          refine wpOp_d rfl (by rfl) (fun K hK => ?_)
          go_simp
          have H6 := hid (H5.out.al)
          obtain ⟨w6, e6⟩ : ∃ u, u = w5.alloc (.cells #[.int .i64 0, .int .i64 0, .int .i64 0, .string ⟨#[]⟩, .float .f64 0, .int .i64 0] 37) := ⟨_, rfl⟩
          rw [← e6] at H6 ⊢
          clear e6
          refine hK _ _ ⟨H6.out.tw, ?_⟩
          clear hK K
          go_simp
          refine wpAnyH_all (rs := [8]) (by kernel_rfl) (by simp) ?_
          intro i hi
          obtain rfl := List.mem_singleton.1 hi
          clear hi
          refine wpOp_d rfl (by rfl) (fun K hK => ?_)
          refine owp_store_rq _ _ rfl w2.heap.size rfl zeroQ a rfl H6.out.rx ?_
          intro w7 Hq
          have H7 := hid (H6.out.put Hq.out)
          refine hK _ _ ⟨H7.out.tw, ?_⟩
          clear hK K Hq
          go_simp
          refine wpAnyH_all (rs := [9]) (by kernel_rfl) (by simp) ?_
          intro i hi
          obtain rfl := List.mem_singleton.1 hi
          clear hi
          refine wpOp_d rfl (by rfl) (fun K hK => ?_)
          refine owp_store_rq _ _ rfl w5.heap.size rfl zeroQ b rfl H7.out.ry ?_
          intro w8 Hq
          have H8 := hid (H7.out.swap.put Hq.out)
          refine hK _ _ ⟨H8.out.tw, ?_⟩
          clear hK K Hq
          go_simp
          refine wpAnyH_done (by kernel_rfl) ?_ _
          go_simp
          go_wp2_with fail
          go_meet
          exact ⟨w2.heap.size, w5.heap.size, rfl, rfl, H8.out.ry, H8.out.rx, H8.out.tw⟩
        obtain rfl := List.mem_singleton.1 hi
        clear hi
        refine wpOp_d rfl (by rfl) (fun K hK => ?_)
        go_simp
        have H5 := hid (H4.out.al)
        obtain ⟨w5, e5⟩ : ∃ u, u = w4.alloc (.cells #[.int .i64 0, .int .i64 0, .int .i64 0, .string ⟨#[]⟩, .float .f64 0, .int .i64 0] 37) := ⟨_, rfl⟩
        rw [← e5] at H5 ⊢
        clear e5
        refine hK _ _ ⟨H5.out.tw, ?_⟩
        clear hK K
        go_simp
        refine wpAnyH_all (rs := [5]) (by kernel_rfl) (by simp) ?_
        intro i hi
        obtain rfl := List.mem_singleton.1 hi
        clear hi
        refine wpOp_d rfl (by rfl) (fun K hK => ?_)
        go_simp
        refine (drequest_any b _).mono ?_
        rintro r w6 ⟨rfl, hb⟩
        have H6 := hid (H5.out.keep hb)
        clear hb
        refine hK _ _ ⟨H6.out.tw, ?_⟩
        clear hK K
        go_simp
        refine wpAnyH_all (rs := [8]) (by kernel_rfl) (by simp) ?_
        intro i hi
        obtain rfl := List.mem_singleton.1 hi
        clear hi
        refine wpOp_d rfl (by rfl) (fun K hK => ?_)
        refine owp_store_rq _ _ rfl w2.heap.size rfl zeroQ a rfl H6.out.rx ?_
        intro w7 Hq
        have H7 := hid (H6.out.put Hq.out)
        refine hK _ _ ⟨H7.out.tw, ?_⟩
        clear hK K Hq
        go_simp
        refine wpAnyH_all (rs := [9]) (by kernel_rfl) (by simp) ?_
        intro i hi
        obtain rfl := List.mem_singleton.1 hi
        clear hi
        refine wpOp_d rfl (by rfl) (fun K hK => ?_)
        refine owp_store_rq _ _ rfl w4.heap.size rfl zeroQ b rfl H7.out.ry ?_
        intro w8 Hq
        have H8 := hid (H7.out.swap.put Hq.out)
        refine hK _ _ ⟨H8.out.tw, ?_⟩
        clear hK K Hq
        go_simp
        refine wpAnyH_done (by kernel_rfl) ?_ _
        go_simp
        go_wp2_with fail
        go_meet
        exact ⟨w2.heap.size, w4.heap.size, rfl, rfl, H8.out.ry, H8.out.rx, H8.out.tw⟩
      obtain rfl := List.mem_singleton.1 hi
      clear hi
      refine wpOp_d rfl (by rfl) (fun K hK => ?_)
      go_simp
      have H4 := hid (H3.out.al)
      obtain ⟨w4, e4⟩ : ∃ u, u = w3.alloc (.cells #[.int .i64 0, .int .i64 0, .int .i64 0, .string ⟨#[]⟩, .float .f64 0, .int .i64 0] 37) := ⟨_, rfl⟩
      rw [← e4] at H4 ⊢
      clear e4
      refine hK _ _ ⟨H4.out.tw, ?_⟩
      clear hK K
      go_simp
      refine wpAnyH_all (rs := [2]) (by kernel_rfl) (by simp) ?_
      intro i hi
      obtain rfl := List.mem_singleton.1 hi
      clear hi
      refine wpOp_d rfl (by rfl) (fun K hK => ?_)
      go_simp
      refine (drequest_any a _).mono ?_
      rintro r w5 ⟨rfl, hb⟩
      have H5 := hid (H4.out.keep hb)
      clear hb
      refine hK _ _ ⟨H5.out.tw, ?_⟩
      clear hK K
      go_simp
      refine wpAnyH_all (rs := [5]) (by kernel_rfl) (by simp) ?_
      intro i hi
      obtain rfl := List.mem_singleton.1 hi
      clear hi
      refine wpOp_d rfl (by rfl) (fun K hK => ?_)
      go_simp
      refine (drequest_any b _).mono ?_
      rintro r w6 ⟨rfl, hb⟩
      have H6 := hid (H5.out.keep hb)
      clear hb
      refine hK _ _ ⟨H6.out.tw, ?_⟩
      clear hK K
      go_simp
      refine wpAnyH_all (rs := [8]) (by kernel_rfl) (by simp) ?_
      intro i hi
      obtain rfl := List.mem_singleton.1 hi
      clear hi
      refine wpOp_d rfl (by rfl) (fun K hK => ?_)
      refine owp_store_rq _ _ rfl w2.heap.size rfl zeroQ a rfl H6.out.rx ?_
      intro w7 Hq
      have H7 := hid (H6.out.put Hq.out)
      refine hK _ _ ⟨H7.out.tw, ?_⟩
      clear hK K Hq
      go_simp
      refine wpAnyH_all (rs := [9]) (by kernel_rfl) (by simp) ?_
      intro i hi
      obtain rfl := List.mem_singleton.1 hi
      clear hi
      refine wpOp_d rfl (by rfl) (fun K hK => ?_)
      refine owp_store_rq _ _ rfl w3.heap.size rfl zeroQ b rfl H7.out.ry ?_
      intro w8 Hq
      have H8 := hid (H7.out.swap.put Hq.out)
      refine hK _ _ ⟨H8.out.tw, ?_⟩
      clear hK K Hq
      go_simp
      refine wpAnyH_done (by kernel_rfl) ?_ _
      go_simp
      go_wp2_with fail
      go_meet
      exact ⟨w2.heap.size, w3.heap.size, rfl, rfl, H8.out.ry, H8.out.rx, H8.out.tw⟩
    obtain rfl := List.mem_singleton.1 hi
    clear hi
    refine wpOp_d rfl (by rfl) (fun K hK => ?_)
    go_simp
    have H3 := hid (H2.out.al)
    obtain ⟨w3, e3⟩ : ∃ u, u = w2.alloc (.cells #[.int .i64 0, .int .i64 0, .int .i64 0, .string ⟨#[]⟩, .float .f64 0, .int .i64 0] 37) := ⟨_, rfl⟩
    rw [← e3] at H3 ⊢
    clear e3
    refine hK _ _ ⟨H3.out.tw, ?_⟩
    clear hK K
    go_simp
    refine wpAnyH_all (rs := [2, 6]) (by kernel_rfl) (by simp) ?_
    intro i hi
    rcases List.mem_cons.1 hi with rfl | hi
    · clear hi
      refine wpOp_d rfl (by rfl) (fun K hK => ?_)
      go_simp
      refine (drequest_any a _).mono ?_
      rintro r w4 ⟨rfl, hb⟩
      have H4 := hid (H3.out.keep hb)
      clear hb
      refine hK _ _ ⟨H4.out.tw, ?_⟩
      clear hK K
      go_simp
      refine wpAnyH_all (rs := [5, 6]) (by kernel_rfl) (by simp) ?_
      intro i hi
      rcases List.mem_cons.1 hi with rfl | hi
      · clear hi
        refine wpOp_d rfl (by rfl) (fun K hK => ?_)
        go_simp
        refine (drequest_any b _).mono ?_
        rintro r w5 ⟨rfl, hb⟩
        have H5 := hid (H4.out.keep hb)
        clear hb
        refine hK _ _ ⟨H5.out.tw, ?_⟩
        clear hK K
        go_simp
        refine wpAnyH_all (rs := [6]) (by kernel_rfl) (by simp) ?_
        intro i hi
        obtain rfl := List.mem_singleton.1 hi
        clear hi
        refine wpOp_d rfl (by rfl) (fun K hK => ?_)
        go_simp
        have H6 := hid (H5.out.al.swap)
        obtain ⟨w6, e6⟩ : ∃ u, u = w5.alloc (.cells #[.int .i64 0, .int .i64 0, .int .i64 0, .string ⟨#[]⟩, .float .f64 0, .int .i64 0] 37) := ⟨_, rfl⟩
        rw [← e6] at H6 ⊢
        clear e6
        refine hK _ _ ⟨H6.out.tw, ?_⟩
        clear hK K
        go_simp
        refine wpAnyH_all (rs := [8]) (by kernel_rfl) (by simp) ?_
        intro i hi
        obtain rfl := List.mem_singleton.1 hi
        clear hi
        refine wpOp_d rfl (by rfl) (fun K hK => ?_)
        refine owp_store_rq _ _ rfl w5.heap.size rfl zeroQ a rfl H6.out.rx ?_
        intro w7 Hq
        have H7 := hid (H6.out.put Hq.out)
        refine hK _ _ ⟨H7.out.tw, ?_⟩
        clear hK K Hq
        go_simp
        refine wpAnyH_all (rs := [9]) (by kernel_rfl) (by simp) ?_
        intro i hi
        obtain rfl := List.mem_singleton.1 hi
        clear hi
        refine wpOp_d rfl (by rfl) (fun K hK => ?_)
        refine owp_store_rq _ _ rfl w2.heap.size rfl zeroQ b rfl H7.out.ry ?_
        intro w8 Hq
        have H8 := hid (H7.out.swap.put Hq.out)
        refine hK _ _ ⟨H8.out.tw, ?_⟩
        clear hK K Hq
        go_simp
        refine wpAnyH_done (by kernel_rfl) ?_ _
        go_simp
        go_wp2_with fail
        go_meet
        exact ⟨w5.heap.size, w2.heap.size, rfl, rfl, H8.out.ry, H8.out.rx, H8.out.tw⟩
      obtain rfl := List.mem_singleton.1 hi
      clear hi
      refine wpOp_d rfl (by rfl) (fun K hK => ?_)
      go_simp
      have H5 := hid (H4.out.al.swap)
      obtain ⟨w5, e5⟩ : ∃ u, u = w4.alloc (.cells #[.int .i64 0, .int .i64 0, .int .i64 0, .string ⟨#[]⟩, .float .f64 0, .int .i64 0] 37) := ⟨_, rfl⟩
      rw [← e5] at H5 ⊢
      clear e5
      refine hK _ _ ⟨H5.out.tw, ?_⟩
      clear hK K
      go_simp
      refine wpAnyH_all (rs := [5]) (by kernel_rfl) (by simp) ?_
      intro i hi
      obtain rfl := List.mem_singleton.1 hi
      clear hi
      refine wpOp_d rfl (by rfl) (fun K hK => ?_)
      go_simp
      refine (drequest_any b _).mono ?_
      rintro r w6 ⟨rfl, hb⟩
      have H6 := hid (H5.out.keep hb)
      clear hb
      refine hK _ _ ⟨H6.out.tw, ?_⟩
      clear hK K
      go_simp
      refine wpAnyH_all (rs := [8]) (by kernel_rfl) (by simp) ?_
      intro i hi
      obtain rfl := List.mem_singleton.1 hi
      clear hi
      refine wpOp_d rfl (by rfl) (fun K hK => ?_)
      refine owp_store_rq _ _ rfl w4.heap.size rfl zeroQ a rfl H6.out.rx ?_
      intro w7 Hq
      have H7 := hid (H6.out.put Hq.out)
      refine hK _ _ ⟨H7.out.tw, ?_⟩
      clear hK K Hq
      go_simp
      refine wpAnyH_all (rs := [9]) (by kernel_rfl) (by simp) ?_
      intro i hi
      obtain rfl := List.mem_singleton.1 hi
      clear hi
      refine wpOp_d rfl (by rfl) (fun K hK => ?_)
      refine owp_store_rq _ _ rfl w2.heap.size rfl zeroQ b rfl H7.out.ry ?_
      intro w8 Hq
      have H8 := hid (H7.out.swap.put Hq.out)
      refine hK _ _ ⟨H8.out.tw, ?_⟩
      clear hK K Hq
      go_simp
      refine wpAnyH_done (by kernel_rfl) ?_ _
      go_simp
      go_wp2_with fail
      go_meet
      exact ⟨w4.heap.size, w2.heap.size, rfl, rfl, H8.out.ry, H8.out.rx, H8.out.tw⟩
    obtain rfl := List.mem_singleton.1 hi
    clear hi
    refine wpOp_d rfl (by rfl) (fun K hK => ?_)
    go_simp
    have H4 := hid (H3.out.al.swap)
    obtain ⟨w4, e4⟩ : ∃ u, u = w3.alloc (.cells #[.int .i64 0, .int .i64 0, .int .i64 0, .string ⟨#[]⟩, .float .f64 0, .int .i64 0] 37) := ⟨_, rfl⟩
    rw [← e4] at H4 ⊢
    clear e4
    refine hK _ _ ⟨H4.out.tw, ?_⟩
    clear hK K
    go_simp
    refine wpAnyH_all (rs := [2]) (by kernel_rfl) (by simp) ?_
    intro i hi
    obtain rfl := List.mem_singleton.1 hi
    clear hi
    refine wpOp_d rfl (by rfl) (fun K hK => ?_)
    go_simp
    refine (drequest_any a _).mono ?_
    rintro r w5 ⟨rfl, hb⟩
    have H5 := hid (H4.out.keep hb)
    clear hb
    refine hK _ _ ⟨H5.out.tw, ?_⟩
    clear hK K
    go_simp
    refine wpAnyH_all (rs := [5]) (by kernel_rfl) (by simp) ?_
    intro i hi
    obtain rfl := List.mem_singleton.1 hi
    clear hi
    refine wpOp_d rfl (by rfl) (fun K hK => ?_)
    go_simp
    refine (drequest_any b _).mono ?_
    rintro r w6 ⟨rfl, hb⟩
    have H6 := hid (H5.out.keep hb)
    clear hb
    refine hK _ _ ⟨H6.out.tw, ?_⟩
    clear hK K
    go_simp
    refine wpAnyH_all (rs := [8]) (by kernel_rfl) (by simp) ?_
    intro i hi
    obtain rfl := List.mem_singleton.1 hi
    clear hi
    refine wpOp_d rfl (by rfl) (fun K hK => ?_)
    refine owp_store_rq _ _ rfl w3.heap.size rfl zeroQ a rfl H6.out.rx ?_
    intro w7 Hq
    have H7 := hid (H6.out.put Hq.out)
    refine hK _ _ ⟨H7.out.tw, ?_⟩
    clear hK K Hq
    go_simp
    refine wpAnyH_all (rs := [9]) (by kernel_rfl) (by simp) ?_
    intro i hi
    obtain rfl := List.mem_singleton.1 hi
    clear hi
    refine wpOp_d rfl (by rfl) (fun K hK => ?_)
    refine owp_store_rq _ _ rfl w2.heap.size rfl zeroQ b rfl H7.out.ry ?_
    intro w8 Hq
    have H8 := hid (H7.out.swap.put Hq.out)
    refine hK _ _ ⟨H8.out.tw, ?_⟩
    clear hK K Hq
    go_simp
    refine wpAnyH_done (by kernel_rfl) ?_ _
    go_simp
    go_wp2_with fail
    go_meet
    exact ⟨w3.heap.size, w2.heap.size, rfl, rfl, H8.out.ry, H8.out.rx, H8.out.tw⟩
  case rest =>
    obtain ⟨b7, b8, rfl, rfl, hA, hB, hU⟩ := hcut
    have H20 := hid (And.intro hA (And.intro hB (And.intro hU.ak (And.intro hU.bk (And.intro hU.cf hU.bel)))))
    clear hA hB hU H1
    obtain ⟨⟨c0_0, c0_1⟩, c0_2, c0_3, c0_4, c0_5⟩ := H20.out.1.cells
    obtain ⟨⟨c1_0, c1_1⟩, c1_2, c1_3, c1_4, c1_5⟩ := H20.out.2.1.cells
    obtain ⟨c2_0, c2_1, c2_2, c2_3, c2_4, c2_5, c2_6, c2_7, c2_8⟩ := H20.out.2.2.1.cells
    obtain ⟨c3_0, c3_1, c3_2, c3_3, c3_4, c3_5, c3_6, c3_7, c3_8⟩ := H20.out.2.2.2.1.cells
    obtain ⟨c4_0, c4_1⟩ := H20.out.2.2.2.2.1.cells
    go_upto_region 6 with (first
      | (go_at_call 6; have := H21; refine (HP2.out _).mono ?_; rintro e w22 ⟨rfl, hb⟩; have H22 : Hid (RqAt w22 b7 a ∧ RqAt w22 b8 b ∧ CaAt w22 w.heap.size e v s a ∧ CaAt w22 (w.heap.size + 1) e' v' s' b ∧ CgAt w22 (w.heap.size + 2) ep (.slice ad n cap) ∧ Below w.heap.size w w22) := hid (⟨H21.out.1.keep hb, H21.out.2.1.keep hb, H21.out.2.2.1.keep hb, H21.out.2.2.2.1.keep hb, H21.out.2.2.2.2.1.keep hb, H21.out.2.2.2.2.2.trans (hb.mono H21.out.2.2.2.2.2.size)⟩); clear hb; clear c0_0 c0_1 c0_2 c0_3 c0_4 c0_5 c1_0 c1_1 c1_2 c1_3 c1_4 c1_5 c2_0 c2_1 c2_2 c2_3 c2_4 c2_5 c2_6 c2_7 c2_8 c3_0 c3_1 c3_2 c3_3 c3_4 c3_5 c3_6 c3_7 c3_8 c4_0 c4_1; obtain ⟨⟨c0_0, c0_1⟩, c0_2, c0_3, c0_4, c0_5⟩ := H22.out.1.cells; obtain ⟨⟨c1_0, c1_1⟩, c1_2, c1_3, c1_4, c1_5⟩ := H22.out.2.1.cells; obtain ⟨c2_0, c2_1, c2_2, c2_3, c2_4, c2_5, c2_6, c2_7, c2_8⟩ := H22.out.2.2.1.cells; obtain ⟨c3_0, c3_1, c3_2, c3_3, c3_4, c3_5, c3_6, c3_7, c3_8⟩ := H22.out.2.2.2.1.cells; obtain ⟨c4_0, c4_1⟩ := H22.out.2.2.2.2.1.cells)
      | (go_at_call 6; have := H20; refine (HP1.out _).mono ?_; rintro e w21 ⟨rfl, hb⟩; have H21 : Hid (RqAt w21 b7 a ∧ RqAt w21 b8 b ∧ CaAt w21 w.heap.size e v s a ∧ CaAt w21 (w.heap.size + 1) e' v' s' b ∧ CgAt w21 (w.heap.size + 2) ep (.slice ad n cap) ∧ Below w.heap.size w w21) := hid (⟨H20.out.1.keep hb, H20.out.2.1.keep hb, H20.out.2.2.1.keep hb, H20.out.2.2.2.1.keep hb, H20.out.2.2.2.2.1.keep hb, H20.out.2.2.2.2.2.trans (hb.mono H20.out.2.2.2.2.2.size)⟩); clear hb; clear c0_0 c0_1 c0_2 c0_3 c0_4 c0_5 c1_0 c1_1 c1_2 c1_3 c1_4 c1_5 c2_0 c2_1 c2_2 c2_3 c2_4 c2_5 c2_6 c2_7 c2_8 c3_0 c3_1 c3_2 c3_3 c3_4 c3_5 c3_6 c3_7 c3_8 c4_0 c4_1; obtain ⟨⟨c0_0, c0_1⟩, c0_2, c0_3, c0_4, c0_5⟩ := H21.out.1.cells; obtain ⟨⟨c1_0, c1_1⟩, c1_2, c1_3, c1_4, c1_5⟩ := H21.out.2.1.cells; obtain ⟨c2_0, c2_1, c2_2, c2_3, c2_4, c2_5, c2_6, c2_7, c2_8⟩ := H21.out.2.2.1.cells; obtain ⟨c3_0, c3_1, c3_2, c3_3, c3_4, c3_5, c3_6, c3_7, c3_8⟩ := H21.out.2.2.2.1.cells; obtain ⟨c4_0, c4_1⟩ := H21.out.2.2.2.2.1.cells))
    go_cut [76] (fun v76 wx => v76 = .bool false ∧ RqAt wx b8 b ∧ CaAt wx (w.heap.size + 1) e' v' s' b ∧ CgAt wx (w.heap.size + 2) ep (.slice ad n cap) ∧ Below w.heap.size w wx)
    case first =>
      rcases HE.out.1 with hE | hE
      · rcases HE.out.2.1 with hF | hF
        · by_cases he : e = e'
          · by_cases hv : v = v'
            · by_cases hs : s = s'
              · by_cases hT : rqT a = T
                · have HM1 := hid (HSm.out true ((HPP.out hE hF).2.1 hT))
                  obtain rfl := (HPP.out hE hF).1.2 ⟨he, hv, hs, hT⟩
                  subst he hv hs hE hF
                  clear hT HP1 HP2 HSm HPP HPN HE HSt HCt HTb HPS HPC HPT HSC
                  go_wp2_with (go_at_call 7; refine (HM1.out _).mono ?_; rintro r w23 ⟨rfl, hb⟩; have H23 := hid (And.intro (H22.out.2.1.keep hb) (And.intro (H22.out.2.2.2.1.keep hb) (And.intro (H22.out.2.2.2.2.1.keep hb) (H22.out.2.2.2.2.2.trans (hb.mono H22.out.2.2.2.2.2.size))))); clear hb)
                  go_meet
                  exact ⟨rfl, H23.out⟩
                · have HM1 := hid (HSm.out false (Bool.eq_false_iff.2 (fun h => hT ((HPP.out hE hF).2.2 h))))
                  have f0 : (P.toList == P'.toList) = false := by rw [text_eq]; exact decide_eq_false (fun h => hT ((HPP.out hE hF).1.1 h).2.2.2)
                  subst he hv hs hE hF
                  clear hT HP1 HP2 HSm HPP HPN HE HSt HCt HTb HPS HPC HPT HSC
                  go_wp2_with (go_at_call 7; refine (HM1.out _).mono ?_; rintro r w23 ⟨rfl, hb⟩; have H23 := hid (And.intro (H22.out.2.1.keep hb) (And.intro (H22.out.2.2.2.1.keep hb) (And.intro (H22.out.2.2.2.2.1.keep hb) (H22.out.2.2.2.2.2.trans (hb.mono H22.out.2.2.2.2.2.size))))); clear hb)
                  go_meet
                  exact ⟨rfl, H23.out⟩
              · have f0 : (P.toList == P'.toList) = false := by rw [text_eq]; exact decide_eq_false (fun h => hs ((HPP.out hE hF).1.1 h).2.2.1)
                have t0 : (s == s') = false := by simpa using hs
                subst he hv hE hF
                clear HP1 HP2 HSm HPP HPN HE HSt HCt HTb HPS HPC HPT HSC
                go_wp2_with fail
                go_meet
                exact ⟨rfl, H22.out.2.1, H22.out.2.2.2.1, H22.out.2.2.2.2.1, H22.out.2.2.2.2.2⟩
            · have f0 : (P.toList == P'.toList) = false := by rw [text_eq]; exact decide_eq_false (fun h => hv ((HPP.out hE hF).1.1 h).2.1)
              have t0 : (v == v') = false := by simpa using hv
              subst he hE hF
              clear HP1 HP2 HSm HPP HPN HE HSt HCt HTb HPS HPC HPT HSC
              go_wp2_with fail
              go_meet
              exact ⟨rfl, H22.out.2.1, H22.out.2.2.2.1, H22.out.2.2.2.2.1, H22.out.2.2.2.2.2⟩
          · have f0 : (P.toList == P'.toList) = false := by rw [text_eq]; exact decide_eq_false (fun h => he ((HPP.out hE hF).1.1 h).1)
            have t0 : (e == e') = false := by simpa using he
            subst hE hF
            clear HP1 HP2 HSm HPP HPN HE HSt HCt HTb HPS HPC HPT HSC
            go_wp2_with fail
            go_meet
            exact ⟨rfl, H22.out.2.1, H22.out.2.2.2.1, H22.out.2.2.2.2.1, H22.out.2.2.2.2.2⟩
        · subst hE hF
          clear HP1 HP2 HSm HPP HPN HE HSt HCt HTb HPS HPC HPT HSC
          go_wp2_with fail
          go_meet
          exact ⟨rfl, H22.out.2.1, H22.out.2.2.2.1, H22.out.2.2.2.2.1, H22.out.2.2.2.2.2⟩
      · subst hE
        clear HP1 HP2 HSm HPP HPN HE HSt HCt HTb HPS HPC HPT HSC
        go_wp2_with fail
        go_meet
        exact ⟨rfl, H22.out.2.1, H22.out.2.2.2.1, H22.out.2.2.2.2.1, H22.out.2.2.2.2.2⟩
    case rest =>
      obtain ⟨rfl, hX⟩ := hcut
      have H30 := hid hX
      clear hX H22 c0_0 c0_1 c0_2 c0_3 c0_4 c0_5 c1_0 c1_1 c1_2 c1_3 c1_4 c1_5 c2_0 c2_1 c2_2 c2_3 c2_4 c2_5 c2_6 c2_7 c2_8 c3_0 c3_1 c3_2 c3_3 c3_4 c3_5 c3_6 c3_7 c3_8 c4_0 c4_1
      obtain ⟨⟨c0_0, c0_1⟩, c0_2, c0_3, c0_4, c0_5⟩ := H30.out.1.cells
      obtain ⟨c1_0, c1_1, c1_2, c1_3, c1_4, c1_5, c1_6, c1_7, c1_8⟩ := H30.out.2.1.cells
      obtain ⟨c2_0, c2_1⟩ := H30.out.2.2.1.cells
      rcases HE.out.1 with hE | hE
      · rcases HE.out.2.2.1 with hG | hG
        · rcases HE.out.2.2.2.1 with hH | hH
          · rcases HE.out.2.2.2.2 with hT | hT
            · have f1 := HPS.out hE hG
              have f2 := HPC.out hE hH
              have f3 := HPT.out hE hT
              have f4 := HSC.out hG hH
              have HS1 := hid (HSt.out)
              have HC1 := hid (HCt.out)
              have HT1 := hid (HTb.out)
              subst hE hG hH hT
              clear HP1 HP2 HSm HPP HPN HE HSt HCt HTb HPS HPC HPT HSC
              go_wp2_with (first
                | (go_at_call 10; have := H32; refine (HT1.out _).mono ?_; rintro e w33 ⟨rfl, hb⟩; have H33 : Hid (RqAt w33 b8 b ∧ CaAt w33 (w.heap.size + 1) e' v' s' b ∧ CgAt w33 (w.heap.size + 2) ep (.slice ad n cap) ∧ Below w.heap.size w w33) := hid (⟨H32.out.1.keep hb, H32.out.2.1.keep hb, H32.out.2.2.1.keep hb, H32.out.2.2.2.trans (hb.mono H32.out.2.2.2.size)⟩); clear hb; clear c0_0 c0_1 c0_2 c0_3 c0_4 c0_5 c1_0 c1_1 c1_2 c1_3 c1_4 c1_5 c1_6 c1_7 c1_8 c2_0 c2_1; obtain ⟨⟨c0_0, c0_1⟩, c0_2, c0_3, c0_4, c0_5⟩ := H33.out.1.cells; obtain ⟨c1_0, c1_1, c1_2, c1_3, c1_4, c1_5, c1_6, c1_7, c1_8⟩ := H33.out.2.1.cells; obtain ⟨c2_0, c2_1⟩ := H33.out.2.2.1.cells)
                | (go_at_call 9; have := H31; refine (HC1.out _ H31.out.2.2.2).mono ?_; rintro e w32 ⟨rfl, hb⟩; have H32 : Hid (RqAt w32 b8 b ∧ CaAt w32 (w.heap.size + 1) e' v' s' b ∧ CgAt w32 (w.heap.size + 2) ep (.slice ad n cap) ∧ Below w.heap.size w w32) := hid (⟨H31.out.1.keep hb, H31.out.2.1.keep hb, H31.out.2.2.1.keep hb, H31.out.2.2.2.trans (hb.mono H31.out.2.2.2.size)⟩); clear hb; clear c0_0 c0_1 c0_2 c0_3 c0_4 c0_5 c1_0 c1_1 c1_2 c1_3 c1_4 c1_5 c1_6 c1_7 c1_8 c2_0 c2_1; obtain ⟨⟨c0_0, c0_1⟩, c0_2, c0_3, c0_4, c0_5⟩ := H32.out.1.cells; obtain ⟨c1_0, c1_1, c1_2, c1_3, c1_4, c1_5, c1_6, c1_7, c1_8⟩ := H32.out.2.1.cells; obtain ⟨c2_0, c2_1⟩ := H32.out.2.2.1.cells)
                | (go_at_call 8; have := H30; refine (HS1.out _).mono ?_; rintro e w31 ⟨rfl, hb⟩; have H31 : Hid (RqAt w31 b8 b ∧ CaAt w31 (w.heap.size + 1) e' v' s' b ∧ CgAt w31 (w.heap.size + 2) ep (.slice ad n cap) ∧ Below w.heap.size w w31) := hid (⟨H30.out.1.keep hb, H30.out.2.1.keep hb, H30.out.2.2.1.keep hb, H30.out.2.2.2.trans (hb.mono H30.out.2.2.2.size)⟩); clear hb; clear c0_0 c0_1 c0_2 c0_3 c0_4 c0_5 c1_0 c1_1 c1_2 c1_3 c1_4 c1_5 c1_6 c1_7 c1_8 c2_0 c2_1; obtain ⟨⟨c0_0, c0_1⟩, c0_2, c0_3, c0_4, c0_5⟩ := H31.out.1.cells; obtain ⟨c1_0, c1_1, c1_2, c1_3, c1_4, c1_5, c1_6, c1_7, c1_8⟩ := H31.out.2.1.cells; obtain ⟨c2_0, c2_1⟩ := H31.out.2.2.1.cells))
              go_ret
              exact ⟨rfl, H33.out.2.2.2⟩
            · have f1 := HPS.out hE hG
              have f2 := HPC.out hE hH
              have f4 := HSC.out hG hH
              have HS1 := hid (HSt.out)
              have HC1 := hid (HCt.out)
              have HT1 := hid (HTb.out)
              subst hE hG hH hT
              clear HP1 HP2 HSm HPP HPN HE HSt HCt HTb HPS HPC HPT HSC
              go_wp2_with (first
                | (go_at_call 10; have := H32; refine (HT1.out _).mono ?_; rintro e w33 ⟨rfl, hb⟩; have H33 : Hid (RqAt w33 b8 b ∧ CaAt w33 (w.heap.size + 1) e' v' s' b ∧ CgAt w33 (w.heap.size + 2) ep (.slice ad n cap) ∧ Below w.heap.size w w33) := hid (⟨H32.out.1.keep hb, H32.out.2.1.keep hb, H32.out.2.2.1.keep hb, H32.out.2.2.2.trans (hb.mono H32.out.2.2.2.size)⟩); clear hb; clear c0_0 c0_1 c0_2 c0_3 c0_4 c0_5 c1_0 c1_1 c1_2 c1_3 c1_4 c1_5 c1_6 c1_7 c1_8 c2_0 c2_1; obtain ⟨⟨c0_0, c0_1⟩, c0_2, c0_3, c0_4, c0_5⟩ := H33.out.1.cells; obtain ⟨c1_0, c1_1, c1_2, c1_3, c1_4, c1_5, c1_6, c1_7, c1_8⟩ := H33.out.2.1.cells; obtain ⟨c2_0, c2_1⟩ := H33.out.2.2.1.cells)
                | (go_at_call 9; have := H31; refine (HC1.out _ H31.out.2.2.2).mono ?_; rintro e w32 ⟨rfl, hb⟩; have H32 : Hid (RqAt w32 b8 b ∧ CaAt w32 (w.heap.size + 1) e' v' s' b ∧ CgAt w32 (w.heap.size + 2) ep (.slice ad n cap) ∧ Below w.heap.size w w32) := hid (⟨H31.out.1.keep hb, H31.out.2.1.keep hb, H31.out.2.2.1.keep hb, H31.out.2.2.2.trans (hb.mono H31.out.2.2.2.size)⟩); clear hb; clear c0_0 c0_1 c0_2 c0_3 c0_4 c0_5 c1_0 c1_1 c1_2 c1_3 c1_4 c1_5 c1_6 c1_7 c1_8 c2_0 c2_1; obtain ⟨⟨c0_0, c0_1⟩, c0_2, c0_3, c0_4, c0_5⟩ := H32.out.1.cells; obtain ⟨c1_0, c1_1, c1_2, c1_3, c1_4, c1_5, c1_6, c1_7, c1_8⟩ := H32.out.2.1.cells; obtain ⟨c2_0, c2_1⟩ := H32.out.2.2.1.cells)
                | (go_at_call 8; have := H30; refine (HS1.out _).mono ?_; rintro e w31 ⟨rfl, hb⟩; have H31 : Hid (RqAt w31 b8 b ∧ CaAt w31 (w.heap.size + 1) e' v' s' b ∧ CgAt w31 (w.heap.size + 2) ep (.slice ad n cap) ∧ Below w.heap.size w w31) := hid (⟨H30.out.1.keep hb, H30.out.2.1.keep hb, H30.out.2.2.1.keep hb, H30.out.2.2.2.trans (hb.mono H30.out.2.2.2.size)⟩); clear hb; clear c0_0 c0_1 c0_2 c0_3 c0_4 c0_5 c1_0 c1_1 c1_2 c1_3 c1_4 c1_5 c1_6 c1_7 c1_8 c2_0 c2_1; obtain ⟨⟨c0_0, c0_1⟩, c0_2, c0_3, c0_4, c0_5⟩ := H31.out.1.cells; obtain ⟨c1_0, c1_1, c1_2, c1_3, c1_4, c1_5, c1_6, c1_7, c1_8⟩ := H31.out.2.1.cells; obtain ⟨c2_0, c2_1⟩ := H31.out.2.2.1.cells))
              go_ret
              exact ⟨rfl, H33.out.2.2.2⟩
          · rcases HE.out.2.2.2.2 with hT | hT
            · have f1 := HPS.out hE hG
              have f3 := HPT.out hE hT
              have HS1 := hid (HSt.out)
              have HC1 := hid (HCt.out)
              have HT1 := hid (HTb.out)
              subst hE hG hH hT
              clear HP1 HP2 HSm HPP HPN HE HSt HCt HTb HPS HPC HPT HSC
              go_wp2_with (first
                | (go_at_call 10; have := H32; refine (HT1.out _).mono ?_; rintro e w33 ⟨rfl, hb⟩; have H33 : Hid (RqAt w33 b8 b ∧ CaAt w33 (w.heap.size + 1) e' v' s' b ∧ CgAt w33 (w.heap.size + 2) ep (.slice ad n cap) ∧ Below w.heap.size w w33) := hid (⟨H32.out.1.keep hb, H32.out.2.1.keep hb, H32.out.2.2.1.keep hb, H32.out.2.2.2.trans (hb.mono H32.out.2.2.2.size)⟩); clear hb; clear c0_0 c0_1 c0_2 c0_3 c0_4 c0_5 c1_0 c1_1 c1_2 c1_3 c1_4 c1_5 c1_6 c1_7 c1_8 c2_0 c2_1; obtain ⟨⟨c0_0, c0_1⟩, c0_2, c0_3, c0_4, c0_5⟩ := H33.out.1.cells; obtain ⟨c1_0, c1_1, c1_2, c1_3, c1_4, c1_5, c1_6, c1_7, c1_8⟩ := H33.out.2.1.cells; obtain ⟨c2_0, c2_1⟩ := H33.out.2.2.1.cells)
                | (go_at_call 9; have := H31; refine (HC1.out _ H31.out.2.2.2).mono ?_; rintro e w32 ⟨rfl, hb⟩; have H32 : Hid (RqAt w32 b8 b ∧ CaAt w32 (w.heap.size + 1) e' v' s' b ∧ CgAt w32 (w.heap.size + 2) ep (.slice ad n cap) ∧ Below w.heap.size w w32) := hid (⟨H31.out.1.keep hb, H31.out.2.1.keep hb, H31.out.2.2.1.keep hb, H31.out.2.2.2.trans (hb.mono H31.out.2.2.2.size)⟩); clear hb; clear c0_0 c0_1 c0_2 c0_3 c0_4 c0_5 c1_0 c1_1 c1_2 c1_3 c1_4 c1_5 c1_6 c1_7 c1_8 c2_0 c2_1; obtain ⟨⟨c0_0, c0_1⟩, c0_2, c0_3, c0_4, c0_5⟩ := H32.out.1.cells; obtain ⟨c1_0, c1_1, c1_2, c1_3, c1_4, c1_5, c1_6, c1_7, c1_8⟩ := H32.out.2.1.cells; obtain ⟨c2_0, c2_1⟩ := H32.out.2.2.1.cells)
                | (go_at_call 8; have := H30; refine (HS1.out _).mono ?_; rintro e w31 ⟨rfl, hb⟩; have H31 : Hid (RqAt w31 b8 b ∧ CaAt w31 (w.heap.size + 1) e' v' s' b ∧ CgAt w31 (w.heap.size + 2) ep (.slice ad n cap) ∧ Below w.heap.size w w31) := hid (⟨H30.out.1.keep hb, H30.out.2.1.keep hb, H30.out.2.2.1.keep hb, H30.out.2.2.2.trans (hb.mono H30.out.2.2.2.size)⟩); clear hb; clear c0_0 c0_1 c0_2 c0_3 c0_4 c0_5 c1_0 c1_1 c1_2 c1_3 c1_4 c1_5 c1_6 c1_7 c1_8 c2_0 c2_1; obtain ⟨⟨c0_0, c0_1⟩, c0_2, c0_3, c0_4, c0_5⟩ := H31.out.1.cells; obtain ⟨c1_0, c1_1, c1_2, c1_3, c1_4, c1_5, c1_6, c1_7, c1_8⟩ := H31.out.2.1.cells; obtain ⟨c2_0, c2_1⟩ := H31.out.2.2.1.cells))
              go_ret
              exact ⟨rfl, H33.out.2.2.2⟩
            · have f1 := HPS.out hE hG
              have HS1 := hid (HSt.out)
              have HC1 := hid (HCt.out)
              have HT1 := hid (HTb.out)
              subst hE hG hH hT
              clear HP1 HP2 HSm HPP HPN HE HSt HCt HTb HPS HPC HPT HSC
              go_wp2_with (first
                | (go_at_call 10; have := H32; refine (HT1.out _).mono ?_; rintro e w33 ⟨rfl, hb⟩; have H33 : Hid (RqAt w33 b8 b ∧ CaAt w33 (w.heap.size + 1) e' v' s' b ∧ CgAt w33 (w.heap.size + 2) ep (.slice ad n cap) ∧ Below w.heap.size w w33) := hid (⟨H32.out.1.keep hb, H32.out.2.1.keep hb, H32.out.2.2.1.keep hb, H32.out.2.2.2.trans (hb.mono H32.out.2.2.2.size)⟩); clear hb; clear c0_0 c0_1 c0_2 c0_3 c0_4 c0_5 c1_0 c1_1 c1_2 c1_3 c1_4 c1_5 c1_6 c1_7 c1_8 c2_0 c2_1; obtain ⟨⟨c0_0, c0_1⟩, c0_2, c0_3, c0_4, c0_5⟩ := H33.out.1.cells; obtain ⟨c1_0, c1_1, c1_2, c1_3, c1_4, c1_5, c1_6, c1_7, c1_8⟩ := H33.out.2.1.cells; obtain ⟨c2_0, c2_1⟩ := H33.out.2.2.1.cells)
                | (go_at_call 9; have := H31; refine (HC1.out _ H31.out.2.2.2).mono ?_; rintro e w32 ⟨rfl, hb⟩; have H32 : Hid (RqAt w32 b8 b ∧ CaAt w32 (w.heap.size + 1) e' v' s' b ∧ CgAt w32 (w.heap.size + 2) ep (.slice ad n cap) ∧ Below w.heap.size w w32) := hid (⟨H31.out.1.keep hb, H31.out.2.1.keep hb, H31.out.2.2.1.keep hb, H31.out.2.2.2.trans (hb.mono H31.out.2.2.2.size)⟩); clear hb; clear c0_0 c0_1 c0_2 c0_3 c0_4 c0_5 c1_0 c1_1 c1_2 c1_3 c1_4 c1_5 c1_6 c1_7 c1_8 c2_0 c2_1; obtain ⟨⟨c0_0, c0_1⟩, c0_2, c0_3, c0_4, c0_5⟩ := H32.out.1.cells; obtain ⟨c1_0, c1_1, c1_2, c1_3, c1_4, c1_5, c1_6, c1_7, c1_8⟩ := H32.out.2.1.cells; obtain ⟨c2_0, c2_1⟩ := H32.out.2.2.1.cells)
                | (go_at_call 8; have := H30; refine (HS1.out _).mono ?_; rintro e w31 ⟨rfl, hb⟩; have H31 : Hid (RqAt w31 b8 b ∧ CaAt w31 (w.heap.size + 1) e' v' s' b ∧ CgAt w31 (w.heap.size + 2) ep (.slice ad n cap) ∧ Below w.heap.size w w31) := hid (⟨H30.out.1.keep hb, H30.out.2.1.keep hb, H30.out.2.2.1.keep hb, H30.out.2.2.2.trans (hb.mono H30.out.2.2.2.size)⟩); clear hb; clear c0_0 c0_1 c0_2 c0_3 c0_4 c0_5 c1_0 c1_1 c1_2 c1_3 c1_4 c1_5 c1_6 c1_7 c1_8 c2_0 c2_1; obtain ⟨⟨c0_0, c0_1⟩, c0_2, c0_3, c0_4, c0_5⟩ := H31.out.1.cells; obtain ⟨c1_0, c1_1, c1_2, c1_3, c1_4, c1_5, c1_6, c1_7, c1_8⟩ := H31.out.2.1.cells; obtain ⟨c2_0, c2_1⟩ := H31.out.2.2.1.cells))
              go_ret
              exact ⟨rfl, H33.out.2.2.2⟩
        · rcases HE.out.2.2.2.1 with hH | hH
          · rcases HE.out.2.2.2.2 with hT | hT
            · have f2 := HPC.out hE hH
              have f3 := HPT.out hE hT
              have HS1 := hid (HSt.out)
              have HC1 := hid (HCt.out)
              have HT1 := hid (HTb.out)
              subst hE hG hH hT
              clear HP1 HP2 HSm HPP HPN HE HSt HCt HTb HPS HPC HPT HSC
              go_wp2_with (first
                | (go_at_call 10; have := H32; refine (HT1.out _).mono ?_; rintro e w33 ⟨rfl, hb⟩; have H33 : Hid (RqAt w33 b8 b ∧ CaAt w33 (w.heap.size + 1) e' v' s' b ∧ CgAt w33 (w.heap.size + 2) ep (.slice ad n cap) ∧ Below w.heap.size w w33) := hid (⟨H32.out.1.keep hb, H32.out.2.1.keep hb, H32.out.2.2.1.keep hb, H32.out.2.2.2.trans (hb.mono H32.out.2.2.2.size)⟩); clear hb; clear c0_0 c0_1 c0_2 c0_3 c0_4 c0_5 c1_0 c1_1 c1_2 c1_3 c1_4 c1_5 c1_6 c1_7 c1_8 c2_0 c2_1; obtain ⟨⟨c0_0, c0_1⟩, c0_2, c0_3, c0_4, c0_5⟩ := H33.out.1.cells; obtain ⟨c1_0, c1_1, c1_2, c1_3, c1_4, c1_5, c1_6, c1_7, c1_8⟩ := H33.out.2.1.cells; obtain ⟨c2_0, c2_1⟩ := H33.out.2.2.1.cells)
                | (go_at_call 9; have := H31; refine (HC1.out _ H31.out.2.2.2).mono ?_; rintro e w32 ⟨rfl, hb⟩; have H32 : Hid (RqAt w32 b8 b ∧ CaAt w32 (w.heap.size + 1) e' v' s' b ∧ CgAt w32 (w.heap.size + 2) ep (.slice ad n cap) ∧ Below w.heap.size w w32) := hid (⟨H31.out.1.keep hb, H31.out.2.1.keep hb, H31.out.2.2.1.keep hb, H31.out.2.2.2.trans (hb.mono H31.out.2.2.2.size)⟩); clear hb; clear c0_0 c0_1 c0_2 c0_3 c0_4 c0_5 c1_0 c1_1 c1_2 c1_3 c1_4 c1_5 c1_6 c1_7 c1_8 c2_0 c2_1; obtain ⟨⟨c0_0, c0_1⟩, c0_2, c0_3, c0_4, c0_5⟩ := H32.out.1.cells; obtain ⟨c1_0, c1_1, c1_2, c1_3, c1_4, c1_5, c1_6, c1_7, c1_8⟩ := H32.out.2.1.cells; obtain ⟨c2_0, c2_1⟩ := H32.out.2.2.1.cells)
                | (go_at_call 8; have := H30; refine (HS1.out _).mono ?_; rintro e w31 ⟨rfl, hb⟩; have H31 : Hid (RqAt w31 b8 b ∧ CaAt w31 (w.heap.size + 1) e' v' s' b ∧ CgAt w31 (w.heap.size + 2) ep (.slice ad n cap) ∧ Below w.heap.size w w31) := hid (⟨H30.out.1.keep hb, H30.out.2.1.keep hb, H30.out.2.2.1.keep hb, H30.out.2.2.2.trans (hb.mono H30.out.2.2.2.size)⟩); clear hb; clear c0_0 c0_1 c0_2 c0_3 c0_4 c0_5 c1_0 c1_1 c1_2 c1_3 c1_4 c1_5 c1_6 c1_7 c1_8 c2_0 c2_1; obtain ⟨⟨c0_0, c0_1⟩, c0_2, c0_3, c0_4, c0_5⟩ := H31.out.1.cells; obtain ⟨c1_0, c1_1, c1_2, c1_3, c1_4, c1_5, c1_6, c1_7, c1_8⟩ := H31.out.2.1.cells; obtain ⟨c2_0, c2_1⟩ := H31.out.2.2.1.cells))
              go_ret
              exact ⟨rfl, H33.out.2.2.2⟩
            · have f2 := HPC.out hE hH
              have HS1 := hid (HSt.out)
              have HC1 := hid (HCt.out)
              have HT1 := hid (HTb.out)
              subst hE hG hH hT
              clear HP1 HP2 HSm HPP HPN HE HSt HCt HTb HPS HPC HPT HSC
              go_wp2_with (first
                | (go_at_call 10; have := H32; refine (HT1.out _).mono ?_; rintro e w33 ⟨rfl, hb⟩; have H33 : Hid (RqAt w33 b8 b ∧ CaAt w33 (w.heap.size + 1) e' v' s' b ∧ CgAt w33 (w.heap.size + 2) ep (.slice ad n cap) ∧ Below w.heap.size w w33) := hid (⟨H32.out.1.keep hb, H32.out.2.1.keep hb, H32.out.2.2.1.keep hb, H32.out.2.2.2.trans (hb.mono H32.out.2.2.2.size)⟩); clear hb; clear c0_0 c0_1 c0_2 c0_3 c0_4 c0_5 c1_0 c1_1 c1_2 c1_3 c1_4 c1_5 c1_6 c1_7 c1_8 c2_0 c2_1; obtain ⟨⟨c0_0, c0_1⟩, c0_2, c0_3, c0_4, c0_5⟩ := H33.out.1.cells; obtain ⟨c1_0, c1_1, c1_2, c1_3, c1_4, c1_5, c1_6, c1_7, c1_8⟩ := H33.out.2.1.cells; obtain ⟨c2_0, c2_1⟩ := H33.out.2.2.1.cells)
                | (go_at_call 9; have := H31; refine (HC1.out _ H31.out.2.2.2).mono ?_; rintro e w32 ⟨rfl, hb⟩; have H32 : Hid (RqAt w32 b8 b ∧ CaAt w32 (w.heap.size + 1) e' v' s' b ∧ CgAt w32 (w.heap.size + 2) ep (.slice ad n cap) ∧ Below w.heap.size w w32) := hid (⟨H31.out.1.keep hb, H31.out.2.1.keep hb, H31.out.2.2.1.keep hb, H31.out.2.2.2.trans (hb.mono H31.out.2.2.2.size)⟩); clear hb; clear c0_0 c0_1 c0_2 c0_3 c0_4 c0_5 c1_0 c1_1 c1_2 c1_3 c1_4 c1_5 c1_6 c1_7 c1_8 c2_0 c2_1; obtain ⟨⟨c0_0, c0_1⟩, c0_2, c0_3, c0_4, c0_5⟩ := H32.out.1.cells; obtain ⟨c1_0, c1_1, c1_2, c1_3, c1_4, c1_5, c1_6, c1_7, c1_8⟩ := H32.out.2.1.cells; obtain ⟨c2_0, c2_1⟩ := H32.out.2.2.1.cells)
                | (go_at_call 8; have := H30; refine (HS1.out _).mono ?_; rintro e w31 ⟨rfl, hb⟩; have H31 : Hid (RqAt w31 b8 b ∧ CaAt w31 (w.heap.size + 1) e' v' s' b ∧ CgAt w31 (w.heap.size + 2) ep (.slice ad n cap) ∧ Below w.heap.size w w31) := hid (⟨H30.out.1.keep hb, H30.out.2.1.keep hb, H30.out.2.2.1.keep hb, H30.out.2.2.2.trans (hb.mono H30.out.2.2.2.size)⟩); clear hb; clear c0_0 c0_1 c0_2 c0_3 c0_4 c0_5 c1_0 c1_1 c1_2 c1_3 c1_4 c1_5 c1_6 c1_7 c1_8 c2_0 c2_1; obtain ⟨⟨c0_0, c0_1⟩, c0_2, c0_3, c0_4, c0_5⟩ := H31.out.1.cells; obtain ⟨c1_0, c1_1, c1_2, c1_3, c1_4, c1_5, c1_6, c1_7, c1_8⟩ := H31.out.2.1.cells; obtain ⟨c2_0, c2_1⟩ := H31.out.2.2.1.cells))
              go_ret
              exact ⟨rfl, H33.out.2.2.2⟩
          · rcases HE.out.2.2.2.2 with hT | hT
            · have f3 := HPT.out hE hT
              have HS1 := hid (HSt.out)
              have HC1 := hid (HCt.out)
              have HT1 := hid (HTb.out)
              subst hE hG hH hT
              clear HP1 HP2 HSm HPP HPN HE HSt HCt HTb HPS HPC HPT HSC
              go_wp2_with (first
                | (go_at_call 10; have := H32; refine (HT1.out _).mono ?_; rintro e w33 ⟨rfl, hb⟩; have H33 : Hid (RqAt w33 b8 b ∧ CaAt w33 (w.heap.size + 1) e' v' s' b ∧ CgAt w33 (w.heap.size + 2) ep (.slice ad n cap) ∧ Below w.heap.size w w33) := hid (⟨H32.out.1.keep hb, H32.out.2.1.keep hb, H32.out.2.2.1.keep hb, H32.out.2.2.2.trans (hb.mono H32.out.2.2.2.size)⟩); clear hb; clear c0_0 c0_1 c0_2 c0_3 c0_4 c0_5 c1_0 c1_1 c1_2 c1_3 c1_4 c1_5 c1_6 c1_7 c1_8 c2_0 c2_1; obtain ⟨⟨c0_0, c0_1⟩, c0_2, c0_3, c0_4, c0_5⟩ := H33.out.1.cells; obtain ⟨c1_0, c1_1, c1_2, c1_3, c1_4, c1_5, c1_6, c1_7, c1_8⟩ := H33.out.2.1.cells; obtain ⟨c2_0, c2_1⟩ := H33.out.2.2.1.cells)
                | (go_at_call 9; have := H31; refine (HC1.out _ H31.out.2.2.2).mono ?_; rintro e w32 ⟨rfl, hb⟩; have H32 : Hid (RqAt w32 b8 b ∧ CaAt w32 (w.heap.size + 1) e' v' s' b ∧ CgAt w32 (w.heap.size + 2) ep (.slice ad n cap) ∧ Below w.heap.size w w32) := hid (⟨H31.out.1.keep hb, H31.out.2.1.keep hb, H31.out.2.2.1.keep hb, H31.out.2.2.2.trans (hb.mono H31.out.2.2.2.size)⟩); clear hb; clear c0_0 c0_1 c0_2 c0_3 c0_4 c0_5 c1_0 c1_1 c1_2 c1_3 c1_4 c1_5 c1_6 c1_7 c1_8 c2_0 c2_1; obtain ⟨⟨c0_0, c0_1⟩, c0_2, c0_3, c0_4, c0_5⟩ := H32.out.1.cells; obtain ⟨c1_0, c1_1, c1_2, c1_3, c1_4, c1_5, c1_6, c1_7, c1_8⟩ := H32.out.2.1.cells; obtain ⟨c2_0, c2_1⟩ := H32.out.2.2.1.cells)
                | (go_at_call 8; have := H30; refine (HS1.out _).mono ?_; rintro e w31 ⟨rfl, hb⟩; have H31 : Hid (RqAt w31 b8 b ∧ CaAt w31 (w.heap.size + 1) e' v' s' b ∧ CgAt w31 (w.heap.size + 2) ep (.slice ad n cap) ∧ Below w.heap.size w w31) := hid (⟨H30.out.1.keep hb, H30.out.2.1.keep hb, H30.out.2.2.1.keep hb, H30.out.2.2.2.trans (hb.mono H30.out.2.2.2.size)⟩); clear hb; clear c0_0 c0_1 c0_2 c0_3 c0_4 c0_5 c1_0 c1_1 c1_2 c1_3 c1_4 c1_5 c1_6 c1_7 c1_8 c2_0 c2_1; obtain ⟨⟨c0_0, c0_1⟩, c0_2, c0_3, c0_4, c0_5⟩ := H31.out.1.cells; obtain ⟨c1_0, c1_1, c1_2, c1_3, c1_4, c1_5, c1_6, c1_7, c1_8⟩ := H31.out.2.1.cells; obtain ⟨c2_0, c2_1⟩ := H31.out.2.2.1.cells))
              go_ret
              exact ⟨rfl, H33.out.2.2.2⟩
            · have HS1 := hid (HSt.out)
              have HC1 := hid (HCt.out)
              have HT1 := hid (HTb.out)
              subst hE hG hH hT
              clear HP1 HP2 HSm HPP HPN HE HSt HCt HTb HPS HPC HPT HSC
              go_wp2_with (first
                | (go_at_call 10; have := H32; refine (HT1.out _).mono ?_; rintro e w33 ⟨rfl, hb⟩; have H33 : Hid (RqAt w33 b8 b ∧ CaAt w33 (w.heap.size + 1) e' v' s' b ∧ CgAt w33 (w.heap.size + 2) ep (.slice ad n cap) ∧ Below w.heap.size w w33) := hid (⟨H32.out.1.keep hb, H32.out.2.1.keep hb, H32.out.2.2.1.keep hb, H32.out.2.2.2.trans (hb.mono H32.out.2.2.2.size)⟩); clear hb; clear c0_0 c0_1 c0_2 c0_3 c0_4 c0_5 c1_0 c1_1 c1_2 c1_3 c1_4 c1_5 c1_6 c1_7 c1_8 c2_0 c2_1; obtain ⟨⟨c0_0, c0_1⟩, c0_2, c0_3, c0_4, c0_5⟩ := H33.out.1.cells; obtain ⟨c1_0, c1_1, c1_2, c1_3, c1_4, c1_5, c1_6, c1_7, c1_8⟩ := H33.out.2.1.cells; obtain ⟨c2_0, c2_1⟩ := H33.out.2.2.1.cells)
                | (go_at_call 9; have := H31; refine (HC1.out _ H31.out.2.2.2).mono ?_; rintro e w32 ⟨rfl, hb⟩; have H32 : Hid (RqAt w32 b8 b ∧ CaAt w32 (w.heap.size + 1) e' v' s' b ∧ CgAt w32 (w.heap.size + 2) ep (.slice ad n cap) ∧ Below w.heap.size w w32) := hid (⟨H31.out.1.keep hb, H31.out.2.1.keep hb, H31.out.2.2.1.keep hb, H31.out.2.2.2.trans (hb.mono H31.out.2.2.2.size)⟩); clear hb; clear c0_0 c0_1 c0_2 c0_3 c0_4 c0_5 c1_0 c1_1 c1_2 c1_3 c1_4 c1_5 c1_6 c1_7 c1_8 c2_0 c2_1; obtain ⟨⟨c0_0, c0_1⟩, c0_2, c0_3, c0_4, c0_5⟩ := H32.out.1.cells; obtain ⟨c1_0, c1_1, c1_2, c1_3, c1_4, c1_5, c1_6, c1_7, c1_8⟩ := H32.out.2.1.cells; obtain ⟨c2_0, c2_1⟩ := H32.out.2.2.1.cells)
                | (go_at_call 8; have := H30; refine (HS1.out _).mono ?_; rintro e w31 ⟨rfl, hb⟩; have H31 : Hid (RqAt w31 b8 b ∧ CaAt w31 (w.heap.size + 1) e' v' s' b ∧ CgAt w31 (w.heap.size + 2) ep (.slice ad n cap) ∧ Below w.heap.size w w31) := hid (⟨H30.out.1.keep hb, H30.out.2.1.keep hb, H30.out.2.2.1.keep hb, H30.out.2.2.2.trans (hb.mono H30.out.2.2.2.size)⟩); clear hb; clear c0_0 c0_1 c0_2 c0_3 c0_4 c0_5 c1_0 c1_1 c1_2 c1_3 c1_4 c1_5 c1_6 c1_7 c1_8 c2_0 c2_1; obtain ⟨⟨c0_0, c0_1⟩, c0_2, c0_3, c0_4, c0_5⟩ := H31.out.1.cells; obtain ⟨c1_0, c1_1, c1_2, c1_3, c1_4, c1_5, c1_6, c1_7, c1_8⟩ := H31.out.2.1.cells; obtain ⟨c2_0, c2_1⟩ := H31.out.2.2.1.cells))
              go_ret
              exact ⟨rfl, H33.out.2.2.2⟩
      · obtain rfl := HPN.out hE
        subst hE
        clear HP1 HP2 HSm HPP HPN HE HSt HCt HTb HPS HPC HPT HSC
        go_wp2
        go_ret
        exact ⟨rfl, H30.out.2.2.2⟩
end Go.Proofs.Ytpgfdnmlkaoigab
