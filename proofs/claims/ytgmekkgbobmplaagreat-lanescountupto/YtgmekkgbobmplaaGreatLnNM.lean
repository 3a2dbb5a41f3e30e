/- The program's lane: Inject. -/
import Derived.Test.YtgmekkgbobmplaaGreatLnMM
import Derived.Test.YtgmekkgbobmplaaGreatNa9
import Derived.Test.YtgmekkgbobmplaaGreatWiSM
namespace Go.Proofs.YtgmekkgbobmplaaGreat
open Go.RowKit

/-- What an injection answers. -/
def injE (bad : List Int) (L : List Sg) (ps : List Pkt) (q : Pkt) : Int := if hasM bad q.1 = false then 1 else if byE q.2.2 ≠ 0 then 4 else if derivB L bad (tmG q.2.2) = false then 16 else if ps.length < 4096 then 0 else 21
def injP (ps : List Pkt) (q : Pkt) (e : Int) : List Pkt := if e = 0 then ps ++ [nrmP q] else ps
section
variable {P : Nat → Prop} {N : Nat} {w w' : World} {v : Value} {bad : List Int} {ps : List Pkt} {L : List Sg} {q : Pkt}
def IjPost (N : Nat) (P : Nat → Prop) (w w' : World) (v : Value) (bad : List Int) (ps : List Pkt) (L : List Sg) (q : Pkt) (e : Ending) : Prop := e = .returned (.int .i64 (injE bad L ps q)) ∧ LanePost N P w w' v bad (injP ps q (injE bad L ps q)) L
theorem LaneAt.same (h : LaneAt N P w v bad ps L) (hb : Below w.heap.size w w') : LanePost N P w w' v bad ps L := ⟨P, h.keep hb, Outs.ofB hb, fun _ hk => .inl hk⟩
theorem ij1 (h1 : hasM bad q.1 = false) (hp : LanePost N P w w' v bad ps L) : IjPost N P w w' v bad ps L q (.returned (.int .i64 1)) := by
  have he : injE bad L ps q = 1 := by unfold injE; rw [if_pos h1]
  unfold IjPost
  rw [he]
  exact ⟨rfl, hp⟩
theorem ij2 (h1 : hasM bad q.1 = true) (h2 : byE q.2.2 ≠ 0) (hp : LanePost N P w w' v bad ps L) : IjPost N P w w' v bad ps L q (.returned (.int .i64 4)) := by
  have he : injE bad L ps q = 4 := by unfold injE; rw [h1, if_neg (by decide), if_pos h2]
  unfold IjPost
  rw [he]
  exact ⟨rfl, hp⟩
theorem ij3 (h1 : hasM bad q.1 = true) (h2 : byE q.2.2 = 0) (h3 : derivB L bad (tmG q.2.2) = false) (hp : LanePost N P w w' v bad ps L) : IjPost N P w w' v bad ps L q (.returned (.int .i64 16)) := by
  have he : injE bad L ps q = 16 := by unfold injE; rw [h1, if_neg (by decide), if_neg (fun h => h h2), if_pos h3]
  unfold IjPost
  rw [he]
  exact ⟨rfl, hp⟩
theorem ij4 (h1 : hasM bad q.1 = true) (h2 : byE q.2.2 = 0) (h3 : derivB L bad (tmG q.2.2) = true) (h4 : ¬ ps.length < 4096) (hp : LanePost N P w w' v bad ps L) : IjPost N P w w' v bad ps L q (.returned (.int .i64 21)) := by
  have he : injE bad L ps q = 21 := by unfold injE; rw [h1, if_neg (by decide), if_neg (fun h => h h2), h3, if_neg (by decide), if_neg h4]
  unfold IjPost
  rw [he]
  exact ⟨rfl, hp⟩
theorem ij5 (h1 : hasM bad q.1 = true) (h2 : byE q.2.2 = 0) (h3 : derivB L bad (tmG q.2.2) = true) (h4 : ps.length < 4096) (hp : LanePost N P w w' v bad (ps ++ [nrmP q]) L) : IjPost N P w w' v bad ps L q (.returned (.int .i64 0)) := by
  have he : injE bad L ps q = 0 := by unfold injE; rw [h1, if_neg (by decide), if_neg (fun h => h h2), h3, if_neg (by decide), if_pos h4]
  unfold IjPost
  rw [he]
  exact ⟨rfl, hp⟩
set_option maxRecDepth 100000 in
set_option maxHeartbeats 1600000 in
theorem ninject_nil (A : List Value) (w : World) : Calls Tryz.prog 14 #[.pointer none, .agg A.toArray] w fun e w' => e = .returned (.int .i64 1) ∧ Below w.heap.size w w' := by
  obtain ⟨wa, ha, hb, _⟩ := one_newL A 50 w
  have HA := hid ha
  have HB := hid hb
  clear ha hb
  go_enter Tryz.func14, Tryz.ntmps14
  go_upto_region 1 with fail
  rw [HA.out]
  refine wp_region_G (S := fun ww => True) (ex := []) (by kernel_rfl) ?_
  try (change wpAnyG _ _ _ _ _ _ _ _ _ (World.drew _))
  refine wpAnyG_take (i := 0) (v := ?v1) rfl (by kernel_rfl) (fun _ _ _ h => h) (Or.inl ⟨by rfl, ?hy1⟩) trivial ?rest1
  case hy1 => (intro ww _; go_simp; try with_reducible rfl)
  go_simp
  refine wpAnyG_take (i := 1) (v := ?v2) rfl (by kernel_rfl) (fun _ _ _ h => h) (Or.inl ⟨by rfl, ?hy2⟩) trivial ?rest2
  case hy2 => (intro ww _; go_simp; try with_reducible rfl)
  go_simp
  refine wpAnyG_take (i := 2) (v := ?v3) rfl (by kernel_rfl) (fun _ _ _ h => h) (Or.inl ⟨by rfl, ?hy3⟩) trivial ?rest3
  case hy3 => (intro ww _; go_simp; try with_reducible rfl)
  go_simp
  refine wpAnyG_take (i := 3) (v := undef) rfl (by kernel_rfl) (fun _ _ _ h => h) (Or.inr ⟨by rfl, rfl⟩) trivial ?rest4
  go_simp
  refine wpAnyG_take (i := 4) (v := undef) rfl (by kernel_rfl) (fun _ _ _ h => h) (Or.inr ⟨by rfl, rfl⟩) trivial ?rest5
  go_simp
  refine wpAnyG_take (i := 5) (v := undef) rfl (by kernel_rfl) (fun _ _ _ h => h) (Or.inr ⟨by rfl, rfl⟩) trivial ?rest6
  go_simp
  refine wpAnyG_take (i := 6) (v := undef) rfl (by kernel_rfl) (fun _ _ _ h => h) (Or.inr ⟨by rfl, rfl⟩) trivial ?rest7
  go_simp
  refine wpAnyG_take (i := 7) (v := undef) rfl (by kernel_rfl) (fun _ _ _ h => h) (Or.inr ⟨by rfl, rfl⟩) trivial ?rest8
  go_simp
  refine wpAnyG_take (i := 8) (v := undef) rfl (by kernel_rfl) (fun _ _ _ h => h) (Or.inr ⟨by rfl, rfl⟩) trivial ?rest9
  go_simp
  refine wpAnyG_take (i := 9) (v := undef) rfl (by kernel_rfl) (fun _ _ _ h => h) (Or.inr ⟨by rfl, rfl⟩) trivial ?rest10
  go_simp
  refine wpAnyG_take (i := 10) (v := undef) rfl (by kernel_rfl) (fun _ _ _ h => h) (Or.inr ⟨by rfl, rfl⟩) trivial ?rest11
  go_simp
  refine wpAnyG_take (i := 11) (v := ?v12) rfl (by kernel_rfl) (fun _ _ _ h => h) (Or.inl ⟨by rfl, ?hy12⟩) trivial ?rest12
  case hy12 => (intro ww _; go_simp; try with_reducible rfl)
  go_simp
  refine wpAnyG_done (by kernel_rfl) ?_ _
  go_simp
  go_wp2
  go_ret
  exact ⟨rfl, HB.out.drew⟩
set_option maxRecDepth 100000 in
set_option maxHeartbeats 12800000 in
theorem ninject_any {F0 : Nat → Prop} (h : LaneAt N P w v bad ps L) (hbm : bad.length * 8 ≤ 140737488355328) (fr tg : Int) (m : Ms) (hB : MsB m) (hs : msS m) (hf : ∀ p, p ∈ tmG m → fitP p) (hT : (tmG m).length * 24 ≤ 140737488355328) (a13 a14 a15 a16 : Option Addr) (c13 c14 c15 c16 : Nat) (hL : MsL F0 w m (.slice a13 m.nx.length c13) (.slice a14 m.sg.length c14) (.slice a15 m.cg.length c15) (.slice a16 m.ln.length c16)) :
    Calls Tryz.prog 14 #[v, .agg (pkC fr tg m (.slice a13 m.nx.length c13) (.slice a14 m.sg.length c14) (.slice a15 m.cg.length c15) (.slice a16 m.ln.length c16)).toArray] w fun e w' => IjPost N P w w' v bad ps L (fr, tg, m) e := by
  have hA := h
  obtain ⟨F, g, ab, kb, vr, vk, Fb, B, rfl, hM, hP⟩ := h
  obtain ⟨gk, rfl⟩ := hM.bk.form
  obtain ⟨wa, ha, hb, hx⟩ := one_newL (pkC fr tg m (.slice a13 m.nx.length c13) (.slice a14 m.sg.length c14) (.slice a15 m.cg.length c15) (.slice a16 m.ln.length c16)) 50 w
  obtain ⟨_, _, eib, hib, _⟩ := reads_ints hM.bd
  cases eib
  have H0 : Hid (Below w.heap.size w wa.drew ∧ BxAt wa.drew g (lneV ab kb bad vr (.pointer (some ⟨gk, 0, none⟩))) 72 ∧ BxAt wa.drew w.heap.size (pkC fr tg m (.slice a13 m.nx.length c13) (.slice a14 m.sg.length c14) (.slice a15 m.cg.length c15) (.slice a16 m.ln.length c16)) 50) := hid ⟨hb.drew, hM.blk.keep hb.drew, hx⟩
  have HA := hid hA
  have HBy := hid (fun (u : World) (hu : Below w.heap.size w u) => ibytes_any m hB a13 a14 a15 a16 c13 c14 c15 c16 u (hL.under hu))
  have HTe := hid (fun (u : World) (hu : Below w.heap.size w u) => iterms_any m a13 a14 a15 a16 c13 c14 c15 c16 u hB.n hT (hL.under hu))
  have HDe := hid (fun (u : World) (hu : Below w.heap.size w u) (sa : Option Addr) (cs : Nat) (hS : PairsIn u sa (tmG m)) => tderivable_any Fb (.pointer (some ⟨gk, 0, none⟩)) L ab bad.length kb bad rfl hbm sa (tmG m).length cs (tmG m) rfl (by unfold maxLen; omega) hf u ((hM.keep hu).bk) (hib.keep hu (Nat.le_refl _)) hS)
  have hmb : bad.length ≤ maxLen := by unfold maxLen; omega
  have HCo := hid (fun (u : World) (hu : Below w.heap.size w u) => contains_any ab bad.length kb bad rfl hmb fr u (hib.keep hu (Nat.le_refl _)))
  have HOw := hid (fun (u : World) (hu : Below w.heap.size w u) => nown_any fr tg m hs _ _ _ _ u (hL.under hu))
  obtain ⟨A, eA⟩ : ∃ A, A = pkC fr tg m (.slice a13 m.nx.length c13) (.slice a14 m.sg.length c14) (.slice a15 m.cg.length c15) (.slice a16 m.ln.length c16) := ⟨_, rfl⟩
  obtain ⟨n, en⟩ : ∃ n, n = normM m := ⟨_, rfl⟩
  replace HOw : Hid (∀ u : World, Below w.heap.size w u → Calls Tryz.prog 32 #[.agg A.toArray] u fun e w' => ∃ b13 d13 b14 d14 b15 d15 b16 d16, e = .returned (.agg (pkC fr tg n (.slice b13 n.nx.length d13) (.slice b14 n.sg.length d14) (.slice b15 n.cg.length d15) (.slice b16 n.ln.length d16)).toArray) ∧ MsL (fun k => u.heap.size ≤ k) w' n (.slice b13 n.nx.length d13) (.slice b14 n.sg.length d14) (.slice b15 n.cg.length d15) (.slice b16 n.ln.length d16) ∧ Below u.heap.size u w') := hid (fun u hu => by
    rw [eA, en]
    refine (HOw.out u hu).mono ?_
    rintro e w' ⟨a1, c1, a2, c2, a3, c3, a4, c4, rfl, h1, h2⟩
    have hl : (normM m).cg.length = m.cg.length := by simp [normM]
    rw [← hl] at h1 ⊢
    exact ⟨a1, c1, a2, c2, a3, c3, a4, c4, rfl, h1, h2⟩)
  have HEn := hid en
  rw [← eA] at ha ⊢
  have HAg := hid eA
  have HAl := hid ha
  obtain ⟨Am, eAm⟩ : ∃ Am, Am = Value.agg #[.int .i64 m.k, .int .i64 m.ep, .int .i64 m.v, .int .i64 m.sl, .int .i64 m.rq.c, .int .i64 m.rq.st, .int .i64 m.rq.k, .string m.rq.key, .float .f64 m.rq.b, .int .i64 m.rq.id, .int .i64 m.rs.1, .float .f64 m.rs.2, .string m.tx, .slice a13 m.nx.length c13, .slice a14 m.sg.length c14, .slice a15 m.cg.length c15, .slice a16 m.ln.length c16] := ⟨_, rfl⟩
  have HAm := hid eAm
  rw [← eAm] at HBy
  unfold msA at HTe
  rw [← eAm] at HTe
  clear hM hP hA ha hb hx hib hL hB hs hf hT hbm hmb en eA eAm
  unfold ptrV
  go_enter Tryz.func14, Tryz.ntmps14
  go_upto_region 1 with fail
  rw [HAl.out]
  refine wp_region_G (S := fun ww => BxAt ww g (lneV ab kb bad vr (.pointer (some ⟨gk, 0, none⟩))) 72 ∧ BxAt ww w.heap.size (pkC fr tg m (.slice a13 m.nx.length c13) (.slice a14 m.sg.length c14) (.slice a15 m.cg.length c15) (.slice a16 m.ln.length c16)) 50) (ex := []) (by kernel_rfl) ?_
  try (change wpAnyG _ _ _ _ _ _ _ _ _ (World.drew _))
  refine wpAnyG_take (i := 0) (v := ?v1) rfl (by kernel_rfl) (fun _ _ _ h => h) (Or.inl ⟨by rfl, ?hy1⟩) H0.out.2 ?rest1
  case hy1 => (intro ww _; go_simp; try with_reducible rfl)
  go_simp
  refine wpAnyG_take (i := 1) (v := ?v2) rfl (by kernel_rfl) (fun _ _ _ h => h) (Or.inl ⟨by rfl, ?hy2⟩) H0.out.2 ?rest2
  case hy2 => (intro ww _; go_simp; try with_reducible rfl)
  go_simp
  refine wpAnyG_take (i := 2) (v := ?v3) rfl (by kernel_rfl) (fun _ _ _ h => h) (Or.inl ⟨by rfl, ?hy3⟩) H0.out.2 ?rest3
  case hy3 => (intro ww _; go_simp; try with_reducible rfl)
  go_simp
  refine wpAnyG_take (i := 3) (v := ?v4) rfl (by kernel_rfl) (fun _ _ _ h => h) (Or.inl ⟨by rfl, ?hy4⟩) H0.out.2 ?rest4
  case hy4 => (intro ww _; go_simp; try with_reducible rfl)
  go_simp
  refine wpAnyG_take (i := 4) (v := ?v5) rfl (by kernel_rfl) (fun _ _ _ h => h) (Or.inl ⟨by rfl, ?hy5⟩) H0.out.2 ?rest5
  case hy5 => (intro ww _; go_simp; try with_reducible rfl)
  go_simp
  refine wpAnyG_take (i := 5) (v := ?v6) rfl (by kernel_rfl) (fun _ _ _ h => h) (Or.inl ⟨by rfl, ?hy6⟩) H0.out.2 ?rest6
  case hy6 => (intro ww _; go_simp; try with_reducible rfl)
  go_simp
  refine wpAnyG_take (i := 6) (v := ?v7) rfl (by kernel_rfl) (fun _ _ _ h => h) (Or.inl ⟨by rfl, ?hy7⟩) H0.out.2 ?rest7
  case hy7 => (intro ww hS; have y0 := hS.1.cell 0 _ rfl; go_simp; try with_reducible rfl)
  go_simp
  refine wpAnyG_take (i := 7) (v := ?v8) rfl (by kernel_rfl) (fun _ _ _ h => h) (Or.inl ⟨by rfl, ?hy8⟩) H0.out.2 ?rest8
  case hy8 => (intro ww _; go_simp; try with_reducible rfl)
  go_simp
  refine wpAnyG_take (i := 8) (v := ?v9) rfl (by kernel_rfl) (fun _ _ _ h => h) (Or.inl ⟨by rfl, ?hy9⟩) H0.out.2 ?rest9
  case hy9 => (intro ww hS; have z0 := hS.2.cell 0 _ rfl; go_simp; try with_reducible rfl)
  go_simp
  refine wpAnyG_all (rs := [9]) (by kernel_rfl) (by simp) ?_
  intro i hi
  obtain rfl := List.mem_singleton.1 hi
  clear hi
  refine wpOp_n rfl (by rfl) (fun K hK => ?_)
  go_simp
  refine (HCo.out _ H0.out.1).mono ?_
  rintro e w1 ⟨rfl, rfl⟩
  refine hK _ _ ⟨fun _ => H0.out.2, ?_⟩
  clear hK K
  go_simp
  refine wpAnyG_take (i := 10) (v := ?v10) rfl (by kernel_rfl) (fun _ _ _ h => h) (Or.inl ⟨by rfl, ?hy10⟩) H0.out.2 ?rest10
  case hy10 => (intro ww _; go_simp; try with_reducible rfl)
  go_simp
  refine wpAnyG_take (i := 11) (v := ?v11) rfl (by kernel_rfl) (fun _ _ _ h => h) (Or.inl ⟨by rfl, ?hy11⟩) H0.out.2 ?rest11
  case hy11 => (intro ww _; go_simp; try with_reducible rfl)
  go_simp
  refine wpAnyG_done (by kernel_rfl) ?_ _
  go_simp
  cases hc : hasM bad fr with
  | false =>
    have HC := hid hc
    clear hc
    go_wp2
    go_ret
    exact ij1 (q := (fr, tg, m)) HC.out (HA.out.same H0.out.1)
  | true =>
    have HC := hid hc
    clear hc
    by_cases hE : byE m = 0
    · have HE := hid hE
      rw [hE] at HBy
      clear hE
      go_wp2_with (first
        | (go_at_call 37; go_must (refine (HBy.out _ H0.out.1).mono ?_; rintro e w1 ⟨rfl, hb⟩; have k1 := H0.out.2.1.keep hb; have k2 := H0.out.2.2.keep hb; have H1 : Hid (Below w.heap.size w w1.drew ∧ BxAt w1.drew g (lneV ab kb bad vr (.pointer (some ⟨gk, 0, none⟩))) 72 ∧ BxAt w1.drew w.heap.size (pkC fr tg m (.slice a13 m.nx.length c13) (.slice a14 m.sg.length c14) (.slice a15 m.cg.length c15) (.slice a16 m.ln.length c16)) 50) := hid ⟨(H0.out.1.trans (hb.mono H0.out.1.size)).drew, k1, k2⟩; clear hb k1 k2))
        | (refine wl_ldat rfl 48 _ rfl w.heap.size 2 rfl [.int .i64 m.k, .int .i64 m.ep, .int .i64 m.v, .int .i64 m.sl, .int .i64 m.rq.c, .int .i64 m.rq.st, .int .i64 m.rq.k, .string m.rq.key, .float .f64 m.rq.b, .int .i64 m.rq.id, .int .i64 m.rs.1, .float .f64 m.rs.2, .string m.tx, .slice a13 m.nx.length c13, .slice a14 m.sg.length c14, .slice a15 m.cg.length c15, .slice a16 m.ln.length c16] (fun i u hu => sub_cell H0.out.2.2 2 _ (by rfl) i u hu) _ Tryz.underlying48 rfl (by kernel_rfl) Am HAm.out ?_))
      refine wp_region_G (S := fun ww => BxAt ww g (lneV ab kb bad vr (.pointer (some ⟨gk, 0, none⟩))) 72 ∧ BxAt ww w.heap.size (pkC fr tg m (.slice a13 m.nx.length c13) (.slice a14 m.sg.length c14) (.slice a15 m.cg.length c15) (.slice a16 m.ln.length c16)) 50) (ex := []) (by kernel_rfl) ?_
      try (change wpAnyG _ _ _ _ _ _ _ _ _ (World.drew _))
      refine wpAnyG_take (i := 0) (v := ?v12) rfl (by kernel_rfl) (fun _ _ _ h => h) (Or.inl ⟨by rfl, ?hy12⟩) H1.out.2 ?rest12
      case hy12 => (intro ww _; go_simp; try with_reducible rfl)
      go_simp
      refine wpAnyG_take (i := 1) (v := ?v13) rfl (by kernel_rfl) (fun _ _ _ h => h) (Or.inl ⟨by rfl, ?hy13⟩) H1.out.2 ?rest13
      case hy13 => (intro ww _; go_simp; try with_reducible rfl)
      go_simp
      refine wpAnyG_take (i := 2) (v := ?v14) rfl (by kernel_rfl) (fun _ _ _ h => h) (Or.inl ⟨by rfl, ?hy14⟩) H1.out.2 ?rest14
      case hy14 => (intro ww _; go_simp; try with_reducible rfl)
      go_simp
      refine wpAnyG_take (i := 3) (v := ?v15) rfl (by kernel_rfl) (fun _ _ _ h => h) (Or.inl ⟨by rfl, ?hy15⟩) H1.out.2 ?rest15
      case hy15 => (intro ww hS; have y2 := hS.1.cell 2 _ rfl; go_simp; try with_reducible rfl)
      go_simp
      refine wpAnyG_take (i := 4) (v := ?v16) rfl (by kernel_rfl) (fun _ _ _ h => h) (Or.inl ⟨by rfl, ?hy16⟩) H1.out.2 ?rest16
      case hy16 => (intro ww _; go_simp; try with_reducible rfl)
      go_simp
      refine wpAnyG_take (i := 5) (v := ?v17) rfl (by kernel_rfl) (fun _ _ _ h => h) (Or.inl ⟨by rfl, ?hy17⟩) H1.out.2 ?rest17
      case hy17 => (intro ww _; go_simp; try with_reducible rfl)
      go_simp
      refine wpAnyG_take (i := 6) (v := ?v18) rfl (by kernel_rfl) (fun _ _ _ h => h) (Or.inl ⟨by rfl, ?hy18⟩) H1.out.2 ?rest18
      case hy18 => (intro ww _; go_simp; try with_reducible rfl)
      go_simp
      refine wpAnyG_take (i := 7) (v := ?v19) rfl (by kernel_rfl) (fun _ _ _ h => h) (Or.inl ⟨by rfl, ?hy19⟩) H1.out.2 ?rest19
      case hy19 => (intro ww hS; have y0 := hS.1.cell 0 _ rfl; go_simp; try with_reducible rfl)
      go_simp
      refine wpAnyG_take (i := 8) (v := ?v20) rfl (by kernel_rfl) (fun _ _ _ h => h) (Or.inl ⟨by rfl, ?hy20⟩) H1.out.2 ?rest20
      case hy20 => (intro ww _; go_simp; try with_reducible rfl)
      go_simp
      refine wpAnyG_take (i := 9) (v := ?v21) rfl (by kernel_rfl) (fun _ _ _ h => h) (Or.inl ⟨by rfl, ?hy21⟩) H1.out.2 ?rest21
      case hy21 => (intro ww hS; have z2 := hS.2.cell 2 _ rfl; have z3 := hS.2.cell 3 _ rfl; have z4 := hS.2.cell 4 _ rfl; have z5 := hS.2.cell 5 _ rfl; have z6 := hS.2.cell 6 _ rfl; have z7 := hS.2.cell 7 _ rfl; have z8 := hS.2.cell 8 _ rfl; have z9 := hS.2.cell 9 _ rfl; have z10 := hS.2.cell 10 _ rfl; have z11 := hS.2.cell 11 _ rfl; have z12 := hS.2.cell 12 _ rfl; have z13 := hS.2.cell 13 _ rfl; have z14 := hS.2.cell 14 _ rfl; have z15 := hS.2.cell 15 _ rfl; have z16 := hS.2.cell 16 _ rfl; have z17 := hS.2.cell 17 _ rfl; have z18 := hS.2.cell 18 _ rfl; go_simp; try with_reducible rfl)
      go_simp
      refine wpAnyG_all (rs := [10]) (by kernel_rfl) (by simp) ?_
      intro i hi
      obtain rfl := List.mem_singleton.1 hi
      clear hi
      refine wpOp_n rfl (by rfl) (fun K hK => ?_)
      go_simp
      try rw [← HAm.out]
      refine (HTe.out _ H1.out.1).mono ?_
      rintro e w2 ⟨ta, tc, rfl, hnw, hb⟩
      have H2 : Hid (Below w.heap.size w w2 ∧ (BxAt w2 g (lneV ab kb bad vr (.pointer (some ⟨gk, 0, none⟩))) 72 ∧ BxAt w2 w.heap.size (pkC fr tg m (.slice a13 m.nx.length c13) (.slice a14 m.sg.length c14) (.slice a15 m.cg.length c15) (.slice a16 m.ln.length c16)) 50) ∧ PairsIn w2 ta (tmG m)) := hid ⟨H1.out.1.trans (hb.mono H1.out.1.size), ⟨H1.out.2.1.keep hb, H1.out.2.2.keep hb⟩, hnw.1⟩
      clear hnw hb
      refine hK _ _ ⟨fun _ => H2.out.2.1, ?_⟩
      clear hK K
      go_simp
      refine wpAnyG_all (rs := [11]) (by kernel_rfl) (by simp) ?_
      intro i hi
      obtain rfl := List.mem_singleton.1 hi
      clear hi
      refine wpOp_n rfl (by rfl) (fun K hK => ?_)
      go_simp
      refine (HDe.out _ H2.out.1 ta tc H2.out.2.2).mono ?_
      rintro e w3 ⟨rfl, hb⟩
      have H3 : Hid (Below w.heap.size w w3 ∧ (BxAt w3 g (lneV ab kb bad vr (.pointer (some ⟨gk, 0, none⟩))) 72 ∧ BxAt w3 w.heap.size (pkC fr tg m (.slice a13 m.nx.length c13) (.slice a14 m.sg.length c14) (.slice a15 m.cg.length c15) (.slice a16 m.ln.length c16)) 50)) := hid ⟨H2.out.1.trans (hb.mono H2.out.1.size), ⟨H2.out.2.1.1.keep hb, H2.out.2.1.2.keep hb⟩⟩
      clear hb
      refine hK _ _ ⟨fun _ => H3.out.2, ?_⟩
      clear hK K
      go_simp
      refine wpAnyG_take (i := 12) (v := ?v22) rfl (by kernel_rfl) (fun _ _ _ h => h) (Or.inl ⟨by rfl, ?hy22⟩) H3.out.2 ?rest22
      case hy22 => (intro ww _; go_simp; try with_reducible rfl)
      go_simp
      refine wpAnyG_done (by kernel_rfl) ?_ _
      go_simp
      cases hd : derivB L bad (tmG m) with
      | false =>
        have HD := hid hd
        clear hd
        go_wp2
        go_ret
        exact ij3 (q := (fr, tg, m)) HC.out HE.out HD.out (HA.out.same H3.out.1)
      | true =>
        have HD := hid hd
        clear hd
        by_cases hl : ps.length < 4096
        · have HLn := hid hl
          have HAdd := hid (fun (w2 : World) (hb : Below w3.heap.size w3 w2) b13 b14 b15 b16 d13 d14 d15 d16 hL => (HA.out.keep H3.out.1).add1 hb fr tg n b13 b14 b15 b16 d13 d14 d15 d16 hL)
          rw [decide_eq_true hl] at HAdd
          clear hl
          go_wp2_with (first
            | (go_at_call 35; go_must (refine (HAdd.out _ H4.out.2 _ _ _ _ _ _ _ _ H4.out.1).mono ?_; rintro e w5 ⟨rfl, h5⟩; have H5 := hid h5; clear h5))
            | (go_at_call 32; go_must (refine (HOw.out _ H3.out.1).mono ?_; rintro e w4 ⟨b13, d13, b14, d14, b15, d15, b16, d16, rfl, h1, h2⟩; have H4 := hid (And.intro h1 h2); clear h1 h2))
            | (refine wl_loadB rfl 50 _ rfl w.heap.size 0 rfl (pkC fr tg m (.slice a13 m.nx.length c13) (.slice a14 m.sg.length c14) (.slice a15 m.cg.length c15) (.slice a16 m.ln.length c16)) 50 H3.out.2.2 _ Tryz.underlying50 rfl (by kernel_rfl) (.agg A.toArray) (by rw [HAg.out]) rfl ?_))
          go_ret
          have h5 := LanePost.then (Outs.ofB H3.out.1) (fun k hk => .inl hk) H5.out
          rw [addP_yes HLn.out, show (fr, tg, n) = nrmP (fr, tg, m) by rw [HEn.out]; rfl] at h5
          exact ij5 (q := (fr, tg, m)) HC.out HE.out HD.out HLn.out h5
        · have HLn := hid hl
          have HAdd := hid (fun (w2 : World) (hb : Below w3.heap.size w3 w2) b13 b14 b15 b16 d13 d14 d15 d16 hL => (HA.out.keep H3.out.1).add1 hb fr tg n b13 b14 b15 b16 d13 d14 d15 d16 hL)
          rw [decide_eq_false hl] at HAdd
          clear hl
          go_wp2_with (first
            | (go_at_call 35; go_must (refine (HAdd.out _ H4.out.2 _ _ _ _ _ _ _ _ H4.out.1).mono ?_; rintro e w5 ⟨rfl, h5⟩; have H5 := hid h5; clear h5))
            | (go_at_call 32; go_must (refine (HOw.out _ H3.out.1).mono ?_; rintro e w4 ⟨b13, d13, b14, d14, b15, d15, b16, d16, rfl, h1, h2⟩; have H4 := hid (And.intro h1 h2); clear h1 h2))
            | (refine wl_loadB rfl 50 _ rfl w.heap.size 0 rfl (pkC fr tg m (.slice a13 m.nx.length c13) (.slice a14 m.sg.length c14) (.slice a15 m.cg.length c15) (.slice a16 m.ln.length c16)) 50 H3.out.2.2 _ Tryz.underlying50 rfl (by kernel_rfl) (.agg A.toArray) (by rw [HAg.out]) rfl ?_))
          go_ret
          have h5 := LanePost.then (Outs.ofB H3.out.1) (fun k hk => .inl hk) H5.out
          rw [addP_no HLn.out] at h5
          exact ij4 (q := (fr, tg, m)) HC.out HE.out HD.out HLn.out h5
    · have HE := hid hE
      obtain ⟨E, eE⟩ : ∃ E, E = byE m := ⟨_, rfl⟩
      rw [← eE] at HBy hE
      have q1 : (E != 0) = true := by simpa using hE
      have q2 : (E == 0) = false := by simpa using hE
      clear hE eE
      go_wp2_with (first
        | (go_at_call 37; go_must (refine (HBy.out _ H0.out.1).mono ?_; rintro e w1 ⟨rfl, hb⟩; have H1 := hid (H0.out.1.trans (hb.mono H0.out.1.size)); clear hb))
        | (refine wl_ldat rfl 48 _ rfl w.heap.size 2 rfl [.int .i64 m.k, .int .i64 m.ep, .int .i64 m.v, .int .i64 m.sl, .int .i64 m.rq.c, .int .i64 m.rq.st, .int .i64 m.rq.k, .string m.rq.key, .float .f64 m.rq.b, .int .i64 m.rq.id, .int .i64 m.rs.1, .float .f64 m.rs.2, .string m.tx, .slice a13 m.nx.length c13, .slice a14 m.sg.length c14, .slice a15 m.cg.length c15, .slice a16 m.ln.length c16] (fun i u hu => sub_cell H0.out.2.2 2 _ (by rfl) i u hu) _ Tryz.underlying48 rfl (by kernel_rfl) Am HAm.out ?_))
      go_ret
      exact ij2 (q := (fr, tg, m)) HC.out HE.out (HA.out.same H1.out)
end
end Go.Proofs.YtgmekkgbobmplaaGreat
