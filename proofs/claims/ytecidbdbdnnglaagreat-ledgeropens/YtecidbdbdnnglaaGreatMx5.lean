/- Texts laid together: LpF LpG LpH. -/
import Derived.Test.YtecidbdbdnnglaaGreatMx4
/- The program's ledger: replaceNext, atKey. -/
namespace Go.Proofs.YtecidbdbdnnglaaGreat
open Go.RowKit

theorem LrSt.via {F : List Nat} {w0 w w' : World} {g m : Nat} {am an : Option Addr} {cm cn : Nat} {s : Ls} {b : Nat} {c : Int} {f : Nat} (h : LrSt F w0 w g m am an cm cn s b c f) {an' : Option Addr} {cn' : Nat} {s' : Ls} (hL : LdA w' g m am an' cm cn' s') (hO : Out (fpL g m am an) w w') (hF : ∀ b, b ∈ fpL g m am an → b ∈ F ∨ w0.heap.size ≤ b) (hb : b ∉ fpL g m am an') : LrSt F w0 w' g m am an' cm cn' s' b c f :=
  ⟨hL, (hO.block _ (lt_of_blk h.rs) h.hb.1).trans h.rs, h.out.trans hO hF, hb, h.hb.2⟩
set_option maxRecDepth 100000 in
set_option maxHeartbeats 3200000 in
theorem greplace_yes {w : World} {g m : Nat} {am an : Option Addr} {cm cn : Nat} {s : Ls} (h : LdA w g m am an cm cn s) (a1 : Option Addr) (c1 : Nat) (l : List Int) (hI : IntsIn w a1 l) (ha : ∀ x, a1 = some x → (x.block ≠ g ∧ x.block ≠ m) ∧ x.block < w.heap.size) (hok : LOk { s with nxt := l }) :
    Calls Tryz.prog 119 #[.pointer (some ⟨g, 0, none⟩), .slice a1 l.length c1, .int .i64 0] w fun e w' => e = .returned (.agg #[.int .i64 0, .float .f64 0]) ∧ LdA w' g m am a1 cm c1 { s with nxt := l } ∧ Out (fpL g m am an) w w' := by
  have hax := (Below.refl w.heap.size w).alloc (Nat.le_refl _) (.cells #[.int .i64 0, .float .f64 0] 50)
  have H0 := hid (lr_new h)
  have HI : Hid (IntsIn (w.alloc (.cells #[.int .i64 0, .float .f64 0] 50)) a1 l ∧ (∀ x, a1 = some x → (x.block ≠ g ∧ x.block ≠ m) ∧ x.block < w.heap.size) ∧ LOk { s with nxt := l }) := hid ⟨hI.keep hax (Nat.le_refl _), ha, hok⟩
  have c2 := H0.out.ld.c2
  have f2 := H0.out.ld.fr 2
  have H1 : Hid (LdA ((w.alloc (.cells #[.int .i64 0, .float .f64 0] 50)).setCell ⟨g, 2, none⟩ (.slice a1 l.length c1)) g m am a1 cm c1 { s with nxt := l } ∧ RsAt ((w.alloc (.cells #[.int .i64 0, .float .f64 0] 50)).setCell ⟨g, 2, none⟩ (.slice a1 l.length c1)) w.heap.size 0 0 ∧ Out (fpL g m am an) w ((w.alloc (.cells #[.int .i64 0, .float .f64 0] 50)).setCell ⟨g, 2, none⟩ (.slice a1 l.length c1)) ∧ w.heap.size ∉ fpL g m am a1) := hid
    ⟨H0.out.ld.setg (one_cell _ g 2 _) ((blk_set H0.out.ld.blk 2 _).trans (by simp [ldC])) H0.out.ld.im HI.out.1 H0.out.ld.ma (fun x hx => ⟨(ha x hx).1, by have := (ha x hx).2; simp; omega⟩) rfl hok,
     H0.out.rs.one (one_cell _ g 2 _) (fun e => H0.out.hb.1 (e ▸ fp_gm.1)), (one_cell _ g 2 _).outB H0.out.out (.inl fp_gm.1), fun hm => by
       rcases mem_fp.1 hm with e | e | ⟨x, hx, e⟩ | ⟨x, hx, e⟩
       · have := h.lt g fp_gm.1; omega
       · have := h.lt m fp_gm.2; omega
       · have := (h.ma x hx).2; omega
       · have := (ha x hx).2; omega⟩
  clear h hI ha hok hax
  go_enter Tryz.func119, Tryz.ntmps119
  go_wp2_with (refine wl_store_rs rfl _ _ rfl w.heap.size rfl 0 0 0 0 rfl H1.out.2.1 ?_; intro w4 Hq; have H4 : Hid (RsAt w4 w.heap.size 0 0 ∧ LdA w4 g m am a1 cm c1 { s with nxt := l } ∧ Out (fpL g m am an) w w4) := hid ⟨Hq.out.1, H1.out.1.stayB Hq.out.2 H1.out.2.2.2, Hq.out.2.outB H1.out.2.2.1 (.inr (Nat.le_refl _))⟩; clear Hq)
  refine ret_oneD (s := 6) (ad := ⟨w.heap.size, 0, none⟩) rfl rfl (load_rs _ _ 0 0 H4.out.1) rfl ?_
  exact ⟨rfl, H4.out.2⟩
set_option maxRecDepth 100000 in
set_option maxHeartbeats 3200000 in
theorem greplace_no {w : World} {g m : Nat} {am an : Option Addr} {cm cn : Nat} {s : Ls} (h : LdA w g m am an cm cn s) (v : Value) (er : Int) (he : er ≠ 0) :
    Calls Tryz.prog 119 #[.pointer (some ⟨g, 0, none⟩), v, .int .i64 er] w fun e w' => e = .returned (.agg #[.int .i64 (codeZ er), .float .f64 0]) ∧ LdA w' g m am an cm cn s ∧ Out (fpL g m am an) w w' := by
  have H0 := hid (lr_new h)
  have hc := fun u => gcodeOf_any er u
  clear h
  go_enter Tryz.func119, Tryz.ntmps119
  go_wp2_with (first
    | (go_at_call 130; refine (hc _).mono ?_; rintro e w1 ⟨rfl, rfl⟩)
    | (refine wl_store_rs rfl _ _ rfl w.heap.size rfl 0 (codeZ er) 0 0 rfl H0.out.rs ?_; intro w4 Hq; have H4 := hid (H0.out.res Hq.out.1 Hq.out.2); clear Hq))
  refine ret_oneD (s := 6) (ad := ⟨w.heap.size, 0, none⟩) rfl rfl (load_rs _ _ (codeZ er) 0 H4.out.rs) rfl ?_
  exact ⟨rfl, H4.out.ld, H4.out.out⟩
/-- .. beside an operation's variable. -/
structure LoSt (F : List Nat) (w0 w : World) (g m : Nat) (am an : Option Addr) (cm cn : Nat) (s : Ls) (b : Nat) (c : Int) (f : Nat) (bo : Nat) (r : Rq) : Prop where
  lr : LrSt F w0 w g m am an cm cn s b c f
  op : OpAt w bo r
  ho : bo ∉ fpL g m am an ∧ bo ≠ b
theorem LoSt.keep {F : List Nat} {w0 w w' : World} {g m : Nat} {am an : Option Addr} {cm cn : Nat} {s : Ls} {b : Nat} {c : Int} {f : Nat} {bo : Nat} {r : Rq} (h : LoSt F w0 w g m am an cm cn s b c f bo r) (hb : Below w.heap.size w w') : LoSt F w0 w' g m am an cm cn s b c f bo r := ⟨h.lr.keep hb, h.op.keep hb, h.ho⟩
theorem LoSt.res {F : List Nat} {w0 w w' : World} {g m : Nat} {am an : Option Addr} {cm cn : Nat} {s : Ls} {b : Nat} {c : Int} {f : Nat} {bo : Nat} {r : Rq} {c' : Int} {f' : Nat} (h : LoSt F w0 w g m am an cm cn s b c f bo r) (hr : RsAt w' b c' f') (ho : One b w w') : LoSt F w0 w' g m am an cm cn s b c' f' bo r :=
  ⟨h.lr.res hr ho, (ho.block _ h.ho.2).trans h.op, h.ho⟩
theorem LoSt.map {F : List Nat} {w0 w w' : World} {g m : Nat} {am an : Option Addr} {cm cn : Nat} {s : Ls} {b : Nat} {c : Int} {f : Nat} {bo : Nat} {r : Rq} (h : LoSt F w0 w g m am an cm cn s b c f bo r) {L : List Kb} (hk : KmAt w' m L) (hg : w.grownBy w' (some m)) (hok : LOk { s with its := L }) (hF : m ∈ F) : LoSt F w0 w' g m am an cm cn { s with its := L } b c f bo r :=
  ⟨h.lr.map hk hg hok hF, (hg.block _ (lt_of_blk h.op) (fun e => h.ho.1 (by cases e; exact fp_gm.2))).trans h.op, h.ho⟩
theorem LoSt.via {F : List Nat} {w0 w w' : World} {g m : Nat} {am an : Option Addr} {cm cn : Nat} {s : Ls} {b : Nat} {c : Int} {f : Nat} {bo : Nat} {r : Rq} (h : LoSt F w0 w g m am an cm cn s b c f bo r) {an' : Option Addr} {cn' : Nat} {s' : Ls} (hL : LdA w' g m am an' cm cn' s') (hO : Out (fpL g m am an) w w') (hF : ∀ b, b ∈ fpL g m am an → b ∈ F ∨ w0.heap.size ≤ b) (hb : b ∉ fpL g m am an' ∧ bo ∉ fpL g m am an') : LoSt F w0 w' g m am an' cm cn' s' b c f bo r :=
  ⟨h.lr.via hL hO hF hb.1, (hO.block _ (lt_of_blk h.op) h.ho.1).trans h.op, hb.2, h.ho.2⟩
theorem lo_new {w : World} {g m : Nat} {am an : Option Addr} {cm cn : Nat} {s : Ls} (h : LdA w g m am an cm cn s) (r : Rq) : LoSt (fpL g m am an) w ((w.alloc (.cells #[.int .i64 r.k, .string r.key, .float .f64 r.b, .int .i64 r.id] 54)).alloc (.cells #[.int .i64 0, .float .f64 0] 50)) g m am an cm cn s (w.heap.size + 1) 0 0 w.heap.size r := by
  have h1 := (Below.refl w.heap.size w).alloc (Nat.le_refl _) (.cells #[.int .i64 r.k, .string r.key, .float .f64 r.b, .int .i64 r.id] 54)
  have h2 := h1.alloc (by simp) (.cells #[.int .i64 0, .float .f64 0] 50)
  refine ⟨⟨h.keep h2, snd_alloc w _ _, Out.of_below h2, fun hm => ?_, Nat.le_succ _⟩, (Below.heap_alloc _ _ _ (by simp)).trans (heap_alloc_last w _), fun hm => ?_, by omega⟩
  · have := h.lt _ hm; omega
  · have := h.lt _ hm; omega
set_option maxRecDepth 100000 in
set_option maxHeartbeats 6400000 in
theorem gatKey_gen {w : World} {g m : Nat} {am an : Option Addr} {cm cn : Nat} {s : Ls} (h : LdA w g m am an cm cn s) (r : Rq) (hk : 1 ≤ r.key.size ∧ r.key.size ≤ 16) (hb : r.b < 18446744073709551616) (N : List Kb) (C : Int) (D : Nat)
    (hN : getK r.key s.its = none → N = s.its ∧ C = 1 ∧ D = 0) (hS : ∀ x, getK r.key s.its = some x → N = (if r.k = 2 then putK r.key (addW x r.b) s.its else if r.k = 3 then putK r.key (mostW x r.b) s.its else if r.k = 4 then cutK r.key s.its else s.its) ∧ C = 0 ∧ D = (if r.k = 2 then addW x r.b else if r.k = 3 then mostW x r.b else x)) (hok : LOk { s with its := N }) :
    Calls Tryz.prog 122 #[.pointer (some ⟨g, 0, none⟩), .agg #[.int .i64 r.k, .string r.key, .float .f64 r.b, .int .i64 r.id]] w fun e w' => e = .returned (.agg #[.int .i64 C, .float .f64 D]) ∧ LdA w' g m am an cm cn { s with its := N } ∧ Out (fpL g m am an) w w' := by
  have H0 := hid (lo_new h r)
  have HX : Hid ((∀ x, getK r.key s.its = some x → x < 18446744073709551616) ∧ r.b < 18446744073709551616 ∧ r.key.size ≤ 16) := hid ⟨fun x hx => (getK_ok h.ok hx).2, hb, hk.2⟩
  have HK := hid (And.intro hN hS)
  clear hN hS
  have HO := hid hok
  clear h hk hb hok
  go_enter Tryz.func122, Tryz.ntmps122
  go_wp2
  obtain ⟨w1, ew⟩ : ∃ w1, w1 = (w.alloc (.cells #[.int .i64 r.k, .string r.key, .float .f64 r.b, .int .i64 r.id] 54)).alloc (.cells #[.int .i64 0, .float .f64 0] 50) := ⟨_, rfl⟩
  rw [← ew] at H0 ⊢
  clear ew
  haveI := Cls.ne w1
  have q4 : ∀ u : Cls w1, u.1.cell? ⟨g, 4, none⟩ = some (.map (some m)) := fun u => (H0.out.keep u.2).lr.ld.c4
  have q1 : ∀ u : Cls w1, u.1.cell? ⟨w.heap.size, 1, none⟩ = some (.string r.key) := fun u => (H0.out.keep u.2).op.cells.2.1
  have ql : ∀ u : Cls w1, (Instr.lookup 67 (.map (some m)) (.string r.key) true).run Tryz.prog u.1 = .ok (.tuple #[.float .f64 (valK r.key s.its), .bool (getK r.key s.its).isSome]) u.1 := fun u => (H0.out.keep u.2).lr.ld.km.look r.key (by have := HX.out.2.2; unfold maxLen; omega)
  refine wp_region_cls w1 (by kernel_rfl) (by kernel_rfl) ?_
  repeat (go_big_quiet_step (fail))
  rintro w2 ⟨u, hu⟩
  have hw : Below w1.heap.size w1 w2 := by first | exact hu ▸ u.2 | (rw [hu]; exact u.2) | (rw [← hu]; exact u.2)
  clear q4 q1 ql hu u
  have H2 := hid (H0.out.keep hw)
  clear hw
  cases hg : getK r.key s.its with
  | none =>
    obtain ⟨rfl, rfl, rfl⟩ := HK.out.1 hg
    clear hg HK
    go_wp2_with (refine wl_store_rs rfl _ _ rfl (w.heap.size + 1) rfl 0 1 0 0 rfl H2.out.lr.rs ?_; intro w4 Hq; have H4 := hid (H2.out.res Hq.out.1 Hq.out.2); clear Hq)
    refine ret_oneD (s := 4) (ad := ⟨w.heap.size + 1, 0, none⟩) rfl rfl (load_rs _ _ 1 0 H4.out.lr.rs) rfl ?_
    exact ⟨rfl, H4.out.lr.ld, H4.out.lr.out⟩
  | some x =>
    have hv : valK r.key s.its = x := by rw [valK, hg]; rfl
    rw [hv]
    have hx := HX.out.1 x hg
    obtain ⟨e1, rfl, e3⟩ := HK.out.2 x hg
    have HXx := hid hx
    clear hg hv hx HK
    have d0 := H2.out.op.cells.1
    by_cases k2 : r.k = 2
    · rw [if_pos k2] at e1 e3
      subst e1 e3
      have HO2 := HO
      clear HO
      rw [k2] at d0
      go_wp2
      have HS : Hid (OpAt w2.drew w.heap.size r) := hid (H2.out.op.keep (Below.refl _ _).drew)
      refine wp_region_held (S := fun ww => OpAt ww w.heap.size r) (by kernel_rfl) ?_
      try (change wpAnyH _ _ _ _ _ _ _ _ (World.drew _))
      refine wpAnyH_take (i := 0) (v := ?v1) rfl (by kernel_rfl) (by kernel_rfl) (by kernel_rfl) (fun _ _ _ h => h) (Or.inl ⟨by rfl, ?hy1⟩) HS.out ?rest1
      case hy1 => (intro ww _; go_simp; try with_reducible rfl)
      go_simp
      refine wpAnyH_take (i := 1) (v := ?v2) rfl (by kernel_rfl) (by kernel_rfl) (by kernel_rfl) (fun _ _ _ h => h) (Or.inl ⟨by rfl, ?hy2⟩) HS.out ?rest2
      case hy2 => (intro ww _; go_simp; try with_reducible rfl)
      go_simp
      refine wpAnyH_take (i := 2) (v := ?v3) rfl (by kernel_rfl) (by kernel_rfl) (by kernel_rfl) (fun _ _ _ h => h) (Or.inl ⟨by rfl, ?hy3⟩) HS.out ?rest3
      case hy3 => (intro ww hS; obtain ⟨y0, y1, y2, y3⟩ := hS.cells; go_simp; try with_reducible rfl)
      go_simp
      refine wpAnyH_take (i := 3) (v := ?v4) rfl (by kernel_rfl) (by kernel_rfl) (by kernel_rfl) (fun _ _ _ h => h) (Or.inl ⟨by rfl, ?hy4⟩) HS.out ?rest4
      case hy4 => (intro ww _; go_simp; try with_reducible rfl)
      go_simp
      refine wpAnyH_take (i := 4) (v := ?v5) rfl (by kernel_rfl) (by kernel_rfl) (by kernel_rfl) (fun _ _ _ h => h) (Or.inl ⟨by rfl, ?hy5⟩) HS.out ?rest5
      case hy5 => (intro ww _; go_simp; try with_reducible rfl)
      go_simp
      refine wpAnyH_take (i := 5) (v := ?v6) rfl (by kernel_rfl) (by kernel_rfl) (by kernel_rfl) (fun _ _ _ h => h) (Or.inl ⟨by rfl, ?hy6⟩) HS.out ?rest6
      case hy6 => (intro ww hS; obtain ⟨y0, y1, y2, y3⟩ := hS.cells; go_simp; try with_reducible rfl)
      go_simp
      refine wpAnyH_all (rs := [6]) (by kernel_rfl) (by simp) ?_
      intro i hi
      obtain rfl := List.mem_singleton.1 hi
      clear hi
      refine wpOp_d rfl (by rfl) (fun K hK => ?_)
      go_simp
      refine (add_any x r.b _).mono ?_
      rintro e w3 ⟨rfl, hb3⟩
      have H3 := hid ((H2.out.keep (Below.refl _ _).drew).keep (hb3.below))
      clear hb3
      refine hK _ _ ⟨H3.out.op, ?_⟩
      clear hK K
      go_simp
      refine wpAnyH_all (rs := [7]) (by kernel_rfl) (by simp) ?_
      intro i hi
      obtain rfl := List.mem_singleton.1 hi
      clear hi
      refine wpOp_d rfl (by rfl) (fun K hK => ?_)
      go_simp
      refine (gset_any H3.out.lr.ld r.key HX.out.2.2 (addW x r.b) HO2.out).mono ?_
      rintro e w4 ⟨rfl, hL, hO⟩
      have H4 := hid (H3.out.via hL hO (fun b hb => .inl hb) ⟨H3.out.lr.hb.1, H3.out.ho.1⟩)
      clear hL hO
      refine hK _ _ ⟨H4.out.op, ?_⟩
      clear hK K
      go_simp
      refine wpAnyH_all (rs := [8]) (by kernel_rfl) (by simp) ?_
      intro i hi
      obtain rfl := List.mem_singleton.1 hi
      clear hi
      refine wpOp_d rfl (by rfl) (fun K hK => ?_)
      refine owp_store_rs _ _ rfl (w.heap.size + 1) rfl 0 0 0 (addW x r.b) rfl H4.out.lr.rs ?_
      intro w5 Hq
      have H5 := hid (H4.out.res Hq.out.1 Hq.out.2)
      refine hK _ _ ⟨H5.out.op, ?_⟩
      clear hK K Hq
      go_simp
      refine wpAnyH_done (by kernel_rfl) ?_ _
      go_simp
      go_wp2
      refine ret_oneD (s := 4) (ad := ⟨w.heap.size + 1, 0, none⟩) rfl rfl (load_rs _ _ 0 (addW x r.b) H5.out.lr.rs) rfl ?_
      exact ⟨rfl, H5.out.lr.ld, H5.out.lr.out⟩
    · by_cases k3 : r.k = 3
      · rw [if_neg k2, if_pos k3] at e1 e3
        subst e1 e3
        have HO2 := HO
        clear HO
        rw [k3] at d0
        go_wp2
        have HS : Hid (OpAt w2.drew w.heap.size r) := hid (H2.out.op.keep (Below.refl _ _).drew)
        refine wp_region_held (S := fun ww => OpAt ww w.heap.size r) (by kernel_rfl) ?_
        try (change wpAnyH _ _ _ _ _ _ _ _ (World.drew _))
        refine wpAnyH_take (i := 0) (v := ?v21) rfl (by kernel_rfl) (by kernel_rfl) (by kernel_rfl) (fun _ _ _ h => h) (Or.inl ⟨by rfl, ?hy21⟩) HS.out ?rest21
        case hy21 => (intro ww _; go_simp; try with_reducible rfl)
        go_simp
        refine wpAnyH_take (i := 1) (v := ?v22) rfl (by kernel_rfl) (by kernel_rfl) (by kernel_rfl) (fun _ _ _ h => h) (Or.inl ⟨by rfl, ?hy22⟩) HS.out ?rest22
        case hy22 => (intro ww _; go_simp; try with_reducible rfl)
        go_simp
        refine wpAnyH_take (i := 2) (v := ?v23) rfl (by kernel_rfl) (by kernel_rfl) (by kernel_rfl) (fun _ _ _ h => h) (Or.inl ⟨by rfl, ?hy23⟩) HS.out ?rest23
        case hy23 => (intro ww hS; obtain ⟨y0, y1, y2, y3⟩ := hS.cells; go_simp; try with_reducible rfl)
        go_simp
        refine wpAnyH_take (i := 3) (v := ?v24) rfl (by kernel_rfl) (by kernel_rfl) (by kernel_rfl) (fun _ _ _ h => h) (Or.inl ⟨by rfl, ?hy24⟩) HS.out ?rest24
        case hy24 => (intro ww _; go_simp; try with_reducible rfl)
        go_simp
        refine wpAnyH_take (i := 4) (v := ?v25) rfl (by kernel_rfl) (by kernel_rfl) (by kernel_rfl) (fun _ _ _ h => h) (Or.inl ⟨by rfl, ?hy25⟩) HS.out ?rest25
        case hy25 => (intro ww _; go_simp; try with_reducible rfl)
        go_simp
        refine wpAnyH_take (i := 5) (v := ?v26) rfl (by kernel_rfl) (by kernel_rfl) (by kernel_rfl) (fun _ _ _ h => h) (Or.inl ⟨by rfl, ?hy26⟩) HS.out ?rest26
        case hy26 => (intro ww hS; obtain ⟨y0, y1, y2, y3⟩ := hS.cells; go_simp; try with_reducible rfl)
        go_simp
        refine wpAnyH_all (rs := [6]) (by kernel_rfl) (by simp) ?_
        intro i hi
        obtain rfl := List.mem_singleton.1 hi
        clear hi
        refine wpOp_d rfl (by rfl) (fun K hK => ?_)
        go_simp
        refine (most_any x r.b HXx.out HX.out.2.1 _).mono ?_
        rintro e w3 ⟨rfl, hb3⟩
        have H3 := hid ((H2.out.keep (Below.refl _ _).drew).keep (show Below w2.drew.heap.size w2.drew w3 from by rw [hb3]; exact Below.refl _ _))
        clear hb3
        refine hK _ _ ⟨H3.out.op, ?_⟩
        clear hK K
        go_simp
        refine wpAnyH_all (rs := [7]) (by kernel_rfl) (by simp) ?_
        intro i hi
        obtain rfl := List.mem_singleton.1 hi
        clear hi
        refine wpOp_d rfl (by rfl) (fun K hK => ?_)
        go_simp
        refine (gset_any H3.out.lr.ld r.key HX.out.2.2 (mostW x r.b) HO2.out).mono ?_
        rintro e w4 ⟨rfl, hL, hO⟩
        have H4 := hid (H3.out.via hL hO (fun b hb => .inl hb) ⟨H3.out.lr.hb.1, H3.out.ho.1⟩)
        clear hL hO
        refine hK _ _ ⟨H4.out.op, ?_⟩
        clear hK K
        go_simp
        refine wpAnyH_all (rs := [8]) (by kernel_rfl) (by simp) ?_
        intro i hi
        obtain rfl := List.mem_singleton.1 hi
        clear hi
        refine wpOp_d rfl (by rfl) (fun K hK => ?_)
        refine owp_store_rs _ _ rfl (w.heap.size + 1) rfl 0 0 0 (mostW x r.b) rfl H4.out.lr.rs ?_
        intro w5 Hq
        have H5 := hid (H4.out.res Hq.out.1 Hq.out.2)
        refine hK _ _ ⟨H5.out.op, ?_⟩
        clear hK K Hq
        go_simp
        refine wpAnyH_done (by kernel_rfl) ?_ _
        go_simp
        go_wp2
        refine ret_oneD (s := 4) (ad := ⟨w.heap.size + 1, 0, none⟩) rfl rfl (load_rs _ _ 0 (mostW x r.b) H5.out.lr.rs) rfl ?_
        exact ⟨rfl, H5.out.lr.ld, H5.out.lr.out⟩
      · by_cases k4 : r.k = 4
        · rw [if_neg k2, if_neg k3, if_pos k4] at e1
          rw [if_neg k2, if_neg k3] at e3
          replace e3 := e3.symm
          subst e1 e3
          have HO2 := HO
          clear HO
          rw [k4] at d0
          go_wp2
          have HS : Hid (OpAt w2.drew w.heap.size r ∧ w2.drew.cell? ⟨g, 4, none⟩ = some (.map (some m))) := hid ⟨H2.out.op.keep (Below.refl _ _).drew, H2.out.lr.ld.c4⟩
          refine wp_region_held (S := fun ww => OpAt ww w.heap.size r ∧ ww.cell? ⟨g, 4, none⟩ = some (.map (some m))) (by kernel_rfl) ?_
          try (change wpAnyH _ _ _ _ _ _ _ _ (World.drew _))
          refine wpAnyH_take (i := 0) (v := ?v41) rfl (by kernel_rfl) (by kernel_rfl) (by kernel_rfl) (fun _ _ _ h => h) (Or.inl ⟨by rfl, ?hy41⟩) HS.out ?rest41
          case hy41 => (intro ww _; go_simp; try with_reducible rfl)
          go_simp
          refine wpAnyH_take (i := 1) (v := ?v42) rfl (by kernel_rfl) (by kernel_rfl) (by kernel_rfl) (fun _ _ _ h => h) (Or.inl ⟨by rfl, ?hy42⟩) HS.out ?rest42
          case hy42 => (intro ww _; go_simp; try with_reducible rfl)
          go_simp
          refine wpAnyH_take (i := 2) (v := ?v43) rfl (by kernel_rfl) (by kernel_rfl) (by kernel_rfl) (fun _ _ _ h => h) (Or.inl ⟨by rfl, ?hy43⟩) HS.out ?rest43
          case hy43 => (intro ww _; go_simp; try with_reducible rfl)
          go_simp
          refine wpAnyH_take (i := 3) (v := ?v44) rfl (by kernel_rfl) (by kernel_rfl) (by kernel_rfl) (fun _ _ _ h => h) (Or.inl ⟨by rfl, ?hy44⟩) HS.out ?rest44
          case hy44 => (intro ww hS; obtain ⟨⟨y0, y1, y2, y3⟩, y4⟩ := (And.intro hS.1.cells hS.2); go_simp; try with_reducible rfl)
          go_simp
          refine wpAnyH_take (i := 4) (v := ?v45) rfl (by kernel_rfl) (by kernel_rfl) (by kernel_rfl) (fun _ _ _ h => h) (Or.inl ⟨by rfl, ?hy45⟩) HS.out ?rest45
          case hy45 => (intro ww _; go_simp; try with_reducible rfl)
          go_simp
          refine wpAnyH_take (i := 5) (v := ?v46) rfl (by kernel_rfl) (by kernel_rfl) (by kernel_rfl) (fun _ _ _ h => h) (Or.inl ⟨by rfl, ?hy46⟩) HS.out ?rest46
          case hy46 => (intro ww hS; obtain ⟨⟨y0, y1, y2, y3⟩, y4⟩ := (And.intro hS.1.cells hS.2); go_simp; try with_reducible rfl)
          go_simp
          refine wpAnyH_all (rs := [6]) (by kernel_rfl) (by simp) ?_
          intro i hi
          obtain rfl := List.mem_singleton.1 hi
          clear hi
          refine wpOp_d rfl (by rfl) (fun K hK => ?_)
          refine owp_cut_key _ _ rfl m s.its rfl (H2.out.keep (Below.refl _ _).drew).lr.ld.km r.key (by have := HX.out.2.2; unfold maxLen; omega) rfl ?_
          intro w3 Hq
          have H3 := hid ((H2.out.keep (Below.refl _ _).drew).map Hq.out.1 Hq.out.2 HO2.out fp_gm.2)
          refine hK _ _ ⟨⟨H3.out.op, H3.out.lr.ld.c4⟩, ?_⟩
          clear hK K Hq
          go_simp
          refine wpAnyH_done (by kernel_rfl) ?_ _
          go_simp
          go_wp2_with (refine wl_store_rs rfl _ _ rfl (w.heap.size + 1) rfl 0 0 0 x rfl H3.out.lr.rs ?_; intro w4 Hq; have H4 := hid (H3.out.res Hq.out.1 Hq.out.2); clear Hq)
          refine ret_oneD (s := 4) (ad := ⟨w.heap.size + 1, 0, none⟩) rfl rfl (load_rs _ _ 0 x H4.out.lr.rs) rfl ?_
          exact ⟨rfl, H4.out.lr.ld, H4.out.lr.out⟩
        · rw [if_neg k2, if_neg k3, if_neg k4] at e1
          rw [if_neg k2, if_neg k3] at e3
          replace e3 := e3.symm
          subst e1 e3
          clear HO
          go_wp2_with (refine wl_store_rs rfl _ _ rfl (w.heap.size + 1) rfl 0 0 0 x rfl H2.out.lr.rs ?_; intro w4 Hq; have H4 := hid (H2.out.res Hq.out.1 Hq.out.2); clear Hq)
          refine ret_oneD (s := 4) (ad := ⟨w.heap.size + 1, 0, none⟩) rfl rfl (load_rs _ _ 0 x H4.out.lr.rs) rfl ?_
          exact ⟨rfl, H4.out.lr.ld, H4.out.lr.out⟩
theorem gatKey_any {w : World} {g m : Nat} {am an : Option Addr} {cm cn : Nat} {s : Ls} (h : LdA w g m am an cm cn s) (r : Rq) (hk : 1 ≤ r.key.size ∧ r.key.size ≤ 16) (hb : r.b < 18446744073709551616) (h1 : r.k ≠ 1) (hok : LOk { s with its := keyN s.its r }) :
    Calls Tryz.prog 122 #[.pointer (some ⟨g, 0, none⟩), .agg #[.int .i64 r.k, .string r.key, .float .f64 r.b, .int .i64 r.id]] w fun e w' => e = .returned (.agg #[.int .i64 (keyC s.its r), .float .f64 (keyF s.its r)]) ∧ LdA w' g m am an cm cn { s with its := keyN s.its r } ∧ Out (fpL g m am an) w w' :=
  gatKey_gen h r hk hb _ _ _ (fun hg => key_none h1 hg) (fun _ hg => key_some h1 hg) hok
end Go.Proofs.YtecidbdbdnnglaaGreat

/- The program's ledger: effect, answer. -/
namespace Go.Proofs.YtecidbdbdnnglaaGreat
open Go.RowKit

/-- What is left where the members to be may lie elsewhere. -/
def LnTo (w w' : World) (g m : Nat) (am an : Option Addr) (cm : Nat) (s : Ls) : Prop := ∃ an' cn', LdA w' g m am an' cm cn' s ∧ Out (fpL g m am an) w w' ∧ ∀ x, an' = some x → an = some x ∨ w.heap.size ≤ x.block
theorem fp_next {w : World} {g m : Nat} {am an an' : Option Addr} (h : ∀ x, an' = some x → an = some x ∨ w.heap.size ≤ x.block) : ∀ b, b ∈ fpL g m am an' → b ∈ fpL g m am an ∨ w.heap.size ≤ b := fun b hb => by
  rcases mem_fp.1 hb with e | e | ⟨x, hx, e⟩ | ⟨x, hx, e⟩
  · exact .inl (mem_fp.2 (.inl e))
  · exact .inl (mem_fp.2 (.inr (.inl e)))
  · exact .inl (mem_fp.2 (.inr (.inr (.inl ⟨x, hx, e⟩))))
  · rcases h x hx with h1 | h1
    · exact .inl (mem_fp.2 (.inr (.inr (.inr ⟨x, h1, e⟩))))
    · exact .inr (by rw [e]; exact h1)
theorem LnTo.of {w w' : World} {g m : Nat} {am an : Option Addr} {cm cn : Nat} {s' : Ls} (h : LdA w' g m am an cm cn s') (ho : Out (fpL g m am an) w w') : LnTo w w' g m am an cm s' := ⟨an, cn, h, ho, fun _ hx => .inl hx⟩
theorem far_new {w : World} {g m : Nat} {am an : Option Addr} {cm cn : Nat} {s : Ls} (h : LdA w g m am an cm cn s) {B : Nat} (hB : w.heap.size ≤ B) {x : Addr} (hx : B ≤ x.block) : x.block ≠ g ∧ x.block ≠ m := ⟨fun e => by have := h.lt g fp_gm.1; omega, fun e => by have := h.lt m fp_gm.2; omega⟩
set_option maxRecDepth 100000 in
set_option maxHeartbeats 6400000 in
theorem geffect_put {w : World} {g m : Nat} {am an : Option Addr} {cm cn : Nat} {s : Ls} (h : LdA w g m am an cm cn s) (r : Rq) (hr : rightB r = true) (hb : r.b < 18446744073709551616) (h1 : r.k = 1) :
    Calls Tryz.prog 101 #[.pointer (some ⟨g, 0, none⟩), .agg #[.int .i64 r.k, .string r.key, .float .f64 r.b, .int .i64 r.id]] w fun e w' => e = .returned (.agg #[.int .i64 (effC s r), .float .f64 (effF s r)]) ∧ LnTo w w' g m am an cm (effS s r) := by
  have hm : isMov r = false := decide_eq_false (by omega)
  rw [show effC s r = (if getK r.key s.its = none ∧ 16 ≤ s.its.length then 2 else 0) by rw [effC, hm, keyC, if_pos h1]; rfl, show effF s r = (if getK r.key s.its = none ∧ 16 ≤ s.its.length then 0 else canW r.b) by rw [effF, hm, keyF, if_pos h1]; rfl,
    show effS s r = { s with its := if getK r.key s.its = none ∧ 16 ≤ s.its.length then s.its else putK r.key (canW r.b) s.its } by rw [effS, hm, keyN, if_pos h1]; rfl]
  have H0 := hid (lo_new h r)
  have HK : Hid ((1 ≤ r.key.size ∧ r.key.size ≤ 16) ∧ r.b < 18446744073709551616) := hid ⟨keyed_size hr hm, hb⟩
  obtain ⟨d00, d1, d2, d3⟩ := H0.out.op.cells
  have d0 := d00.trans (show some (Value.int .i64 r.k) = some (.int .i64 1) by rw [h1])
  clear d00
  clear h hr hb hm h1
  generalize hC : (if getK r.key s.its = none ∧ 16 ≤ s.its.length then (2 : Int) else 0) = C
  generalize hD : (if getK r.key s.its = none ∧ 16 ≤ s.its.length then 0 else canW r.b) = D
  generalize hN : (if getK r.key s.its = none ∧ 16 ≤ s.its.length then s.its else putK r.key (canW r.b) s.its) = N
  have HP : Hid (∀ (u : World), LdA u g m am an cm cn s → Calls Tryz.prog 118 #[.pointer (some ⟨g, 0, none⟩), .string r.key, .float .f64 r.b] u fun e w' => e = .returned (.agg #[.int .i64 C, .float .f64 D]) ∧ LdA w' g m am an cm cn { s with its := N } ∧ Out (fpL g m am an) u w') := hid (fun u hu => by
    have := gput_any hu r.key HK.out.1 r.b HK.out.2
    rw [hC, hD, hN] at this
    exact this)
  clear hC hD hN
  go_enter Tryz.func101, Tryz.ntmps101
  go_wp2_with (first
    | (have := H2; refine wl_store_rs rfl _ _ rfl (w.heap.size + 1) rfl 0 C 0 D rfl H2.out.lr.rs ?_; intro w4 Hq; have H4 := hid (H2.out.res Hq.out.1 Hq.out.2); clear Hq)
    | (go_at_call 118; refine (HP.out _ H0.out.lr.ld).mono ?_; rintro e w2 ⟨rfl, hL, hO⟩; have H2 := hid (H0.out.via hL hO (fun b hb => .inl hb) ⟨H0.out.lr.hb.1, H0.out.ho.1⟩); clear hL hO))
  refine ret_oneD (s := 4) (ad := ⟨w.heap.size + 1, 0, none⟩) rfl rfl (load_rs _ _ C D H4.out.lr.rs) rfl ?_
  exact ⟨rfl, LnTo.of H4.out.lr.ld H4.out.lr.out⟩
set_option maxRecDepth 100000 in
set_option maxHeartbeats 6400000 in
theorem geffect_key {w : World} {g m : Nat} {am an : Option Addr} {cm cn : Nat} {s : Ls} (h : LdA w g m am an cm cn s) (r : Rq) (hr : rightB r = true) (hb : r.b < 18446744073709551616) (h1 : r.k ≠ 1) (hm : isMov r = false) :
    Calls Tryz.prog 101 #[.pointer (some ⟨g, 0, none⟩), .agg #[.int .i64 r.k, .string r.key, .float .f64 r.b, .int .i64 r.id]] w fun e w' => e = .returned (.agg #[.int .i64 (effC s r), .float .f64 (effF s r)]) ∧ LnTo w w' g m am an cm (effS s r) := by
  rw [show effC s r = keyC s.its r by rw [effC, hm]; rfl, show effF s r = keyF s.its r by rw [effF, hm]; rfl, show effS s r = { s with its := keyN s.its r } by rw [effS, hm]; rfl]
  have H0 := hid (lo_new h r)
  obtain ⟨n1, n2, n3⟩ := keyN_ok h.ok hr hm hb
  have HP : Hid (∀ (u : World), LdA u g m am an cm cn s → Calls Tryz.prog 122 #[.pointer (some ⟨g, 0, none⟩), .agg #[.int .i64 r.k, .string r.key, .float .f64 r.b, .int .i64 r.id]] u fun e w' => e = .returned (.agg #[.int .i64 (keyC s.its r), .float .f64 (keyF s.its r)]) ∧ LdA w' g m am an cm cn { s with its := keyN s.its r } ∧ Out (fpL g m am an) u w') := hid (fun u hu =>
    gatKey_any hu r (keyed_size hr hm) hb h1 ⟨hu.ok.cf, hu.ok.nx, hu.ok.lo, hu.ok.hi, n1, n2, n3, hu.ok.eight, hu.ok.deeds⟩)
  obtain ⟨d0, d1, d2, d3⟩ := H0.out.op.cells
  have k6 : ¬ (r.k = 6) := fun e => by have := of_decide_eq_false hm; omega
  have k7 : ¬ (r.k = 7) := fun e => by have := of_decide_eq_false hm; omega
  have k1 : ¬ (r.k = 1) := h1
  clear h hr hb hm n1 n2 n3 h1
  generalize keyC s.its r = C at HP ⊢
  generalize keyF s.its r = D at HP ⊢
  generalize keyN s.its r = N at HP ⊢
  go_enter Tryz.func101, Tryz.ntmps101
  go_wp2_with (first
    | (have := H2; refine wl_store_rs rfl _ _ rfl (w.heap.size + 1) rfl 0 C 0 D rfl H2.out.lr.rs ?_; intro w4 Hq; have H4 := hid (H2.out.res Hq.out.1 Hq.out.2); clear Hq)
    | (go_at_call 122; refine (HP.out _ H0.out.lr.ld).mono ?_; rintro e w2 ⟨rfl, hL, hO⟩; have H2 := hid (H0.out.via hL hO (fun b hb => .inl hb) ⟨H0.out.lr.hb.1, H0.out.ho.1⟩); clear hL hO))
  refine ret_oneD (s := 4) (ad := ⟨w.heap.size + 1, 0, none⟩) rfl rfl (load_rs _ _ C D H4.out.lr.rs) rfl ?_
  exact ⟨rfl, LnTo.of H4.out.lr.ld H4.out.lr.out⟩
set_option maxRecDepth 100000 in
set_option maxHeartbeats 6400000 in
theorem geffect_join {w : World} {g m : Nat} {am an : Option Addr} {cm cn : Nat} {s : Ls} (h : LdA w g m am an cm cn s) (r : Rq) (h1 : r.k = 6) :
    Calls Tryz.prog 101 #[.pointer (some ⟨g, 0, none⟩), .agg #[.int .i64 r.k, .string r.key, .float .f64 r.b, .int .i64 r.id]] w fun e w' => e = .returned (.agg #[.int .i64 (effC s r), .float .f64 (effF s r)]) ∧ LnTo w w' g m am an cm (effS s r) := by
  have hm : isMov r = true := decide_eq_true (by omega)
  have hE : movE s.nxt r = joinE s.nxt r.id := by unfold movE; rw [if_pos h1]
  have hR : movR s.nxt r = joinR s.nxt r.id := by unfold movR; rw [if_pos h1]
  have HC : Hid (effC s r = (if joinE s.nxt r.id = 0 then 0 else codeZ (joinE s.nxt r.id)) ∧ effS s r = { s with nxt := if joinE s.nxt r.id = 0 then joinR s.nxt r.id else s.nxt } ∧ LOk (effS s r)) := hid ⟨by rw [effC, hm, if_pos rfl, movC, hE], by rw [effS, hm, if_pos rfl, movN, hE, hR], by
    rw [effS, hm, if_pos rfl]
    exact ⟨h.ok.cf, movN_ok h.ok.nx r, h.ok.lo, h.ok.hi, h.ok.rise, h.ok.few, h.ok.keys, h.ok.eight, h.ok.deeds⟩⟩
  rw [show effF s r = 0 by rw [effF, hm]; rfl]
  have H0 := hid (lo_new h r)
  have HL : Hid (s.nxt.length ≤ maxLen) := hid (by have := h.pos; unfold maxLen; omega)
  obtain ⟨d00, d1, d2, d3⟩ := H0.out.op.cells
  have d0 := d00.trans (show some (Value.int .i64 r.k) = some (.int .i64 6) by rw [h1])
  clear d00
  generalize effC s r = C at HC ⊢
  generalize effS s r = S' at HC ⊢
  clear h hm hE hR h1
  go_enter Tryz.func101, Tryz.ntmps101
  go_wp2
  clear d0 d1 d2 d3
  obtain ⟨w1, ew⟩ : ∃ w1, w1 = (w.alloc (.cells #[.int .i64 r.k, .string r.key, .float .f64 r.b, .int .i64 r.id] 54)).alloc (.cells #[.int .i64 0, .float .f64 0] 50) := ⟨_, rfl⟩
  try rw [← ew] at H0
  try rw [← ew]
  clear ew
  have H1 := hid (H0.out.keep (Below.refl _ _).drew)
  have HS := hid H1.out.op
  have c2 := H1.out.lr.ld.c2
  refine wp_region_held (S := fun ww => OpAt ww w.heap.size r) (by kernel_rfl) ?_
  try (change wpAnyH _ _ _ _ _ _ _ _ (World.drew _))
  refine wpAnyH_take (i := 0) (v := ?v1) rfl (by kernel_rfl) (by kernel_rfl) (by kernel_rfl) (fun _ _ _ h => h) (Or.inl ⟨by rfl, ?hy1⟩) HS.out ?rest1
  case hy1 => (intro ww _; go_simp; try with_reducible rfl)
  go_simp
  refine wpAnyH_take (i := 1) (v := ?v2) rfl (by kernel_rfl) (by kernel_rfl) (by kernel_rfl) (fun _ _ _ h => h) (Or.inl ⟨by rfl, ?hy2⟩) HS.out ?rest2
  case hy2 => (intro ww _; go_simp; try with_reducible rfl)
  go_simp
  refine wpAnyH_take (i := 2) (v := ?v3) rfl (by kernel_rfl) (by kernel_rfl) (by kernel_rfl) (fun _ _ _ h => h) (Or.inl ⟨by rfl, ?hy3⟩) HS.out ?rest3
  case hy3 => (intro ww _; go_simp; try with_reducible rfl)
  go_simp
  refine wpAnyH_take (i := 3) (v := ?v4) rfl (by kernel_rfl) (by kernel_rfl) (by kernel_rfl) (fun _ _ _ h => h) (Or.inl ⟨by rfl, ?hy4⟩) HS.out ?rest4
  case hy4 => (intro ww _; go_simp; try with_reducible rfl)
  go_simp
  refine wpAnyH_take (i := 5) (v := ?v5) rfl (by kernel_rfl) (by kernel_rfl) (by kernel_rfl) (fun _ _ _ h => h) (Or.inl ⟨by rfl, ?hy5⟩) HS.out ?rest5
  case hy5 => (intro ww _; go_simp; try with_reducible rfl)
  go_simp
  refine wpAnyH_take (i := 6) (v := ?v6) rfl (by kernel_rfl) (by kernel_rfl) (by kernel_rfl) (fun _ _ _ h => h) (Or.inl ⟨by rfl, ?hy6⟩) HS.out ?rest6
  case hy6 => (intro ww hS; obtain ⟨y0, y1, y2, y3⟩ := hS.cells; go_simp; try with_reducible rfl)
  go_simp
  refine wpAnyH_all (rs := [4]) (by kernel_rfl) (by simp) ?_
  intro i hi
  obtain rfl := List.mem_singleton.1 hi
  clear hi
  refine wpOp_d rfl (by rfl) (fun K hK => ?_)
  go_simp
  refine hK _ _ ⟨HS.out, ?_⟩
  clear hK K c2
  go_simp
  refine wpAnyH_all (rs := [7]) (by kernel_rfl) (by simp) ?_
  intro i hi
  obtain rfl := List.mem_singleton.1 hi
  clear hi
  refine wpOp_d rfl (by rfl) (fun K hK => ?_)
  go_simp
  refine (cjoin_any an s.nxt.length cn s.nxt rfl HL.out r.id _ H1.out.lr.ld.ix).mono ?_
  rintro e w2 ⟨v, rfl, hOw⟩
  have H2 := hid (H1.out.keep hOw.bel)
  have HO := hid hOw
  clear hOw
  refine hK _ _ ⟨H2.out.op, ?_⟩
  clear hK K
  go_simp
  refine wpAnyH_take (i := 8) (v := ?v7) rfl (by kernel_rfl) (by kernel_rfl) (by kernel_rfl) (fun _ _ _ h => h) (Or.inl ⟨by rfl, ?hy7⟩) H2.out.op ?rest7
  case hy7 => (intro ww _; go_simp; try with_reducible rfl)
  go_simp
  refine wpAnyH_take (i := 9) (v := ?v8) rfl (by kernel_rfl) (by kernel_rfl) (by kernel_rfl) (fun _ _ _ h => h) (Or.inl ⟨by rfl, ?hy8⟩) H2.out.op ?rest8
  case hy8 => (intro ww _; go_simp; try with_reducible rfl)
  go_simp
  by_cases he : joinE s.nxt r.id = 0
  · obtain ⟨ad, cp, rfl, hi, hfar⟩ := HO.out.slice
    obtain ⟨hC, hS2, hok⟩ := HC.out
    rw [if_pos he] at hC hS2
    subst hC hS2
    have HG : Hid (IntsIn w2 ad (joinR s.nxt r.id) ∧ (∀ x, ad = some x → w1.drew.heap.size ≤ x.block ∧ x.block < w2.heap.size) ∧ LOk { s with nxt := joinR s.nxt r.id }) := hid ⟨hi, hfar, hok⟩
    clear hi hfar hok HC
    rw [he]
    clear he
    refine wpAnyH_all (rs := [10]) (by kernel_rfl) (by simp) ?_
    intro i hi
    obtain rfl := List.mem_singleton.1 hi
    clear hi
    refine wpOp_d rfl (by rfl) (fun K hK => ?_)
    go_simp
    refine (greplace_yes H2.out.lr.ld ad cp _ HG.out.1 (fun x hx => ⟨far_new H1.out.lr.ld (Nat.le_refl _) (HG.out.2.1 x hx).1, (HG.out.2.1 x hx).2⟩) HG.out.2.2).mono ?_
    rintro e w3 ⟨rfl, hL, hO⟩
    have hnb : ∀ b, b < w1.drew.heap.size → b ∉ fpL g m am an → b ∉ fpL g m am ad := fun b hb hn hm => by
      rcases mem_fp.1 hm with e | e | ⟨x, hx, e⟩ | ⟨x, hx, e⟩
      · exact hn (mem_fp.2 (.inl e))
      · exact hn (mem_fp.2 (.inr (.inl e)))
      · exact hn (mem_fp.2 (.inr (.inr (.inl ⟨x, hx, e⟩))))
      · have := (HG.out.2.1 x hx).1; omega
    have H3 := hid (H2.out.via hL hO (fun b hb => .inl hb) ⟨hnb _ (lt_of_blk H1.out.lr.rs) H2.out.lr.hb.1, hnb _ (lt_of_blk H1.out.op) H2.out.ho.1⟩)
    clear hL hO hnb
    refine hK _ _ ⟨H3.out.op, ?_⟩
    clear hK K
    go_simp
    refine wpAnyH_all (rs := [11]) (by kernel_rfl) (by simp) ?_
    intro i hi
    obtain rfl := List.mem_singleton.1 hi
    clear hi
    refine wpOp_d rfl (by rfl) (fun K hK => ?_)
    refine owp_store_rs _ _ rfl (w.heap.size + 1) rfl 0 0 0 0 rfl H3.out.lr.rs ?_
    intro w5 Hq
    have H5 := hid (H3.out.res Hq.out.1 Hq.out.2)
    refine hK _ _ ⟨H5.out.op, ?_⟩
    clear hK K Hq
    go_simp
    refine wpAnyH_done (by kernel_rfl) ?_ _
    go_simp
    go_wp2
    refine ret_oneD (s := 4) (ad := ⟨w.heap.size + 1, 0, none⟩) rfl rfl (load_rs _ _ 0 0 H5.out.lr.rs) rfl ?_
    exact ⟨rfl, ad, cp, H5.out.lr.ld, H5.out.lr.out, fun x hx => .inr (Nat.le_trans H1.out.lr.out.size (HG.out.2.1 x hx).1)⟩
  · obtain ⟨hC, hS2, hok⟩ := HC.out
    rw [if_neg he] at hC hS2
    subst hC
    obtain rfl : S' = s := hS2
    have HN := hid he
    clear hok HC he
    refine wpAnyH_all (rs := [10]) (by kernel_rfl) (by simp) ?_
    intro i hi
    obtain rfl := List.mem_singleton.1 hi
    clear hi
    refine wpOp_d rfl (by rfl) (fun K hK => ?_)
    go_simp
    refine (greplace_no H2.out.lr.ld v (joinE S'.nxt r.id) HN.out).mono ?_
    rintro e w3 ⟨rfl, hL, hO⟩
    have H3 := hid (H2.out.via hL hO (fun b hb => .inl hb) ⟨H2.out.lr.hb.1, H2.out.ho.1⟩)
    clear hL hO
    refine hK _ _ ⟨H3.out.op, ?_⟩
    clear hK K
    go_simp
    refine wpAnyH_all (rs := [11]) (by kernel_rfl) (by simp) ?_
    intro i hi
    obtain rfl := List.mem_singleton.1 hi
    clear hi
    refine wpOp_d rfl (by rfl) (fun K hK => ?_)
    refine owp_store_rs _ _ rfl (w.heap.size + 1) rfl 0 (codeZ (joinE S'.nxt r.id)) 0 0 rfl H3.out.lr.rs ?_
    intro w5 Hq
    have H5 := hid (H3.out.res Hq.out.1 Hq.out.2)
    refine hK _ _ ⟨H5.out.op, ?_⟩
    clear hK K Hq
    go_simp
    refine wpAnyH_done (by kernel_rfl) ?_ _
    go_simp
    go_wp2
    refine ret_oneD (s := 4) (ad := ⟨w.heap.size + 1, 0, none⟩) rfl rfl (load_rs _ _ (codeZ (joinE S'.nxt r.id)) 0 H5.out.lr.rs) rfl ?_
    exact ⟨rfl, LnTo.of H5.out.lr.ld H5.out.lr.out⟩
set_option maxRecDepth 100000 in
set_option maxHeartbeats 6400000 in
theorem geffect_leave {w : World} {g m : Nat} {am an : Option Addr} {cm cn : Nat} {s : Ls} (h : LdA w g m am an cm cn s) (r : Rq) (h1 : r.k = 7) :
    Calls Tryz.prog 101 #[.pointer (some ⟨g, 0, none⟩), .agg #[.int .i64 r.k, .string r.key, .float .f64 r.b, .int .i64 r.id]] w fun e w' => e = .returned (.agg #[.int .i64 (effC s r), .float .f64 (effF s r)]) ∧ LnTo w w' g m am an cm (effS s r) := by
  have hm : isMov r = true := decide_eq_true (by omega)
  have hE : movE s.nxt r = leaveE s.nxt r.id := by unfold movE; rw [if_neg (by omega)]
  have hR : movR s.nxt r = leaveR s.nxt r.id := by unfold movR; rw [if_neg (by omega)]
  have HC : Hid (effC s r = (if leaveE s.nxt r.id = 0 then 0 else codeZ (leaveE s.nxt r.id)) ∧ effS s r = { s with nxt := if leaveE s.nxt r.id = 0 then leaveR s.nxt r.id else s.nxt } ∧ LOk (effS s r)) := hid ⟨by rw [effC, hm, if_pos rfl, movC, hE], by rw [effS, hm, if_pos rfl, movN, hE, hR], by
    rw [effS, hm, if_pos rfl]
    exact ⟨h.ok.cf, movN_ok h.ok.nx r, h.ok.lo, h.ok.hi, h.ok.rise, h.ok.few, h.ok.keys, h.ok.eight, h.ok.deeds⟩⟩
  rw [show effF s r = 0 by rw [effF, hm]; rfl]
  have H0 := hid (lo_new h r)
  have HL : Hid (s.nxt.length ≤ maxLen) := hid (by have := h.pos; unfold maxLen; omega)
  obtain ⟨d00, d1, d2, d3⟩ := H0.out.op.cells
  have d0 := d00.trans (show some (Value.int .i64 r.k) = some (.int .i64 7) by rw [h1])
  clear d00
  generalize effC s r = C at HC ⊢
  generalize effS s r = S' at HC ⊢
  clear h hm hE hR h1
  go_enter Tryz.func101, Tryz.ntmps101
  go_wp2
  clear d0 d1 d2 d3
  obtain ⟨w1, ew⟩ : ∃ w1, w1 = (w.alloc (.cells #[.int .i64 r.k, .string r.key, .float .f64 r.b, .int .i64 r.id] 54)).alloc (.cells #[.int .i64 0, .float .f64 0] 50) := ⟨_, rfl⟩
  try rw [← ew] at H0
  try rw [← ew]
  clear ew
  have H1 := hid (H0.out.keep (Below.refl _ _).drew)
  have HS := hid H1.out.op
  have c2 := H1.out.lr.ld.c2
  refine wp_region_held (S := fun ww => OpAt ww w.heap.size r) (by kernel_rfl) ?_
  try (change wpAnyH _ _ _ _ _ _ _ _ (World.drew _))
  refine wpAnyH_take (i := 0) (v := ?v1) rfl (by kernel_rfl) (by kernel_rfl) (by kernel_rfl) (fun _ _ _ h => h) (Or.inl ⟨by rfl, ?hy1⟩) HS.out ?rest1
  case hy1 => (intro ww _; go_simp; try with_reducible rfl)
  go_simp
  refine wpAnyH_take (i := 1) (v := ?v2) rfl (by kernel_rfl) (by kernel_rfl) (by kernel_rfl) (fun _ _ _ h => h) (Or.inl ⟨by rfl, ?hy2⟩) HS.out ?rest2
  case hy2 => (intro ww _; go_simp; try with_reducible rfl)
  go_simp
  refine wpAnyH_take (i := 2) (v := ?v3) rfl (by kernel_rfl) (by kernel_rfl) (by kernel_rfl) (fun _ _ _ h => h) (Or.inl ⟨by rfl, ?hy3⟩) HS.out ?rest3
  case hy3 => (intro ww _; go_simp; try with_reducible rfl)
  go_simp
  refine wpAnyH_take (i := 3) (v := ?v4) rfl (by kernel_rfl) (by kernel_rfl) (by kernel_rfl) (fun _ _ _ h => h) (Or.inl ⟨by rfl, ?hy4⟩) HS.out ?rest4
  case hy4 => (intro ww _; go_simp; try with_reducible rfl)
  go_simp
  refine wpAnyH_take (i := 5) (v := ?v5) rfl (by kernel_rfl) (by kernel_rfl) (by kernel_rfl) (fun _ _ _ h => h) (Or.inl ⟨by rfl, ?hy5⟩) HS.out ?rest5
  case hy5 => (intro ww _; go_simp; try with_reducible rfl)
  go_simp
  refine wpAnyH_take (i := 6) (v := ?v6) rfl (by kernel_rfl) (by kernel_rfl) (by kernel_rfl) (fun _ _ _ h => h) (Or.inl ⟨by rfl, ?hy6⟩) HS.out ?rest6
  case hy6 => (intro ww hS; obtain ⟨y0, y1, y2, y3⟩ := hS.cells; go_simp; try with_reducible rfl)
  go_simp
  refine wpAnyH_all (rs := [4]) (by kernel_rfl) (by simp) ?_
  intro i hi
  obtain rfl := List.mem_singleton.1 hi
  clear hi
  refine wpOp_d rfl (by rfl) (fun K hK => ?_)
  go_simp
  refine hK _ _ ⟨HS.out, ?_⟩
  clear hK K c2
  go_simp
  refine wpAnyH_all (rs := [7]) (by kernel_rfl) (by simp) ?_
  intro i hi
  obtain rfl := List.mem_singleton.1 hi
  clear hi
  refine wpOp_d rfl (by rfl) (fun K hK => ?_)
  go_simp
  refine (cleave_any an s.nxt.length cn s.nxt rfl HL.out r.id _ H1.out.lr.ld.ix).mono ?_
  rintro e w2 ⟨v, rfl, hOw⟩
  have H2 := hid (H1.out.keep hOw.bel)
  have HO := hid hOw
  clear hOw
  refine hK _ _ ⟨H2.out.op, ?_⟩
  clear hK K
  go_simp
  refine wpAnyH_take (i := 8) (v := ?v7) rfl (by kernel_rfl) (by kernel_rfl) (by kernel_rfl) (fun _ _ _ h => h) (Or.inl ⟨by rfl, ?hy7⟩) H2.out.op ?rest7
  case hy7 => (intro ww _; go_simp; try with_reducible rfl)
  go_simp
  refine wpAnyH_take (i := 9) (v := ?v8) rfl (by kernel_rfl) (by kernel_rfl) (by kernel_rfl) (fun _ _ _ h => h) (Or.inl ⟨by rfl, ?hy8⟩) H2.out.op ?rest8
  case hy8 => (intro ww _; go_simp; try with_reducible rfl)
  go_simp
  by_cases he : leaveE s.nxt r.id = 0
  · obtain ⟨ad, cp, rfl, hi, hfar⟩ := HO.out.slice
    obtain ⟨hC, hS2, hok⟩ := HC.out
    rw [if_pos he] at hC hS2
    subst hC hS2
    have HG : Hid (IntsIn w2 ad (leaveR s.nxt r.id) ∧ (∀ x, ad = some x → w1.drew.heap.size ≤ x.block ∧ x.block < w2.heap.size) ∧ LOk { s with nxt := leaveR s.nxt r.id }) := hid ⟨hi, hfar, hok⟩
    clear hi hfar hok HC
    rw [he]
    clear he
    refine wpAnyH_all (rs := [10]) (by kernel_rfl) (by simp) ?_
    intro i hi
    obtain rfl := List.mem_singleton.1 hi
    clear hi
    refine wpOp_d rfl (by rfl) (fun K hK => ?_)
    go_simp
    refine (greplace_yes H2.out.lr.ld ad cp _ HG.out.1 (fun x hx => ⟨far_new H1.out.lr.ld (Nat.le_refl _) (HG.out.2.1 x hx).1, (HG.out.2.1 x hx).2⟩) HG.out.2.2).mono ?_
    rintro e w3 ⟨rfl, hL, hO⟩
    have hnb : ∀ b, b < w1.drew.heap.size → b ∉ fpL g m am an → b ∉ fpL g m am ad := fun b hb hn hm => by
      rcases mem_fp.1 hm with e | e | ⟨x, hx, e⟩ | ⟨x, hx, e⟩
      · exact hn (mem_fp.2 (.inl e))
      · exact hn (mem_fp.2 (.inr (.inl e)))
      · exact hn (mem_fp.2 (.inr (.inr (.inl ⟨x, hx, e⟩))))
      · have := (HG.out.2.1 x hx).1; omega
    have H3 := hid (H2.out.via hL hO (fun b hb => .inl hb) ⟨hnb _ (lt_of_blk H1.out.lr.rs) H2.out.lr.hb.1, hnb _ (lt_of_blk H1.out.op) H2.out.ho.1⟩)
    clear hL hO hnb
    refine hK _ _ ⟨H3.out.op, ?_⟩
    clear hK K
    go_simp
    refine wpAnyH_all (rs := [11]) (by kernel_rfl) (by simp) ?_
    intro i hi
    obtain rfl := List.mem_singleton.1 hi
    clear hi
    refine wpOp_d rfl (by rfl) (fun K hK => ?_)
    refine owp_store_rs _ _ rfl (w.heap.size + 1) rfl 0 0 0 0 rfl H3.out.lr.rs ?_
    intro w5 Hq
    have H5 := hid (H3.out.res Hq.out.1 Hq.out.2)
    refine hK _ _ ⟨H5.out.op, ?_⟩
    clear hK K Hq
    go_simp
    refine wpAnyH_done (by kernel_rfl) ?_ _
    go_simp
    go_wp2
    refine ret_oneD (s := 4) (ad := ⟨w.heap.size + 1, 0, none⟩) rfl rfl (load_rs _ _ 0 0 H5.out.lr.rs) rfl ?_
    exact ⟨rfl, ad, cp, H5.out.lr.ld, H5.out.lr.out, fun x hx => .inr (Nat.le_trans H1.out.lr.out.size (HG.out.2.1 x hx).1)⟩
  · obtain ⟨hC, hS2, hok⟩ := HC.out
    rw [if_neg he] at hC hS2
    subst hC
    obtain rfl : S' = s := hS2
    have HN := hid he
    clear hok HC he
    refine wpAnyH_all (rs := [10]) (by kernel_rfl) (by simp) ?_
    intro i hi
    obtain rfl := List.mem_singleton.1 hi
    clear hi
    refine wpOp_d rfl (by rfl) (fun K hK => ?_)
    go_simp
    refine (greplace_no H2.out.lr.ld v (leaveE S'.nxt r.id) HN.out).mono ?_
    rintro e w3 ⟨rfl, hL, hO⟩
    have H3 := hid (H2.out.via hL hO (fun b hb => .inl hb) ⟨H2.out.lr.hb.1, H2.out.ho.1⟩)
    clear hL hO
    refine hK _ _ ⟨H3.out.op, ?_⟩
    clear hK K
    go_simp
    refine wpAnyH_all (rs := [11]) (by kernel_rfl) (by simp) ?_
    intro i hi
    obtain rfl := List.mem_singleton.1 hi
    clear hi
    refine wpOp_d rfl (by rfl) (fun K hK => ?_)
    refine owp_store_rs _ _ rfl (w.heap.size + 1) rfl 0 (codeZ (leaveE S'.nxt r.id)) 0 0 rfl H3.out.lr.rs ?_
    intro w5 Hq
    have H5 := hid (H3.out.res Hq.out.1 Hq.out.2)
    refine hK _ _ ⟨H5.out.op, ?_⟩
    clear hK K Hq
    go_simp
    refine wpAnyH_done (by kernel_rfl) ?_ _
    go_simp
    go_wp2
    refine ret_oneD (s := 4) (ad := ⟨w.heap.size + 1, 0, none⟩) rfl rfl (load_rs _ _ (codeZ (leaveE S'.nxt r.id)) 0 H5.out.lr.rs) rfl ?_
    exact ⟨rfl, LnTo.of H5.out.lr.ld H5.out.lr.out⟩
theorem geffect_any {w : World} {g m : Nat} {am an : Option Addr} {cm cn : Nat} {s : Ls} (h : LdA w g m am an cm cn s) (r : Rq) (hr : rightB r = true) (hb : r.b < 18446744073709551616) :
    Calls Tryz.prog 101 #[.pointer (some ⟨g, 0, none⟩), .agg #[.int .i64 r.k, .string r.key, .float .f64 r.b, .int .i64 r.id]] w fun e w' => e = .returned (.agg #[.int .i64 (effC s r), .float .f64 (effF s r)]) ∧ LnTo w w' g m am an cm (effS s r) := by
  by_cases h6 : r.k = 6
  · exact geffect_join h r h6
  · by_cases h7 : r.k = 7
    · exact geffect_leave h r h7
    · have hm : isMov r = false := decide_eq_false (by omega)
      by_cases h1 : r.k = 1
      · exact geffect_put h r hr hb h1
      · exact geffect_key h r hr hb h1 hm
end Go.Proofs.YtecidbdbdnnglaaGreat

/- The program's ledger: answer, Do, Turn. -/
namespace Go.Proofs.YtecidbdbdnnglaaGreat
open Go.RowKit

/-- A client's deed is written. -/
theorem deeds_set (l : List De) (ep : Int) (vm vn : Value) (dn : Int) (mp : Value) (c : Nat) (d : De) (hc : c < l.length) :
    (((ldC ep vm vn dn mp l).set (5 + c * 3) (.int .i64 (d.1 : Int))).set (5 + c * 3 + 1) (.int .i64 d.2.1)).set (5 + c * 3 + 2) (.float .f64 d.2.2) = ldC ep vm vn dn mp (l.set c d) := by
  rw [show 5 + c * 3 = 3 * c + 1 + 1 + 1 + 1 + 1 by omega, show 3 * c + 1 + 1 + 1 + 1 + 1 + 1 = (3 * c + 1) + 1 + 1 + 1 + 1 + 1 by omega, show 3 * c + 1 + 1 + 1 + 1 + 1 + 2 = (3 * c + 2) + 1 + 1 + 1 + 1 + 1 by omega]
  simp only [ldC, List.set_cons_succ]
  rw [deC_set l c d hc]
theorem LdA.deed {w : World} {g m : Nat} {am an : Option Addr} {cm cn : Nat} {s : Ls} (h : LdA w g m am an cm cn s) (c : Nat) (hc : c < 8) (d : De) (hok : LOk { s with lst := s.lst.set c d }) : LdA (w.setCells g (5 + c * 3) [.int .i64 (d.1 : Int), .int .i64 d.2.1, .float .f64 d.2.2]) g m am an cm cn { s with lst := s.lst.set c d } := by
  refine h.setg (one_cells g _ _ w) ?_ h.im h.ix h.ma h.na rfl hok
  have h0 := blk_set h.blk (5 + c * 3) (.int .i64 (d.1 : Int))
  have h1 := blk_set h0 (5 + c * 3 + 1) (.int .i64 d.2.1)
  have h2 := blk_set h1 (5 + c * 3 + 1 + 1) (.float .f64 d.2.2)
  refine h2.trans ?_
  have := deeds_set s.lst (s.ep : Int) (.slice am s.mem.length cm) (.slice an s.nxt.length cn) (s.dn : Int) (.map (some m)) c d (by rw [h.ok.eight]; exact hc)
  rw [← this]
  simp
theorem LdA.thered {w : World} {g m : Nat} {am an : Option Addr} {cm cn : Nat} {s : Ls} (h : LdA w g m am an cm cn s) (c : Nat) (hc : c < 8) : w.there g (5 + c * 3) 3 := fun j hj => by
  obtain ⟨z0, z1, z2⟩ := h.cd c hc
  refine ⟨?_, h.fr _⟩
  match j, hj with
  | 0, _ => rw [Nat.add_zero, z0]; rfl
  | 1, _ => rw [z1]; rfl
  | 2, _ => rw [z2]; rfl
theorem owp_store_deed {o : Oper} {a : Act} {w : World} {K : Act → World → Prop} {Q : Exit → Act → World → Prop} {g m : Nat} {am an : Option Addr} {cm cn : Nat} {s : Ls} (p x : Operand) (ho : o.op = .store 69 p x) (c : Nat) (hc : c < 8) (hp : a.eval p = .pointer (some ⟨g, 5 + c * 3, none⟩)) (d : De) (hx : a.eval x = .agg #[.int .i64 (d.1 : Int), .int .i64 d.2.1, .float .f64 d.2.2]) (h : LdA w g m am an cm cn s) (hok : LOk { s with lst := s.lst.set c d })
    (hK : ∀ w', Hid (LdA w' g m am an cm cn { s with lst := s.lst.set c d } ∧ One g w w') → K (a.put o.dst undef) w') : o.wp Tryz.prog a w K Q :=
  wp_store_mid (P := Tryz.prog) 69 p x ho g (5 + c * 3) #[.int .i64 (d.1 : Int), .int .i64 d.2.1, .float .f64 d.2.2] hp hx (h.thered c hc) (by kernel_rfl) (by simp [Value.oneCell']) (hK _ ⟨h.deed c hc d hok, one_cells g _ _ w⟩)
/-- A ledger beside a request's and a result's variables. -/
structure LqSt (F : List Nat) (w0 w : World) (g m : Nat) (am an : Option Addr) (cm cn : Nat) (s : Ls) (b : Nat) (c : Int) (f : Nat) (bo : Nat) (r : Rq) : Prop where
  lr : LrSt F w0 w g m am an cm cn s b c f
  rq : RqAt w bo r
  ho : bo ∉ fpL g m am an ∧ bo ≠ b
theorem LqSt.keep {F : List Nat} {w0 w w' : World} {g m : Nat} {am an : Option Addr} {cm cn : Nat} {s : Ls} {b : Nat} {c : Int} {f : Nat} {bo : Nat} {r : Rq} (h : LqSt F w0 w g m am an cm cn s b c f bo r) (hb : Below w.heap.size w w') : LqSt F w0 w' g m am an cm cn s b c f bo r := ⟨h.lr.keep hb, h.rq.keep hb, h.ho⟩
theorem LqSt.res {F : List Nat} {w0 w w' : World} {g m : Nat} {am an : Option Addr} {cm cn : Nat} {s : Ls} {b : Nat} {c : Int} {f : Nat} {bo : Nat} {r : Rq} {c' : Int} {f' : Nat} (h : LqSt F w0 w g m am an cm cn s b c f bo r) (hr : RsAt w' b c' f') (ho : One b w w') : LqSt F w0 w' g m am an cm cn s b c' f' bo r :=
  ⟨h.lr.res hr ho, (ho.block _ h.ho.2).trans h.rq, h.ho⟩
theorem LqSt.via {F : List Nat} {w0 w w' : World} {g m : Nat} {am an : Option Addr} {cm cn : Nat} {s : Ls} {b : Nat} {c : Int} {f : Nat} {bo : Nat} {r : Rq} (h : LqSt F w0 w g m am an cm cn s b c f bo r) {an' : Option Addr} {cn' : Nat} {s' : Ls} (hL : LdA w' g m am an' cm cn' s') (hO : Out (fpL g m am an) w w') (hF : ∀ b, b ∈ fpL g m am an → b ∈ F ∨ w0.heap.size ≤ b) (hb : b ∉ fpL g m am an' ∧ bo ∉ fpL g m am an') : LqSt F w0 w' g m am an' cm cn' s' b c f bo r :=
  ⟨h.lr.via hL hO hF hb.1, (hO.block _ (lt_of_blk h.rq) h.ho.1).trans h.rq, hb.2, h.ho.2⟩
/-- .. the ledger's own block is written. -/
theorem LqSt.own {F : List Nat} {w0 w w' : World} {g m : Nat} {am an : Option Addr} {cm cn : Nat} {s : Ls} {b : Nat} {c : Int} {f : Nat} {bo : Nat} {r : Rq} (h : LqSt F w0 w g m am an cm cn s b c f bo r) {s' : Ls} (hL : LdA w' g m am an cm cn s') (ho : One g w w') (hF : g ∈ F) : LqSt F w0 w' g m am an cm cn s' b c f bo r :=
  ⟨⟨hL, h.lr.rs.one ho (fun e => h.lr.hb.1 (e ▸ fp_gm.1)), ho.outB h.lr.out (.inl hF), h.lr.hb⟩, (ho.block _ (fun e => h.ho.1 (e ▸ fp_gm.1))).trans h.rq, h.ho⟩
theorem lq_new {w : World} {g m : Nat} {am an : Option Addr} {cm cn : Nat} {s : Ls} (h : LdA w g m am an cm cn s) (r : Rq) : LqSt (fpL g m am an) w ((w.alloc (.cells #[.int .i64 r.c, .int .i64 r.st, .int .i64 r.k, .string r.key, .float .f64 r.b, .int .i64 r.id] 56)).alloc (.cells #[.int .i64 0, .float .f64 0] 50)) g m am an cm cn s (w.heap.size + 1) 0 0 w.heap.size r := by
  have h1 := (Below.refl w.heap.size w).alloc (Nat.le_refl _) (.cells #[.int .i64 r.c, .int .i64 r.st, .int .i64 r.k, .string r.key, .float .f64 r.b, .int .i64 r.id] 56)
  have h2 := h1.alloc (by simp) (.cells #[.int .i64 0, .float .f64 0] 50)
  refine ⟨⟨h.keep h2, snd_alloc w _ _, Out.of_below h2, fun hm => ?_, Nat.le_succ _⟩, (Below.heap_alloc _ _ _ (by simp)).trans (heap_alloc_last w _), fun hm => ?_, by omega⟩
  · have := h.lt _ hm; omega
  · have := h.lt _ hm; omega
theorem LqSt.viaN {F : List Nat} {w0 w w' : World} {g m : Nat} {am an : Option Addr} {cm cn : Nat} {s : Ls} {b : Nat} {c : Int} {f : Nat} {bo : Nat} {r : Rq} (h : LqSt F w0 w g m am an cm cn s b c f bo r) {an' : Option Addr} {cn' : Nat} {s' : Ls} (hL : LdA w' g m am an' cm cn' s') (hO : Out (fpL g m am an) w w') (hF : ∀ b, b ∈ fpL g m am an → b ∈ F ∨ w0.heap.size ≤ b) (hx : ∀ x, an' = some x → an = some x ∨ w.heap.size ≤ x.block) : LqSt F w0 w' g m am an' cm cn' s' b c f bo r := by
  have hn := fp_next (g := g) (m := m) (am := am) hx
  refine h.via hL hO hF ⟨fun hm => ?_, fun hm => ?_⟩
  · rcases hn _ hm with h1 | h1
    · exact h.lr.hb.1 h1
    · have := lt_of_blk h.lr.rs; omega
  · rcases hn _ hm with h1 | h1
    · exact h.ho.1 h1
    · have := lt_of_blk h.rq; omega
/-- The ledger's own variables and lists: what was there ahead, or is new. -/
theorem LnTo.low {w0 w w' : World} {g m : Nat} {am an : Option Addr} {cm : Nat} {s : Ls} (hs : w0.heap.size ≤ w.heap.size) (h : ∃ an' cn', LdA w' g m am an' cm cn' s ∧ Out (fpL g m am an) w0 w' ∧ ∀ x, an' = some x → an = some x ∨ w.heap.size ≤ x.block) : LnTo w0 w' g m am an cm s := by
  obtain ⟨an', cn', h1, h2, h3⟩ := h
  exact ⟨an', cn', h1, h2, fun x hx => (h3 x hx).imp id (fun h => Nat.le_trans hs h)⟩
set_option maxRecDepth 100000 in
set_option maxHeartbeats 12800000 in
theorem ganswer_any {w : World} {g m : Nat} {am an : Option Addr} {cm cn : Nat} {s : Ls} (h : LdA w g m am an cm cn s) (r : Rq) (hr : rightB r = true) (hb : r.b < 18446744073709551616) :
    Calls Tryz.prog 63 #[.pointer (some ⟨g, 0, none⟩), .agg #[.int .i64 r.c, .int .i64 r.st, .int .i64 r.k, .string r.key, .float .f64 r.b, .int .i64 r.id]] w fun e w' => e = .returned (.agg #[.int .i64 (ansC s r), .float .f64 (ansF s r)]) ∧ LnTo w w' g m am an cm (ansS s r) := by
  obtain ⟨hc, hcc⟩ := cl_lt hr
  have hok := ansS_ok h.ok hr hb
  have HP : Hid (∀ u : World, LdA u g m am an cm cn s → Calls Tryz.prog 101 #[.pointer (some ⟨g, 0, none⟩), .agg #[.int .i64 r.k, .string r.key, .float .f64 r.b, .int .i64 r.id]] u fun e w' => e = .returned (.agg #[.int .i64 (effC s r), .float .f64 (effF s r)]) ∧ LnTo u w' g m am an cm (effS s r)) := hid (fun u hu => geffect_any hu r hr hb)
  have HR : Hid (0 ≤ r.st ∧ (clN r : Int) < 8) := hid ⟨by have := (right_fields hr).2.1; omega, by omega⟩
  have H0 := hid (lq_new h r)
  have HE : Hid (effS s r = { effS s r with lst := s.lst } ∧ clN r < 8) := hid ⟨by rw [← effS_lst s r], hc⟩
  have HA : Hid (ansC s r = (if r.st < ((s.at (clN r)).1 : Int) then 7 else if r.st = ((s.at (clN r)).1 : Int) then (s.at (clN r)).2.1 else effC s r) ∧ ansF s r = (if r.st < ((s.at (clN r)).1 : Int) then 0 else if r.st = ((s.at (clN r)).1 : Int) then (s.at (clN r)).2.2 else effF s r) ∧ ansS s r = (if r.st ≤ ((s.at (clN r)).1 : Int) then s else { effS s r with lst := s.lst.set (clN r) (r.st.toNat, effC s r, effF s r) }) ∧ LOk (ansS s r)) := hid ⟨rfl, rfl, rfl, hok⟩
  obtain ⟨⟨d0, d1⟩, d2, d3, d4, d5⟩ := H0.out.rq.cells
  have hw1 : IntKind.i64.wrap (r.c - 1) = (clN r : Int) := by rw [hcc]; simp [IntKind.wrap, IntKind.bits, IntKind.signed]; omega
  have hc5 : (clN r : Int) < 8 := by omega
  have hc6 : (0 : Int) ≤ (clN r : Int) := by omega
  have hc7 : clN r < 8 := hc
  generalize ansC s r = C at HA ⊢
  generalize ansF s r = D at HA ⊢
  generalize ansS s r = S' at HA ⊢
  generalize clN r = c at hc hw1 hc5 hc6 hc7 HR HE HA
  clear h hr hb hok hcc hc
  go_enter Tryz.func63, Tryz.ntmps63
  go_wp2
  clear d0 d1 d2 d3 d4 d5 hw1
  obtain ⟨w1, ew⟩ : ∃ w1, w1 = (w.alloc (.cells #[.int .i64 r.c, .int .i64 r.st, .int .i64 r.k, .string r.key, .float .f64 r.b, .int .i64 r.id] 56)).alloc (.cells #[.int .i64 0, .float .f64 0] 50) := ⟨_, rfl⟩
  try rw [← ew] at H0
  try rw [← ew]
  clear ew
  haveI := Cls.ne w1
  have q1 : ∀ u : Cls w1, u.1.cell? ⟨w.heap.size, 1, none⟩ = some (.int .i64 r.st) := fun u => (H0.out.keep u.2).rq.cells.1.2
  have q2 : ∀ u : Cls w1, u.1.cell? ⟨g, 5 + c * 3, none⟩ = some (.int .i64 ((s.at c).1 : Int)) := fun u => ((H0.out.keep u.2).lr.ld.cd c HE.out.2).1
  refine wp_region_cls w1 (by kernel_rfl) (by kernel_rfl) ?_
  repeat (go_big_quiet_step (fail))
  rintro w2 ⟨u, hu⟩
  have hw : Below w1.heap.size w1 w2 := by first | exact hu ▸ u.2 | (rw [hu]; exact u.2) | (rw [← hu]; exact u.2)
  clear q1 q2 hu u
  have H2 := hid (H0.out.keep hw)
  clear hw
  by_cases hlt : r.st < ((s.at c).1 : Int)
  · obtain ⟨rfl, rfl, rfl, hok⟩ : C = 7 ∧ D = 0 ∧ S' = s ∧ LOk S' := by
      obtain ⟨a1, a2, a3, a4⟩ := HA.out
      rw [if_pos hlt] at a1 a2
      rw [if_pos (Int.le_of_lt hlt)] at a3
      exact ⟨a1, a2, a3, a4⟩
    clear HA hok
    go_wp2_with (refine wl_store_rs rfl _ _ rfl (w.heap.size + 1) rfl 0 7 0 0 rfl H2.out.lr.rs ?_; intro w4 Hq; have H4 := hid (H2.out.res Hq.out.1 Hq.out.2); clear Hq)
    refine ret_oneD (s := 4) (ad := ⟨w.heap.size + 1, 0, none⟩) rfl rfl (load_rs _ _ 7 0 H4.out.lr.rs) rfl ?_
    exact ⟨rfl, LnTo.of H4.out.lr.ld H4.out.lr.out⟩
  · go_wp2
    haveI := Cls.ne w2
    have q1 : ∀ u : Cls w2, u.1.cell? ⟨w.heap.size, 1, none⟩ = some (.int .i64 r.st) := fun u => (H2.out.keep u.2).rq.cells.1.2
    have q2 : ∀ u : Cls w2, u.1.cell? ⟨g, 5 + c * 3, none⟩ = some (.int .i64 ((s.at c).1 : Int)) := fun u => ((H2.out.keep u.2).lr.ld.cd c HE.out.2).1
    refine wp_region_cls w2 (by kernel_rfl) (by kernel_rfl) ?_
    repeat (go_big_quiet_step (fail))
    rintro w3 ⟨u, hu⟩
    have hw : Below w2.heap.size w2 w3 := by first | exact hu ▸ u.2 | (rw [hu]; exact u.2) | (rw [← hu]; exact u.2)
    clear q1 q2 hu u
    have H3 := hid (H2.out.keep hw)
    clear hw
    by_cases hgt : ((s.at c).1 : Int) < r.st
    · obtain ⟨hC, hD, hS, hok⟩ : C = effC s r ∧ D = effF s r ∧ S' = { effS s r with lst := s.lst.set c (r.st.toNat, effC s r, effF s r) } ∧ LOk S' := by
        obtain ⟨a1, a2, a3, a4⟩ := HA.out
        rw [if_neg (by omega), if_neg (by omega)] at a1 a2
        rw [if_neg (by omega)] at a3
        exact ⟨a1, a2, a3, a4⟩
      have HQ : Hid (S' = { effS s r with lst := s.lst.set c (r.st.toNat, C, D) } ∧ LOk S' ∧ (effS s r).lst = s.lst ∧ ((r.st.toNat : Nat) : Int) = r.st) := hid ⟨by rw [hS, hC, hD], hok, effS_lst s r, by have := HR.out.1; omega⟩
      have HP2 : Hid (∀ u : World, LdA u g m am an cm cn s → Calls Tryz.prog 101 #[.pointer (some ⟨g, 0, none⟩), .agg #[.int .i64 r.k, .string r.key, .float .f64 r.b, .int .i64 r.id]] u fun e w' => e = .returned (.agg #[.int .i64 C, .float .f64 D]) ∧ LnTo u w' g m am an cm (effS s r)) := hid (fun u hu => by rw [hC, hD]; exact HP.out u hu)
      generalize effS s r = S1 at HQ HP2
      have HE2 := hid HE.out.2
      clear HA hC hD hS hok HP HE
      go_wp2
      have HS : Hid (RqAt w3.drew w.heap.size r) := hid (H3.out.rq.keep (Below.refl _ _).drew)
      refine wp_region_held (S := fun ww => RqAt ww w.heap.size r) (by kernel_rfl) ?_
      try (change wpAnyH _ _ _ _ _ _ _ _ (World.drew _))
      refine wpAnyH_take (i := 0) (v := ?v1) rfl (by kernel_rfl) (by kernel_rfl) (by kernel_rfl) (fun _ _ _ h => h) (Or.inl ⟨by rfl, ?hy1⟩) HS.out ?rest1
      case hy1 => (intro ww _; go_simp; try with_reducible rfl)
      go_simp
      refine wpAnyH_take (i := 1) (v := ?v2) rfl (by kernel_rfl) (by kernel_rfl) (by kernel_rfl) (fun _ _ _ h => h) (Or.inl ⟨by rfl, ?hy2⟩) HS.out ?rest2
      case hy2 => (intro ww _; go_simp; try with_reducible rfl)
      go_simp
      refine wpAnyH_take (i := 2) (v := ?v3) rfl (by kernel_rfl) (by kernel_rfl) (by kernel_rfl) (fun _ _ _ h => h) (Or.inl ⟨by rfl, ?hy3⟩) HS.out ?rest3
      case hy3 => (intro ww _; go_simp; try with_reducible rfl)
      go_simp
      refine wpAnyH_take (i := 3) (v := ?v4) rfl (by kernel_rfl) (by kernel_rfl) (by kernel_rfl) (fun _ _ _ h => h) (Or.inl ⟨by rfl, ?hy4⟩) HS.out ?rest4
      case hy4 => (intro ww hS; obtain ⟨⟨y0, y1⟩, y2, y3, y4, y5⟩ := hS.cells; go_simp; try with_reducible rfl)
      go_simp
      refine wpAnyH_take (i := 4) (v := ?v5) rfl (by kernel_rfl) (by kernel_rfl) (by kernel_rfl) (fun _ _ _ h => h) (Or.inl ⟨by rfl, ?hy5⟩) HS.out ?rest5
      case hy5 => (intro ww _; go_simp; try with_reducible rfl)
      go_simp
      refine wpAnyH_take (i := 5) (v := ?v6) rfl (by kernel_rfl) (by kernel_rfl) (by kernel_rfl) (fun _ _ _ h => h) (Or.inl ⟨by rfl, ?hy6⟩) HS.out ?rest6
      case hy6 => (intro ww _; go_simp; try with_reducible rfl)
      go_simp
      refine wpAnyH_take (i := 6) (v := ?v7) rfl (by kernel_rfl) (by kernel_rfl) (by kernel_rfl) (fun _ _ _ h => h) (Or.inl ⟨by rfl, ?hy7⟩) HS.out ?rest7
      case hy7 => (intro ww hS; obtain ⟨⟨y0, y1⟩, y2, y3, y4, y5⟩ := hS.cells; go_simp; try with_reducible rfl)
      go_simp
      refine wpAnyH_take (i := 9) (v := ?v8) rfl (by kernel_rfl) (by kernel_rfl) (by kernel_rfl) (fun _ _ _ h => h) (Or.inl ⟨by rfl, ?hy8⟩) HS.out ?rest8
      case hy8 => (intro ww _; go_simp; try with_reducible rfl)
      go_simp
      refine wpAnyH_take (i := 10) (v := ?v9) rfl (by kernel_rfl) (by kernel_rfl) (by kernel_rfl) (fun _ _ _ h => h) (Or.inl ⟨by rfl, ?hy9⟩) HS.out ?rest9
      case hy9 => (intro ww _; go_simp; try with_reducible rfl)
      go_simp
      refine wpAnyH_all (rs := [7]) (by kernel_rfl) (by simp) ?_
      intro i hi
      obtain rfl := List.mem_singleton.1 hi
      clear hi
      refine wpOp_d rfl (by rfl) (fun K hK => ?_)
      go_simp
      refine (HP2.out _ (H3.out.keep (Below.refl _ _).drew).lr.ld).mono ?_
      rintro e w4 ⟨rfl, an1, cn1, hL, hO, hX⟩
      have H4 := hid ((H3.out.keep (Below.refl _ _).drew).viaN hL hO (fun b hb => .inl hb) hX)
      have HX := hid hX
      clear hL hO hX
      refine hK _ _ ⟨H4.out.rq, ?_⟩
      clear hK K
      go_simp
      refine wpAnyH_take (i := 8) (v := ?v10) rfl (by kernel_rfl) (by kernel_rfl) (by kernel_rfl) (fun _ _ _ h => h) (Or.inl ⟨by rfl, ?hy10⟩) H4.out.rq ?rest10
      case hy10 => (intro ww _; go_simp; try with_reducible rfl)
      go_simp
      refine wpAnyH_take (i := 11) (v := ?v11) rfl (by kernel_rfl) (by kernel_rfl) (by kernel_rfl) (fun _ _ _ h => h) (Or.inl ⟨by rfl, ?hy11⟩) H4.out.rq ?rest11
      case hy11 => (intro ww _; go_simp; try with_reducible rfl)
      go_simp
      refine wpAnyH_all (rs := [12]) (by kernel_rfl) (by simp) ?_
      intro i hi
      obtain rfl := List.mem_singleton.1 hi
      clear hi
      refine wpOp_d rfl (by rfl) (fun K hK => ?_)
      refine owp_store_deed _ _ rfl c HE2.out rfl (r.st.toNat, C, D) (by rw [HQ.out.2.2.2]; rfl) H4.out.lr.ld (by have h2 := HQ.out.2.1; rw [HQ.out.1, ← HQ.out.2.2.1] at h2; exact h2) ?_
      intro w5 Hq
      have H5 := hid (H4.out.own Hq.out.1 Hq.out.2 fp_gm.1)
      refine hK _ _ ⟨H5.out.rq, ?_⟩
      clear hK K Hq
      go_simp
      refine wpAnyH_done (by kernel_rfl) ?_ _
      go_simp
      obtain ⟨e0, e1, e2⟩ := H5.out.lr.ld.cd c HE2.out
      have hat : (Ls.at { S1 with lst := S1.lst.set c (r.st.toNat, C, D) } c) = (r.st.toNat, C, D) := by
        have hl : c < S1.lst.length := by have := H4.out.lr.ld.ok.eight; have := HE2.out; omega
        show (S1.lst.set c (r.st.toNat, C, D)).getD c (0, 0, 0) = _
        simp [List.getD, hl]
      rw [hat] at e1 e2
      clear hat e0
      go_wp2_with (refine wl_store_rs rfl _ _ rfl (w.heap.size + 1) rfl 0 C 0 D rfl H5.out.lr.rs ?_; intro w6 Hq; have H6 := hid (H5.out.res Hq.out.1 Hq.out.2); clear Hq)
      refine ret_oneD (s := 4) (ad := ⟨w.heap.size + 1, 0, none⟩) rfl rfl (load_rs _ _ C D H6.out.lr.rs) rfl ?_
      refine ⟨rfl, LnTo.low H3.out.lr.out.size ⟨an1, cn1, ?_, H6.out.lr.out, HX.out⟩⟩
      rw [HQ.out.1, ← HQ.out.2.2.1]
      exact H6.out.lr.ld
    · obtain ⟨rfl, rfl, rfl, hok⟩ : C = (s.at c).2.1 ∧ D = (s.at c).2.2 ∧ S' = s ∧ LOk S' := by
        obtain ⟨a1, a2, a3, a4⟩ := HA.out
        rw [if_neg (by omega), if_pos (by omega)] at a1 a2
        rw [if_pos (by omega)] at a3
        exact ⟨a1, a2, a3, a4⟩
      obtain ⟨e0, e1, e2⟩ := H3.out.lr.ld.cd c hc7
      clear HA hok
      go_wp2_with (refine wl_store_rs rfl _ _ rfl (w.heap.size + 1) rfl 0 (S'.at c).2.1 0 (S'.at c).2.2 rfl H3.out.lr.rs ?_; intro w4 Hq; have H4 := hid (H3.out.res Hq.out.1 Hq.out.2); clear Hq)
      refine ret_oneD (s := 4) (ad := ⟨w.heap.size + 1, 0, none⟩) rfl rfl (load_rs _ _ (S'.at c).2.1 (S'.at c).2.2 H4.out.lr.rs) rfl ?_
      exact ⟨rfl, LnTo.of H4.out.lr.ld H4.out.lr.out⟩
end Go.Proofs.YtecidbdbdnnglaaGreat
