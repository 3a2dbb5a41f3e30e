/- The document's Copied once more, with lists that may be written; a link put behind a row of any length. -/
import Derived.Test.YtpholamobedkhaaTrJM
namespace Go.Proofs.Ytpholamobedkhaa
open Go.RowKit

set_option maxRecDepth 100000 in
set_option maxHeartbeats 3200000 in
theorem wcopiedN_any (e : Int) (a : Option Addr) (n cap : Nat) (l : List Int) (hn : l.length = n) (hm : n ≤ 17592186043904) (b : Option Addr) (m cp : Nat) (ss : List (Int × ByteArray)) (hsn : ss.length = m) (hsm : m * 24 ≤ 140737488355328) (w : World) (hI : IntsIn w a l) (hP : PairsIn w b ss) :
    Calls Try.prog 22 #[.agg #[.int .i64 e, .slice a n cap, .slice b m cp]] w fun r w' => ∃ a1 c1 a2 c2, r = .returned (.agg #[.int .i64 e, .slice a1 n c1, .slice a2 m c2]) ∧ NewI w.heap.size w' a1 l ∧ NewT w.heap.size w' a2 ss ∧ Below w.heap.size w w' := by
  have H0 : Hid (CpSt w ((w.alloc (.cells #[.int .i64 e, .slice a n cap, .slice b m cp] 27)).alloc (.cells #[.int .i64 0, .slice none 0 0, .slice none 0 0] 27)) e (.slice a n cap) (.slice b m cp)) := hid
    ⟨(Below.heap_alloc _ _ _ (by simp)).trans (heap_alloc_last w _), snd_alloc w _ _, ((Below.refl _ _).alloc (Nat.le_refl _) _).alloc (by simp) _⟩
  have HD : Hid (∀ u : World, Below w.heap.size w u → IntsIn u a l ∧ PairsIn u b ss) := hid (fun u hu => ⟨hI.keep hu (Nat.le_refl _), hP.keep hu (Nat.le_refl _)⟩)
  have HL := hid (And.intro (And.intro hn hm) (And.intro hsn hsm))
  clear hI hP hn hm hsn hsm
  go_enter Try.func22, Try.ntmps22
  go_wp2
  obtain ⟨w1, ew⟩ : ∃ w1, w1 = (w.alloc (.cells #[.int .i64 e, .slice a n cap, .slice b m cp] 27)).alloc (.cells #[.int .i64 0, .slice none 0 0, .slice none 0 0] 27) := ⟨_, rfl⟩
  rw [← ew] at H0 ⊢
  clear ew
  have H1 : Hid (CpSt w w1.drew e (.slice a n cap) (.slice b m cp)) := hid (H0.out.keep (Below.refl _ _).drew)
  have HS := hid H1.out.ln
  refine wp_region_held (S := fun ww => LnAt ww w.heap.size e (.slice a n cap) (.slice b m cp)) (by kernel_rfl) ?_
  try (change wpAnyH _ _ _ _ _ _ _ _ (World.drew _))
  refine wpAnyH_take (i := 0) (v := ?v1) rfl (by kernel_rfl) (by kernel_rfl) (by kernel_rfl) (fun _ _ _ h => h) (Or.inl ⟨by rfl, ?hy1⟩) HS.out ?rest1
  case hy1 => (intro ww _; go_simp; try with_reducible rfl)
  go_simp
  refine wpAnyH_take (i := 1) (v := ?v2) rfl (by kernel_rfl) (by kernel_rfl) (by kernel_rfl) (fun _ _ _ h => h) (Or.inl ⟨by rfl, ?hy2⟩) HS.out ?rest2
  case hy2 => (intro ww _; go_simp; try with_reducible rfl)
  go_simp
  refine wpAnyH_take (i := 2) (v := ?v3) rfl (by kernel_rfl) (by kernel_rfl) (by kernel_rfl) (fun _ _ _ h => h) (Or.inl ⟨by rfl, ?hy3⟩) HS.out ?rest3
  case hy3 => (intro ww hS; obtain ⟨y0, y1, y2⟩ := hS.cells; go_simp; try with_reducible rfl)
  go_simp
  refine wpAnyH_take (i := 3) (v := ?v4) rfl (by kernel_rfl) (by kernel_rfl) (by kernel_rfl) (fun _ _ _ h => h) (Or.inl ⟨by rfl, ?hy4⟩) HS.out ?rest4
  case hy4 => (intro ww _; go_simp; try with_reducible rfl)
  go_simp
  refine wpAnyH_take (i := 4) (v := ?v5) rfl (by kernel_rfl) (by kernel_rfl) (by kernel_rfl) (fun _ _ _ h => h) (Or.inl ⟨by rfl, ?hy5⟩) HS.out ?rest5
  case hy5 => (intro ww _; go_simp; try with_reducible rfl)
  go_simp
  refine wpAnyH_take (i := 5) (v := ?v6) rfl (by kernel_rfl) (by kernel_rfl) (by kernel_rfl) (fun _ _ _ h => h) (Or.inl ⟨by rfl, ?hy6⟩) HS.out ?rest6
  case hy6 => (intro ww hS; obtain ⟨y0, y1, y2⟩ := hS.cells; go_simp; try with_reducible rfl)
  go_simp
  refine wpAnyH_take (i := 8) (v := ?v7) rfl (by kernel_rfl) (by kernel_rfl) (by kernel_rfl) (fun _ _ _ h => h) (Or.inl ⟨by rfl, ?hy7⟩) HS.out ?rest7
  case hy7 => (intro ww _; go_simp; try with_reducible rfl)
  go_simp
  refine wpAnyH_take (i := 9) (v := ?v8) rfl (by kernel_rfl) (by kernel_rfl) (by kernel_rfl) (fun _ _ _ h => h) (Or.inl ⟨by rfl, ?hy8⟩) HS.out ?rest8
  case hy8 => (intro ww hS; obtain ⟨y0, y1, y2⟩ := hS.cells; go_simp; try with_reducible rfl)
  go_simp
  refine wpAnyH_all (rs := [6]) (by kernel_rfl) (by simp) ?_
  intro i hi
  obtain rfl := List.mem_singleton.1 hi
  clear hi
  refine wpOp_k rfl (by rfl) (fun K hK => ?_)
  refine owp_ownI _ _ rfl (by rfl) a n cap l (by rfl) HL.out.1.1 (HD.out _ H1.out.bel).1 HL.out.1.2 ?_
  intro v2 w2 H2
  have H2c := hid (H1.out.keep H2.out.bel)
  obtain ⟨a1, c1, hv2, hN2⟩ := H2.out.new
  rw [HL.out.1.1] at hv2
  subst hv2
  have H2i := hid hN2
  clear hN2
  refine hK _ _ ⟨H2c.out.ln, ?_⟩
  clear hK K
  go_simp
  refine wpAnyH_take (i := 7) (v := ?v9) rfl (by kernel_rfl) (by kernel_rfl) (by kernel_rfl) (fun _ _ _ h => h) (Or.inl ⟨by rfl, ?hy9⟩) H2c.out.ln ?rest9
  case hy9 => (intro ww _; go_simp; try with_reducible rfl)
  go_simp
  refine wpAnyH_all (rs := [10]) (by kernel_rfl) (by simp) ?_
  intro i hi
  obtain rfl := List.mem_singleton.1 hi
  clear hi
  refine wpOp_k rfl (by rfl) (fun K hK => ?_)
  refine owp_ownT _ _ rfl (by rfl) b m cp ss (by rfl) HL.out.2.1 (HD.out _ H2c.out.bel).2 HL.out.2.2 ?_
  intro v3 w3 H3
  have H3c := hid (H2c.out.keep H3.out.bel)
  obtain ⟨a2, c2, hv3, hN3⟩ := H3.out.new
  rw [HL.out.2.1] at hv3
  subst hv3
  have H3i := hid (And.intro hN3 (H2i.out.keep H3.out.bel))
  clear hN3
  refine hK _ _ ⟨H3c.out.ln, ?_⟩
  clear hK K
  go_simp
  refine wpAnyH_take (i := 11) (v := ?v10) rfl (by kernel_rfl) (by kernel_rfl) (by kernel_rfl) (fun _ _ _ h => h) (Or.inl ⟨by rfl, ?hy10⟩) H3c.out.ln ?rest10
  case hy10 => (intro ww _; go_simp; try with_reducible rfl)
  go_simp
  refine wpAnyH_all (rs := [12]) (by kernel_rfl) (by simp) ?_
  intro i hi
  obtain rfl := List.mem_singleton.1 hi
  clear hi
  refine wpOp_k rfl (by rfl) (fun K hK => ?_)
  have r0 := (cell_three H3c.out.res).1
  have r1 := (cell_three H3c.out.res).2.1
  have r2 := (cell_three H3c.out.res).2.2
  have f0 := free_at H3c.out.res 0
  have f1 := free_at H3c.out.res 1
  have f2 := free_at H3c.out.res 2
  go_simp
  refine hK _ _ ⟨?_, ?_⟩
  · refine (Below.heap_setCell _ _ _ _ ?_).trans ((Below.heap_setCell _ _ _ _ ?_).trans ((Below.heap_setCell _ _ _ _ ?_).trans H3c.out.ln)) <;> simp
  clear hK K r0 r1 r2 f0 f1 f2
  go_simp
  refine wpAnyH_done (by kernel_rfl) ?_ _
  go_simp
  go_wp2
  refine ret_one (s := 2) (ad := ⟨w.heap.size + 1, 0, none⟩) rfl rfl (load_link _ _ (.int .i64 e) (.slice a1 n c1) (.slice a2 m c2) (cell_three (res_put3 H3c.out.res)).1 (cell_three (res_put3 H3c.out.res)).2.1 (cell_three (res_put3 H3c.out.res)).2.2) rfl ?_
  have hsz : w.heap.size + 1 < w1.drew.heap.size := lt_of_blk H1.out.res
  have hsz2 := H2.out.bel.size
  refine ⟨a1, c1, a2, c2, rfl, (H3i.out.2.low (by omega)).far_keep (by simp [World.setCell]) (fun x hx => ?_), (H3i.out.1.low (by omega)).far_keep (by simp [World.setCell]) (fun x hx => ?_), ((H3c.out.bel.setCell (p := ⟨w.heap.size + 1, 0, none⟩) (Nat.le_succ _) _).setCell (p := ⟨w.heap.size + 1, 1, none⟩) (Nat.le_succ _) _).setCell (p := ⟨w.heap.size + 1, 2, none⟩) (Nat.le_succ _) _⟩
  · have h1 := (H2i.out.far x hx).1
    refine (Below.heap_setCell _ _ _ _ ?_).trans ((Below.heap_setCell _ _ _ _ ?_).trans (Below.heap_setCell _ _ _ _ ?_)) <;> (show x.block ≠ w.heap.size + 1; omega)
  · have h1 := (H3i.out.1.far x hx).1
    refine (Below.heap_setCell _ _ _ _ ?_).trans ((Below.heap_setCell _ _ _ _ ?_).trans (Below.heap_setCell _ _ _ _ ?_)) <;> (show x.block ≠ w.heap.size + 1; omega)
section
variable {o : Oper} {a : Act} {w : World} {Q : Exit → Act → World → Prop} {ops : Array Oper} {rest : List Oper}
/-- One more link behind one's own, however many. -/
theorem wl_add_link (hgd : o.guard = none) (s x : Operand) (ho : o.op = .call { callee := .builtin .append, args := #[s, x], argTypes := #[40, 40] }) (B : Nat) (F F' : Nat → Prop) (v : Value) (ls : List Lk) (hs : a.eval s = v) (hO : OwnD 27 3 B F w v (dLks ls)) (hB : B ≤ w.heap.size)
    (g : Nat) (hx : a.eval x = .slice (some ⟨g, 0, none⟩) 1 1) (k : Lk) (u1 u2 : Value) (c0 : w.cell? ⟨g, 0, none⟩ = some (.int .i64 k.1)) (c1 : w.cell? ⟨g, 1, none⟩ = some u1) (c2 : w.cell? ⟨g, 2, none⟩ = some u2) (o1 : u1.oneCell' = true) (o2 : u2.oneCell' = true)
    (hu1 : Reads F' w u1 (dInts k.2.1)) (hu2 : Reads F' w u2 (dPairs k.2.2)) (hF : ∀ j, j < w.heap.size → F j → F' j) (hrow : ∀ j, v.ownBlock = some j → ¬ F' j) (hnew : ∀ j, F' j → j < w.heap.size) (hl : (ls.length + 1) * 56 ≤ 140737488355328)
    (h : ∀ v' w', Hid (OwnD 27 3 B F' w' v' (dLks (ls ++ [k])) ∧ w.grownBy w' v.ownBlock ∧ (v'.ownBlock = v.ownBlock ∨ v'.ownBlock = some w.heap.size)) → wpList Try.prog ops Q rest (a.put o.dst v') w') : wpList Try.prog ops Q (o :: rest) a w := by
  obtain ⟨i0, hi0, hz0, hz1, hz2⟩ := info_parts Try.info27
  obtain ⟨cs, hown, _⟩ := hO.own
  obtain ⟨v', w', hr, h2, h3, h4, h5⟩ := run_append_own_at (P := Try.prog) w B 40 o.type 27 i0 (.agg #[.int .i64 0, .slice none 0 0, .slice none 0 0]) 3 56 Try.underlying40 hi0 hz0 hz1 hz2 rfl (by decide) v _ cs hown ⟨g, 0, none⟩ 1 1 [.int .i64 k.1, u1, u2] rfl (fun j u hj => by
    match j, hj with
    | 0, hj => simp at hj; subst hj; simpa [Addr.add] using c0
    | 1, hj => simp at hj; subst hj; simpa [Addr.add] using c1
    | 2, hj => simp at hj; subst hj; simpa [Addr.add] using c2) (by intro u hu; simp at hu; rcases hu with rfl | rfl | rfl; rfl; exact o1; exact o2) (by rw [dLks_len]; unfold maxLen; omega) (by rw [dLks_len]; omega) hB
  have hkeep : ∀ {u : Value} {d : Dat}, Reads F' w u d → Reads F' w' u d := fun hu => hu.keep h3.size (fun j hj hFj => h3.block j hj (fun e => hrow j e.symm hFj))
  refine wpList_plain hgd fun K hK => owp_value (v := v') (w' := w') ?_ (hK _ _ (h v' w' ⟨?_, h3, h5⟩))
  · simp [execOp, ho, resolve, invoke, builtin, hs, hx, hr, Result.andThen]
  · have := hO.grow (F' := F') (e := dLk k) hown rfl (fun q d hd => by
      match q, hd with
      | 0, hd => cases hd; exact ⟨_, rfl, .i _⟩
      | 1, hd => cases hd; exact ⟨_, rfl, hkeep hu1⟩
      | 2, hd => cases hd; exact ⟨_, rfl, hkeep hu2⟩) h2 h3 hF (fun j hj hFj => by
      rcases h5 with e | e
      · exact hrow j (e ▸ hj) hFj
      · rw [e] at hj
        cases hj
        exact absurd (hnew _ hFj) (by omega))
    rw [dLks, List.map_append]
    exact this
end
/-- While a chain is copied: a row of one's own from block C on, and lists that may be written. -/
structure MnSt (C : Nat) (w4 w : World) (F : Nat → Prop) (v : Value) (ls : List Lk) : Prop where
  own : OwnD 27 3 C F w v (dLks ls)
  far : ∀ k, F k → C ≤ k ∧ Free w k
  bel : Below C w4 w
  le : C ≤ w.heap.size
theorem MnSt.keep {C : Nat} {w4 w w' : World} {F : Nat → Prop} {v : Value} {ls : List Lk} (h : MnSt C w4 w F v ls) (hb : Below w.heap.size w w') : MnSt C w4 w' F v ls :=
  ⟨h.own.under hb (Nat.le_refl _), fun k hk => ⟨(h.far k hk).1, (h.far k hk).2.keep (hb.block k (h.far k hk).2.lt)⟩, h.bel.trans (hb.mono h.le), Nat.le_trans h.le hb.size⟩
theorem MnSt.room {C : Nat} {w4 w : World} {F : Nat → Prop} {ad : Option Addr} {n c : Nat} {ls : List Lk} (h : MnSt C w4 w F (.slice ad n c) ls) : ∀ ad' n' c', Value.slice ad n c = .slice ad' n' c' → n' ≤ c' := fun ad' n' c' hv => by
  obtain ⟨cs, hown, _⟩ := h.own.own
  rcases hown.2 with ⟨hv2, h0⟩ | ⟨g, cap, cur, hv2, _, _, hnc, _⟩
  · rw [hv2] at hv; cases hv; exact Nat.le_refl _
  · rw [hv2] at hv; cases hv; exact hnc
end Go.Proofs.Ytpholamobedkhaa
