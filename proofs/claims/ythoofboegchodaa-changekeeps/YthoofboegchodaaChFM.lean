/- The program's array of greatest certificates: one list taken. -/
import Derived.Test.YthoofboegchodaaGtAM
import Derived.Test.YthoofboegchodaaChBM
namespace Go.Proofs.Ythoofboegchodaa
open Go.RowKit

theorem below_one {b : Nat} {x w w' : World} (hb : Below b x w) (h : One b w w') : Below b x w' := h.below hb (Nat.le_refl _)
set_option maxRecDepth 100000 in
theorem znone_any (z : Ct) (az : Option Addr) (kz : Nat) (w : World) : Calls Try.prog 75 #[.agg #[.int .i64 z.1, .int .i64 z.2.1, .int .i64 z.2.2.1.c, .int .i64 z.2.2.1.st, .int .i64 z.2.2.1.k, .string z.2.2.1.key, .float .f64 z.2.2.1.b, .int .i64 z.2.2.1.id, .slice az z.2.2.2.length kz]] w fun e w' => e = .returned (.bool (decide (z.2.2.2.length = 0))) ∧ Below w.heap.size w w' := by
  by_cases h : z.2.2.2.length = 0
  · have hb : (((z.2.2.2.length : Nat) : Int) == 0) = true := by simp [h]
    rw [decide_eq_true h]
    generalize z.2.2.2.length = n at hb
    clear h
    go_enter Try.func75, Try.ntmps75
    go_wp2
    go_ret
    exact ⟨by simp at hb; simp [hb], (Below.refl w.heap.size w).alloc (Nat.le_refl _) _⟩
  · have hb : (((z.2.2.2.length : Nat) : Int) == 0) = false := by simpa using h
    rw [decide_eq_false h]
    generalize z.2.2.2.length = n at hb
    clear h
    go_enter Try.func75, Try.ntmps75
    go_wp2
    go_ret
    exact ⟨by simp at hb; simp, (Below.refl w.heap.size w).alloc (Nat.le_refl _) _⟩
set_option maxRecDepth 100000 in
set_option maxHeartbeats 1000000 in
theorem ztake_any {F : Nat → Prop} (b : Nat) (hFb : ∀ k, F k → k < b) (ep : Int) (h0 : 0 ≤ ep) (h1 : ep ≤ 60) (a : Option Addr) (n cap : Nat) (ys : List Ct) (hl : ys.length ≤ maxLen) (hys : ∀ y ∈ ys, 4 * ep < y.2.1 ∧ y.2.1 ≤ 4 * (ep + 1)) (cs : List Ct) (hne : ∀ y ∈ cs ++ ys, y.2.2.2.length ≠ 0) (G0 : List (Ct × Value)) (hG0 : GOk ep cs G0) (w : World) (hB0 : BxAt w b (gC G0) 86) (hR : Reads F w (.slice a n cap) (dCts ys)) :
    Calls Try.prog 47 #[.pointer (some ⟨b, 0, none⟩), .int .i64 ep, .slice a n cap] w fun e w' => e = .returned (.tuple #[]) ∧ ∃ G, GOk ep (cs ++ ys) G ∧ BxAt w' b (gC G) 86 ∧ Below b w w' := by
  have hnl : ys.length = n := by
    obtain ⟨ad, cp, hv⟩ := hR.form
    rw [List.length_map] at hv
    cases hv
    rfl
  have hmi : (n : Int) ≤ 9223372036854775807 := by unfold maxLen at hl; omega
  have HR := hid hR
  have HN := hid hnl
  have HFb := hid hFb
  have HYs := hid hys
  have HNe := hid hne
  have HG0 := hid (And.intro hG0 hB0)
  have HF : Hid (∀ u : World, Calls Try.prog 74 #[.int .i64 ep] u fun e w' => e = .returned (.int .i64 (4 * ep + 1)) ∧ Below u.heap.size u w') := hid (fun u => zfirst_any ep h0 (by omega) u)
  have HE := hid (And.intro h0 h1)
  clear hR hnl hFb hys hne hG0 hB0 hl h0 h1
  go_enter Try.func47, Try.ntmps47
  go_wp2
  go_loopw [11] (fun i wr => ∃ j : Nat, j ≤ n ∧ i = .int .i64 (j : Int) ∧ ∃ G, GOk ep (cs ++ ys.take j) G ∧ BxAt wr b (gC G) 86 ∧ Below b w wr)
    (fun i _ => ((n : Int) - intOf i).toNat)
  case atStart => exact ⟨0, Nat.zero_le _, rfl, G0, by rw [List.take_zero, List.append_nil]; exact HG0.out.1, HG0.out.2, Below.refl _ _⟩
  case round =>
    obtain ⟨j, hj, rfl, G, hG, hX, hB⟩ := hrel
    have HG := hid hG
    have HXb := hid hX
    have HB := hid hB
    have HBl := hid (lt_of_blk hX)
    clear hG hX hB
    have hj0 : (0 : Int) ≤ (j : Int) := Int.natCast_nonneg _
    by_cases hjn : j = n
    · have hj1 : ¬ ((j : Int) < (n : Int)) := by omega
      have HE : Hid (ys.take j = ys) := hid (by rw [hjn, ← HN.out, List.take_length])
      clear hj hjn
      go_wp2
      go_end0
      exact ⟨rfl, G, by have := HG.out; rw [HE.out] at this; exact this, HXb.out, HB.out⟩
    · have hj1 : (j : Int) < (n : Int) := by omega
      have hjl : j < ys.length := by have := HN.out; omega
      have hR2 := HR.out
      rw [← HN.out] at hR2
      obtain ⟨g, off, cp, a8, kc, hv, hP, hg, hcl⟩ := ct_at (hR2.keep HB.out.size (fun k _ hF => HB.out.block k (HFb.out k hF))) j hjl
      cases hv
      have HJ := hid (And.intro hj hjn)
      have HSn : Hid (ys.take j ++ [ys.getD j ct0] = ys.take (j + 1)) := hid (by rw [List.take_succ_eq_append_getElem hjl]; simp [hjl])
      have hym : ys.getD j ct0 ∈ ys := by rw [List.getD_eq_getElem?_getD, List.getElem?_eq_getElem hjl]; exact List.getElem_mem hjl
      have hyb := HYs.out _ hym
      have hyn := HNe.out _ (List.mem_append.2 (.inr hym))
      generalize ys.getD j ct0 = y at hcl hP HSn hyb hyn hym
      obtain ⟨ix, hix⟩ : ∃ ix : Nat, (ix : Int) = y.2.1 - (4 * ep + 1) := ⟨(y.2.1 - (4 * ep + 1)).toNat, by omega⟩
      have HX : Hid (ix < 4 ∧ y.2.1 = 4 * ep + 1 + (ix : Int)) := hid ⟨by omega, by omega⟩
      have hw : IntKind.i64.wrap (y.2.1 - (4 * ep + 1)) = (ix : Int) := by rw [← hix]; exact wrap_small _ (by omega) (by omega)
      have hx0 : (0 : Int) ≤ (ix : Int) := Int.natCast_nonneg _
      have hx1 : (ix : Int) < 4 := by omega
      obtain ⟨az, kz, hgz⟩ := HG.out.all ix (by omega)
      obtain ⟨z, ez⟩ : ∃ z, z = (bstOf (4 * ep + 1 + (ix : Int)) (cs ++ ys.take j)).getD ct0 := ⟨_, rfl⟩
      rw [← ez] at hgz
      have HGl : Hid ((gC G).length = 36 ∧ ix < 4) := hid ⟨by rw [gC, row_len gcF_len, HG.out.len], by omega⟩
      have HRoom : Hid (ix * 9 + (#[.int .i64 y.1, .int .i64 y.2.1, .int .i64 y.2.2.1.c, .int .i64 y.2.2.1.st, .int .i64 y.2.2.1.k, .string y.2.2.1.key, .float .f64 y.2.2.1.b, .int .i64 y.2.2.1.id, .slice a8 y.2.2.2.length kc] : Array Value).size ≤ (gC G).length) := hid (by rw [HGl.out.1]; have := HGl.out.2; show ix * 9 + 9 ≤ 36; omega)
      have HOne : Hid ((#[.int .i64 y.1, .int .i64 y.2.1, .int .i64 y.2.2.1.c, .int .i64 y.2.2.1.st, .int .i64 y.2.2.1.k, .string y.2.2.1.key, .float .f64 y.2.2.1.b, .int .i64 y.2.2.1.id, .slice a8 y.2.2.2.length kc] : Array Value).all (·.oneCell') = true) := hid (by simp [Value.oneCell'])
      have HSet : Hid (setAt (gC G) (ix * 9) (ctC y (.slice a8 y.2.2.2.length kc)) = gC (G.set ix (y, .slice a8 y.2.2.2.length kc))) := hid (row_set gcF_len (by rw [HG.out.len]; omega) (y, .slice a8 y.2.2.2.length kc))
      have HZc : Hid (∀ q v, q < 9 → (ctC z (.slice az z.2.2.2.length kz))[q]? = some v → (gC G)[ix * 9 + q]? = some v) := hid (fun q v hq hv => by rw [gC, row_at gcF_len hgz q hq]; exact hv)
      have HNew0 : Hid ((z.2.2.2.length = 0 ∨ z.1 < y.1) → bstOf (4 * ep + 1 + (ix : Int)) (cs ++ ys.take j ++ [y]) = some y) := hid (fun h => by
        rw [bstOf_snoc, if_pos HX.out.2]
        cases hb : bstOf (4 * ep + 1 + (ix : Int)) (cs ++ ys.take j) with
        | none => rfl
        | some z2 =>
          rw [hb] at ez
          have hz2 : z = z2 := ez
          have hm := (bstOf_mem hb).1
          have hn2 := HNe.out z2 (by
            rcases List.mem_append.1 hm with hm | hm
            · exact List.mem_append.2 (.inl hm)
            · exact List.mem_append.2 (.inr (List.mem_of_mem_take hm)))
          rw [← hz2] at hn2 ⊢
          rcases h with h | h
          · exact absurd h hn2
          · show (if z.1 < y.1 then some y else some z) = some y
            rw [if_pos h])
      have HOld0 : Hid (z.2.2.2.length ≠ 0 → ¬ z.1 < y.1 → bstOf (4 * ep + 1 + (ix : Int)) (cs ++ ys.take j ++ [y]) = bstOf (4 * ep + 1 + (ix : Int)) (cs ++ ys.take j)) := hid (fun h h2 => by
        rw [bstOf_snoc, if_pos HX.out.2]
        cases hb : bstOf (4 * ep + 1 + (ix : Int)) (cs ++ ys.take j) with
        | none => rw [hb] at ez; exact absurd (by rw [ez]; rfl) h
        | some z2 =>
          rw [hb] at ez
          have hz2 : z = z2 := ez
          show (if z2.1 < y.1 then some y else some z2) = some z2
          rw [← hz2, if_neg h2])
      have k0 : wr.cell? ⟨g, off + j * 9, none⟩ = some (.int .i64 y.1) := hcl 0 _ rfl
      have k1 : wr.cell? ⟨g, off + j * 9 + 1, none⟩ = some (.int .i64 y.2.1) := hcl 1 _ rfl
      have k2 : wr.cell? ⟨g, off + j * 9 + 2, none⟩ = some (.int .i64 y.2.2.1.c) := hcl 2 _ rfl
      have k3 : wr.cell? ⟨g, off + j * 9 + 3, none⟩ = some (.int .i64 y.2.2.1.st) := hcl 3 _ rfl
      have k4 : wr.cell? ⟨g, off + j * 9 + 4, none⟩ = some (.int .i64 y.2.2.1.k) := hcl 4 _ rfl
      have k5 : wr.cell? ⟨g, off + j * 9 + 5, none⟩ = some (.string y.2.2.1.key) := hcl 5 _ rfl
      have k6 : wr.cell? ⟨g, off + j * 9 + 6, none⟩ = some (.float .f64 y.2.2.1.b) := hcl 6 _ rfl
      have k7 : wr.cell? ⟨g, off + j * 9 + 7, none⟩ = some (.int .i64 y.2.2.1.id) := hcl 7 _ rfl
      have k8 : wr.cell? ⟨g, off + j * 9 + 8, none⟩ = some (.slice a8 y.2.2.2.length kc) := hcl 8 _ rfl
      clear hj hjn hjl hP hg hcl hR2 hym hyb hyn hix hgz ez
      go_wp2_with (refine wl_store_blk rfl 52 _ _ rfl wr.heap.size 0 rfl #[.int .i64 y.1, .int .i64 y.2.1, .int .i64 y.2.2.1.c, .int .i64 y.2.2.1.st, .int .i64 y.2.2.1.k, .string y.2.2.1.key, .float .f64 y.2.2.1.b, .int .i64 y.2.2.1.id, .slice a8 y.2.2.2.length kc] rfl [.int .i64 0, .int .i64 0, .int .i64 0, .int .i64 0, .int .i64 0, .string ⟨#[]⟩, .float .f64 0, .int .i64 0, .slice none 0 0] 52 (heap_alloc_last wr _) (by simp) (by kernel_rfl) (by simp [Value.oneCell']) ?_; intro w1 Hz; go_must (have hb1 := Hz.out.2.below ((Below.refl wr.heap.size wr).alloc (Nat.le_refl _) _) (Nat.le_refl _); have H1 : Hid (BxAt w1 b (gC G) 86 ∧ BxAt w1 wr.heap.size [.int .i64 y.1, .int .i64 y.2.1, .int .i64 y.2.2.1.c, .int .i64 y.2.2.1.st, .int .i64 y.2.2.1.k, .string y.2.2.1.key, .float .f64 y.2.2.1.b, .int .i64 y.2.2.1.id, .slice a8 y.2.2.2.length kc] 52 ∧ Below wr.heap.size wr w1) := hid ⟨HXb.out.keep hb1, Hz.out.1, hb1⟩); clear Hz hb1)
      clear k0 k1 k2 k3 k4 k5 k6 k7 k8
      go_simp
      have HXc : Hid (∀ x : Cls w1, BxAt x.1 wr.heap.size [.int .i64 y.1, .int .i64 y.2.1, .int .i64 y.2.2.1.c, .int .i64 y.2.2.1.st, .int .i64 y.2.2.1.k, .string y.2.2.1.key, .float .f64 y.2.2.1.b, .int .i64 y.2.2.1.id, .slice a8 y.2.2.2.length kc] 52) := hid (fun x => H1.out.2.1.keep x.2)
      have d1 : ∀ x : Cls w1, x.1.cell? ⟨wr.heap.size, 1, none⟩ = some (.int .i64 y.2.1) := fun x => (HXc.out x).cell 1 _ rfl
      haveI := Cls.ne w1
      refine wp_region_cls w1 (by kernel_rfl) (by kernel_rfl) ?_
      repeat (go_big_quiet_step ((go_at_call 74; exact Cls.of _ (fun u hu => HF.out u))))
      refine wpQuiet_nil ?_
      rintro _ ⟨x1, rfl⟩
      obtain ⟨w2, ew2⟩ : ∃ w2, w2 = x1.1 := ⟨_, rfl⟩
      rw [← ew2]
      have H2 : Hid (BxAt w2 b (gC G) 86 ∧ BxAt w2 wr.heap.size [.int .i64 y.1, .int .i64 y.2.1, .int .i64 y.2.2.1.c, .int .i64 y.2.2.1.st, .int .i64 y.2.2.1.k, .string y.2.2.1.key, .float .f64 y.2.2.1.b, .int .i64 y.2.2.1.id, .slice a8 y.2.2.2.length kc] 52 ∧ Below wr.heap.size wr w2) := hid (by rw [ew2]; exact ⟨H1.out.1.keep x1.2, H1.out.2.1.keep x1.2, H1.out.2.2.trans (x1.2.mono H1.out.2.2.size)⟩)
      clear ew2 d1 HXc H1
      have HX4 : Hid (∀ x : Cls w2, BxAt x.1 b (gC G) 86) := hid (fun x => H2.out.1.keep x.2)
      have HXc : Hid (∀ x : Cls w2, BxAt x.1 wr.heap.size [.int .i64 y.1, .int .i64 y.2.1, .int .i64 y.2.2.1.c, .int .i64 y.2.2.1.st, .int .i64 y.2.2.1.k, .string y.2.2.1.key, .float .f64 y.2.2.1.b, .int .i64 y.2.2.1.id, .slice a8 y.2.2.2.length kc] 52) := hid (fun x => H2.out.2.1.keep x.2)
      have d0 : ∀ x : Cls w2, x.1.cell? ⟨wr.heap.size, 0, none⟩ = some (.int .i64 y.1) := fun x => (HXc.out x).cell 0 _ rfl
      have z0 : ∀ x : Cls w2, x.1.cell? ⟨b, ix * 9, none⟩ = some (.int .i64 z.1) := fun x => (HX4.out x).cell (ix * 9) _ (HZc.out 0 _ (by decide) rfl)
      have z1 : ∀ x : Cls w2, x.1.cell? ⟨b, ix * 9 + 1, none⟩ = some (.int .i64 z.2.1) := fun x => (HX4.out x).cell (ix * 9 + 1) _ (HZc.out 1 _ (by decide) rfl)
      have z2 : ∀ x : Cls w2, x.1.cell? ⟨b, ix * 9 + 2, none⟩ = some (.int .i64 z.2.2.1.c) := fun x => (HX4.out x).cell (ix * 9 + 2) _ (HZc.out 2 _ (by decide) rfl)
      have z3 : ∀ x : Cls w2, x.1.cell? ⟨b, ix * 9 + 3, none⟩ = some (.int .i64 z.2.2.1.st) := fun x => (HX4.out x).cell (ix * 9 + 3) _ (HZc.out 3 _ (by decide) rfl)
      have z4 : ∀ x : Cls w2, x.1.cell? ⟨b, ix * 9 + 4, none⟩ = some (.int .i64 z.2.2.1.k) := fun x => (HX4.out x).cell (ix * 9 + 4) _ (HZc.out 4 _ (by decide) rfl)
      have z5 : ∀ x : Cls w2, x.1.cell? ⟨b, ix * 9 + 5, none⟩ = some (.string z.2.2.1.key) := fun x => (HX4.out x).cell (ix * 9 + 5) _ (HZc.out 5 _ (by decide) rfl)
      have z6 : ∀ x : Cls w2, x.1.cell? ⟨b, ix * 9 + 6, none⟩ = some (.float .f64 z.2.2.1.b) := fun x => (HX4.out x).cell (ix * 9 + 6) _ (HZc.out 6 _ (by decide) rfl)
      have z7 : ∀ x : Cls w2, x.1.cell? ⟨b, ix * 9 + 7, none⟩ = some (.int .i64 z.2.2.1.id) := fun x => (HX4.out x).cell (ix * 9 + 7) _ (HZc.out 7 _ (by decide) rfl)
      have z8 : ∀ x : Cls w2, x.1.cell? ⟨b, ix * 9 + 8, none⟩ = some (.slice az z.2.2.2.length kz) := fun x => (HX4.out x).cell (ix * 9 + 8) _ (HZc.out 8 _ (by decide) rfl)
      haveI := Cls.ne w2
      by_cases hzn : z.2.2.2.length = 0
      · have HNo : Hid (∀ u : World, Below w2.heap.size w2 u → Calls Try.prog 75 #[.agg #[.int .i64 z.1, .int .i64 z.2.1, .int .i64 z.2.2.1.c, .int .i64 z.2.2.1.st, .int .i64 z.2.2.1.k, .string z.2.2.1.key, .float .f64 z.2.2.1.b, .int .i64 z.2.2.1.id, .slice az z.2.2.2.length kz]] u fun e w' => e = .returned (.bool true) ∧ Below u.heap.size u w') := hid (fun u hu => by have := znone_any z az kz u; rw [decide_eq_true hzn] at this; exact this)
        have HNew := hid (HNew0.out (.inl hzn))
        clear hzn
        go_wp2_with fail
        refine wp_region_cls w2 (by kernel_rfl) (by kernel_rfl) ?_
        repeat (go_big_quiet_step ((go_at_call 75; exact Cls.of _ (fun u hu => HNo.out u hu))))
        refine wpQuiet_nil ?_
        rintro _ ⟨x2, rfl⟩
        have H3 : Hid (BxAt x2.1 b (gC G) 86 ∧ BxAt x2.1 wr.heap.size [.int .i64 y.1, .int .i64 y.2.1, .int .i64 y.2.2.1.c, .int .i64 y.2.2.1.st, .int .i64 y.2.2.1.k, .string y.2.2.1.key, .float .f64 y.2.2.1.b, .int .i64 y.2.2.1.id, .slice a8 y.2.2.2.length kc] 52 ∧ Below wr.heap.size wr x2.1) := hid ⟨H2.out.1.keep x2.2, H2.out.2.1.keep x2.2, H2.out.2.2.trans (x2.2.mono H2.out.2.2.size)⟩
        have u0 := H3.out.2.1.cell 0 _ rfl; have u1 := H3.out.2.1.cell 1 _ rfl; have u2 := H3.out.2.1.cell 2 _ rfl; have u3 := H3.out.2.1.cell 3 _ rfl; have u4 := H3.out.2.1.cell 4 _ rfl; have u5 := H3.out.2.1.cell 5 _ rfl; have u6 := H3.out.2.1.cell 6 _ rfl; have u7 := H3.out.2.1.cell 7 _ rfl; have u8 := H3.out.2.1.cell 8 _ rfl
        go_wp2_with (refine wl_store_blk rfl 52 _ _ rfl b (ix * 9) rfl #[.int .i64 y.1, .int .i64 y.2.1, .int .i64 y.2.2.1.c, .int .i64 y.2.2.1.st, .int .i64 y.2.2.1.k, .string y.2.2.1.key, .float .f64 y.2.2.1.b, .int .i64 y.2.2.1.id, .slice a8 y.2.2.2.length kc] rfl (gC G) 86 H3.out.1 HRoom.out (by kernel_rfl) HOne.out ?_; intro w5 Hz; go_must (have H5 : Hid (BxAt w5 b (gC (G.set ix (y, .slice a8 y.2.2.2.length kc))) 86 ∧ One b x2.1 w5) := hid ⟨by have h5 := Hz.out.1; rw [← HSet.out]; exact h5, Hz.out.2⟩); clear Hz u0 u1 u2 u3 u4 u5 u6 u7 u8)
        go_roundw
        case rel => exact ⟨j + 1, by have := HJ.out; omega, by go_num, _, by rw [← HSn.out, ← List.append_assoc]; exact HG.out.put y ix HX.out.1 HX.out.2 a8 kc (HNew.out), H5.out.1, below_one (HB.out.trans (H3.out.2.2.mono (Nat.le_of_lt HBl.out))) H5.out.2⟩
        case measure => simp [intOf]; omega
      · have HNo : Hid (∀ u : World, Below w2.heap.size w2 u → Calls Try.prog 75 #[.agg #[.int .i64 z.1, .int .i64 z.2.1, .int .i64 z.2.2.1.c, .int .i64 z.2.2.1.st, .int .i64 z.2.2.1.k, .string z.2.2.1.key, .float .f64 z.2.2.1.b, .int .i64 z.2.2.1.id, .slice az z.2.2.2.length kz]] u fun e w' => e = .returned (.bool false) ∧ Below u.heap.size u w') := hid (fun u hu => by have := znone_any z az kz u; rw [decide_eq_false hzn] at this; exact this)
        by_cases hvw : z.1 < y.1
        · have hvd : decide (z.1 < y.1) = true := decide_eq_true hvw
          have HNew := hid (HNew0.out (.inr hvw))
          clear hzn
          go_wp2_with fail
          refine wp_region_cls w2 (by kernel_rfl) (by kernel_rfl) ?_
          repeat (go_big_quiet_step ((go_at_call 75; exact Cls.of _ (fun u hu => HNo.out u hu))))
          refine wpQuiet_nil ?_
          rintro _ ⟨x2, rfl⟩
          have H3 : Hid (BxAt x2.1 b (gC G) 86 ∧ BxAt x2.1 wr.heap.size [.int .i64 y.1, .int .i64 y.2.1, .int .i64 y.2.2.1.c, .int .i64 y.2.2.1.st, .int .i64 y.2.2.1.k, .string y.2.2.1.key, .float .f64 y.2.2.1.b, .int .i64 y.2.2.1.id, .slice a8 y.2.2.2.length kc] 52 ∧ Below wr.heap.size wr x2.1) := hid ⟨H2.out.1.keep x2.2, H2.out.2.1.keep x2.2, H2.out.2.2.trans (x2.2.mono H2.out.2.2.size)⟩
          have u0 := H3.out.2.1.cell 0 _ rfl; have u1 := H3.out.2.1.cell 1 _ rfl; have u2 := H3.out.2.1.cell 2 _ rfl; have u3 := H3.out.2.1.cell 3 _ rfl; have u4 := H3.out.2.1.cell 4 _ rfl; have u5 := H3.out.2.1.cell 5 _ rfl; have u6 := H3.out.2.1.cell 6 _ rfl; have u7 := H3.out.2.1.cell 7 _ rfl; have u8 := H3.out.2.1.cell 8 _ rfl
          go_wp2_with (refine wl_store_blk rfl 52 _ _ rfl b (ix * 9) rfl #[.int .i64 y.1, .int .i64 y.2.1, .int .i64 y.2.2.1.c, .int .i64 y.2.2.1.st, .int .i64 y.2.2.1.k, .string y.2.2.1.key, .float .f64 y.2.2.1.b, .int .i64 y.2.2.1.id, .slice a8 y.2.2.2.length kc] rfl (gC G) 86 H3.out.1 HRoom.out (by kernel_rfl) HOne.out ?_; intro w5 Hz; go_must (have H5 : Hid (BxAt w5 b (gC (G.set ix (y, .slice a8 y.2.2.2.length kc))) 86 ∧ One b x2.1 w5) := hid ⟨by have h5 := Hz.out.1; rw [← HSet.out]; exact h5, Hz.out.2⟩); clear Hz u0 u1 u2 u3 u4 u5 u6 u7 u8)
          go_roundw
          case rel => exact ⟨j + 1, by have := HJ.out; omega, by go_num, _, by rw [← HSn.out, ← List.append_assoc]; exact HG.out.put y ix HX.out.1 HX.out.2 a8 kc (HNew.out), H5.out.1, below_one (HB.out.trans (H3.out.2.2.mono (Nat.le_of_lt HBl.out))) H5.out.2⟩
          case measure => simp [intOf]; omega
        · have hvd : decide (z.1 < y.1) = false := decide_eq_false hvw
          have HOld := hid (HOld0.out hzn (by omega))
          clear hzn
          go_wp2_with fail
          refine wp_region_cls w2 (by kernel_rfl) (by kernel_rfl) ?_
          repeat (go_big_quiet_step ((go_at_call 75; exact Cls.of _ (fun u hu => HNo.out u hu))))
          refine wpQuiet_nil ?_
          rintro _ ⟨x2, rfl⟩
          have H3 : Hid (BxAt x2.1 b (gC G) 86 ∧ BxAt x2.1 wr.heap.size [.int .i64 y.1, .int .i64 y.2.1, .int .i64 y.2.2.1.c, .int .i64 y.2.2.1.st, .int .i64 y.2.2.1.k, .string y.2.2.1.key, .float .f64 y.2.2.1.b, .int .i64 y.2.2.1.id, .slice a8 y.2.2.2.length kc] 52 ∧ Below wr.heap.size wr x2.1) := hid ⟨H2.out.1.keep x2.2, H2.out.2.1.keep x2.2, H2.out.2.2.trans (x2.2.mono H2.out.2.2.size)⟩
          go_wp2
          go_roundw
          case rel => exact ⟨j + 1, by have := HJ.out; omega, by go_num, _, by rw [← HSn.out, ← List.append_assoc]; exact HG.out.stay y ix HX.out.2 HOld.out, H3.out.1, HB.out.trans (H3.out.2.2.mono (Nat.le_of_lt HBl.out))⟩
          case measure => simp [intOf]; omega
end Go.Proofs.Ythoofboegchodaa
