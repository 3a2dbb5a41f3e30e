/- The program's parts of a message: lists of changes and of links. -/
import Derived.Test.YtepcdbmdfpaomaaWiYM
namespace Go.Proofs.Ytepcdbmdfpaomaa
open Go.RowKit

theorem ln_yes {s s1 s2 : ByteArray} {x : Int × List Int} {g : List Sg} (h1 : pCf s = some (x, s1)) (h2 : pList pSg s1 = some (g, s2)) : pLn s = some ((x, g), s2) := by
  show (pCf s).bind _ = _
  rw [h1]
  show (pList pSg s1).map _ = _
  rw [h2]
  rfl
theorem ln_no {s s1 : ByteArray} {x : Int × List Int} (h1 : pCf s = some (x, s1)) (h2 : pList pSg s1 = none) : pLn s = none := by
  show (pCf s).bind _ = _
  rw [h1]
  show (pList pSg s1).map _ = _
  rw [h2]
  rfl
set_option maxRecDepth 100000 in
set_option maxHeartbeats 6400000 in
theorem ipchanges_got (b : Nat) (s : ByteArray) (w : World) (h : RdAt w b s false) : Calls Try.prog 77 #[.agg #[.pointer (some ⟨b, 0, none⟩)]] w (Got (pList pCg) b s (vL dCgs) w) := by
  have H0 := hid (pl_begin h)
  have y0 := H0.out.box.cell 0 _ rfl
  have hlt := h.lt
  clear h
  go_enter Try.func77, Try.ntmps77
  go_wp2_with fail
  refine (ipbyte_got b s _ H0.out.rd).mono ?_
  rintro e w1 ⟨hk, hor⟩
  rcases hor with ⟨z, s1, v1, hp, rfl, rfl, hr⟩ | ⟨hp, rfl⟩
  rotate_left
  · have HX := hid (And.intro hp hk)
    clear hp hk
    go_wp2
    exact ⟨rfl, H0.out.kept.trans HX.out.2 (.inl rfl), .inr ⟨list_no HX.out.1, rfl⟩⟩
  obtain ⟨n, rfl, hn, hl⟩ := list_of (p := pCg) hp
  have N1 := hid (H0.out.call hk hr)
  have HL := hid hl
  have hn1 : (n : Int) < 256 := by omega
  clear hk hr hp hl y0 hn
  go_wp2_with fail
  go_loopw [3, 6] (fun v i wr => ∃ (j : Nat) (l : List Cg) (s2 : ByteArray) (vv : Value) (F : Nat → Prop), j ≤ n ∧ i = .int .i64 (j : Int) ∧ vv = v ∧ pMany pCg j s1 = some (l, s2) ∧ PlAt b w wr s2 ∧ OwnD 70 5 (w.heap.size + 1) F wr vv (l.map dCg) ∧ ∀ k, F k → w.heap.size < k ∧ k < wr.heap.size)
    (fun _ i _ => ((n : Int) - intOf i).toNat)
  case atStart => exact ⟨0, [], s1, _, fun _ => False, Nat.zero_le _, rfl, rfl, rfl, N1.out, OwnD.nil _ _ _ _ _, fun _ h => h.elim⟩
  case round =>
    obtain ⟨j, l, s2, v, F, hj, rfl, rfl, hm, hpl, hO, hF⟩ := hrel
    have HS := hid hpl
    have HO := hid (And.intro hO hF)
    have HM := hid hm
    clear hm hpl hO hF
    have hj0 : (0 : Int) ≤ (j : Int) := Int.natCast_nonneg _
    have y0 := HS.out.box.cell 0 _ rfl
    by_cases hjn : j = n
    · have hj1 : ¬ ((j : Int) < (n : Int)) := by omega
      have HE : Hid (j = n) := hid hjn
      clear hj hjn
      go_wp2
      go_ret
      refine ⟨HS.out.kept, .inl ⟨l, s2, _, ?_, rfl, ?_, HS.out.rd⟩⟩
      · rw [HL.out, ← HE.out]
        exact HM.out
      · exact (HO.out.1.reads).mono (fun k _ hk => by
          rcases hk with hk | hk
          · exact Nat.le_of_lt (HO.out.2 k hk).1
          · exact Nat.le_of_succ_le (HO.out.1.lt k hk).1)
    · have hj1 : (j : Int) < (n : Int) := by omega
      have HJ := hid (And.intro hj hjn)
      clear hj hjn
      go_wp2_with fail
      refine (ipchange_got b s2 _ HS.out.rd).mono ?_
      rintro e w2 ⟨hk, hor⟩
      rcases hor with ⟨x, s3, v2, hp, rfl, ⟨vc, rfl, hR⟩, hr⟩ | ⟨hp, rfl⟩
      rotate_left
      · have HX := hid (And.intro hp hk)
        clear hp hk
        go_wp2
        exact ⟨rfl, HS.out.kept.trans HX.out.2 (.inl rfl), .inr ⟨by rw [HL.out]; exact many_none (many_fail HM.out HX.out.1) n (by have := HJ.out; omega), rfl⟩⟩
      have M2 := hid (many_snoc HM.out hp)
      have hlen := many_len M2.out
      have S2 := hid (HS.out.call hk hr)
      have O2 := hid (HO.out.1.kept hk (fun hFb => by have := (HO.out.2 b hFb).1; omega) (by omega))
      have HSz : Hid (wr.heap.size ≤ w2.heap.size ∧ w.heap.size < wr.heap.size) := hid ⟨hk.size, lt_of_blk HS.out.box⟩
      obtain ⟨ad2, cp2, hv2⟩ := Reads.form hR
      rw [List.length_map] at hv2
      subst hv2
      have HR := hid hR
      clear hk hr hp y0 hR
      have hll : l.length + 1 ≤ 256 := by rw [List.length_append] at hlen; simp at hlen; omega
      clear hlen
      go_wp2_with (first
        | (at_builtin; refine wl_add_D rfl _ _ 31 70 rfl (.agg #[.int .i64 0, .int .i64 0, .slice none 0 0, .int .i64 0, .string ⟨#[]⟩]) 5 64 Try.underlying31 (by kernel_rfl) rfl (by decide) (w.heap.size + 1) F (fun k => w.heap.size < k ∧ k < w2.heap.size ∧ v.ownBlock ≠ some k) v (l.map dCg) rfl (O2.out.under ((Below.refl w2.heap.size w2).alloc (Nat.le_refl _) _) (Nat.le_refl _)) (by have := lt_of_blk S2.out.box; simp; omega) w2.heap.size rfl (dCg x) [.int .i64 x.1, .int .i64 x.2.1, .slice ad2 x.2.2.1.length cp2, .int .i64 x.2.2.2.1, .string x.2.2.2.2] rfl rfl (fun j u hu => cell_at (heap_alloc_last w2 _) j u hu) (fun q dd hq => by
            match q, hq with
            | 0, hq => cases hq; exact ⟨_, rfl, .i _⟩
            | 1, hq => cases hq; exact ⟨_, rfl, .i _⟩
            | 2, hq =>
              cases hq
              exact ⟨_, rfl, (HR.out.mono (fun k hk1 hk2 => ⟨by have := HSz.out; have : wr.heap.size ≤ k := hk2; omega, hk1, fun e => by have := (HO.out.1.lt k e).2; have : wr.heap.size ≤ k := hk2; omega⟩)).under ((Below.refl w2.heap.size w2).alloc (Nat.le_refl _) _) (Nat.le_refl _)⟩
            | 3, hq => cases hq; exact ⟨_, rfl, .i _⟩
            | 4, hq => cases hq; exact ⟨_, rfl, .s _⟩
            | q + 5, hq => cases hq) (by simp [Value.oneCell']) (fun k _ hk => ⟨(HO.out.2 k hk).1, by have := (HO.out.2 k hk).2; have := HSz.out; omega, fun e => O2.out.sep k e hk⟩) (fun k hk hF => hF.2.2 hk) (fun k hF => by have := hF.2.1; simp; omega) (by rw [List.length_map]; omega) (by rw [List.length_map]; unfold maxLen; omega) ?_; intro v' w' Hz; have H5 := hid Hz.out; clear Hz))
      go_roundw
      case rel =>
        refine ⟨j + 1, l ++ [x], s3, _, fun k => w.heap.size < k ∧ k < w2.heap.size ∧ v.ownBlock ≠ some k, by have := HJ.out; omega, by go_num, rfl, M2.out, S2.out.grown H5.out.2.1 (fun g hg => (O2.out.lt g hg).1), by rw [List.map_append]; exact H5.out.1, fun k hk => ⟨hk.1, ?_⟩⟩
        have h1 := hk.2.1
        have h2 := H5.out.2.1.size
        simp at h2
        omega
      case measure => simp [intOf]; omega
set_option maxRecDepth 100000 in
set_option maxHeartbeats 6400000 in
theorem iplinks_got (b : Nat) (s : ByteArray) (w : World) (h : RdAt w b s false) : Calls Try.prog 78 #[.agg #[.pointer (some ⟨b, 0, none⟩)]] w (Got (pList pLn) b s (vL dLns) w) := by
  have H0 := hid (pl_begin h)
  have y0 := H0.out.box.cell 0 _ rfl
  have hlt := h.lt
  clear h
  go_enter Try.func78, Try.ntmps78
  go_wp2_with fail
  refine (ipbyte_got b s _ H0.out.rd).mono ?_
  rintro e w1 ⟨hk, hor⟩
  rcases hor with ⟨z, s1, v1, hp, rfl, rfl, hr⟩ | ⟨hp, rfl⟩
  rotate_left
  · have HX := hid (And.intro hp hk)
    clear hp hk
    go_wp2
    exact ⟨rfl, H0.out.kept.trans HX.out.2 (.inl rfl), .inr ⟨list_no HX.out.1, rfl⟩⟩
  obtain ⟨n, rfl, hn, hl⟩ := list_of (p := pLn) hp
  have N1 := hid (H0.out.call hk hr)
  have HL := hid hl
  have hn1 : (n : Int) < 256 := by omega
  clear hk hr hp hl y0 hn
  go_wp2_with fail
  go_loopw [3, 7] (fun v i wr => ∃ (j : Nat) (l : List Ln) (s2 : ByteArray) (vv : Value) (F : Nat → Prop), j ≤ n ∧ i = .int .i64 (j : Int) ∧ vv = v ∧ pMany pLn j s1 = some (l, s2) ∧ PlAt b w wr s2 ∧ OwnD 63 3 (w.heap.size + 1) F wr vv (l.map dLn) ∧ ∀ k, F k → w.heap.size < k ∧ k < wr.heap.size)
    (fun _ i _ => ((n : Int) - intOf i).toNat)
  case atStart => exact ⟨0, [], s1, _, fun _ => False, Nat.zero_le _, rfl, rfl, rfl, N1.out, OwnD.nil _ _ _ _ _, fun _ h => h.elim⟩
  case round =>
    obtain ⟨j, l, s2, v, F, hj, rfl, rfl, hm, hpl, hO, hF⟩ := hrel
    have HS := hid hpl
    have HO := hid (And.intro hO hF)
    have HM := hid hm
    clear hm hpl hO hF
    have hj0 : (0 : Int) ≤ (j : Int) := Int.natCast_nonneg _
    have y0 := HS.out.box.cell 0 _ rfl
    by_cases hjn : j = n
    · have hj1 : ¬ ((j : Int) < (n : Int)) := by omega
      have HE : Hid (j = n) := hid hjn
      clear hj hjn
      go_wp2
      go_ret
      refine ⟨HS.out.kept, .inl ⟨l, s2, _, ?_, rfl, ?_, HS.out.rd⟩⟩
      · rw [HL.out, ← HE.out]
        exact HM.out
      · exact (HO.out.1.reads).mono (fun k _ hk => by
          rcases hk with hk | hk
          · exact Nat.le_of_lt (HO.out.2 k hk).1
          · exact Nat.le_of_succ_le (HO.out.1.lt k hk).1)
    · have hj1 : (j : Int) < (n : Int) := by omega
      have HJ := hid (And.intro hj hjn)
      clear hj hjn
      go_wp2_with fail
      refine (ipconf_got b s2 _ HS.out.rd).mono ?_
      rintro e w2 ⟨hk, hor⟩
      rcases hor with ⟨x, s3, v2, hp, rfl, ⟨vc, rfl, hR⟩, hr⟩ | ⟨hp, rfl⟩
      rotate_left
      · have HX := hid (And.intro hp hk)
        clear hp hk
        go_wp2
        exact ⟨rfl, HS.out.kept.trans HX.out.2 (.inl rfl), .inr ⟨by rw [HL.out]; exact many_none (many_fail HM.out (by have ql := HX.out.1; simp [pLn, pSeq, ql])) n (by have := HJ.out; omega), rfl⟩⟩
      have HP1 := hid hp
      have S2 := hid (HS.out.call hk hr)
      have O2 := hid (HO.out.1.kept hk (fun hFb => by have := (HO.out.2 b hFb).1; omega) (by omega))
      have HSz : Hid (wr.heap.size ≤ w2.heap.size ∧ w.heap.size < wr.heap.size) := hid ⟨hk.size, lt_of_blk HS.out.box⟩
      obtain ⟨ad2, cp2, hv2⟩ := Reads.form hR
      rw [List.length_map] at hv2
      subst hv2
      have HR := hid hR
      clear hk hr hp y0 hR
      go_wp2_with fail
      have HBc : Hid (Below w2.heap.size w2 (w2.alloc (.cells #[.int .i64 x.1, .slice ad2 x.2.length cp2] 61)).drew) := hid ((Below.refl w2.heap.size w2).alloc (Nat.le_refl _) _).drew
      have HCb : Hid (BxAt (w2.alloc (.cells #[.int .i64 x.1, .slice ad2 x.2.length cp2] 61)).drew w2.heap.size [.int .i64 x.1, .slice ad2 x.2.length cp2] 61) := hid (heap_alloc_last w2 _)
      have HSd : Hid ((w2.alloc (.cells #[.int .i64 x.1, .slice ad2 x.2.length cp2] 61)).drew.cell? ⟨w.heap.size, 0, none⟩ = some (.pointer (some ⟨b, 0, none⟩)) ∧ (w2.alloc (.cells #[.int .i64 x.1, .slice ad2 x.2.length cp2] 61)).drew.cell? ⟨w2.heap.size, 0, none⟩ = some (.int .i64 x.1) ∧ (w2.alloc (.cells #[.int .i64 x.1, .slice ad2 x.2.length cp2] 61)).drew.cell? ⟨w2.heap.size, 1, none⟩ = some (.slice ad2 x.2.length cp2)) := hid ⟨(S2.out.under HBc.out).box.cell 0 _ rfl, HCb.out.cell 0 _ rfl, HCb.out.cell 1 _ rfl⟩
      refine wp_region_G (S := fun ww => ww.cell? ⟨w.heap.size, 0, none⟩ = some (.pointer (some ⟨b, 0, none⟩)) ∧ ww.cell? ⟨w2.heap.size, 0, none⟩ = some (.int .i64 x.1) ∧ ww.cell? ⟨w2.heap.size, 1, none⟩ = some (.slice ad2 x.2.length cp2)) (ex := []) (by kernel_rfl) ?_
      try (change wpAnyG _ _ _ _ _ _ _ _ _ (World.drew _))
      refine wpAnyG_take (i := 0) (v := ?v1) rfl (by kernel_rfl) (fun _ _ _ h => h) (Or.inl ⟨by rfl, ?hy1⟩) HSd.out ?rest1
      case hy1 => (intro ww _; go_simp; try with_reducible rfl)
      go_simp
      refine wpAnyG_take (i := 1) (v := ?v2) rfl (by kernel_rfl) (fun _ _ _ h => h) (Or.inl ⟨by rfl, ?hy2⟩) HSd.out ?rest2
      case hy2 => (intro ww hS; obtain ⟨k0, k1, k2⟩ := hS; go_simp; try with_reducible rfl)
      go_simp
      refine wpAnyG_take (i := 2) (v := ?v3) rfl (by kernel_rfl) (fun _ _ _ h => h) (Or.inl ⟨by rfl, ?hy3⟩) HSd.out ?rest3
      case hy3 => (intro ww hS; obtain ⟨k0, k1, k2⟩ := hS; go_simp; try with_reducible rfl)
      go_simp
      refine wpAnyG_all (rs := [3]) (by kernel_rfl) (by simp) ?_
      intro i hi
      obtain rfl := List.mem_singleton.1 hi
      clear hi
      refine wpOp_q rfl (by rfl) (fun K hK => ?_)
      go_simp
      refine (ipsigs_got b s3 _ (S2.out.under HBc.out).rd).mono ?_
      rintro e w3 ⟨hk, hor⟩
      rcases hor with ⟨g, s4, v5, hp, rfl, hR3, hr⟩ | ⟨hp, rfl⟩
      rotate_left
      · have HX := hid (And.intro hp hk)
        clear hp hk
        go_simp
        exact ⟨rfl, (S2.out.under HBc.out).kept.trans HX.out.2 (.inl rfl), .inr ⟨by rw [HL.out]; exact many_none (many_fail HM.out (ln_no HP1.out HX.out.1)) n (by have := HJ.out; omega), rfl⟩⟩
      have M5 := hid (many_snoc (p := pLn) (x := (x, g)) HM.out (ln_yes HP1.out hp))
      have hlen := many_len M5.out
      have hll : l.length + 1 ≤ 256 := by rw [List.length_append] at hlen; simp at hlen; omega
      have S5 := hid ((S2.out.under HBc.out).call hk hr)
      have C5 := hid (HCb.out.kept hk (by have := HSz.out; omega))
      have O5 := hid ((O2.out.under HBc.out (Nat.le_refl _)).kept hk (fun hFb => by have := (HO.out.2 b hFb).1; omega) (by omega))
      have HR5 := hid ((HR.out.under HBc.out (Nat.le_refl _)).kept hk (by show ¬ wr.heap.size ≤ b; have := HSz.out; omega))
      have HS5 : Hid (w2.heap.size < w3.heap.size) := hid (lt_of_blk C5.out)
      obtain ⟨ad3, cp3, hv3⟩ := Reads.form hR3
      rw [List.length_map] at hv3
      subst hv3
      have HR3 : Hid (Reads (fun k => wr.heap.size ≤ k) w3 (.slice ad3 g.length cp3) (dPairs g)) := hid (hR3.mono (fun k _ hk2 => by have := HSz.out; have h9 : (w2.alloc (.cells #[.int .i64 x.1, .slice ad2 x.2.length cp2] 61)).drew.heap.size ≤ k := hk2; simp at h9; show wr.heap.size ≤ k; omega))
      clear hk hr hp hR3 hlen
      refine hK _ _ ⟨fun _ => ⟨S5.out.box.cell 0 _ rfl, C5.out.cell 0 _ rfl, C5.out.cell 1 _ rfl⟩, ?_⟩
      clear hK K
      go_simp
      refine wpAnyG_take (i := 4) (v := ?v4) rfl (by kernel_rfl) (fun _ _ _ h => h) (Or.inl ⟨by rfl, ?hy4⟩) ⟨S5.out.box.cell 0 _ rfl, C5.out.cell 0 _ rfl, C5.out.cell 1 _ rfl⟩ ?rest4
      case hy4 => (intro ww _; go_simp; try with_reducible rfl)
      go_simp
      refine wpAnyG_all (rs := [5]) (by kernel_rfl) (by simp) ?_
      intro i hi
      obtain rfl := List.mem_singleton.1 hi
      clear hi
      refine wpOp_q rfl (by rfl) (fun K hK => ?_)
      go_simp
      refine hK _ _ ⟨fun _ => ⟨(S5.out.under ((Below.refl w3.heap.size w3).alloc (Nat.le_refl _) _)).box.cell 0 _ rfl, (C5.out.keep ((Below.refl w3.heap.size w3).alloc (Nat.le_refl _) _)).cell 0 _ rfl, (C5.out.keep ((Below.refl w3.heap.size w3).alloc (Nat.le_refl _) _)).cell 1 _ rfl⟩, ?_⟩
      clear hK K
      go_simp
      refine wpAnyG_all (rs := [6]) (by kernel_rfl) (by simp) ?_
      intro i hi
      obtain rfl := List.mem_singleton.1 hi
      clear hi
      refine wpOp_q rfl (by rfl) (fun K hK => ?_)
      refine owp_add_D _ _ 32 63 rfl (.agg #[.int .i64 0, .slice none 0 0, .slice none 0 0]) 3 56 Try.underlying32 (by kernel_rfl) rfl (by decide) (w.heap.size + 1) F (fun k => w.heap.size < k ∧ k < w3.heap.size ∧ v.ownBlock ≠ some k) v (l.map dLn) (by rfl) (O5.out.under ((Below.refl w3.heap.size w3).alloc (Nat.le_refl _) _) (Nat.le_refl _)) (by have := lt_of_blk S5.out.box; simp; omega) w3.heap.size (by rfl) (dLn (x, g)) [.int .i64 x.1, .slice ad2 x.2.length cp2, .slice ad3 g.length cp3] rfl rfl (fun j u hu => cell_at (heap_alloc_last w3 _) j u hu) (fun q dd hq => by
        match q, hq with
        | 0, hq => cases hq; exact ⟨_, rfl, .i _⟩
        | 1, hq => cases hq; exact ⟨_, rfl, (HR5.out.mono (fun k hk1 hk2 => ⟨by have := HSz.out; have : wr.heap.size ≤ k := hk2; omega, hk1, fun e => by have := (HO.out.1.lt k e).2; have : wr.heap.size ≤ k := hk2; omega⟩)).under ((Below.refl w3.heap.size w3).alloc (Nat.le_refl _) _) (Nat.le_refl _)⟩
        | 2, hq => cases hq; exact ⟨_, rfl, (HR3.out.mono (fun k hk1 hk2 => ⟨by have := HSz.out; have : wr.heap.size ≤ k := hk2; omega, hk1, fun e => by have := (HO.out.1.lt k e).2; have : wr.heap.size ≤ k := hk2; omega⟩)).under ((Below.refl w3.heap.size w3).alloc (Nat.le_refl _) _) (Nat.le_refl _)⟩
        | q + 3, hq => cases hq) (by simp [Value.oneCell']) (fun k _ hk => ⟨(HO.out.2 k hk).1, by have := (HO.out.2 k hk).2; have := HSz.out; have := HS5.out; omega, fun e => O5.out.sep k e hk⟩) (fun k hk hF => hF.2.2 hk) (fun k hF => by have := hF.2.1; simp; omega) (by rw [List.length_map]; omega) (by rw [List.length_map]; unfold maxLen; omega) ?_
      intro v' w6 Hz
      have H6 := hid Hz.out
      have S6 := hid (S5.out.grown Hz.out.2.1 (fun g hg => (O5.out.lt g hg).1))
      have C6 : Hid (BxAt w6 w2.heap.size [.int .i64 x.1, .slice ad2 x.2.length cp2] 61) := hid ((Hz.out.2.1.block w2.heap.size (by have := HS5.out; simp; omega) (fun e => by have := (HO.out.1.lt _ e.symm).2; have := HSz.out; omega)).trans ((Below.heap_alloc w3 _ _ HS5.out).trans C5.out))
      clear Hz
      refine hK _ _ ⟨fun _ => ⟨S6.out.box.cell 0 _ rfl, C6.out.cell 0 _ rfl, C6.out.cell 1 _ rfl⟩, ?_⟩
      clear hK K
      go_simp
      refine wpAnyG_take (i := 7) (v := ?v5) rfl (by kernel_rfl) (fun _ _ _ h => h) (Or.inl ⟨by rfl, ?hy5⟩) ⟨S6.out.box.cell 0 _ rfl, C6.out.cell 0 _ rfl, C6.out.cell 1 _ rfl⟩ ?rest5
      case hy5 => (intro ww _; go_simp; try with_reducible rfl)
      go_simp
      refine wpAnyG_done (by kernel_rfl) ?_ _
      go_simp
      go_wp2
      go_roundw
      case rel =>
        refine ⟨j + 1, l ++ [(x, g)], s4, _, fun k => w.heap.size < k ∧ k < w3.heap.size ∧ v.ownBlock ≠ some k, by have := HJ.out; omega, by go_num, rfl, M5.out, S6.out, by rw [List.map_append]; exact H6.out.1, fun k hk => ⟨hk.1, ?_⟩⟩
        have h1 := hk.2.1
        have h2 := H6.out.2.1.size
        simp at h2
        omega
      case measure => simp [intOf]; omega
end Go.Proofs.Ytepcdbmdfpaomaa
