/- Texts laid together: WiZa WiJ WiK WiM WiO WiP. -/
import Derived.Test.YtoepppkadpjonaaGreatNb9
import Derived.Test.YtoepppkadpjonaaGreatNb6
import Derived.Deep.DeepMust
import Derived.Test.YtoepppkadpjonaaGreatNb3
namespace Go.Proofs.YtoepppkadpjonaaGreat
section
set_option maxRecDepth 100000
open Go.RowKit
theorem ln_yes {s s1 s2 : ByteArray} {x : Int × List Int} {g : List Sg} (h1 : pCf s = some (x, s1)) (h2 : pList pSg s1 = some (g, s2)) : pLn s = some ((x, g), s2) := by
 show (pCf s).bind _ = _
 rw [h1]
 show (pList pSg s1).map _ = _
 rw [h2]
 rfl
theorem ln_no {s s1 : ByteArray} {x : Int × List Int} (h1 : pCf s = some (x, s1)) (h2 : pList pSg s1 = none) : pLn s = none := by
 show (pCf s).bind _ = _
 rw [h1]
 show (pList pSg s1).map _ = _
 rw [h2]
 rfl
set_option maxHeartbeats 6400000 in
theorem ipchanges_got (b : Nat) (s : ByteArray) (w : World) (h : RdAt w b s false) : Calls Tryz.prog 196 #[.agg #[.pointer (some ⟨b, 0, none⟩)]] w (Got (pList pCg) b s (vL dCgs) w) := by
 have H0 := hid (pl_begin h)
 have y0 := H0.out.box.cell 0 _ rfl
 have hlt := h.lt
 clear h
 go_enter Tryz.func196, Tryz.ntmps196
 go_wp2_with fail
 refine (ipbyte_got b s _ H0.out.rd).mono ?_
 rintro e w1 ⟨hk, hor⟩
 rcases hor with ⟨z, s1, v1, hp, rfl, rfl, hr⟩ | ⟨hp, rfl⟩
 rotate_left
 · have HX := hid (And.intro hp hk)
   clear hp hk
   go_wp2
   exact ⟨rfl, H0.out.kept.trans HX.out.2 (.inl rfl), .inr ⟨list_no HX.out.1, rfl⟩⟩
 obtain ⟨n, rfl, hn, hl⟩ := list_of (p := pCg) hp
 have N1 := hid (H0.out.call hk hr)
 have HL := hid hl
 have hn1 : (n : Int) < 256 := by omega
 clear hk hr hp hl y0 hn
 go_wp2_with fail
 go_loopw [3, 6] (fun v i wr => ∃ (j : Nat) (l : List Cg) (s2 : ByteArray) (vv : Value) (F : Nat → Prop), j ≤ n ∧ i = .int .i64 (j : Int) ∧ vv = v ∧ pMany pCg j s1 = some (l, s2) ∧ PlAt b w wr s2 ∧ OwnD 161 5 (w.heap.size + 1) F wr vv (l.map dCg) ∧ ∀ k, F k → w.heap.size < k ∧ k < wr.heap.size)
   (fun _ i _ => ((n : Int) - intOf i).toNat)
 case atStart => exact ⟨0, [], s1, _, fun _ => False, Nat.zero_le _, rfl, rfl, rfl, N1.out, OwnD.nil _ _ _ _ _, fun _ h => h.elim⟩
 case round =>
   obtain ⟨j, l, s2, v, F, hj, rfl, rfl, hm, hpl, hO, hF⟩ := hrel
   have HS := hid hpl
   have HO := hid (And.intro hO hF)
   have HM := hid hm
   clear hm hpl hO hF
   have hj0 : (0 : Int) ≤ (j : Int) := Int.natCast_nonneg _
   have y0 := HS.out.box.cell 0 _ rfl
   by_cases hjn : j = n
   · have hj1 : ¬ ((j : Int) < (n : Int)) := by omega
     have HE : Hid (j = n) := hid hjn
     clear hj hjn
     go_wp2
     go_ret
     refine ⟨HS.out.kept, .inl ⟨l, s2, _, ?_, rfl, ?_, HS.out.rd⟩⟩
     · rw [HL.out, ← HE.out]
       exact HM.out
     · exact (HO.out.1.reads).mono (fun k _ hk => by
         rcases hk with hk | hk
         · exact Nat.le_of_lt (HO.out.2 k hk).1
         · exact Nat.le_of_succ_le (HO.out.1.lt k hk).1)
   · have hj1 : (j : Int) < (n : Int) := by omega
     have HJ := hid (And.intro hj hjn)
     clear hj hjn
     go_wp2_with fail
     refine (ipchange_got b s2 _ HS.out.rd).mono ?_
     rintro e w2 ⟨hk, hor⟩
     rcases hor with ⟨x, s3, v2, hp, rfl, ⟨vc, rfl, hR⟩, hr⟩ | ⟨hp, rfl⟩
     rotate_left
     · have HX := hid (And.intro hp hk)
       clear hp hk
       go_wp2
       exact ⟨rfl, HS.out.kept.trans HX.out.2 (.inl rfl), .inr ⟨by rw [HL.out]; exact many_none (many_fail HM.out HX.out.1) n (by have := HJ.out; omega), rfl⟩⟩
     have M2 := hid (many_snoc HM.out hp)
     have hlen := many_len M2.out
     have S2 := hid (HS.out.call hk hr)
     have O2 := hid (HO.out.1.kept hk (fun hFb => by have := (HO.out.2 b hFb).1; omega) (by omega))
     have HSz : Hid (wr.heap.size ≤ w2.heap.size ∧ w.heap.size < wr.heap.size) := hid ⟨hk.size, lt_of_blk HS.out.box⟩
     obtain ⟨ad2, cp2, hv2⟩ := Reads.form hR
     rw [List.length_map] at hv2
     subst hv2
     have HR := hid hR
     clear hk hr hp y0 hR
     have hll : l.length + 1 ≤ 256 := by rw [List.length_append] at hlen; simp at hlen; omega
     clear hlen
     go_wp2_with (first
       | (at_builtin; refine wl_add_D rfl _ _ 45 161 rfl (.agg #[.int .i64 0, .int .i64 0, .slice none 0 0, .int .i64 0, .string ⟨#[]⟩]) 5 64 Tryz.underlying45 (by kernel_rfl) rfl (by decide) (w.heap.size + 1) F (fun k => w.heap.size < k ∧ k < w2.heap.size ∧ v.ownBlock ≠ some k) v (l.map dCg) rfl (O2.out.under ((Below.refl w2.heap.size w2).alloc (Nat.le_refl _) _) (Nat.le_refl _)) (by have := lt_of_blk S2.out.box; simp; omega) w2.heap.size rfl (dCg x) [.int .i64 x.1, .int .i64 x.2.1, .slice ad2 x.2.2.1.length cp2, .int .i64 x.2.2.2.1, .string x.2.2.2.2] rfl rfl (fun j u hu => cell_at (heap_alloc_last w2 _) j u hu) (fun q dd hq => by
           match q, hq with
           | 0, hq => cases hq; exact ⟨_, rfl, .i _⟩
           | 1, hq => cases hq; exact ⟨_, rfl, .i _⟩
           | 2, hq =>
             cases hq
             exact ⟨_, rfl, (HR.out.mono (fun k hk1 hk2 => ⟨by have := HSz.out; have : wr.heap.size ≤ k := hk2; omega, hk1, fun e => by have := (HO.out.1.lt k e).2; have : wr.heap.size ≤ k := hk2; omega⟩)).under ((Below.refl w2.heap.size w2).alloc (Nat.le_refl _) _) (Nat.le_refl _)⟩
           | 3, hq => cases hq; exact ⟨_, rfl, .i _⟩
           | 4, hq => cases hq; exact ⟨_, rfl, .s _⟩
           | q + 5, hq => cases hq) (by simp [Value.oneCell']) (fun k _ hk => ⟨(HO.out.2 k hk).1, by have := (HO.out.2 k hk).2; have := HSz.out; omega, fun e => O2.out.sep k e hk⟩) (fun k hk hF => hF.2.2 hk) (fun k hF => by have := hF.2.1; simp; omega) (by rw [List.length_map]; omega) (by rw [List.length_map]; unfold maxLen; omega) ?_; intro v' w' Hz; have H5 := hid Hz.out; clear Hz))
     go_roundw
     case rel =>
       refine ⟨j + 1, l ++ [x], s3, _, fun k => w.heap.size < k ∧ k < w2.heap.size ∧ v.ownBlock ≠ some k, by have := HJ.out; omega, by go_num, rfl, M2.out, S2.out.grown H5.out.2.1 (fun g hg => (O2.out.lt g hg).1), by rw [List.map_append]; exact H5.out.1, fun k hk => ⟨hk.1, ?_⟩⟩
       have h1 := hk.2.1
       have h2 := H5.out.2.1.size
       simp at h2
       omega
     case measure => simp [intOf]; omega
theorem OwnD.room {T : TypeId} {sz B : Nat} {F : Nat → Prop} {w : World} {v : Value} {es : List (List Dat)} (h : OwnD T sz B F w v es) : ∀ ad n c, v = .slice ad n c → n ≤ c := fun ad n c e => by
 obtain ⟨cs, ho, _⟩ := h.own
 rcases ho.2 with ⟨hv, _⟩ | ⟨g, cap, cur, hv, _, _, hc, _⟩
 · rw [hv] at e; simp only [Value.slice.injEq] at e; omega
 · rw [hv] at e; simp only [Value.slice.injEq] at e; omega
def vLr (x : List Ln) (v : Value) (w w' : World) : Prop := vL dLns x v w w' ∧ ∀ ad n c, v = .slice ad n c → n ≤ c
set_option maxHeartbeats 6400000 in
theorem iplinks_got (b : Nat) (s : ByteArray) (w : World) (h : RdAt w b s false) : Calls Tryz.prog 197 #[.agg #[.pointer (some ⟨b, 0, none⟩)]] w (Got (pList pLn) b s vLr w) := by
 have H0 := hid (pl_begin h)
 have y0 := H0.out.box.cell 0 _ rfl
 have hlt := h.lt
 clear h
 go_enter Tryz.func197, Tryz.ntmps197
 go_wp2_with fail
 refine (ipbyte_got b s _ H0.out.rd).mono ?_
 rintro e w1 ⟨hk, hor⟩
 rcases hor with ⟨z, s1, v1, hp, rfl, rfl, hr⟩ | ⟨hp, rfl⟩
 rotate_left
 · have HX := hid (And.intro hp hk)
   clear hp hk
   go_wp2
   exact ⟨rfl, H0.out.kept.trans HX.out.2 (.inl rfl), .inr ⟨list_no HX.out.1, rfl⟩⟩
 obtain ⟨n, rfl, hn, hl⟩ := list_of (p := pLn) hp
 have N1 := hid (H0.out.call hk hr)
 have HL := hid hl
 have hn1 : (n : Int) < 256 := by omega
 clear hk hr hp hl y0 hn
 go_wp2_with fail
 go_loopw [3, 7] (fun v i wr => ∃ (j : Nat) (l : List Ln) (s2 : ByteArray) (vv : Value) (F : Nat → Prop), j ≤ n ∧ i = .int .i64 (j : Int) ∧ vv = v ∧ pMany pLn j s1 = some (l, s2) ∧ PlAt b w wr s2 ∧ OwnD 74 3 (w.heap.size + 1) F wr vv (l.map dLn) ∧ ∀ k, F k → w.heap.size < k ∧ k < wr.heap.size)
   (fun _ i _ => ((n : Int) - intOf i).toNat)
 case atStart => exact ⟨0, [], s1, _, fun _ => False, Nat.zero_le _, rfl, rfl, rfl, N1.out, OwnD.nil _ _ _ _ _, fun _ h => h.elim⟩
 case round =>
   obtain ⟨j, l, s2, v, F, hj, rfl, rfl, hm, hpl, hO, hF⟩ := hrel
   have HS := hid hpl
   have HO := hid (And.intro hO hF)
   have HM := hid hm
   clear hm hpl hO hF
   have hj0 : (0 : Int) ≤ (j : Int) := Int.natCast_nonneg _
   have y0 := HS.out.box.cell 0 _ rfl
   by_cases hjn : j = n
   · have hj1 : ¬ ((j : Int) < (n : Int)) := by omega
     have HE : Hid (j = n) := hid hjn
     clear hj hjn
     go_wp2
     go_ret
     refine ⟨HS.out.kept, .inl ⟨l, s2, _, ?_, rfl, ?_, HS.out.rd⟩⟩
     · rw [HL.out, ← HE.out]
       exact HM.out
     · exact ⟨(HO.out.1.reads).mono (fun k _ hk => by
         rcases hk with hk | hk
         · exact Nat.le_of_lt (HO.out.2 k hk).1
         · exact Nat.le_of_succ_le (HO.out.1.lt k hk).1), HO.out.1.room⟩
   · have hj1 : (j : Int) < (n : Int) := by omega
     have HJ := hid (And.intro hj hjn)
     clear hj hjn
     go_wp2_with fail
     refine (ipconf_got b s2 _ HS.out.rd).mono ?_
     rintro e w2 ⟨hk, hor⟩
     rcases hor with ⟨x, s3, v2, hp, rfl, ⟨vc, rfl, hR⟩, hr⟩ | ⟨hp, rfl⟩
     rotate_left
     · have HX := hid (And.intro hp hk)
       clear hp hk
       go_wp2
       exact ⟨rfl, HS.out.kept.trans HX.out.2 (.inl rfl), .inr ⟨by rw [HL.out]; exact many_none (many_fail HM.out (by have ql := HX.out.1; simp [pLn, pSeq, ql])) n (by have := HJ.out; omega), rfl⟩⟩
     have HP1 := hid hp
     have S2 := hid (HS.out.call hk hr)
     have O2 := hid (HO.out.1.kept hk (fun hFb => by have := (HO.out.2 b hFb).1; omega) (by omega))
     have HSz : Hid (wr.heap.size ≤ w2.heap.size ∧ w.heap.size < wr.heap.size) := hid ⟨hk.size, lt_of_blk HS.out.box⟩
     obtain ⟨ad2, cp2, hv2⟩ := Reads.form hR
     rw [List.length_map] at hv2
     subst hv2
     have HR := hid hR
     clear hk hr hp y0 hR
     go_wp2_with fail
     have HBc : Hid (Below w2.heap.size w2 (w2.alloc (.cells #[.int .i64 x.1, .slice ad2 x.2.length cp2] 24)).drew) := hid ((Below.refl w2.heap.size w2).alloc (Nat.le_refl _) _).drew
     have HCb : Hid (BxAt (w2.alloc (.cells #[.int .i64 x.1, .slice ad2 x.2.length cp2] 24)).drew w2.heap.size [.int .i64 x.1, .slice ad2 x.2.length cp2] 24) := hid (heap_alloc_last w2 _)
     have HSd : Hid ((w2.alloc (.cells #[.int .i64 x.1, .slice ad2 x.2.length cp2] 24)).drew.cell? ⟨w.heap.size, 0, none⟩ = some (.pointer (some ⟨b, 0, none⟩)) ∧ (w2.alloc (.cells #[.int .i64 x.1, .slice ad2 x.2.length cp2] 24)).drew.cell? ⟨w2.heap.size, 0, none⟩ = some (.int .i64 x.1) ∧ (w2.alloc (.cells #[.int .i64 x.1, .slice ad2 x.2.length cp2] 24)).drew.cell? ⟨w2.heap.size, 1, none⟩ = some (.slice ad2 x.2.length cp2)) := hid ⟨(S2.out.under HBc.out).box.cell 0 _ rfl, HCb.out.cell 0 _ rfl, HCb.out.cell 1 _ rfl⟩
     refine wp_region_G (S := fun ww => ww.cell? ⟨w.heap.size, 0, none⟩ = some (.pointer (some ⟨b, 0, none⟩)) ∧ ww.cell? ⟨w2.heap.size, 0, none⟩ = some (.int .i64 x.1) ∧ ww.cell? ⟨w2.heap.size, 1, none⟩ = some (.slice ad2 x.2.length cp2)) (ex := []) (by kernel_rfl) ?_
     try (change wpAnyG _ _ _ _ _ _ _ _ _ (World.drew _))
     refine wpAnyG_take (i := 0) (v := ?v1) rfl (by kernel_rfl) (fun _ _ _ h => h) (Or.inl ⟨by rfl, ?hy1⟩) HSd.out ?rest1
     case hy1 => (intro ww _; go_simp; try with_reducible rfl)
     go_simp
     refine wpAnyG_take (i := 1) (v := ?v2) rfl (by kernel_rfl) (fun _ _ _ h => h) (Or.inl ⟨by rfl, ?hy2⟩) HSd.out ?rest2
     case hy2 => (intro ww hS; obtain ⟨k0, k1, k2⟩ := hS; go_simp; try with_reducible rfl)
     go_simp
     refine wpAnyG_take (i := 2) (v := ?v3) rfl (by kernel_rfl) (fun _ _ _ h => h) (Or.inl ⟨by rfl, ?hy3⟩) HSd.out ?rest3
     case hy3 => (intro ww hS; obtain ⟨k0, k1, k2⟩ := hS; go_simp; try with_reducible rfl)
     go_simp
     refine wpAnyG_all (rs := [3]) (by kernel_rfl) (by simp) ?_
     intro i hi
     obtain rfl := List.mem_singleton.1 hi
     clear hi
     refine wpOp_q rfl (by rfl) (fun K hK => ?_)
     go_simp
     refine (ipsigs_got b s3 _ (S2.out.under HBc.out).rd).mono ?_
     rintro e w3 ⟨hk, hor⟩
     rcases hor with ⟨g, s4, v5, hp, rfl, hR3, hr⟩ | ⟨hp, rfl⟩
     rotate_left
     · have HX := hid (And.intro hp hk)
       clear hp hk
       go_simp
       exact ⟨rfl, (S2.out.under HBc.out).kept.trans HX.out.2 (.inl rfl), .inr ⟨by rw [HL.out]; exact many_none (many_fail HM.out (ln_no HP1.out HX.out.1)) n (by have := HJ.out; omega), rfl⟩⟩
     have M5 := hid (many_snoc (p := pLn) (x := (x, g)) HM.out (ln_yes HP1.out hp))
     have hlen := many_len M5.out
     have hll : l.length + 1 ≤ 256 := by rw [List.length_append] at hlen; simp at hlen; omega
     have S5 := hid ((S2.out.under HBc.out).call hk hr)
     have C5 := hid (HCb.out.kept hk (by have := HSz.out; omega))
     have O5 := hid ((O2.out.under HBc.out (Nat.le_refl _)).kept hk (fun hFb => by have := (HO.out.2 b hFb).1; omega) (by omega))
     have HR5 := hid ((HR.out.under HBc.out (Nat.le_refl _)).kept hk (by show ¬ wr.heap.size ≤ b; have := HSz.out; omega))
     have HS5 : Hid (w2.heap.size < w3.heap.size) := hid (lt_of_blk C5.out)
     obtain ⟨ad3, cp3, hv3⟩ := Reads.form hR3
     rw [List.length_map] at hv3
     subst hv3
     have HR3 : Hid (Reads (fun k => wr.heap.size ≤ k) w3 (.slice ad3 g.length cp3) (dPairs g)) := hid (hR3.mono (fun k _ hk2 => by have := HSz.out; have h9 : (w2.alloc (.cells #[.int .i64 x.1, .slice ad2 x.2.length cp2] 24)).drew.heap.size ≤ k := hk2; simp at h9; show wr.heap.size ≤ k; omega))
     clear hk hr hp hR3 hlen
     refine hK _ _ ⟨fun _ => ⟨S5.out.box.cell 0 _ rfl, C5.out.cell 0 _ rfl, C5.out.cell 1 _ rfl⟩, ?_⟩
     clear hK K
     go_simp
     refine wpAnyG_take (i := 4) (v := ?v4) rfl (by kernel_rfl) (fun _ _ _ h => h) (Or.inl ⟨by rfl, ?hy4⟩) ⟨S5.out.box.cell 0 _ rfl, C5.out.cell 0 _ rfl, C5.out.cell 1 _ rfl⟩ ?rest4
     case hy4 => (intro ww _; go_simp; try with_reducible rfl)
     go_simp
     refine wpAnyG_all (rs := [5]) (by kernel_rfl) (by simp) ?_
     intro i hi
     obtain rfl := List.mem_singleton.1 hi
     clear hi
     refine wpOp_q rfl (by rfl) (fun K hK => ?_)
     go_simp
     refine hK _ _ ⟨fun _ => ⟨(S5.out.under ((Below.refl w3.heap.size w3).alloc (Nat.le_refl _) _)).box.cell 0 _ rfl, (C5.out.keep ((Below.refl w3.heap.size w3).alloc (Nat.le_refl _) _)).cell 0 _ rfl, (C5.out.keep ((Below.refl w3.heap.size w3).alloc (Nat.le_refl _) _)).cell 1 _ rfl⟩, ?_⟩
     clear hK K
     go_simp
     refine wpAnyG_all (rs := [6]) (by kernel_rfl) (by simp) ?_
     intro i hi
     obtain rfl := List.mem_singleton.1 hi
     clear hi
     refine wpOp_q rfl (by rfl) (fun K hK => ?_)
     refine owp_add_D _ _ 46 74 rfl (.agg #[.int .i64 0, .slice none 0 0, .slice none 0 0]) 3 56 Tryz.underlying46 (by kernel_rfl) rfl (by decide) (w.heap.size + 1) F (fun k => w.heap.size < k ∧ k < w3.heap.size ∧ v.ownBlock ≠ some k) v (l.map dLn) (by rfl) (O5.out.under ((Below.refl w3.heap.size w3).alloc (Nat.le_refl _) _) (Nat.le_refl _)) (by have := lt_of_blk S5.out.box; simp; omega) w3.heap.size (by rfl) (dLn (x, g)) [.int .i64 x.1, .slice ad2 x.2.length cp2, .slice ad3 g.length cp3] rfl rfl (fun j u hu => cell_at (heap_alloc_last w3 _) j u hu) (fun q dd hq => by
       match q, hq with
       | 0, hq => cases hq; exact ⟨_, rfl, .i _⟩
       | 1, hq => cases hq; exact ⟨_, rfl, (HR5.out.mono (fun k hk1 hk2 => ⟨by have := HSz.out; have : wr.heap.size ≤ k := hk2; omega, hk1, fun e => by have := (HO.out.1.lt k e).2; have : wr.heap.size ≤ k := hk2; omega⟩)).under ((Below.refl w3.heap.size w3).alloc (Nat.le_refl _) _) (Nat.le_refl _)⟩
       | 2, hq => cases hq; exact ⟨_, rfl, (HR3.out.mono (fun k hk1 hk2 => ⟨by have := HSz.out; have : wr.heap.size ≤ k := hk2; omega, hk1, fun e => by have := (HO.out.1.lt k e).2; have : wr.heap.size ≤ k := hk2; omega⟩)).under ((Below.refl w3.heap.size w3).alloc (Nat.le_refl _) _) (Nat.le_refl _)⟩
       | q + 3, hq => cases hq) (by simp [Value.oneCell']) (fun k _ hk => ⟨(HO.out.2 k hk).1, by have := (HO.out.2 k hk).2; have := HSz.out; have := HS5.out; omega, fun e => O5.out.sep k e hk⟩) (fun k hk hF => hF.2.2 hk) (fun k hF => by have := hF.2.1; simp; omega) (by rw [List.length_map]; omega) (by rw [List.length_map]; unfold maxLen; omega) ?_
     intro v' w6 Hz
     have H6 := hid Hz.out
     have S6 := hid (S5.out.grown Hz.out.2.1 (fun g hg => (O5.out.lt g hg).1))
     have C6 : Hid (BxAt w6 w2.heap.size [.int .i64 x.1, .slice ad2 x.2.length cp2] 24) := hid ((Hz.out.2.1.block w2.heap.size (by have := HS5.out; simp; omega) (fun e => by have := (HO.out.1.lt _ e.symm).2; have := HSz.out; omega)).trans ((Below.heap_alloc w3 _ _ HS5.out).trans C5.out))
     clear Hz
     refine hK _ _ ⟨fun _ => ⟨S6.out.box.cell 0 _ rfl, C6.out.cell 0 _ rfl, C6.out.cell 1 _ rfl⟩, ?_⟩
     clear hK K
     go_simp
     refine wpAnyG_take (i := 7) (v := ?v5) rfl (by kernel_rfl) (fun _ _ _ h => h) (Or.inl ⟨by rfl, ?hy5⟩) ⟨S6.out.box.cell 0 _ rfl, C6.out.cell 0 _ rfl, C6.out.cell 1 _ rfl⟩ ?rest5
     case hy5 => (intro ww _; go_simp; try with_reducible rfl)
     go_simp
     refine wpAnyG_done (by kernel_rfl) ?_ _
     go_simp
     go_wp2
     go_roundw
     case rel =>
       refine ⟨j + 1, l ++ [(x, g)], s4, _, fun k => w.heap.size < k ∧ k < w3.heap.size ∧ v.ownBlock ≠ some k, by have := HJ.out; omega, by go_num, rfl, M5.out, S6.out, by rw [List.map_append]; exact H6.out.1, fun k hk => ⟨hk.1, ?_⟩⟩
       have h1 := hk.2.1
       have h2 := H6.out.2.1.size
       simp at h2
       omega
     case measure => simp [intOf]; omega
end
section
set_option maxRecDepth 100000
open Go.RowKit
def lnC (k : Ln) (v1 v2 : Value) : List Value := [.int .i64 k.1.1, v1, v2]
theorem ln_at {F : Nat → Prop} {w : World} {v : Value} {l : List Ln} (h : Reads F w v (dLns l)) (j : Nat) (hj : j < l.length) :
   ∃ g off cap a1 k1 a2 k2, v = .slice (some ⟨g, off, none⟩) l.length cap ∧ (IntsIn w a1 (l.getD j ln0).1.2 ∧ PairsIn w a2 (l.getD j ln0).2) ∧ g < w.heap.size ∧ ∀ (q : Nat) (u : Value), (lnC (l.getD j ln0) (.slice a1 (l.getD j ln0).1.2.length k1) (.slice a2 (l.getD j ln0).2.length k2))[q]? = some u → w.cell? ⟨g, off + j * 3 + q, none⟩ = some u := by
 have hx : (l.map dLn)[j]? = some (dLn (l.getD j ln0)) := by rw [List.getElem?_map]; simp [hj]
 obtain ⟨g, off, cap, hv, _, hg, _, hc⟩ := h.at j _ hx
 obtain ⟨u1, e1, r1⟩ := hc 1 _ rfl
 obtain ⟨u2, e2, r2⟩ := hc 2 _ rfl
 obtain ⟨a1, k1, rfl, i1, _⟩ := reads_ints r1
 obtain ⟨a2, k2, rfl, i2, _⟩ := reads_pairs r2
 rw [List.length_map] at hv
 refine ⟨g, off, cap, a1, k1, a2, k2, hv, ⟨i1, i2⟩, hg, fun q u hq => ?_⟩
 match q, hq with
 | 0, hq => obtain ⟨x, k0, r0⟩ := hc 0 _ rfl; rw [r0.int] at k0; cases hq; exact k0
 | 1, hq => cases hq; exact e1
 | 2, hq => cases hq; exact e2
 | q + 3, hq => cases hq
set_option maxHeartbeats 6400000 in
theorem ilinks_any {F : Nat → Prop} (m : Ms) (h1 : m.ep ≤ 60) (ad : Option Addr) (n cap : Nat) (v13 v14 v15 : Value) (hl : m.ln.length ≤ maxLen) (en : n = m.ln.length) (hb : ∀ x, x ∈ m.ln → lnR x) (w : World) (hR : Reads F w (.slice ad n cap) (dLns m.ln)) :
   Calls Tryz.prog 170 #[.agg #[.int .i64 m.k, .int .i64 m.ep, .int .i64 m.v, .int .i64 m.sl, .int .i64 m.rq.c, .int .i64 m.rq.st, .int .i64 m.rq.k, .string m.rq.key, .float .f64 m.rq.b, .int .i64 m.rq.id, .int .i64 m.rs.1, .float .f64 m.rs.2, .string m.tx, v13, v14, v15, .slice ad n cap]] w fun e w' => e = .returned (.bool (decide ((m.ln.length : Int) = m.ep) && lnsB m.ln)) ∧ Below w.heap.size w w' := by
 obtain ⟨V, eV⟩ : ∃ V, V = (decide ((m.ln.length : Int) = m.ep) && lnsB m.ln) := ⟨_, rfl⟩
 rw [← eV]
 have HR := hid hR
 rw [← en] at hl
 have hmi : (n : Int) ≤ 9223372036854775807 := by unfold maxLen at hl; omega
 clear hR
 have H0 : Hid (BxAt (w.alloc (.cells #[.int .i64 m.k, .int .i64 m.ep, .int .i64 m.v, .int .i64 m.sl, .int .i64 m.rq.c, .int .i64 m.rq.st, .int .i64 m.rq.k, .string m.rq.key, .float .f64 m.rq.b, .int .i64 m.rq.id, .int .i64 m.rs.1, .float .f64 m.rs.2, .string m.tx, v13, v14, v15, .slice ad n cap] 48)) w.heap.size [.int .i64 m.k, .int .i64 m.ep, .int .i64 m.v, .int .i64 m.sl, .int .i64 m.rq.c, .int .i64 m.rq.st, .int .i64 m.rq.k, .string m.rq.key, .float .f64 m.rq.b, .int .i64 m.rq.id, .int .i64 m.rs.1, .float .f64 m.rs.2, .string m.tx, v13, v14, v15, .slice ad n cap] 48 ∧ Below w.heap.size w (w.alloc (.cells #[.int .i64 m.k, .int .i64 m.ep, .int .i64 m.v, .int .i64 m.sl, .int .i64 m.rq.c, .int .i64 m.rq.st, .int .i64 m.rq.k, .string m.rq.key, .float .f64 m.rq.b, .int .i64 m.rq.id, .int .i64 m.rs.1, .float .f64 m.rs.2, .string m.tx, v13, v14, v15, .slice ad n cap] 48))) := hid ⟨heap_alloc_last w _, (Below.refl w.heap.size w).alloc (Nat.le_refl _) _⟩
 have y1 := H0.out.1.cell 1 _ rfl
 have y16 := H0.out.1.cell 16 _ rfl
 by_cases h4 : ¬ (n : Int) = m.ep
 · have hf : V = false := by rw [eV, ← en, decide_eq_false h4]; rfl
   subst hf
   have hvb : ((n : Int) == m.ep) = false := by simpa using h4
   have hvn : ((n : Int) != m.ep) = true := by rw [bne, hvb]; rfl
   clear eV hl hb en HR
   go_enter Tryz.func170, Tryz.ntmps170
   go_wp2
   go_ret
   exact ⟨rfl, H0.out.2⟩
 · replace h4 : (n : Int) = m.ep := Classical.not_not.1 h4
   have hn60 : (n : Int) ≤ 60 := by omega
   clear h1
   have HV : Hid (V = allTo (lnAt m.ln) n) := hid (by rw [eV, lnsB, ← en, decide_eq_true h4]; rfl)
   have hvb : ((n : Int) == m.ep) = true := by simpa using h4
   have hvn : ((n : Int) != m.ep) = false := by rw [bne, hvb]; rfl
   have HN := hid en
   have HLn := hid hl
   have HBd := hid hb
   clear eV hl hb en h4
   go_enter Tryz.func170, Tryz.ntmps170
   go_wp2
   generalize w.alloc (.cells #[.int .i64 m.k, .int .i64 m.ep, .int .i64 m.v, .int .i64 m.sl, .int .i64 m.rq.c, .int .i64 m.rq.st, .int .i64 m.rq.k, .string m.rq.key, .float .f64 m.rq.b, .int .i64 m.rq.id, .int .i64 m.rs.1, .float .f64 m.rs.2, .string m.tx, v13, v14, v15, .slice ad n cap] 48) = wa at H0 y1 y16 ⊢
   clear hvb hvn
   go_loopw [14] (fun i wr => ∃ j : Nat, j ≤ n ∧ i = .int .i64 (j : Int) ∧ allTo (lnAt m.ln) j = true ∧ Below wa.heap.size wa wr)
     (fun i _ => ((n : Int) - intOf i).toNat)
   case atStart => exact ⟨0, Nat.zero_le _, rfl, rfl, Below.refl _ _⟩
   case round =>
     obtain ⟨j, hj, rfl, hok, hB⟩ := hrel
     have HB := hid hB
     have HBw := hid (H0.out.2.trans (hB.mono H0.out.2.size))
     have HOk := hid hok
     clear hok hB y1 y16
     have hj0 : (0 : Int) ≤ (j : Int) := Int.natCast_nonneg _
     by_cases hjn : j = n
     · have hj1 : ¬ ((j : Int) < (n : Int)) := by omega
       have hv : Hid (V = true) := hid (by rw [HV.out, ← hjn]; exact HOk.out)
       clear hj hjn
       go_wp2
       go_ret
       exact ⟨by rw [hv.out]; rfl, HBw.out⟩
     · have hj1 : (j : Int) < (n : Int) := by omega
       have hjl : j < m.ln.length := by have := HN.out; omega
       have hR2 := HR.out
       rw [HN.out] at hR2
       obtain ⟨g, off, cp, a1, k1, a2, k2, hv, hp, hg, hc⟩ := ln_at (hR2.under HBw.out (Nat.le_refl _)) j hjl
       cases hv
       have HP := hid hp
       have HJ := hid (And.intro hj hjn)
       have HT : Hid (lnAt m.ln j = ((decide ((m.ln.getD j ln0).1.1 = (j : Int) + 1) && rightC (m.ln.getD j ln0).1.1 (m.ln.getD j ln0).1.2) && sigsB (m.ln.getD j ln0).2)) := hid rfl
       have HFa : Hid (lnAt m.ln j = false → V = false) := hid (fun e => by rw [HV.out]; exact allTo_no j (by omega) e)
       have HTr : Hid (lnAt m.ln j = true → allTo (lnAt m.ln) (j + 1) = true) := hid (fun e => by rw [allTo, HOk.out, e]; rfl)
       have HYb := hid (HBd.out (m.ln.getD j ln0) (by rw [List.getD_eq_getElem?_getD, List.getElem?_eq_getElem hjl]; exact List.getElem_mem hjl))
       generalize m.ln.getD j ln0 = y at hc HP HT HYb
       have q0 : wr.cell? ⟨g, off + j * 3, none⟩ = some (.int .i64 y.1.1) := hc 0 _ rfl
       have q1 : wr.cell? ⟨g, off + j * 3 + 1, none⟩ = some (.slice a1 y.1.2.length k1) := hc 1 _ rfl
       have q2 : wr.cell? ⟨g, off + j * 3 + 2, none⟩ = some (.slice a2 y.2.length k2) := hc 2 _ rfl
       have hw : IntKind.i64.wrap ((j : Int) + 1) = (j : Int) + 1 := wrap_small _ (by omega) (by omega)
       clear hj hjn hjl hR2 hp hg hc
       have HC1 : Hid (∀ u : World, Below wr.heap.size wr u → Calls Tryz.prog 77 #[.agg #[.int .i64 y.1.1, .slice a1 y.1.2.length k1]] u fun e w' => e = .returned (.bool (rightC y.1.1 y.1.2)) ∧ Below u.heap.size u w') := hid (fun u hu => cright_any _ _ _ _ _ rfl HYb.out.2.1.1 u (HP.out.1.keep hu (Nat.le_refl _)))
       have HC2 : Hid (∀ u : World, Below wr.heap.size wr u → Calls Tryz.prog 171 #[.slice a2 y.2.length k2] u fun e w' => e = .returned (.bool (sigsB y.2)) ∧ Below u.heap.size u w') := hid (fun u hu => ifitSigs_any _ _ _ _ rfl HYb.out.2.2.1 u (HP.out.2.keep hu (Nat.le_refl _)))
       by_cases hvw : ¬ y.1.1 = (j : Int) + 1
       · have hf := hid (HFa.out (by rw [HT.out, decide_eq_false hvw]; rfl))
         have hvb : (y.1.1 == (j : Int) + 1) = false := by simpa using hvw
         have hvn : (y.1.1 != (j : Int) + 1) = true := by rw [bne, hvb]; rfl
         go_wp2_with (first
           | (refine wl_store_blk rfl 74 _ _ rfl wr.heap.size 0 rfl #[.int .i64 y.1.1, .slice a1 y.1.2.length k1, .slice a2 y.2.length k2] rfl [.int .i64 0, .slice none 0 0, .slice none 0 0] 74 (heap_alloc_last wr _) (by simp) (by kernel_rfl) (by simp [Value.oneCell']) ?_; intro w1 Hz; have H1 : Hid (BxAt w1 wr.heap.size [.int .i64 y.1.1, .slice a1 y.1.2.length k1, .slice a2 y.2.length k2] 74 ∧ Below wr.heap.size wr w1) := hid ⟨Hz.out.1, Hz.out.2.below ((Below.refl wr.heap.size wr).alloc (Nat.le_refl _) _) (Nat.le_refl _)⟩; clear Hz q0 q1 q2; have d0 := H1.out.1.cell 0 _ rfl; have d1 := H1.out.1.cell 1 _ rfl; have d2 := H1.out.1.cell 2 _ rfl))
         go_ret
         exact ⟨by rw [hf.out]; rfl, HBw.out.trans (H1.out.2.mono HBw.out.size)⟩
       replace hvw : y.1.1 = (j : Int) + 1 := Classical.not_not.1 hvw
       have HT1 : Hid (lnAt m.ln j = (rightC y.1.1 y.1.2 && sigsB y.2)) := hid (by rw [HT.out, decide_eq_true hvw]; rfl)
       have hvb : (y.1.1 == (j : Int) + 1) = true := by simpa using hvw
       have hvn : (y.1.1 != (j : Int) + 1) = false := by rw [bne, hvb]; rfl
       clear HT hvw
       cases hct : rightC y.1.1 y.1.2 with
       | false =>
         rw [hct] at HC1 HT1
         have hf := hid (HFa.out HT1.out)
         clear hct
         go_wp2_with (first
           | (refine wl_store_blk rfl 74 _ _ rfl wr.heap.size 0 rfl #[.int .i64 y.1.1, .slice a1 y.1.2.length k1, .slice a2 y.2.length k2] rfl [.int .i64 0, .slice none 0 0, .slice none 0 0] 74 (heap_alloc_last wr _) (by simp) (by kernel_rfl) (by simp [Value.oneCell']) ?_; intro w1 Hz; have H1 : Hid (BxAt w1 wr.heap.size [.int .i64 y.1.1, .slice a1 y.1.2.length k1, .slice a2 y.2.length k2] 74 ∧ Below wr.heap.size wr w1) := hid ⟨Hz.out.1, Hz.out.2.below ((Below.refl wr.heap.size wr).alloc (Nat.le_refl _) _) (Nat.le_refl _)⟩; clear Hz q0 q1 q2; have d0 := H1.out.1.cell 0 _ rfl; have d1 := H1.out.1.cell 1 _ rfl; have d2 := H1.out.1.cell 2 _ rfl)
           | (go_at_call 77; refine (HC1.out _ H1.out.2).mono ?_; rintro e w2 ⟨rfl, hb⟩; have H2 := hid (And.intro (H1.out.1.keep hb) (H1.out.2.trans (hb.mono H1.out.2.size))); clear hb d0 d1 d2; have d0 := H2.out.1.cell 0 _ rfl; have d1 := H2.out.1.cell 1 _ rfl; have d2 := H2.out.1.cell 2 _ rfl))
         go_ret
         exact ⟨by rw [hf.out]; rfl, HBw.out.trans (H2.out.2.mono HBw.out.size)⟩
       | true =>
         rw [hct] at HC1 HT1
         clear hct
         cases hcs : sigsB y.2 with
         | false =>
           rw [hcs] at HC2 HT1
           have hf := hid (HFa.out HT1.out)
           clear hcs
           go_wp2_with (first
             | (refine wl_store_blk rfl 74 _ _ rfl wr.heap.size 0 rfl #[.int .i64 y.1.1, .slice a1 y.1.2.length k1, .slice a2 y.2.length k2] rfl [.int .i64 0, .slice none 0 0, .slice none 0 0] 74 (heap_alloc_last wr _) (by simp) (by kernel_rfl) (by simp [Value.oneCell']) ?_; intro w1 Hz; have H1 : Hid (BxAt w1 wr.heap.size [.int .i64 y.1.1, .slice a1 y.1.2.length k1, .slice a2 y.2.length k2] 74 ∧ Below wr.heap.size wr w1) := hid ⟨Hz.out.1, Hz.out.2.below ((Below.refl wr.heap.size wr).alloc (Nat.le_refl _) _) (Nat.le_refl _)⟩; clear Hz q0 q1 q2; have d0 := H1.out.1.cell 0 _ rfl; have d1 := H1.out.1.cell 1 _ rfl; have d2 := H1.out.1.cell 2 _ rfl)
             | (go_at_call 77; refine (HC1.out _ H1.out.2).mono ?_; rintro e w2 ⟨rfl, hb⟩; have H2 := hid (And.intro (H1.out.1.keep hb) (H1.out.2.trans (hb.mono H1.out.2.size))); clear hb d0 d1 d2; have d0 := H2.out.1.cell 0 _ rfl; have d1 := H2.out.1.cell 1 _ rfl; have d2 := H2.out.1.cell 2 _ rfl)
             | (go_at_call 171; refine (HC2.out _ H2.out.2).mono ?_; rintro e w3 ⟨rfl, hb⟩; have H3 := hid (H2.out.2.trans (hb.mono H2.out.2.size)); clear hb d0 d1 d2))
           go_ret
           exact ⟨by rw [hf.out]; rfl, HBw.out.trans (H3.out.mono HBw.out.size)⟩
         | true =>
           rw [hcs] at HC2 HT1
           have hp := hid (HTr.out HT1.out)
           clear hcs
           go_wp2_with (first
             | (refine wl_store_blk rfl 74 _ _ rfl wr.heap.size 0 rfl #[.int .i64 y.1.1, .slice a1 y.1.2.length k1, .slice a2 y.2.length k2] rfl [.int .i64 0, .slice none 0 0, .slice none 0 0] 74 (heap_alloc_last wr _) (by simp) (by kernel_rfl) (by simp [Value.oneCell']) ?_; intro w1 Hz; have H1 : Hid (BxAt w1 wr.heap.size [.int .i64 y.1.1, .slice a1 y.1.2.length k1, .slice a2 y.2.length k2] 74 ∧ Below wr.heap.size wr w1) := hid ⟨Hz.out.1, Hz.out.2.below ((Below.refl wr.heap.size wr).alloc (Nat.le_refl _) _) (Nat.le_refl _)⟩; clear Hz q0 q1 q2; have d0 := H1.out.1.cell 0 _ rfl; have d1 := H1.out.1.cell 1 _ rfl; have d2 := H1.out.1.cell 2 _ rfl)
             | (go_at_call 77; refine (HC1.out _ H1.out.2).mono ?_; rintro e w2 ⟨rfl, hb⟩; have H2 := hid (And.intro (H1.out.1.keep hb) (H1.out.2.trans (hb.mono H1.out.2.size))); clear hb d0 d1 d2; have d0 := H2.out.1.cell 0 _ rfl; have d1 := H2.out.1.cell 1 _ rfl; have d2 := H2.out.1.cell 2 _ rfl)
             | (go_at_call 171; refine (HC2.out _ H2.out.2).mono ?_; rintro e w3 ⟨rfl, hb⟩; have H3 := hid (H2.out.2.trans (hb.mono H2.out.2.size)); clear hb d0 d1 d2))
           go_roundw
           case rel => exact ⟨j + 1, by have := HJ.out; omega, by go_num, hp.out, HB.out.trans (H3.out.mono HB.out.size)⟩
           case measure => simp [intOf]; omega
end
section
set_option maxRecDepth 100000
open Go.RowKit
set_option maxHeartbeats 3200000 in
theorem iplaced_any (m : Ms) (h0 : 0 ≤ m.ep) (h1 : m.ep ≤ 60) (v13 v14 v15 v16 : Value) (w : World) :
   Calls Tryz.prog 163 #[.agg #[.int .i64 m.k, .int .i64 m.ep, .int .i64 m.v, .int .i64 m.sl, .int .i64 m.rq.c, .int .i64 m.rq.st, .int .i64 m.rq.k, .string m.rq.key, .float .f64 m.rq.b, .int .i64 m.rq.id, .int .i64 m.rs.1, .float .f64 m.rs.2, .string m.tx, v13, v14, v15, v16]] w fun e w' => e = .returned (.bool (placeB m)) ∧ Below w.heap.size w w' := by
 have H0 : Hid (BxAt (w.alloc (.cells #[.int .i64 m.k, .int .i64 m.ep, .int .i64 m.v, .int .i64 m.sl, .int .i64 m.rq.c, .int .i64 m.rq.st, .int .i64 m.rq.k, .string m.rq.key, .float .f64 m.rq.b, .int .i64 m.rq.id, .int .i64 m.rs.1, .float .f64 m.rs.2, .string m.tx, v13, v14, v15, v16] 48)) w.heap.size [.int .i64 m.k, .int .i64 m.ep, .int .i64 m.v, .int .i64 m.sl, .int .i64 m.rq.c, .int .i64 m.rq.st, .int .i64 m.rq.k, .string m.rq.key, .float .f64 m.rq.b, .int .i64 m.rq.id, .int .i64 m.rs.1, .float .f64 m.rs.2, .string m.tx, v13, v14, v15, v16] 48 ∧ Below w.heap.size w (w.alloc (.cells #[.int .i64 m.k, .int .i64 m.ep, .int .i64 m.v, .int .i64 m.sl, .int .i64 m.rq.c, .int .i64 m.rq.st, .int .i64 m.rq.k, .string m.rq.key, .float .f64 m.rq.b, .int .i64 m.rq.id, .int .i64 m.rs.1, .float .f64 m.rs.2, .string m.tx, v13, v14, v15, v16] 48))) := hid ⟨heap_alloc_last w _, (Below.refl w.heap.size w).alloc (Nat.le_refl _) _⟩
 have y0 := H0.out.1.cell 0 _ rfl; have y1 := H0.out.1.cell 1 _ rfl; have y2 := H0.out.1.cell 2 _ rfl; have y3 := H0.out.1.cell 3 _ rfl; have y4 := H0.out.1.cell 4 _ rfl; have y5 := H0.out.1.cell 5 _ rfl; have y6 := H0.out.1.cell 6 _ rfl; have y7 := H0.out.1.cell 7 _ rfl; have y8 := H0.out.1.cell 8 _ rfl; have y9 := H0.out.1.cell 9 _ rfl; have y10 := H0.out.1.cell 10 _ rfl; have y11 := H0.out.1.cell 11 _ rfl; have y12 := H0.out.1.cell 12 _ rfl; have y13 := H0.out.1.cell 13 _ rfl; have y14 := H0.out.1.cell 14 _ rfl; have y15 := H0.out.1.cell 15 _ rfl; have y16 := H0.out.1.cell 16 _ rfl
 obtain ⟨B1, e1⟩ : ∃ B, B = inB m.v 0 15 := ⟨_, rfl⟩
 have HT1 : Hid (∀ u : World, Below w.heap.size w u → Calls Tryz.prog 184 #[.int .i64 m.v] u fun e w' => e = .returned (.bool B1) ∧ Below u.heap.size u w') := hid (fun u hu => by rw [e1]; exact (iview_any _ u).mono fun e w' ⟨h1, h2⟩ => ⟨h1, by rw [h2]; exact Below.refl _ _⟩)
 obtain ⟨B2, e2⟩ : ∃ B, B = ofB m.ep m.sl := ⟨_, rfl⟩
 have HT2 : Hid (∀ u : World, Below w.heap.size w u → Calls Tryz.prog 185 #[.int .i64 m.ep, .int .i64 m.sl] u fun e w' => e = .returned (.bool B2) ∧ Below u.heap.size u w') := hid (fun u hu => by rw [e2]; exact (iof_any m.ep _ h0 h1 u).mono fun e w' ⟨h1, h2⟩ => ⟨h1, by rw [h2]; exact Below.refl _ _⟩)
 rw [show placeB m = (B1 && B2) by rw [e1, e2]; rfl]
 clear e1 e2 h0 h1
 cases B1 with
 | false =>
   go_enter Tryz.func163, Tryz.ntmps163
   go_wp2_with (first
     | (have := H0; go_at_call 184; refine (HT1.out _ H0.out.2).mono ?_; rintro e w1 ⟨rfl, hb⟩; have H1 := hid (And.intro (H0.out.1.keep hb) (H0.out.2.trans (hb.mono H0.out.2.size))); clear hb y0 y1 y2 y3 y4 y5 y6 y7 y8 y9 y10 y11 y12 y13 y14 y15 y16; have y0 := H1.out.1.cell 0 _ rfl; have y1 := H1.out.1.cell 1 _ rfl; have y2 := H1.out.1.cell 2 _ rfl; have y3 := H1.out.1.cell 3 _ rfl; have y4 := H1.out.1.cell 4 _ rfl; have y5 := H1.out.1.cell 5 _ rfl; have y6 := H1.out.1.cell 6 _ rfl; have y7 := H1.out.1.cell 7 _ rfl; have y8 := H1.out.1.cell 8 _ rfl; have y9 := H1.out.1.cell 9 _ rfl; have y10 := H1.out.1.cell 10 _ rfl; have y11 := H1.out.1.cell 11 _ rfl; have y12 := H1.out.1.cell 12 _ rfl; have y13 := H1.out.1.cell 13 _ rfl; have y14 := H1.out.1.cell 14 _ rfl; have y15 := H1.out.1.cell 15 _ rfl; have y16 := H1.out.1.cell 16 _ rfl))
   go_ret
   exact ⟨by simp, H1.out.2⟩
 | true =>
   cases B2 with
   | false =>
     go_enter Tryz.func163, Tryz.ntmps163
     go_wp2_with (first
       | (have := H1; go_at_call 185; refine (HT2.out _ H1.out.2).mono ?_; rintro e w2 ⟨rfl, hb⟩; have H2 := hid (And.intro (H1.out.1.keep hb) (H1.out.2.trans (hb.mono H1.out.2.size))); clear hb y0 y1 y2 y3 y4 y5 y6 y7 y8 y9 y10 y11 y12 y13 y14 y15 y16; have y0 := H2.out.1.cell 0 _ rfl; have y1 := H2.out.1.cell 1 _ rfl; have y2 := H2.out.1.cell 2 _ rfl; have y3 := H2.out.1.cell 3 _ rfl; have y4 := H2.out.1.cell 4 _ rfl; have y5 := H2.out.1.cell 5 _ rfl; have y6 := H2.out.1.cell 6 _ rfl; have y7 := H2.out.1.cell 7 _ rfl; have y8 := H2.out.1.cell 8 _ rfl; have y9 := H2.out.1.cell 9 _ rfl; have y10 := H2.out.1.cell 10 _ rfl; have y11 := H2.out.1.cell 11 _ rfl; have y12 := H2.out.1.cell 12 _ rfl; have y13 := H2.out.1.cell 13 _ rfl; have y14 := H2.out.1.cell 14 _ rfl; have y15 := H2.out.1.cell 15 _ rfl; have y16 := H2.out.1.cell 16 _ rfl)
       | (have := H0; go_at_call 184; refine (HT1.out _ H0.out.2).mono ?_; rintro e w1 ⟨rfl, hb⟩; have H1 := hid (And.intro (H0.out.1.keep hb) (H0.out.2.trans (hb.mono H0.out.2.size))); clear hb y0 y1 y2 y3 y4 y5 y6 y7 y8 y9 y10 y11 y12 y13 y14 y15 y16; have y0 := H1.out.1.cell 0 _ rfl; have y1 := H1.out.1.cell 1 _ rfl; have y2 := H1.out.1.cell 2 _ rfl; have y3 := H1.out.1.cell 3 _ rfl; have y4 := H1.out.1.cell 4 _ rfl; have y5 := H1.out.1.cell 5 _ rfl; have y6 := H1.out.1.cell 6 _ rfl; have y7 := H1.out.1.cell 7 _ rfl; have y8 := H1.out.1.cell 8 _ rfl; have y9 := H1.out.1.cell 9 _ rfl; have y10 := H1.out.1.cell 10 _ rfl; have y11 := H1.out.1.cell 11 _ rfl; have y12 := H1.out.1.cell 12 _ rfl; have y13 := H1.out.1.cell 13 _ rfl; have y14 := H1.out.1.cell 14 _ rfl; have y15 := H1.out.1.cell 15 _ rfl; have y16 := H1.out.1.cell 16 _ rfl))
     go_ret
     exact ⟨by simp, H2.out.2⟩
   | true =>
     go_enter Tryz.func163, Tryz.ntmps163
     go_wp2_with (first
       | (have := H1; go_at_call 185; refine (HT2.out _ H1.out.2).mono ?_; rintro e w2 ⟨rfl, hb⟩; have H2 := hid (And.intro (H1.out.1.keep hb) (H1.out.2.trans (hb.mono H1.out.2.size))); clear hb y0 y1 y2 y3 y4 y5 y6 y7 y8 y9 y10 y11 y12 y13 y14 y15 y16; have y0 := H2.out.1.cell 0 _ rfl; have y1 := H2.out.1.cell 1 _ rfl; have y2 := H2.out.1.cell 2 _ rfl; have y3 := H2.out.1.cell 3 _ rfl; have y4 := H2.out.1.cell 4 _ rfl; have y5 := H2.out.1.cell 5 _ rfl; have y6 := H2.out.1.cell 6 _ rfl; have y7 := H2.out.1.cell 7 _ rfl; have y8 := H2.out.1.cell 8 _ rfl; have y9 := H2.out.1.cell 9 _ rfl; have y10 := H2.out.1.cell 10 _ rfl; have y11 := H2.out.1.cell 11 _ rfl; have y12 := H2.out.1.cell 12 _ rfl; have y13 := H2.out.1.cell 13 _ rfl; have y14 := H2.out.1.cell 14 _ rfl; have y15 := H2.out.1.cell 15 _ rfl; have y16 := H2.out.1.cell 16 _ rfl)
       | (have := H0; go_at_call 184; refine (HT1.out _ H0.out.2).mono ?_; rintro e w1 ⟨rfl, hb⟩; have H1 := hid (And.intro (H0.out.1.keep hb) (H0.out.2.trans (hb.mono H0.out.2.size))); clear hb y0 y1 y2 y3 y4 y5 y6 y7 y8 y9 y10 y11 y12 y13 y14 y15 y16; have y0 := H1.out.1.cell 0 _ rfl; have y1 := H1.out.1.cell 1 _ rfl; have y2 := H1.out.1.cell 2 _ rfl; have y3 := H1.out.1.cell 3 _ rfl; have y4 := H1.out.1.cell 4 _ rfl; have y5 := H1.out.1.cell 5 _ rfl; have y6 := H1.out.1.cell 6 _ rfl; have y7 := H1.out.1.cell 7 _ rfl; have y8 := H1.out.1.cell 8 _ rfl; have y9 := H1.out.1.cell 9 _ rfl; have y10 := H1.out.1.cell 10 _ rfl; have y11 := H1.out.1.cell 11 _ rfl; have y12 := H1.out.1.cell 12 _ rfl; have y13 := H1.out.1.cell 13 _ rfl; have y14 := H1.out.1.cell 14 _ rfl; have y15 := H1.out.1.cell 15 _ rfl; have y16 := H1.out.1.cell 16 _ rfl))
     go_ret
     exact ⟨by simp, H2.out.2⟩
def setB (f one : Int) : Bool := bits BinOp.and IntKind.i64 f one != 0
theorem ihas_any (f one : Int) (w : World) : Calls Tryz.prog 183 #[.int .i64 f, .int .i64 one] w fun e w' => e = .returned (.bool (setB f one)) ∧ w' = w := by
 go_enter Tryz.func183, Tryz.ntmps183
 go_wp2
 go_ret
 exact ⟨rfl, rfl⟩
end
section
open Go.RowKit
structure Pv (c : Nat) (w0 : World) (H : List (Nat × Obj)) (w : World) (l : List UInt8) : Prop where
 wr : ∃ (v : Value) (l' : List UInt8) (er : Int), WrAt w c v 65536 l' er ∧ l'.length ≤ 65536 ∧ ((er = 0 ∧ l' = l) ∨ (er ≠ 0 ∧ 65536 < l.length)) ∧ ∀ p, p ∈ H → v.ownBlock ≠ some p.1
 hold : ∀ p, p ∈ H → p.1 ≠ c ∧ w.heap[p.1]? = some p.2
 bel : Below c w0 w
theorem Pv.lt {c : Nat} {w0 : World} {H : List (Nat × Obj)} {w : World} {l : List UInt8} (h : Pv c w0 H w l) : c < w.heap.size := by
 obtain ⟨v, l', er, hw, _⟩ := h.wr
 exact hw.lt
theorem Pv.under {c : Nat} {w0 : World} {H : List (Nat × Obj)} {w w' : World} {l : List UInt8} (h : Pv c w0 H w l) (hb : Below w.heap.size w w') : Pv c w0 H w' l := by
 obtain ⟨v, l', er, hw, h1, h2, h3⟩ := h.wr
 exact ⟨⟨v, l', er, ⟨(hb.block c hw.lt).trans hw.blk, ownsRow_keep hw.own hb⟩, h1, h2, h3⟩, fun p hp => ⟨(h.hold p hp).1, (hb.block p.1 (heap_lt (h.hold p hp).2)).trans (h.hold p hp).2⟩, h.bel.trans (hb.mono (Nat.le_of_lt hw.lt))⟩
theorem Pv.alloc {c : Nat} {w0 : World} {H : List (Nat × Obj)} {w : World} {l : List UInt8} (h : Pv c w0 H w l) (o : Obj) : Pv c w0 H (w.alloc o) l := h.under ((Below.refl w.heap.size w).alloc (Nat.le_refl _) _)
theorem Pv.push {c : Nat} {w0 : World} {H : List (Nat × Obj)} {w : World} {l : List UInt8} (h : Pv c w0 H w l) (o : Obj) : Pv c w0 ((w.heap.size, o) :: H) (w.alloc o) l := by
 have ha := h.alloc o
 obtain ⟨v, l', er, hw, h1, h2, h3⟩ := h.wr
 refine ⟨⟨v, l', er, ⟨(Below.heap_alloc w o c hw.lt).trans hw.blk, hw.own.alloc o⟩, h1, h2, fun p hp => ?_⟩, fun p hp => ?_, ha.bel⟩
 · rcases List.mem_cons.1 hp with rfl | hp
   · intro e
     have := (hw.own.lt _ e).2
     exact Nat.lt_irrefl _ this
   · exact h3 p hp
 · rcases List.mem_cons.1 hp with rfl | hp
   · exact ⟨Nat.ne_of_gt hw.lt, heap_alloc_last w o⟩
   · exact ha.hold p hp
theorem Pv.pop {c : Nat} {w0 : World} {q : Nat × Obj} {H : List (Nat × Obj)} {w : World} {l : List UInt8} (h : Pv c w0 (q :: H) w l) : Pv c w0 H w l := by
 obtain ⟨v, l', er, hw, h1, h2, h3⟩ := h.wr
 exact ⟨⟨v, l', er, hw, h1, h2, fun p hp => h3 p (List.mem_cons_of_mem _ hp)⟩, fun p hp => h.hold p (List.mem_cons_of_mem _ hp), h.bel⟩
theorem Pv.top {c : Nat} {w0 : World} {q : Nat × Obj} {H : List (Nat × Obj)} {w : World} {l : List UInt8} (h : Pv c w0 (q :: H) w l) : w.heap[q.1]? = some q.2 := (h.hold q (List.mem_cons_self ..)).2
theorem Pv.box {c : Nat} {w0 : World} {b : Nat} {L : List Value} {T : TypeId} {H : List (Nat × Obj)} {w : World} {l : List UInt8} (h : Pv c w0 ((b, .cells L.toArray T (0, 0)) :: H) w l) : BxAt w b L T := h.top
theorem Pv.step {c : Nat} {w0 : World} {H : List (Nat × Obj)} {w w' : World} {l l2 : List UInt8} {v v' : Value} {l1 l1' : List UInt8} {er er' : Int} (h : Pv c w0 H w l) (hw : WrAt w c v 65536 l1 er) (hH : ∀ p, p ∈ H → v.ownBlock ≠ some p.1) (hw' : WrAt w' c v' 65536 l1' er') (hl : l1'.length ≤ 65536) (hs : (er' = 0 ∧ l1' = l2) ∨ (er' ≠ 0 ∧ 65536 < l2.length)) (hk : Kept c v.ownBlock w w') (hm : Moved w v v') : Pv c w0 H w' l2 := by
 refine ⟨⟨v', l1', er', hw', hl, hs, fun p hp e => ?_⟩, fun p hp => ⟨(h.hold p hp).1, ?_⟩, h.bel.trans (hk.below (Nat.le_of_lt hw.lt) (Nat.le_refl _) (fun g hg => by have := (hw.own.lt g hg).1; omega))⟩
 · rcases hm with hm | ⟨g, hg, hg2⟩
   · exact hH p hp (hm ▸ e)
   · rw [hg] at e
     cases e
     have := heap_lt (h.hold p hp).2
     omega
 · rw [hk.block p.1 (heap_lt (h.hold p hp).2) (h.hold p hp).1 (fun e => hH p hp e.symm)]
   exact (h.hold p hp).2
theorem pv_num {l1 l : List UInt8} {er : Int} (s : Nat) (z : Int) (hz : inR s z = true) (hl : l1.length ≤ 65536) (hs : (er = 0 ∧ l1 = l) ∨ (er ≠ 0 ∧ 65536 < l.length)) : (wL 65536 l1 er s z).length ≤ 65536 ∧ ((wE 65536 l1 er s z = 0 ∧ wL 65536 l1 er s z = l ++ be s z.toNat) ∨ (wE 65536 l1 er s z ≠ 0 ∧ 65536 < (l ++ be s z.toNat).length)) := by
 unfold wL wE
 rw [hz, List.length_append, be_len]
 rcases hs with ⟨rfl, rfl⟩ | ⟨he, hg⟩
 · by_cases h : (65536 : Int) - l1.length < s
   · rw [adm_long _ _ _ h, if_neg (by decide)]
     exact ⟨hl, .inr ⟨by decide, by omega⟩⟩
   · rw [adm_ok _ _ _ h, if_pos rfl]
     exact ⟨by rw [List.length_append, be_len]; omega, .inl ⟨rfl, rfl⟩⟩
 · rw [adm_er _ _ _ _ _ he, if_neg he]
   exact ⟨hl, .inr ⟨he, by omega⟩⟩
theorem pv_text {l1 l : List UInt8} {er : Int} (s : ByteArray) (hl : l1.length ≤ 65536) (hs : (er = 0 ∧ l1 = l) ∨ (er ≠ 0 ∧ 65536 < l.length)) : (xL 65536 l1 er s).length ≤ 65536 ∧ ((xE 65536 l1 er s = 0 ∧ xL 65536 l1 er s = l ++ txL s) ∨ (xE 65536 l1 er s ≠ 0 ∧ 65536 < (l ++ txL s).length)) ∧ (xE 65536 l1 er s = 0 → l1.length + (2 + s.size) ≤ 140737488355328) := by
 have ht : (txL s).length = 2 + s.size := by rw [txL, List.length_append, be_len, data_len]
 unfold xL xE
 rw [List.length_append, ht]
 rcases hs with ⟨rfl, rfl⟩ | ⟨he, hg⟩
 · by_cases h1 : s.size ≤ 65535
   · rw [decide_eq_true h1]
     by_cases h : (65536 : Int) - l1.length < 2 + (s.size : Int)
     · rw [adm_long _ _ _ h, if_neg (by decide)]
       exact ⟨hl, .inr ⟨by decide, by omega⟩, fun _ => by omega⟩
     · rw [adm_ok _ _ _ h, if_pos rfl]
       exact ⟨by rw [List.length_append, List.length_append, be_len, data_len]; omega, .inl ⟨rfl, rfl⟩, fun _ => by omega⟩
   · rw [decide_eq_false h1, adm_bad, if_neg (by decide)]
     exact ⟨hl, .inr ⟨by decide, by omega⟩, fun e => by cases e⟩
 · rw [adm_er _ _ _ _ _ he, if_neg he]
   exact ⟨hl, .inr ⟨he, by omega⟩, fun e => absurd e he⟩
set_option maxHeartbeats 800000 in
theorem wtext_long (b : Nat) (v : Value) (l : List UInt8) (er : Int) (s : ByteArray) (w : World) (h : WrAt w b v 65536 l er) (hl : l.length ≤ 65536) (hs : 65535 < s.size) :
   Calls Tryz.prog 120 #[.pointer (some ⟨b, 0, none⟩), .string s] w fun e w' => e = .returned (.tuple #[]) ∧ ∃ v', WrAt w' b v' 65536 l (xE 65536 l er s) ∧ Kept b v.ownBlock w w' ∧ Moved w v v' := by
 obtain ⟨E, eE⟩ : ∃ E, E = xE 65536 l er s := ⟨_, rfl⟩
 have hd : E ≠ 0 := by
   rw [eE, xE, decide_eq_false (by omega)]
   unfold adm
   split
   · simp
   · assumption
 rw [← eE]
 have HA : Hid (∀ size : Int, Calls Tryz.prog 153 #[.pointer (some ⟨b, 0, none⟩), .bool false, .int .i64 size] w fun e w' => e = .returned (.bool false) ∧ WrAt w' b v 65536 l E ∧ Kept b none w w') := hid (fun size => by
   have ha := admits_any b v 65536 l er false size w h (by decide) (by decide) (by omega)
   have he : adm 65536 l.length er false size = E := by
     rw [eE, xE, decide_eq_false (by omega)]
     unfold adm
     rfl
   rw [he, decide_eq_false hd] at ha
   exact ha)
 have hi : ¬ ((s.size : Int) ≤ 65535) := by omega
 have hi2 : decide ((s.size : Int) ≤ 65535) = false := decide_eq_false hi
 clear h eE hd hl hs
 go_enter Tryz.func120, Tryz.ntmps120
 go_wp2_with fail
 refine (HA.out _).mono ?_
 rintro e w1 ⟨rfl, hr, hk⟩
 have HR := hid hr
 have HK := hid hk
 clear hr hk
 go_wp2
 go_end0
 exact ⟨rfl, v, HR.out, kept_none HK.out, Moved.refl _ _⟩
theorem pvnew (H : List (Nat × Obj)) (w : World) (hH : ∀ p, p ∈ H → w.heap[p.1]? = some p.2) : Calls Tryz.prog 117 #[.int .i64 65536] w fun e w' => e = .returned (.pointer (some ⟨w.heap.size, 0, none⟩)) ∧ Pv w.heap.size w H w' [] := by
 refine (new_any 65536 w).mono ?_
 rintro e w' ⟨rfl, rfl⟩
 have hb : Below w.heap.size w (w.alloc (.cells #[.int .i64 (max 65536 0), .slice none 0 0, .int .i64 0] 202)) := (Below.refl _ _).alloc (Nat.le_refl _) _
 exact ⟨rfl, ⟨_, [], 0, ⟨heap_alloc_last w _, ⟨rfl, .inl ⟨rfl, rfl⟩⟩⟩, by decide, .inl ⟨rfl, rfl⟩, fun p _ e => by cases e⟩, fun p hp => ⟨Nat.ne_of_lt (heap_lt (hH p hp)), (hb.block p.1 (heap_lt (hH p hp))).trans (hH p hp)⟩, hb⟩
theorem pvbyte (c : Nat) (w0 : World) (H : List (Nat × Obj)) (w : World) (l : List UInt8) (z : Int) (h0 : 0 ≤ z) (h1 : z < 256) (h : Pv c w0 H w l) :
   Calls Tryz.prog 118 #[.pointer (some ⟨c, 0, none⟩), .int .i64 z] w fun e w' => e = .returned (.tuple #[]) ∧ Pv c w0 H w' (l ++ be 1 z.toNat) := by
 obtain ⟨v, l', er, hw, hl, hs, hH⟩ := h.wr
 refine (wbyte_any c v 65536 l' er z w hw (by decide) (by decide) (by omega) (by omega)).mono ?_
 rintro e w' ⟨rfl, v', h', hk, hm⟩
 obtain ⟨k1, k2⟩ := pv_num 1 z (inR_of h0 (by omega)) hl hs
 exact ⟨rfl, h.step hw hH h' k1 k2 hk hm⟩
theorem pvword (c : Nat) (w0 : World) (H : List (Nat × Obj)) (w : World) (l : List UInt8) (z : Int) (h0 : 0 ≤ z) (h1 : z < 65536) (h : Pv c w0 H w l) :
   Calls Tryz.prog 172 #[.pointer (some ⟨c, 0, none⟩), .int .i64 z] w fun e w' => e = .returned (.tuple #[]) ∧ Pv c w0 H w' (l ++ be 2 z.toNat) := by
 obtain ⟨v, l', er, hw, hl, hs, hH⟩ := h.wr
 refine (wword_any c v 65536 l' er z w hw (by decide) (by decide) (by omega) (by omega)).mono ?_
 rintro e w' ⟨rfl, v', h', hk, hm⟩
 obtain ⟨k1, k2⟩ := pv_num 2 z (inR_of h0 (by omega)) hl hs
 exact ⟨rfl, h.step hw hH h' k1 k2 hk hm⟩
theorem pvtext (c : Nat) (w0 : World) (H : List (Nat × Obj)) (w : World) (l : List UInt8) (s : ByteArray) (h : Pv c w0 H w l) :
   Calls Tryz.prog 120 #[.pointer (some ⟨c, 0, none⟩), .string s] w fun e w' => e = .returned (.tuple #[]) ∧ Pv c w0 H w' (l ++ txL s) := by
 obtain ⟨v, l', er, hw, hl, hs, hH⟩ := h.wr
 obtain ⟨k1, k2, k3⟩ := pv_text s hl hs
 by_cases hb : s.size ≤ 65535
 · refine (wtext_any c v 65536 l' er s w hw (by decide) (by decide) (by omega) (by omega) k3).mono ?_
   rintro e w' ⟨rfl, v', h', hk, hm⟩
   exact ⟨rfl, h.step hw hH h' k1 k2 hk hm⟩
 · refine (wtext_long c v l' er s w hw hl (by omega)).mono ?_
   rintro e w' ⟨rfl, v', h', hk, hm⟩
   have hx : xE 65536 l' er s ≠ 0 := by
     rw [xE, decide_eq_false hb]
     unfold adm
     split
     · simp
     · assumption
   exact ⟨rfl, h.step hw hH h' hl (k2.elim (fun z => absurd z.1 hx) .inr) hk hm⟩
theorem pvdone (c : Nat) (w0 : World) (H : List (Nat × Obj)) (w : World) (l : List UInt8) (h : Pv c w0 H w l) :
   Calls Tryz.prog 123 #[.pointer (some ⟨c, 0, none⟩)] w fun e w' => (∃ (s : ByteArray) (er : Int), e = .returned (.tuple #[.string s, .int .i64 er]) ∧ ((l.length ≤ 65536 ∧ er = 0 ∧ s = ⟨l.toArray⟩) ∨ (65536 < l.length ∧ er ≠ 0))) ∧ Below w.heap.size w w' := by
 obtain ⟨v, l', er, hw, hl, hs, hH⟩ := h.wr
 rcases hs with ⟨rfl, rfl⟩ | ⟨he, hg⟩
 · refine (done_ok c v 65536 l' w hw).mono ?_
   rintro e w' ⟨rfl, rfl⟩
   exact ⟨⟨_, 0, rfl, .inl ⟨hl, rfl, rfl⟩⟩, Below.refl _ _⟩
 · refine (done_err c v 65536 l' er w hw (by simpa using he)).mono ?_
   rintro e w' ⟨rfl, rfl⟩
   exact ⟨⟨_, er, rfl, .inr ⟨hg, he⟩⟩, (Below.refl _ _).drew⟩
end
section
set_option maxRecDepth 100000
open Go.RowKit
theorem Pv.put {c : Nat} {w0 : World} {H : List (Nat × Obj)} {w w1 : World} {l : List UInt8} {o : Obj} (h : Pv c w0 H w l) (hb : Below w.heap.size w w1) (ho : w1.heap[w.heap.size]? = some o) : Pv c w0 ((w.heap.size, o) :: H) w1 l := by
 have h1 := h.under hb
 obtain ⟨v, l', er, hw, a1, a2, a3⟩ := h.wr
 refine ⟨⟨v, l', er, ⟨(hb.block c hw.lt).trans hw.blk, ownsRow_keep hw.own hb⟩, a1, a2, fun p hp => ?_⟩, fun p hp => ?_, h1.bel⟩
 · rcases List.mem_cons.1 hp with rfl | hp
   · intro e
     exact Nat.lt_irrefl _ (hw.own.lt _ e).2
   · exact a3 p hp
 · rcases List.mem_cons.1 hp with rfl | hp
   · exact ⟨Nat.ne_of_gt hw.lt, ho⟩
   · exact h1.hold p hp
set_option maxHeartbeats 1600000 in
theorem iwsig_any (c : Nat) (w0 : World) (H : List (Nat × Obj)) (p : Sg) (h0 : 0 ≤ p.1) (h1 : p.1 < 256) (w : World) (l : List UInt8) (h : Pv c w0 H w l) :
   Calls Tryz.prog 188 #[.pointer (some ⟨c, 0, none⟩), .agg #[.int .i64 p.1, .string p.2]] w fun e w' => e = .returned (.tuple #[]) ∧ Pv c w0 H w' (l ++ sigL p) := by
 have H1 : Hid (Pv c w0 ((w.heap.size, .cells #[.int .i64 p.1, .string p.2] 139 (0, 0)) :: H) (w.alloc (.cells #[.int .i64 p.1, .string p.2] 139)) l) := hid (h.push _)
 have HB : Hid (0 ≤ p.1 ∧ p.1 < 256) := hid ⟨h0, h1⟩
 clear h h0 h1
 go_enter Tryz.func188, Tryz.ntmps188
 go_wp2_with (first
   | (have := H2; go_at_call 120; refine (pvtext c w0 _ _ _ _ H2.out).mono ?_; rintro e w2 ⟨rfl, h3⟩; have H3 := hid h3; clear h3)
   | (go_at_call 118; refine (pvbyte c w0 _ _ l _ HB.out.1 HB.out.2 H1.out).mono ?_; rintro e w1 ⟨rfl, h2⟩; have H2 := hid h2; clear h2; have y1 := (H2.out.box (L := [.int .i64 p.1, .string p.2])).cell 1 _ rfl))
 go_end0
 exact ⟨rfl, by have := H3.out.pop; rw [List.append_assoc] at this; exact this⟩
set_option maxHeartbeats 3200000 in
theorem iwsigs_any (c : Nat) (w0 : World) (hc : w0.heap.size ≤ c) (H : List (Nat × Obj)) (a : Option Addr) (n cap : Nat) (ps : List Sg) (hn : ps.length = n) (hm : n < 256) (hb : ∀ p, p ∈ ps → 0 ≤ p.1 ∧ p.1 < 256) (hP : PairsIn w0 a ps) (w : World) (l : List UInt8) (h : Pv c w0 H w l) :
   Calls Tryz.prog 174 #[.pointer (some ⟨c, 0, none⟩), .slice a n cap] w fun e w' => e = .returned (.tuple #[]) ∧ Pv c w0 H w' (l ++ sgsL ps) := by
 have H1 := hid h
 have HP := hid hP
 have HC := hid hc
 have HB := hid hb
 have HN := hid hn
 have hn0 : (0 : Int) ≤ (n : Int) := Int.natCast_nonneg _
 have hn1 : (n : Int) < 256 := by omega
 clear h hP hc hb hn
 go_enter Tryz.func174, Tryz.ntmps174
 go_wp2_with (go_at_call 118; refine (pvbyte c w0 _ _ l _ hn0 hn1 H1.out).mono ?_; rintro e w1 ⟨rfl, h2⟩; have H2 := hid h2; clear h2)
 go_loopw [12] (fun i wr => ∃ j : Nat, j ≤ n ∧ i = .int .i64 (j : Int) ∧ Pv c w0 H wr (l ++ be 1 n ++ (ps.take j).flatMap sigL))
   (fun i _ => ((n : Int) - intOf i).toNat)
 case atStart => exact ⟨0, Nat.zero_le _, rfl, by have := H2.out; simpa using this⟩
 case round =>
   obtain ⟨j, hj, rfl, hpv⟩ := hrel
   have HV := hid hpv
   clear hpv
   have hj0 : (0 : Int) ≤ (j : Int) := Int.natCast_nonneg _
   by_cases hjn : j = n
   · have hj1 : ¬ ((j : Int) < (n : Int)) := by omega
     have HE : Hid (j = n) := hid hjn
     clear hj hjn
     go_wp2
     go_end0
     refine ⟨rfl, ?_⟩
     have := HV.out
     rw [HE.out, ← HN.out, List.take_length, List.append_assoc] at this
     exact this
   · have hj1 : (j : Int) < (n : Int) := by omega
     have hjl : j < ps.length := by have := HN.out; omega
     obtain ⟨g, off, rfl, hc1, hc2⟩ : ∃ g off, a = some ⟨g, off, none⟩ ∧ wr.cell? ⟨g, off + j * 2, none⟩ = some (.int .i64 (ps.getD j sg0).1) ∧ wr.cell? ⟨g, off + j * 2 + 1, none⟩ = some (.string (ps.getD j sg0).2) := by
       rcases HP.out.keep HV.out.bel HC.out with e | ⟨g, off, ha, hg, hc⟩
       · rw [e] at hjl; simp at hjl
       · have hx : ps[j]? = some (ps.getD j sg0) := by simp [hjl]
         obtain ⟨k1, k2⟩ := hc j _ hx
         exact ⟨g, off, ha, k1, k2⟩
     have HJ := hid (And.intro hj hjn)
     have HS := hid (flat_snoc (f := sigL) (d := sg0) j hjl)
     have HBj := hid (HB.out (ps.getD j sg0) (by rw [List.getD_eq_getElem?_getD, List.getElem?_eq_getElem hjl]; exact List.getElem_mem hjl))
     generalize ps.getD j sg0 = p at hc1 hc2 HS HBj
     clear hj hjn hjl
     go_wp2_with (go_at_call 188; refine (iwsig_any c w0 H p HBj.out.1 HBj.out.2 _ _ (HV.out.alloc _)).mono ?_; rintro e w2 ⟨rfl, h3⟩; have H3 := hid h3; clear h3)
     go_roundw
     case rel => exact ⟨j + 1, by have := HJ.out; omega, by go_num, by have := H3.out; rw [List.append_assoc, HS.out] at this; exact this⟩
     case measure => simp [intOf]; omega
set_option maxHeartbeats 1600000 in
theorem iwrequest_any (c : Nat) (w0 : World) (H : List (Nat × Obj)) (r : Rq) (hb : r.b < 18446744073709551616) (w : World) (l : List UInt8) (h : Pv c w0 H w l) :
   Calls Tryz.prog 173 #[.pointer (some ⟨c, 0, none⟩), .agg #[.int .i64 r.c, .int .i64 r.st, .int .i64 r.k, .string r.key, .float .f64 r.b, .int .i64 r.id]] w fun e w' => e = .returned (.tuple #[]) ∧ Pv c w0 H w' (l ++ rqX r) := by
 have H1 := hid (h.alloc (.cells #[.int .i64 r.c, .int .i64 r.st, .int .i64 r.k, .string r.key, .float .f64 r.b, .int .i64 r.id] 41))
 have HB := hid hb
 clear h hb
 go_enter Tryz.func173, Tryz.ntmps173
 go_wp2_with (first
   | (have := H2; go_at_call 120; refine (pvtext c w0 _ _ _ _ H2.out).mono ?_; rintro e w2 ⟨rfl, h3⟩; have H3 := hid h3; clear h3)
   | (go_at_call 79; refine (dtext_any r HB.out _).mono ?_; rintro e w1 ⟨rfl, h2⟩; have H2 := hid (H1.out.under h2); clear h2))
 go_end0
 exact ⟨rfl, H3.out⟩
set_option maxHeartbeats 1600000 in
theorem iwlink_any (c : Nat) (w0 : World) (hc : w0.heap.size ≤ c) (H : List (Nat × Obj)) (k : Ln) (a : Option Addr) (n cap : Nat) (a2 : Option Addr) (n2 cap2 : Nat) (hn : k.1.2.length = n) (hm : n ≤ maxLen) (hI : IntsIn w0 a k.1.2) (hn2 : k.2.length = n2) (hm2 : n2 < 256) (hb : ∀ p, p ∈ k.2 → 0 ≤ p.1 ∧ p.1 < 256) (hP : PairsIn w0 a2 k.2) (w : World) (l : List UInt8) (h : Pv c w0 H w l) :
   Calls Tryz.prog 176 #[.pointer (some ⟨c, 0, none⟩), .agg #[.int .i64 k.1.1, .slice a n cap, .slice a2 n2 cap2]] w fun e w' => e = .returned (.tuple #[]) ∧ Pv c w0 H w' (l ++ lnL k) := by
 have H1 : Hid (Pv c w0 ((w.heap.size, .cells #[.int .i64 k.1.1, .slice a n cap, .slice a2 n2 cap2] 74 (0, 0)) :: H) (w.alloc (.cells #[.int .i64 k.1.1, .slice a n cap, .slice a2 n2 cap2] 74)) l) := hid (h.push _)
 have HT : Hid (∀ u : World, Below c w0 u → Calls Tryz.prog 181 #[.agg #[.int .i64 k.1.1, .slice a n cap]] u fun e w' => e = .returned (.tuple #[.string (textC k.1.1 k.1.2), .int .i64 (textE k.1.1 k.1.2)]) ∧ Below u.heap.size u w') := hid (fun u hu => ctext_any k.1.1 a n cap k.1.2 hn hm u (hI.keep hu hc))
 have HS : Hid (∀ (H : List (Nat × Obj)) (u : World) (l : List UInt8), Pv c w0 H u l → Calls Tryz.prog 174 #[.pointer (some ⟨c, 0, none⟩), .slice a2 n2 cap2] u fun e w' => e = .returned (.tuple #[]) ∧ Pv c w0 H w' (l ++ sgsL k.2)) := hid (fun H u l hu => iwsigs_any c w0 hc H a2 n2 cap2 k.2 hn2 hm2 hb hP u l hu)
 clear h hc hn hm hI hn2 hm2 hb hP
 go_enter Tryz.func176, Tryz.ntmps176
 go_wp2_with (first
   | (have := H3; go_at_call 174; refine (HS.out _ _ _ H3.out).mono ?_; rintro e w3 ⟨rfl, h4⟩; have H4 := hid h4; clear h4)
   | (have := H2; go_at_call 120; refine (pvtext c w0 _ _ _ _ H2.out).mono ?_; rintro e w2 ⟨rfl, h3⟩; have H3 := hid h3; clear h3; have y2 := (H3.out.box (L := [.int .i64 k.1.1, .slice a n cap, .slice a2 n2 cap2])).cell 2 _ rfl)
   | (go_at_call 181; refine (HT.out _ H1.out.bel).mono ?_; rintro e w1 ⟨rfl, h2⟩; have H2 := hid (H1.out.under h2); clear h2; have y2 := (H2.out.box (L := [.int .i64 k.1.1, .slice a n cap, .slice a2 n2 cap2])).cell 2 _ rfl))
 go_end0
 exact ⟨rfl, by have := H4.out.pop; rw [List.append_assoc] at this; exact this⟩
end
section
set_option maxRecDepth 100000
open Go.RowKit
def wSg (ps : List Sg) : Prop := ps.length < 256 ∧ ∀ p, p ∈ ps → 0 ≤ p.1 ∧ p.1 < 256
def wCt (c : Ct) : Prop := (0 ≤ c.1 ∧ c.1 < 256) ∧ (0 ≤ c.2.1 ∧ c.2.1 < 65536) ∧ c.2.2.1.b < 18446744073709551616 ∧ wSg c.2.2.2
def wCg (z : Cg) : Prop := (0 ≤ z.1 ∧ z.1 < 256) ∧ (0 ≤ z.2.1 ∧ z.2.1 < 256) ∧ (z.2.2.1.length < 256 ∧ ∀ x, x ∈ z.2.2.1 → wCt x) ∧ (0 ≤ z.2.2.2.1 ∧ z.2.2.2.1 < 256)
def wLn (k : Ln) : Prop := k.1.2.length ≤ maxLen ∧ wSg k.2
set_option maxHeartbeats 6400000 in
theorem iwchange_any {F : Nat → Prop} (c : Nat) (w0 : World) (hc : w0.heap.size ≤ c) (H : List (Nat × Obj)) (z : Cg) (a : Option Addr) (n cap : Nat) (hn : z.2.2.1.length = n) (hz : wCg z) (hR : Reads F w0 (.slice a n cap) (dCts z.2.2.1)) (w : World) (l : List UInt8) (h : Pv c w0 H w l) :
   Calls Tryz.prog 175 #[.pointer (some ⟨c, 0, none⟩), .agg #[.int .i64 z.1, .int .i64 z.2.1, .slice a n cap, .int .i64 z.2.2.2.1, .string z.2.2.2.2]] w fun e w' => e = .returned (.tuple #[]) ∧ Pv c w0 H w' (l ++ cgL z) := by
 obtain ⟨H1, eH1⟩ : ∃ H1, H1 = (w.heap.size, Obj.cells #[.int .i64 z.1, .int .i64 z.2.1, .slice a n cap, .int .i64 z.2.2.2.1, .string z.2.2.2.2] 161 (0, 0)) :: H := ⟨_, rfl⟩
 have P1 : Hid (Pv c w0 H1 (w.alloc (.cells #[.int .i64 z.1, .int .i64 z.2.1, .slice a n cap, .int .i64 z.2.2.2.1, .string z.2.2.2.2] 161)) l) := hid (by rw [eH1]; exact h.push _)
 have HBx : Hid (∀ (u : World) (l : List UInt8), Pv c w0 H1 u l → BxAt u w.heap.size [.int .i64 z.1, .int .i64 z.2.1, .slice a n cap, .int .i64 z.2.2.2.1, .string z.2.2.2.2] 161) := hid (fun u l hu => by rw [eH1] at hu; exact hu.box)
 have HPop : Hid (∀ (u : World) (l : List UInt8), Pv c w0 H1 u l → Pv c w0 H u l) := hid (fun u l hu => by rw [eH1] at hu; exact hu.pop)
 have HZ := hid hz
 have HR := hid hR
 have HC := hid hc
 have HN := hid hn
 have hn0 : (0 : Int) ≤ (n : Int) := Int.natCast_nonneg _
 have hn1 : (n : Int) < 256 := by have := hz.2.2.1.1; omega
 clear h hc hn hz hR eH1
 go_enter Tryz.func175, Tryz.ntmps175
 go_wp2_with (first
   | (have := P3; go_at_call 118; refine (pvbyte c w0 _ _ _ _ hn0 hn1 P3.out).mono ?_; rintro e w3 ⟨rfl, h4⟩; have P4 := hid h4; clear h4 y0 y1 y2 y3 y4; have y0 := (HBx.out _ _ P4.out).cell 0 _ rfl; have y1 := (HBx.out _ _ P4.out).cell 1 _ rfl; have y2 := (HBx.out _ _ P4.out).cell 2 _ rfl; have y3 := (HBx.out _ _ P4.out).cell 3 _ rfl; have y4 := (HBx.out _ _ P4.out).cell 4 _ rfl)
   | (have := P2; go_at_call 118; refine (pvbyte c w0 _ _ _ _ HZ.out.2.1.1 HZ.out.2.1.2 P2.out).mono ?_; rintro e w2 ⟨rfl, h3⟩; have P3 := hid h3; clear h3 y0 y1 y2 y3 y4; have y0 := (HBx.out _ _ P3.out).cell 0 _ rfl; have y1 := (HBx.out _ _ P3.out).cell 1 _ rfl; have y2 := (HBx.out _ _ P3.out).cell 2 _ rfl; have y3 := (HBx.out _ _ P3.out).cell 3 _ rfl; have y4 := (HBx.out _ _ P3.out).cell 4 _ rfl)
   | (go_at_call 118; refine (pvbyte c w0 _ _ _ _ HZ.out.1.1 HZ.out.1.2 P1.out).mono ?_; rintro e w1 ⟨rfl, h2⟩; have P2 := hid h2; clear h2; have y0 := (HBx.out _ _ P2.out).cell 0 _ rfl; have y1 := (HBx.out _ _ P2.out).cell 1 _ rfl; have y2 := (HBx.out _ _ P2.out).cell 2 _ rfl; have y3 := (HBx.out _ _ P2.out).cell 3 _ rfl; have y4 := (HBx.out _ _ P2.out).cell 4 _ rfl))
 clear y0 y1 y2 y3 y4
 go_loopw [22] (fun i wr => ∃ j : Nat, j ≤ n ∧ i = .int .i64 (j : Int) ∧ Pv c w0 H1 wr (l ++ be 1 z.1.toNat ++ be 1 z.2.1.toNat ++ be 1 n ++ (z.2.2.1.take j).flatMap ctL))
   (fun i _ => ((n : Int) - intOf i).toNat)
 case atStart => exact ⟨0, Nat.zero_le _, rfl, by have := P4.out; simpa using this⟩
 case round =>
   obtain ⟨j, hj, rfl, hpv⟩ := hrel
   have HV := hid hpv
   clear hpv
   have hj0 : (0 : Int) ≤ (j : Int) := Int.natCast_nonneg _
   by_cases hjn : j = n
   · have hj1 : ¬ ((j : Int) < (n : Int)) := by omega
     have HE : Hid (j = n) := hid hjn
     clear hj hjn
     have y0 := (HBx.out _ _ HV.out).cell 0 _ rfl; have y1 := (HBx.out _ _ HV.out).cell 1 _ rfl; have y2 := (HBx.out _ _ HV.out).cell 2 _ rfl; have y3 := (HBx.out _ _ HV.out).cell 3 _ rfl; have y4 := (HBx.out _ _ HV.out).cell 4 _ rfl
     go_wp2_with (go_at_call 188; refine (iwsig_any c w0 _ z.2.2.2 HZ.out.2.2.2.1 HZ.out.2.2.2.2 _ _ HV.out).mono ?_; rintro e w5 ⟨rfl, h5⟩; have P5 := hid h5; clear h5 y0 y1 y2 y3 y4)
     go_end0
     refine ⟨rfl, ?_⟩
     have := HPop.out _ _ P5.out
     rw [HE.out, ← HN.out, List.take_length] at this
     simp only [cgL, lsL, List.append_assoc] at this ⊢
     exact this
   · have hj1 : (j : Int) < (n : Int) := by omega
     have hjl : j < z.2.2.1.length := by have := HN.out; omega
     obtain ⟨g, off, cp, a8, kc, hv, hP, hg, hcl⟩ := ct_at HR.out j hjl
     cases hv
     have hcr : ∀ (q : Nat) (u : Value), (ctC (z.2.2.1.getD j ct0) (.slice a8 (z.2.2.1.getD j ct0).2.2.2.length kc))[q]? = some u → wr.cell? ⟨g, off + j * 9 + q, none⟩ = some u := fun q u hq => (World.cell?_of_block (a := ⟨g, off + j * 9 + q, none⟩) (HV.out.bel.block g (Nat.lt_of_lt_of_le hg HC.out))).trans (hcl q u hq)
     have HJ := hid (And.intro hj hjn)
     have HS := hid (flat_snoc (f := ctL) (d := ct0) j hjl)
     have HBj := hid (HZ.out.2.2.1.2 (z.2.2.1.getD j ct0) (by rw [List.getD_eq_getElem?_getD, List.getElem?_eq_getElem hjl]; exact List.getElem_mem hjl))
     generalize z.2.2.1.getD j ct0 = y at hcr hP HS HBj
     have HP := hid hP
     have k0 : wr.cell? ⟨g, off + j * 9, none⟩ = some (.int .i64 y.1) := hcr 0 _ rfl
     have k1 : wr.cell? ⟨g, off + j * 9 + 1, none⟩ = some (.int .i64 y.2.1) := hcr 1 _ rfl
     have k2 : wr.cell? ⟨g, off + j * 9 + 2, none⟩ = some (.int .i64 y.2.2.1.c) := hcr 2 _ rfl
     have k3 : wr.cell? ⟨g, off + j * 9 + 3, none⟩ = some (.int .i64 y.2.2.1.st) := hcr 3 _ rfl
     have k4 : wr.cell? ⟨g, off + j * 9 + 4, none⟩ = some (.int .i64 y.2.2.1.k) := hcr 4 _ rfl
     have k5 : wr.cell? ⟨g, off + j * 9 + 5, none⟩ = some (.string y.2.2.1.key) := hcr 5 _ rfl
     have k6 : wr.cell? ⟨g, off + j * 9 + 6, none⟩ = some (.float .f64 y.2.2.1.b) := hcr 6 _ rfl
     have k7 : wr.cell? ⟨g, off + j * 9 + 7, none⟩ = some (.int .i64 y.2.2.1.id) := hcr 7 _ rfl
     have k8 : wr.cell? ⟨g, off + j * 9 + 8, none⟩ = some (.slice a8 y.2.2.2.length kc) := hcr 8 _ rfl
     clear hj hjn hjl hP hg hcl hcr
     go_wp2_with (first
       | (have := Q4; go_at_call 174; refine (iwsigs_any c w0 HC.out _ a8 _ kc y.2.2.2 rfl HBj.out.2.2.2.1 HBj.out.2.2.2.2 HP.out _ _ Q4.out).mono ?_; rintro e v4 ⟨rfl, h5⟩; have Q5 := hid h5; clear h5 x0 x1 x2 x3 x4 x5 x6 x7 x8)
       | (have := Q3; go_at_call 173; refine (iwrequest_any c w0 _ y.2.2.1 HBj.out.2.2.1 _ _ Q3.out).mono ?_; rintro e v3 ⟨rfl, h4⟩; have Q4 := hid h4; clear h4 x0 x1 x2 x3 x4 x5 x6 x7 x8; have x0 := (Q4.out.box (L := [.int .i64 y.1, .int .i64 y.2.1, .int .i64 y.2.2.1.c, .int .i64 y.2.2.1.st, .int .i64 y.2.2.1.k, .string y.2.2.1.key, .float .f64 y.2.2.1.b, .int .i64 y.2.2.1.id, .slice a8 y.2.2.2.length kc])).cell 0 _ rfl; have x1 := (Q4.out.box (L := [.int .i64 y.1, .int .i64 y.2.1, .int .i64 y.2.2.1.c, .int .i64 y.2.2.1.st, .int .i64 y.2.2.1.k, .string y.2.2.1.key, .float .f64 y.2.2.1.b, .int .i64 y.2.2.1.id, .slice a8 y.2.2.2.length kc])).cell 1 _ rfl; have x2 := (Q4.out.box (L := [.int .i64 y.1, .int .i64 y.2.1, .int .i64 y.2.2.1.c, .int .i64 y.2.2.1.st, .int .i64 y.2.2.1.k, .string y.2.2.1.key, .float .f64 y.2.2.1.b, .int .i64 y.2.2.1.id, .slice a8 y.2.2.2.length kc])).cell 2 _ rfl; have x3 := (Q4.out.box (L := [.int .i64 y.1, .int .i64 y.2.1, .int .i64 y.2.2.1.c, .int .i64 y.2.2.1.st, .int .i64 y.2.2.1.k, .string y.2.2.1.key, .float .f64 y.2.2.1.b, .int .i64 y.2.2.1.id, .slice a8 y.2.2.2.length kc])).cell 3 _ rfl; have x4 := (Q4.out.box (L := [.int .i64 y.1, .int .i64 y.2.1, .int .i64 y.2.2.1.c, .int .i64 y.2.2.1.st, .int .i64 y.2.2.1.k, .string y.2.2.1.key, .float .f64 y.2.2.1.b, .int .i64 y.2.2.1.id, .slice a8 y.2.2.2.length kc])).cell 4 _ rfl; have x5 := (Q4.out.box (L := [.int .i64 y.1, .int .i64 y.2.1, .int .i64 y.2.2.1.c, .int .i64 y.2.2.1.st, .int .i64 y.2.2.1.k, .string y.2.2.1.key, .float .f64 y.2.2.1.b, .int .i64 y.2.2.1.id, .slice a8 y.2.2.2.length kc])).cell 5 _ rfl; have x6 := (Q4.out.box (L := [.int .i64 y.1, .int .i64 y.2.1, .int .i64 y.2.2.1.c, .int .i64 y.2.2.1.st, .int .i64 y.2.2.1.k, .string y.2.2.1.key, .float .f64 y.2.2.1.b, .int .i64 y.2.2.1.id, .slice a8 y.2.2.2.length kc])).cell 6 _ rfl; have x7 := (Q4.out.box (L := [.int .i64 y.1, .int .i64 y.2.1, .int .i64 y.2.2.1.c, .int .i64 y.2.2.1.st, .int .i64 y.2.2.1.k, .string y.2.2.1.key, .float .f64 y.2.2.1.b, .int .i64 y.2.2.1.id, .slice a8 y.2.2.2.length kc])).cell 7 _ rfl; have x8 := (Q4.out.box (L := [.int .i64 y.1, .int .i64 y.2.1, .int .i64 y.2.2.1.c, .int .i64 y.2.2.1.st, .int .i64 y.2.2.1.k, .string y.2.2.1.key, .float .f64 y.2.2.1.b, .int .i64 y.2.2.1.id, .slice a8 y.2.2.2.length kc])).cell 8 _ rfl)
       | (have := Q2; go_at_call 172; refine (pvword c w0 _ _ _ _ HBj.out.2.1.1 HBj.out.2.1.2 Q2.out).mono ?_; rintro e v2 ⟨rfl, h3⟩; have Q3 := hid h3; clear h3 x0 x1 x2 x3 x4 x5 x6 x7 x8; have x0 := (Q3.out.box (L := [.int .i64 y.1, .int .i64 y.2.1, .int .i64 y.2.2.1.c, .int .i64 y.2.2.1.st, .int .i64 y.2.2.1.k, .string y.2.2.1.key, .float .f64 y.2.2.1.b, .int .i64 y.2.2.1.id, .slice a8 y.2.2.2.length kc])).cell 0 _ rfl; have x1 := (Q3.out.box (L := [.int .i64 y.1, .int .i64 y.2.1, .int .i64 y.2.2.1.c, .int .i64 y.2.2.1.st, .int .i64 y.2.2.1.k, .string y.2.2.1.key, .float .f64 y.2.2.1.b, .int .i64 y.2.2.1.id, .slice a8 y.2.2.2.length kc])).cell 1 _ rfl; have x2 := (Q3.out.box (L := [.int .i64 y.1, .int .i64 y.2.1, .int .i64 y.2.2.1.c, .int .i64 y.2.2.1.st, .int .i64 y.2.2.1.k, .string y.2.2.1.key, .float .f64 y.2.2.1.b, .int .i64 y.2.2.1.id, .slice a8 y.2.2.2.length kc])).cell 2 _ rfl; have x3 := (Q3.out.box (L := [.int .i64 y.1, .int .i64 y.2.1, .int .i64 y.2.2.1.c, .int .i64 y.2.2.1.st, .int .i64 y.2.2.1.k, .string y.2.2.1.key, .float .f64 y.2.2.1.b, .int .i64 y.2.2.1.id, .slice a8 y.2.2.2.length kc])).cell 3 _ rfl; have x4 := (Q3.out.box (L := [.int .i64 y.1, .int .i64 y.2.1, .int .i64 y.2.2.1.c, .int .i64 y.2.2.1.st, .int .i64 y.2.2.1.k, .string y.2.2.1.key, .float .f64 y.2.2.1.b, .int .i64 y.2.2.1.id, .slice a8 y.2.2.2.length kc])).cell 4 _ rfl; have x5 := (Q3.out.box (L := [.int .i64 y.1, .int .i64 y.2.1, .int .i64 y.2.2.1.c, .int .i64 y.2.2.1.st, .int .i64 y.2.2.1.k, .string y.2.2.1.key, .float .f64 y.2.2.1.b, .int .i64 y.2.2.1.id, .slice a8 y.2.2.2.length kc])).cell 5 _ rfl; have x6 := (Q3.out.box (L := [.int .i64 y.1, .int .i64 y.2.1, .int .i64 y.2.2.1.c, .int .i64 y.2.2.1.st, .int .i64 y.2.2.1.k, .string y.2.2.1.key, .float .f64 y.2.2.1.b, .int .i64 y.2.2.1.id, .slice a8 y.2.2.2.length kc])).cell 6 _ rfl; have x7 := (Q3.out.box (L := [.int .i64 y.1, .int .i64 y.2.1, .int .i64 y.2.2.1.c, .int .i64 y.2.2.1.st, .int .i64 y.2.2.1.k, .string y.2.2.1.key, .float .f64 y.2.2.1.b, .int .i64 y.2.2.1.id, .slice a8 y.2.2.2.length kc])).cell 7 _ rfl; have x8 := (Q3.out.box (L := [.int .i64 y.1, .int .i64 y.2.1, .int .i64 y.2.2.1.c, .int .i64 y.2.2.1.st, .int .i64 y.2.2.1.k, .string y.2.2.1.key, .float .f64 y.2.2.1.b, .int .i64 y.2.2.1.id, .slice a8 y.2.2.2.length kc])).cell 8 _ rfl)
       | (have := Q1; go_at_call 118; refine (pvbyte c w0 _ _ _ _ HBj.out.1.1 HBj.out.1.2 Q1.out).mono ?_; rintro e v1 ⟨rfl, h2⟩; have Q2 := hid h2; clear h2 x0 x1 x2 x3 x4 x5 x6 x7 x8; have x0 := (Q2.out.box (L := [.int .i64 y.1, .int .i64 y.2.1, .int .i64 y.2.2.1.c, .int .i64 y.2.2.1.st, .int .i64 y.2.2.1.k, .string y.2.2.1.key, .float .f64 y.2.2.1.b, .int .i64 y.2.2.1.id, .slice a8 y.2.2.2.length kc])).cell 0 _ rfl; have x1 := (Q2.out.box (L := [.int .i64 y.1, .int .i64 y.2.1, .int .i64 y.2.2.1.c, .int .i64 y.2.2.1.st, .int .i64 y.2.2.1.k, .string y.2.2.1.key, .float .f64 y.2.2.1.b, .int .i64 y.2.2.1.id, .slice a8 y.2.2.2.length kc])).cell 1 _ rfl; have x2 := (Q2.out.box (L := [.int .i64 y.1, .int .i64 y.2.1, .int .i64 y.2.2.1.c, .int .i64 y.2.2.1.st, .int .i64 y.2.2.1.k, .string y.2.2.1.key, .float .f64 y.2.2.1.b, .int .i64 y.2.2.1.id, .slice a8 y.2.2.2.length kc])).cell 2 _ rfl; have x3 := (Q2.out.box (L := [.int .i64 y.1, .int .i64 y.2.1, .int .i64 y.2.2.1.c, .int .i64 y.2.2.1.st, .int .i64 y.2.2.1.k, .string y.2.2.1.key, .float .f64 y.2.2.1.b, .int .i64 y.2.2.1.id, .slice a8 y.2.2.2.length kc])).cell 3 _ rfl; have x4 := (Q2.out.box (L := [.int .i64 y.1, .int .i64 y.2.1, .int .i64 y.2.2.1.c, .int .i64 y.2.2.1.st, .int .i64 y.2.2.1.k, .string y.2.2.1.key, .float .f64 y.2.2.1.b, .int .i64 y.2.2.1.id, .slice a8 y.2.2.2.length kc])).cell 4 _ rfl; have x5 := (Q2.out.box (L := [.int .i64 y.1, .int .i64 y.2.1, .int .i64 y.2.2.1.c, .int .i64 y.2.2.1.st, .int .i64 y.2.2.1.k, .string y.2.2.1.key, .float .f64 y.2.2.1.b, .int .i64 y.2.2.1.id, .slice a8 y.2.2.2.length kc])).cell 5 _ rfl; have x6 := (Q2.out.box (L := [.int .i64 y.1, .int .i64 y.2.1, .int .i64 y.2.2.1.c, .int .i64 y.2.2.1.st, .int .i64 y.2.2.1.k, .string y.2.2.1.key, .float .f64 y.2.2.1.b, .int .i64 y.2.2.1.id, .slice a8 y.2.2.2.length kc])).cell 6 _ rfl; have x7 := (Q2.out.box (L := [.int .i64 y.1, .int .i64 y.2.1, .int .i64 y.2.2.1.c, .int .i64 y.2.2.1.st, .int .i64 y.2.2.1.k, .string y.2.2.1.key, .float .f64 y.2.2.1.b, .int .i64 y.2.2.1.id, .slice a8 y.2.2.2.length kc])).cell 7 _ rfl; have x8 := (Q2.out.box (L := [.int .i64 y.1, .int .i64 y.2.1, .int .i64 y.2.2.1.c, .int .i64 y.2.2.1.st, .int .i64 y.2.2.1.k, .string y.2.2.1.key, .float .f64 y.2.2.1.b, .int .i64 y.2.2.1.id, .slice a8 y.2.2.2.length kc])).cell 8 _ rfl)
       | (refine wl_store_blk rfl 163 _ _ rfl wr.heap.size 0 rfl #[.int .i64 y.1, .int .i64 y.2.1, .int .i64 y.2.2.1.c, .int .i64 y.2.2.1.st, .int .i64 y.2.2.1.k, .string y.2.2.1.key, .float .f64 y.2.2.1.b, .int .i64 y.2.2.1.id, .slice a8 y.2.2.2.length kc] rfl [.int .i64 0, .int .i64 0, .int .i64 0, .int .i64 0, .int .i64 0, .string ⟨#[]⟩, .float .f64 0, .int .i64 0, .slice none 0 0] 163 (heap_alloc_last wr _) (by simp) (by kernel_rfl) (by simp [Value.oneCell']) ?_; intro wx Hz; have Q1 : Hid (Pv c w0 ((wr.heap.size, .cells #[.int .i64 y.1, .int .i64 y.2.1, .int .i64 y.2.2.1.c, .int .i64 y.2.2.1.st, .int .i64 y.2.2.1.k, .string y.2.2.1.key, .float .f64 y.2.2.1.b, .int .i64 y.2.2.1.id, .slice a8 y.2.2.2.length kc] 163 (0, 0)) :: H1) wx _) := hid (HV.out.put (Hz.out.2.below ((Below.refl wr.heap.size wr).alloc (Nat.le_refl _) _) (Nat.le_refl _)) Hz.out.1); clear Hz k0 k1 k2 k3 k4 k5 k6 k7 k8; have x0 := (Q1.out.box (L := [.int .i64 y.1, .int .i64 y.2.1, .int .i64 y.2.2.1.c, .int .i64 y.2.2.1.st, .int .i64 y.2.2.1.k, .string y.2.2.1.key, .float .f64 y.2.2.1.b, .int .i64 y.2.2.1.id, .slice a8 y.2.2.2.length kc])).cell 0 _ rfl; have x1 := (Q1.out.box (L := [.int .i64 y.1, .int .i64 y.2.1, .int .i64 y.2.2.1.c, .int .i64 y.2.2.1.st, .int .i64 y.2.2.1.k, .string y.2.2.1.key, .float .f64 y.2.2.1.b, .int .i64 y.2.2.1.id, .slice a8 y.2.2.2.length kc])).cell 1 _ rfl; have x2 := (Q1.out.box (L := [.int .i64 y.1, .int .i64 y.2.1, .int .i64 y.2.2.1.c, .int .i64 y.2.2.1.st, .int .i64 y.2.2.1.k, .string y.2.2.1.key, .float .f64 y.2.2.1.b, .int .i64 y.2.2.1.id, .slice a8 y.2.2.2.length kc])).cell 2 _ rfl; have x3 := (Q1.out.box (L := [.int .i64 y.1, .int .i64 y.2.1, .int .i64 y.2.2.1.c, .int .i64 y.2.2.1.st, .int .i64 y.2.2.1.k, .string y.2.2.1.key, .float .f64 y.2.2.1.b, .int .i64 y.2.2.1.id, .slice a8 y.2.2.2.length kc])).cell 3 _ rfl; have x4 := (Q1.out.box (L := [.int .i64 y.1, .int .i64 y.2.1, .int .i64 y.2.2.1.c, .int .i64 y.2.2.1.st, .int .i64 y.2.2.1.k, .string y.2.2.1.key, .float .f64 y.2.2.1.b, .int .i64 y.2.2.1.id, .slice a8 y.2.2.2.length kc])).cell 4 _ rfl; have x5 := (Q1.out.box (L := [.int .i64 y.1, .int .i64 y.2.1, .int .i64 y.2.2.1.c, .int .i64 y.2.2.1.st, .int .i64 y.2.2.1.k, .string y.2.2.1.key, .float .f64 y.2.2.1.b, .int .i64 y.2.2.1.id, .slice a8 y.2.2.2.length kc])).cell 5 _ rfl; have x6 := (Q1.out.box (L := [.int .i64 y.1, .int .i64 y.2.1, .int .i64 y.2.2.1.c, .int .i64 y.2.2.1.st, .int .i64 y.2.2.1.k, .string y.2.2.1.key, .float .f64 y.2.2.1.b, .int .i64 y.2.2.1.id, .slice a8 y.2.2.2.length kc])).cell 6 _ rfl; have x7 := (Q1.out.box (L := [.int .i64 y.1, .int .i64 y.2.1, .int .i64 y.2.2.1.c, .int .i64 y.2.2.1.st, .int .i64 y.2.2.1.k, .string y.2.2.1.key, .float .f64 y.2.2.1.b, .int .i64 y.2.2.1.id, .slice a8 y.2.2.2.length kc])).cell 7 _ rfl; have x8 := (Q1.out.box (L := [.int .i64 y.1, .int .i64 y.2.1, .int .i64 y.2.2.1.c, .int .i64 y.2.2.1.st, .int .i64 y.2.2.1.k, .string y.2.2.1.key, .float .f64 y.2.2.1.b, .int .i64 y.2.2.1.id, .slice a8 y.2.2.2.length kc])).cell 8 _ rfl))
     go_roundw
     case rel => exact ⟨j + 1, by have := HJ.out; omega, by go_num, by have := Q5.out.pop; rw [← HS.out]; simp only [ctL, List.append_assoc] at this ⊢; exact this⟩
     case measure => simp [intOf]; omega
end
end Go.Proofs.YtoepppkadpjonaaGreat
