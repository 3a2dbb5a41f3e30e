/- Texts laid together: TqK TrD TrE TrF TrG DeC TrH TrI PkR PkT RdA FlA RlB DsA DsB MrR CoH CoJ. -/
import Derived.Test.YtoepppkadpjonaaGreatNb3
import Derived.Test.YtoepppkadpjonaaGreatNb2
import Derived.Test.YtoepppkadpjonaaGreatNb1
import Derived.Laws.IdiomStrings
import Derived.Test.YtoepppkadpjonaaGreatProg
import Derived.WalkKit
import Derived.WalkLawsBesides
import Derived.WalkSpells
import Derived.Laws.Externs
import Derived.Laws.BitsAllLaws
import Derived.BigQuiet
import Derived.Deep.QuietTactic
import Derived.Deep.RegionLaw
namespace Go.Proofs.YtoepppkadpjonaaGreat
section
set_option maxRecDepth 100000
open Go.RowKit
theorem OwnD.cut {T : TypeId} {sz B : Nat} {F : Nat → Prop} {w : World} {r n cap : Nat} {es : List (List Dat)} (h : OwnD T sz B F w (.slice (some ⟨r, 0, none⟩) n cap) es) (m : Nat) (hm : m ≤ es.length) : OwnD T sz B F w (.slice (some ⟨r, 0, none⟩) m cap) (es.take m) := by
 obtain ⟨cs, ho, hc⟩ := h.own
 rcases ho.2 with ⟨hv, _⟩ | ⟨g, cap', cur, hv, hB, hh, hnc, hcp, hcs, ht⟩
 · cases hv
 · cases hv
   have hl : (es.take m).length = m := by rw [List.length_take]; omega
   have hlc : cs.length = es.length * sz := ho.1
   have hms : m * sz ≤ es.length * sz := Nat.mul_le_mul_right _ hm
   refine ⟨⟨cs.take (m * sz), ⟨by rw [List.length_take, hl, hlc]; omega, .inr ⟨r, cap, cur, by rw [hl], hB, hh, by omega, hcp, hcs, ?_⟩⟩, fun j e he => ?_⟩, h.sep⟩
   · rw [hl, ← ht, List.take_take]
     congr 1
     omega
   · rw [List.getElem?_take] at he
     split at he
     · next hj =>
       obtain ⟨h1, h2⟩ := hc j e he
       refine ⟨h1, fun q d hd => ?_⟩
       obtain ⟨u, h3, h4⟩ := h2 q d hd
       have hq := (List.getElem?_eq_some_iff.1 hd).1
       have hjm : (j + 1) * sz ≤ m * sz := Nat.mul_le_mul_right _ hj
       rw [Nat.add_mul, Nat.one_mul] at hjm
       refine ⟨u, ?_, h4⟩
       rw [List.getElem?_take, if_pos (by omega)]
       exact h3
     · cases he
theorem OwnD.more {T : TypeId} {sz B : Nat} {F F' : Nat → Prop} {w w2 : World} {v v2 : Value} {es es2 : List (List Dat)} {cs news : List Value} (h : OwnD T sz B F w v es) (ho : w.ownsRow B T sz v es.length cs)
   (hnew : ∀ (j : Nat) (e : List Dat), es2[j]? = some e → e.length = sz ∧ ∀ (q : Nat) (d : Dat), e[q]? = some d → ∃ u, news[j * sz + q]? = some u ∧ Reads F' w2 u d)
   (h2 : w2.ownsRow B T sz v2 (es.length + es2.length) (cs ++ news)) (hg : w.grownBy w2 v.ownBlock) (hF : ∀ k, k < w.heap.size → F k → F' k) (hsep : ∀ g, v2.ownBlock = some g → ¬ F' g) : OwnD T sz B F' w2 v2 (es ++ es2) := by
 obtain ⟨cs', ho', hc⟩ := h.own
 obtain rfl := ownsRow_one ho ho'
 refine ⟨⟨cs ++ news, by rw [List.length_append]; exact h2, fun j x hx => ?_⟩, hsep⟩
 have hl : cs.length = es.length * sz := ho'.1
 by_cases hj : j < es.length
 · rw [List.getElem?_append_left hj] at hx
   obtain ⟨h1, h3⟩ := hc j x hx
   refine ⟨h1, fun q d hd => ?_⟩
   obtain ⟨u, h4, h5⟩ := h3 q d hd
   exact ⟨u, by rw [List.getElem?_append_left (List.getElem?_eq_some_iff.1 h4).1]; exact h4, h5.move hg.size (fun k hk hFk => ⟨hg.block k hk (fun e => h.sep k e.symm hFk), hF k hk hFk⟩)⟩
 · rw [List.getElem?_append_right (by omega)] at hx
   obtain ⟨h1, h3⟩ := hnew _ x hx
   refine ⟨h1, fun q d hd => ?_⟩
   obtain ⟨u, h4, h5⟩ := h3 q d hd
   refine ⟨u, ?_, h5⟩
   have hjs : j * sz = es.length * sz + (j - es.length) * sz := by rw [← Nat.add_mul]; congr 1; omega
   rw [List.getElem?_append_right (by omega), hl, hjs, show es.length * sz + (j - es.length) * sz + q - es.length * sz = (j - es.length) * sz + q by omega]
   exact h4
theorem reads_one {F : Nat → Prop} {w : World} {u : Value} {d : Dat} (h : Reads F w u d) : u.oneCell' = true := by cases h <;> rfl
theorem OwnD.ones {T : TypeId} {sz B : Nat} {F : Nat → Prop} {w : World} {v : Value} {es : List (List Dat)} {cs : List Value} (h : OwnD T sz B F w v es) (ho : w.ownsRow B T sz v es.length cs) (hz : 0 < sz) : ∀ u ∈ cs, u.oneCell' = true := fun u hu => by
 obtain ⟨cs', ho', hc⟩ := h.own
 obtain rfl := ownsRow_one ho ho'
 obtain ⟨i, hi, rfl⟩ := List.getElem_of_mem hu
 have hl : cs.length = es.length * sz := ho'.1
 have hj : i / sz < es.length := Nat.div_lt_of_lt_mul (by rw [Nat.mul_comm]; omega)
 obtain ⟨h1, h2⟩ := hc (i / sz) _ (List.getElem?_eq_getElem hj)
 have hq : i % sz < es[i / sz].length := by rw [h1]; exact Nat.mod_lt _ hz
 obtain ⟨u, h3, h4⟩ := h2 (i % sz) _ (List.getElem?_eq_getElem hq)
 have hi2 : i / sz * sz + i % sz = i := by rw [Nat.mul_comm]; exact Nat.div_add_mod i sz
 rw [hi2, List.getElem?_eq_getElem hi] at h3
 cases h3
 exact reads_one h4
section
variable {o : Oper} {a : Act} {w : World} {Q : Exit → Act → World → Prop} {K : Act → World → Prop}
theorem owp_add_links (s x : Operand) (ho : o.op = .call { callee := .builtin .append, args := #[s, x], argTypes := #[46, 46] }) (B C : Nat) (F F2 : Nat → Prop) (v v2 : Value) (ls cs : List Lk) (hs : a.eval s = v) (hx : a.eval x = v2) (hO : OwnD 74 3 B F w v (dLks ls)) (hO2 : OwnD 74 3 C F2 w v2 (dLks cs)) (hB : B ≤ w.heap.size) (hne : cs ≠ [])
   (hF : ∀ j, F j → j < w.heap.size) (hF2 : ∀ j, F2 j → j < w.heap.size) (hsep : ∀ j, v.ownBlock = some j → ¬ F2 j) (hvv : ∀ j, v.ownBlock = some j → v2.ownBlock ≠ some j) (hl : ls.length + cs.length ≤ 1000)
   (h : ∀ v' w', Hid (OwnD 74 3 B (fun j => F j ∨ F2 j) w' v' (dLks (ls ++ cs)) ∧ w.grownBy w' v.ownBlock ∧ (v'.ownBlock = v.ownBlock ∨ v'.ownBlock = some w.heap.size)) → K (a.put o.dst v') w') : o.wp Tryz.prog a w K Q := by
 obtain ⟨i0, hi0, hz0, hz1, hz2⟩ := info_parts Tryz.info74
 obtain ⟨c1, hown, _⟩ := hO.own
 obtain ⟨c2, hown2, hc2⟩ := hO2.own
 rcases hown2.2 with ⟨_, h0⟩ | ⟨g, cap, cur, hv2, _⟩
 · rw [dLks_len] at h0
   exact absurd (List.eq_nil_of_length_eq_zero h0) hne
 subst hv2
 obtain ⟨v', w', hr, h2, h3, h4, h5⟩ := run_append_own_at (P := Tryz.prog) w B 46 o.type 74 i0 (.agg #[.int .i64 0, .slice none 0 0, .slice none 0 0]) 3 56 Tryz.underlying46 hi0 hz0 hz1 hz2 rfl (by decide) v _ c1 hown ⟨g, 0, none⟩ (dLks cs).length cap c2 hown2.1 (fun j u hj => hown2.cells rfl j u hj) (hO2.ones hown2 (by decide)) (by rw [dLks_len, dLks_len]; unfold maxLen; omega) (by rw [dLks_len, dLks_len]; omega) hB
 refine owp_value (v := v') (w' := w') ?_ (h v' w' ⟨?_, h3, h5⟩)
 · simp [execOp, ho, resolve, invoke, builtin, hs, hx, hr, Result.andThen]
 · have := hO.more (F' := fun j => F j ∨ F2 j) (es2 := dLks cs) hown (fun j e he => ⟨(hc2 j e he).1, fun q d hd => by
     obtain ⟨u, h6, h7⟩ := (hc2 j e he).2 q d hd
     exact ⟨u, h6, h7.move h3.size (fun k hk hFk => ⟨h3.block k hk (fun e => hsep k e.symm hFk), .inr hFk⟩)⟩⟩) h2 h3 (fun k _ hk => .inl hk) (fun j hj hFj => by
     rcases h5 with e | e
     · rcases hFj with hq | hq
       · exact hO.sep j (e ▸ hj) hq
       · exact hsep j (e ▸ hj) hq
     · rw [e] at hj
       cases hj
       rcases hFj with hq | hq
       · exact absurd (hF _ hq) (Nat.lt_irrefl _)
       · exact absurd (hF2 _ hq) (Nat.lt_irrefl _))
   rw [dLks, List.map_append]
   exact this
end
set_option maxHeartbeats 6400000 in
theorem ltakeK_any (B : Nat) (F : Nat → Prop) (g : Nat) (vl : Value) (fm : List Int) (hfm : rightC 0 fm = true) (ls : List Lk) (hls : chainE 0 fm [] ls = 0) (G : Nat → Prop) (cv : Value) (cs : List Lk) (hcs : ∀ k, k ∈ cs → k.2.1.length ≤ maxLen ∧ k.2.2.length ≤ maxLen) (hcl : cs.length ≤ maxLen) (hrm : ∀ ad n c, cv = .slice ad n c → n ≤ c) (w : World) (h : TkAt B F w g vl fm ls) (hC : Reads G w cv (.l 3 (dLks cs))) :
   Calls Tryz.prog 50 #[.pointer (some ⟨g, 0, none⟩), cv] w fun r w' => r = .returned (.int .i64 (takeE 0 fm ls cs)) ∧ (takeE 0 fm ls cs ≠ 0 → Below w.heap.size w w') ∧ (takeE 0 fm ls cs = 0 → ∃ F' vl', TkAt B F' w' g vl' fm cs ∧ Kept g vl.ownBlock w w' ∧ (∀ k, F' k → F k ∨ w.heap.size ≤ k) ∧ (vl'.ownBlock = vl.ownBlock ∨ ∃ q, vl'.ownBlock = some q ∧ w.heap.size ≤ q)) := by
 have hgd := good_of hls
 have hl := hgd.len
 obtain ⟨ca, cc, hv⟩ := lks_form hC
 subst hv
 obtain ⟨r, rc, rfl, hc, hmx, hr, hrg⟩ := h.form
 have HK := hid (fun u => lknows_any B F g (.slice (some ⟨r, 0, none⟩) (ls.length + 1) rc) fm ls u)
 have HEp := hid (fun u => lepochK_any B F g (.slice (some ⟨r, 0, none⟩) (ls.length + 1) rc) fm ls (by omega) u)
 have HAt : Hid (∀ u, TkAt B F u g (.slice (some ⟨r, 0, none⟩) (ls.length + 1) rc) fm ls → ∃ a1 c1, u.cell? ⟨r, 0, none⟩ = some (.int .i64 0) ∧ u.cell? ⟨r, 1, none⟩ = some (.slice a1 fm.length c1) ∧ IntsIn u a1 fm) := hid (fun u hu => by
   obtain ⟨g', off', cap', a1, c1, a2, c2, hv, hg, k0, k1, k2, hi1, hp1⟩ := lks_at hu.reads 0 (0, fm, []) rfl
   cases hv
   exact ⟨a1, c1, k0, k1, hi1⟩)
 have HT := hid h
 have HC : Hid (∀ u, Below w.heap.size w u → Reads G u (.slice ca cs.length cc) (.l 3 (dLks cs))) := hid (fun u hu => hC.under hu (Nat.le_refl _))
 have HWk : Hid (∀ (E : Int), chainE 0 fm [] cs = E → cs.length ≤ 64 → ∀ (u : World) (a1 : Option Addr) (c1 : Nat), IntsIn u a1 fm → Below w.heap.size w u → Calls Tryz.prog 95 #[.agg #[.int .i64 0, .slice a1 fm.length c1], .slice ca cs.length cc] u fun r w' => r = .returned (.int .i64 E) ∧ Below u.heap.size u w') := hid (fun E hE h64 u a1 c1 hu hb => by rw [← hE]; exact lwalk_any fm (by have := (mem_len (right_mem hfm).2).2; unfold maxLen; omega) a1 c1 G _ cs hcs h64 u hu (HC.out u hb))
 have HOt : Hid (∀ (X : Bool), otherTo ls cs cs.length = X → cs.length ≤ 64 → Good cs → ∀ u : World, TkAt B F u g (.slice (some ⟨r, 0, none⟩) (ls.length + 1) rc) fm ls → Below w.heap.size w u → Calls Tryz.prog 96 #[.pointer (some ⟨g, 0, none⟩), .slice ca cs.length cc] u fun r w' => r = .returned (.bool X) ∧ Below u.heap.size u w') := hid (fun X hX h64 hgc u hu hb => by rw [← hX]; exact lisOther_any B F g _ fm ls (by omega) (fun k hk => (hgd.small k hk).1) G _ cs h64 hgc hrm u hu (HC.out u hb))
 have hl2 : (ls.length : Int) ≤ 900 := by omega
 have hl0 : (0 : Int) ≤ (ls.length : Int) := Int.natCast_nonneg _
 have hcl2 : (cs.length : Int) ≤ 9223372036854775807 := by unfold maxLen at hcl; omega
 have hrc1 : (1 : Int) ≤ (rc : Int) := by omega
 have hz1 : (0 : Int) < (ls.length : Int) + 1 := by omega
 have HL := hid (And.intro hl (And.intro hc hr))
 clear h hC hcs hrm hc hmx hr hrg hls hl hgd hcl hfm
 by_cases h64 : 64 < cs.length
 · have hE : takeE 0 fm ls cs = 3 := by rw [takeE, if_pos h64]
   have h64i : (64 : Int) < (cs.length : Int) := by omega
   rw [hE]
   clear hE h64
   go_enter Tryz.func50, Tryz.ntmps50
   go_wp2_with (go_at_call 94; refine (HK.out _ HT.out).mono ?_; rintro q w1 ⟨rfl, hb1⟩; have H1 := hid (And.intro (HT.out.keep hb1) hb1); clear hb1)
   go_ret
   exact ⟨rfl, fun _ => H1.out.2, fun hq => absurd hq (by decide)⟩
 · have h64n : cs.length ≤ 64 := by omega
   have h64i : ¬ ((64 : Int) < (cs.length : Int)) := by omega
   by_cases hch : chainE 0 fm [] cs = 0
   · have hgc := good_of hch
     have HWb := hid (HWk.out 0 hch h64n)
     by_cases hot : otherTo ls cs cs.length = true
     · have hE : takeE 0 fm ls cs = 22 := by rw [takeE, if_neg h64, if_neg (by simpa using hch), if_pos hot]
       have HOb := hid (HOt.out true hot h64n hgc)
       rw [hE]
       clear hE h64 hch hot hgc h64n
       go_enter Tryz.func50, Tryz.ntmps50
       go_wp2_with (first
         | (go_at_call 96; refine (HOb.out _ (by exact H2.out.1) (by exact H2.out.2)).mono ?_; rintro q w3 ⟨rfl, hb3⟩; have H3 := hid (And.intro (H2.out.1.keep hb3) (H2.out.2.trans (hb3.mono H2.out.2.size))); clear hb3)
         | (go_at_call 95; refine (HWb.out _ _ _ (by exact HI.out) (by exact H1.out.2)).mono ?_; rintro q w2 ⟨rfl, hb2⟩; have H2 := hid (And.intro (H1.out.1.keep hb2) (H1.out.2.trans (hb2.mono H1.out.2.size))); clear hb2)
         | (go_at_call 94; refine (HK.out _ HT.out).mono ?_; rintro q w1 ⟨rfl, hb1⟩; have H1 := hid (And.intro (HT.out.keep hb1) hb1); clear hb1; have x0 := cell_one H1.out.1.blk; obtain ⟨a1, c1, x1, x2, hi1⟩ := HAt.out _ H1.out.1; have HI := hid hi1; clear hi1))
       go_ret
       exact ⟨rfl, fun _ => H3.out.2, fun hq => absurd hq (by decide)⟩
     · have hot2 : otherTo ls cs cs.length = false := by simpa using hot
       have HOb := hid (HOt.out false hot2 h64n hgc)
       by_cases hold : cs.length ≤ ls.length
       · have hE : takeE 0 fm ls cs = 17 := by rw [takeE, if_neg h64, if_neg (by simpa using hch), if_neg hot, if_pos hold]
         have holdi : (cs.length : Int) ≤ (ls.length : Int) := by omega
         rw [hE]
         clear hE h64 hch hot hot2 hgc h64n hold
         go_enter Tryz.func50, Tryz.ntmps50
         go_wp2_with (first
           | (go_at_call 61; refine (HEp.out _ (by exact H3.out.1)).mono ?_; rintro q w4 ⟨rfl, hb4⟩; have H4 := hid (And.intro (H3.out.1.keep hb4) (H3.out.2.trans (hb4.mono H3.out.2.size))); clear hb4)
           | (go_at_call 96; refine (HOb.out _ (by exact H2.out.1) (by exact H2.out.2)).mono ?_; rintro q w3 ⟨rfl, hb3⟩; have H3 := hid (And.intro (H2.out.1.keep hb3) (H2.out.2.trans (hb3.mono H2.out.2.size))); clear hb3)
           | (go_at_call 95; refine (HWb.out _ _ _ (by exact HI.out) (by exact H1.out.2)).mono ?_; rintro q w2 ⟨rfl, hb2⟩; have H2 := hid (And.intro (H1.out.1.keep hb2) (H1.out.2.trans (hb2.mono H1.out.2.size))); clear hb2)
           | (go_at_call 94; refine (HK.out _ HT.out).mono ?_; rintro q w1 ⟨rfl, hb1⟩; have H1 := hid (And.intro (HT.out.keep hb1) hb1); clear hb1; have x0 := cell_one H1.out.1.blk; obtain ⟨a1, c1, x1, x2, hi1⟩ := HAt.out _ H1.out.1; have HI := hid hi1; clear hi1))
         go_ret
         exact ⟨rfl, fun _ => H4.out.2, fun hq => absurd hq (by decide)⟩
       · have hE : takeE 0 fm ls cs = 0 := by rw [takeE, if_neg h64, if_neg (by simpa using hch), if_neg hot, if_neg hold]
         have holdi : ¬ ((cs.length : Int) ≤ (ls.length : Int)) := by omega
         have holdi2 : (ls.length : Int) < (cs.length : Int) := by omega
         have HG : Hid (cs.length ≤ 64 ∧ cs ≠ [] ∧ ∀ k, k ∈ cs → k.2.1.length ≤ 10 ∧ k.2.2.length ≤ 16) := hid ⟨h64n, by intro e; rw [e] at hold; exact hold (Nat.zero_le _), fun k hk => hgc.small k hk⟩
         rw [hE]
         clear hE h64 hch hot hot2 hgc h64n hold
         go_enter Tryz.func50, Tryz.ntmps50
         go_wp2_with (first
           | (go_at_call 61; refine (HEp.out _ (by exact H3.out.1)).mono ?_; rintro q w4 ⟨rfl, hb4⟩; have H4 := hid (And.intro (H3.out.1.keep hb4) (H3.out.2.trans (hb4.mono H3.out.2.size))); clear hb4)
           | (go_at_call 96; refine (HOb.out _ (by exact H2.out.1) (by exact H2.out.2)).mono ?_; rintro q w3 ⟨rfl, hb3⟩; have H3 := hid (And.intro (H2.out.1.keep hb3) (H2.out.2.trans (hb3.mono H2.out.2.size))); clear hb3)
           | (go_at_call 95; refine (HWb.out _ _ _ (by exact HI.out) (by exact H1.out.2)).mono ?_; rintro q w2 ⟨rfl, hb2⟩; have H2 := hid (And.intro (H1.out.1.keep hb2) (H1.out.2.trans (hb2.mono H1.out.2.size))); clear hb2)
           | (go_at_call 94; refine (HK.out _ HT.out).mono ?_; rintro q w1 ⟨rfl, hb1⟩; have H1 := hid (And.intro (HT.out.keep hb1) hb1); clear hb1; have x0 := cell_one H1.out.1.blk; obtain ⟨a1, c1, x1, x2, hi1⟩ := HAt.out _ H1.out.1; have HI := hid hi1; clear hi1))
         clear x0 x1 x2
         have H4d : Hid (TkAt B F w4.drew g (.slice (some ⟨r, 0, none⟩) (ls.length + 1) rc) fm ls ∧ Below w.heap.size w w4.drew) := hid ⟨H4.out.1.keep (Below.refl _ _).drew, H4.out.2.drew⟩
         refine wp_region_held (S := fun ww => True) (by kernel_rfl) ?_
         try (change wpAnyH _ _ _ _ _ _ _ _ (World.drew _))
         refine wpAnyH_take (i := 0) (v := ?v1) rfl (by kernel_rfl) (by kernel_rfl) (by kernel_rfl) (fun _ _ _ h => h) (Or.inl ⟨by rfl, ?hy1⟩) trivial ?rest1
         case hy1 => (intro ww _; go_simp; try with_reducible rfl)
         go_simp
         refine wpAnyH_take (i := 1) (v := ?v2) rfl (by kernel_rfl) (by kernel_rfl) (by kernel_rfl) (fun _ _ _ h => h) (Or.inl ⟨by rfl, ?hy2⟩) trivial ?rest2
         case hy2 => (intro ww _; go_simp; try with_reducible rfl)
         go_simp
         refine wpAnyH_take (i := 2) (v := ?v3) rfl (by kernel_rfl) (by kernel_rfl) (by kernel_rfl) (fun _ _ _ h => h) (Or.inl ⟨by rfl, ?hy3⟩) trivial ?rest3
         case hy3 => (intro ww _; go_simp; try with_reducible rfl)
         go_simp
         refine wpAnyH_take (i := 3) (v := ?v4) rfl (by kernel_rfl) (by kernel_rfl) (by kernel_rfl) (fun _ _ _ h => h) (Or.inl ⟨by rfl, ?hy4⟩) trivial ?rest4
         case hy4 => (intro ww _; go_simp; try with_reducible rfl)
         go_simp
         refine wpAnyH_take (i := 6) (v := ?v5) rfl (by kernel_rfl) (by kernel_rfl) (by kernel_rfl) (fun _ _ _ h => h) (Or.inl ⟨by rfl, ?hy5⟩) trivial ?rest5
         case hy5 => (intro ww _; go_simp; try with_reducible rfl)
         go_simp
         refine wpAnyH_all (rs := [4, 7]) (by kernel_rfl) (by simp) ?_
         intro i hi
         rcases List.mem_cons.1 hi with rfl | hi
         · clear hi
           refine wpOp_k rfl (by rfl) (fun K hK => ?_)
           have q2 := cell_one H4d.out.1.blk
           go_simp
           refine hK _ _ ⟨trivial, ?_⟩
           clear hK K q2
           go_simp
           refine wpAnyH_take (i := 5) (v := ?v6) rfl (by kernel_rfl) (by kernel_rfl) (by kernel_rfl) (fun _ _ _ h => h) (Or.inl ⟨by rfl, ?hy6⟩) trivial ?rest6
           case hy6 => (intro ww _; go_simp; try with_reducible rfl)
           go_simp
           refine wpAnyH_all (rs := [7]) (by kernel_rfl) (by simp) ?_
           intro i hi
           obtain rfl := List.mem_singleton.1 hi
           clear hi
           refine wpOp_k rfl (by rfl) (fun K hK => ?_)
           go_simp
           refine (lcopyLinks_any G _ cs (by have := HG.out.1; omega) HG.out.2.2 _ (HC.out _ H4d.out.2)).mono ?_
           rintro q w5 ⟨v5, F5, rfl, ho5, hF5, hb5⟩
           have H5 : Hid (TkAt B F w5 g (.slice (some ⟨r, 0, none⟩) (ls.length + 1) rc) fm ls ∧ Below w.heap.size w w5 ∧ OwnD 74 3 w4.drew.heap.size F5 w5 v5 (dLks cs) ∧ (∀ k, F5 k → w4.drew.heap.size ≤ k ∧ Free w5 k)) := hid ⟨H4d.out.1.keep hb5, H4d.out.2.trans (hb5.mono H4d.out.2.size), ho5, hF5⟩
           clear ho5 hF5 hb5
           refine hK _ _ ⟨trivial, ?_⟩
           clear hK K
           go_simp
           refine wpAnyH_all (rs := [8]) (by kernel_rfl) (by simp) ?_
           intro i hi
           obtain rfl := List.mem_singleton.1 hi
           clear hi
           refine wpOp_k rfl (by rfl) (fun K hK => ?_)
           refine owp_add_links (.tmp 36) (.tmp 38) rfl B w4.drew.heap.size F F5 (.slice (some ⟨r, 0, none⟩) 1 rc) v5 [(0, fm, [])] cs (by rfl) (by rfl) (by have := H5.out.1.own.cut 1 (by rw [dLks_len, kn_len]; omega); exact this) H5.out.2.2.1 H5.out.1.le HG.out.2.1 H5.out.1.flt (fun j hj => (H5.out.2.2.2 j hj).2.lt) ?sepA6 ?sepB6 (by have := HG.out.1; simp; omega) ?_
           case sepA6 => (intro j hj hF; have h1 := (H4d.out.1.own.lt j (by cases hj; rfl)).2; have h2 := (H5.out.2.2.2 j hF).1; omega)
           case sepB6 => (intro j hj hv; have h1 := (H4d.out.1.own.lt j (by cases hj; rfl)).2; have h2 := (H5.out.2.2.1.lt j hv).1; omega)
           intro v6 w6 H6
           have HA := hid (TkAt.put (L := cs) H5.out.1 H6.out.1 H6.out.2.1 H6.out.2.2 (by rintro (hq | hq); exact H5.out.1.gF hq; have h1 := (H5.out.2.2.2 _ hq).1; have h2 := lt_of_blk H4d.out.1.blk; omega) (by rintro j (hq | hq); exact H5.out.1.flt j hq; exact (H5.out.2.2.2 j hq).2.lt))
           have H6s : Hid (w6.heap[g]? = some (.cells #[(.slice (some ⟨r, 0, none⟩) (ls.length + 1) rc)] 135 (0, 0))) := hid ((H6.out.2.1.block _ (lt_of_blk H5.out.1.blk) (fun he => H5.out.1.gv he.symm)).trans H5.out.1.blk)
           obtain ⟨a6, c6, hv6⟩ := H6.out.1.form
           subst hv6
           refine hK _ _ ⟨trivial, ?_⟩
           clear hK K
           go_simp
           refine wpAnyH_take (i := 9) (v := ?v7) rfl (by kernel_rfl) (by kernel_rfl) (by kernel_rfl) (fun _ _ _ h => h) (Or.inl ⟨by rfl, ?hy7⟩) trivial ?rest7
           case hy7 => (intro ww _; go_simp; try with_reducible rfl)
           go_simp
           refine wpAnyH_take (i := 10) (v := ?v8) rfl (by kernel_rfl) (by kernel_rfl) (by kernel_rfl) (fun _ _ _ h => h) (Or.inl ⟨by rfl, ?hy8⟩) trivial ?rest8
           case hy8 => (intro ww _; go_simp; try with_reducible rfl)
           go_simp
           refine wpAnyH_all (rs := [11]) (by kernel_rfl) (by simp) ?_
           intro i hi
           obtain rfl := List.mem_singleton.1 hi
           clear hi
           refine wpOp_k rfl (by rfl) (fun K hK => ?_)
           have r2 := cell_one H6s.out
           have f2 := free_at H6s.out 0
           go_simp
           refine hK _ _ ⟨trivial, ?_⟩
           clear hK K r2 f2
           go_simp
           refine wpAnyH_done (by kernel_rfl) ?_ _
           go_simp
           go_wp2
           go_ret
           refine ⟨rfl, fun hq => absurd rfl hq, fun _ => ⟨_, _, HA.out.1, ?_, ?_, ?_⟩⟩
           · exact Kept.trans (kept_of_below H5.out.2.1) HA.out.2 (.inl rfl)
           · rintro k (hk | hk)
             · exact .inl hk
             · exact .inr (Nat.le_trans H4d.out.2.size (H5.out.2.2.2 k hk).1)
           · rcases H6.out.2.2 with he | he
             · exact .inl he
             · exact .inr ⟨_, he, H5.out.2.1.size⟩
         · skip
           obtain rfl := List.mem_singleton.1 hi
           clear hi
           refine wpOp_k rfl (by rfl) (fun K hK => ?_)
           go_simp
           refine (lcopyLinks_any G _ cs (by have := HG.out.1; omega) HG.out.2.2 _ (HC.out _ H4d.out.2)).mono ?_
           rintro q w5 ⟨v5, F5, rfl, ho5, hF5, hb5⟩
           have H5 : Hid (TkAt B F w5 g (.slice (some ⟨r, 0, none⟩) (ls.length + 1) rc) fm ls ∧ Below w.heap.size w w5 ∧ OwnD 74 3 w4.drew.heap.size F5 w5 v5 (dLks cs) ∧ (∀ k, F5 k → w4.drew.heap.size ≤ k ∧ Free w5 k)) := hid ⟨H4d.out.1.keep hb5, H4d.out.2.trans (hb5.mono H4d.out.2.size), ho5, hF5⟩
           clear ho5 hF5 hb5
           refine hK _ _ ⟨trivial, ?_⟩
           clear hK K
           go_simp
           refine wpAnyH_all (rs := [4]) (by kernel_rfl) (by simp) ?_
           intro i hi
           obtain rfl := List.mem_singleton.1 hi
           clear hi
           refine wpOp_k rfl (by rfl) (fun K hK => ?_)
           have q2 := cell_one H5.out.1.blk
           go_simp
           refine hK _ _ ⟨trivial, ?_⟩
           clear hK K q2
           go_simp
           refine wpAnyH_take (i := 5) (v := ?v9) rfl (by kernel_rfl) (by kernel_rfl) (by kernel_rfl) (fun _ _ _ h => h) (Or.inl ⟨by rfl, ?hy9⟩) trivial ?rest9
           case hy9 => (intro ww _; go_simp; try with_reducible rfl)
           go_simp
           refine wpAnyH_all (rs := [8]) (by kernel_rfl) (by simp) ?_
           intro i hi
           obtain rfl := List.mem_singleton.1 hi
           clear hi
           refine wpOp_k rfl (by rfl) (fun K hK => ?_)
           refine owp_add_links (.tmp 36) (.tmp 38) rfl B w4.drew.heap.size F F5 (.slice (some ⟨r, 0, none⟩) 1 rc) v5 [(0, fm, [])] cs (by rfl) (by rfl) (by have := H5.out.1.own.cut 1 (by rw [dLks_len, kn_len]; omega); exact this) H5.out.2.2.1 H5.out.1.le HG.out.2.1 H5.out.1.flt (fun j hj => (H5.out.2.2.2 j hj).2.lt) ?sepA9 ?sepB9 (by have := HG.out.1; simp; omega) ?_
           case sepA9 => (intro j hj hF; have h1 := (H4d.out.1.own.lt j (by cases hj; rfl)).2; have h2 := (H5.out.2.2.2 j hF).1; omega)
           case sepB9 => (intro j hj hv; have h1 := (H4d.out.1.own.lt j (by cases hj; rfl)).2; have h2 := (H5.out.2.2.1.lt j hv).1; omega)
           intro v6 w6 H6
           have HA := hid (TkAt.put (L := cs) H5.out.1 H6.out.1 H6.out.2.1 H6.out.2.2 (by rintro (hq | hq); exact H5.out.1.gF hq; have h1 := (H5.out.2.2.2 _ hq).1; have h2 := lt_of_blk H4d.out.1.blk; omega) (by rintro j (hq | hq); exact H5.out.1.flt j hq; exact (H5.out.2.2.2 j hq).2.lt))
           have H6s : Hid (w6.heap[g]? = some (.cells #[(.slice (some ⟨r, 0, none⟩) (ls.length + 1) rc)] 135 (0, 0))) := hid ((H6.out.2.1.block _ (lt_of_blk H5.out.1.blk) (fun he => H5.out.1.gv he.symm)).trans H5.out.1.blk)
           obtain ⟨a6, c6, hv6⟩ := H6.out.1.form
           subst hv6
           refine hK _ _ ⟨trivial, ?_⟩
           clear hK K
           go_simp
           refine wpAnyH_take (i := 9) (v := ?v10) rfl (by kernel_rfl) (by kernel_rfl) (by kernel_rfl) (fun _ _ _ h => h) (Or.inl ⟨by rfl, ?hy10⟩) trivial ?rest10
           case hy10 => (intro ww _; go_simp; try with_reducible rfl)
           go_simp
           refine wpAnyH_take (i := 10) (v := ?v11) rfl (by kernel_rfl) (by kernel_rfl) (by kernel_rfl) (fun _ _ _ h => h) (Or.inl ⟨by rfl, ?hy11⟩) trivial ?rest11
           case hy11 => (intro ww _; go_simp; try with_reducible rfl)
           go_simp
           refine wpAnyH_all (rs := [11]) (by kernel_rfl) (by simp) ?_
           intro i hi
           obtain rfl := List.mem_singleton.1 hi
           clear hi
           refine wpOp_k rfl (by rfl) (fun K hK => ?_)
           have r2 := cell_one H6s.out
           have f2 := free_at H6s.out 0
           go_simp
           refine hK _ _ ⟨trivial, ?_⟩
           clear hK K r2 f2
           go_simp
           refine wpAnyH_done (by kernel_rfl) ?_ _
           go_simp
           go_wp2
           go_ret
           refine ⟨rfl, fun hq => absurd rfl hq, fun _ => ⟨_, _, HA.out.1, ?_, ?_, ?_⟩⟩
           · exact Kept.trans (kept_of_below H5.out.2.1) HA.out.2 (.inl rfl)
           · rintro k (hk | hk)
             · exact .inl hk
             · exact .inr (Nat.le_trans H4d.out.2.size (H5.out.2.2.2 k hk).1)
           · rcases H6.out.2.2 with he | he
             · exact .inl he
             · exact .inr ⟨_, he, H5.out.2.1.size⟩
   · have hE : takeE 0 fm ls cs = chainE 0 fm [] cs := by rw [takeE, if_neg h64, if_pos hch]
     have HWb := hid (HWk.out _ rfl h64n)
     rw [hE]
     generalize chainE 0 fm [] cs = E at *
     have hEb : (E != 0) = true := by simpa using hch
     have HN := hid hch
     clear hE h64 hch h64n
     go_enter Tryz.func50, Tryz.ntmps50
     go_wp2_with (first
       | (go_at_call 95; refine (HWb.out _ _ _ (by exact HI.out) (by exact H1.out.2)).mono ?_; rintro q w2 ⟨rfl, hb2⟩; have H2 := hid (And.intro (H1.out.1.keep hb2) (H1.out.2.trans (hb2.mono H1.out.2.size))); clear hb2)
       | (go_at_call 94; refine (HK.out _ HT.out).mono ?_; rintro q w1 ⟨rfl, hb1⟩; have H1 := hid (And.intro (HT.out.keep hb1) hb1); clear hb1; have x0 := cell_one H1.out.1.blk; obtain ⟨a1, c1, x1, x2, hi1⟩ := HAt.out _ H1.out.1; have HI := hid hi1; clear hi1))
     go_ret
     exact ⟨rfl, fun _ => H2.out.2, fun hq => absurd hq HN.out⟩
theorem TkAt.outs {O : Nat → Prop} {F : Nat → Prop} {g : Nat} {vl : Value} {w w' : World} (hO : ∀ k, O k ↔ (k = g ∨ F k ∨ vl.ownBlock = some k)) (h : Kept g vl.ownBlock w w') : Outs O w w' :=
 ⟨h.os, h.tape, h.output, h.size, fun k hk hn => h.block k hk (fun e => hn ((hO k).2 (.inl e))) (fun e => hn ((hO k).2 (.inr (.inr e.symm))))⟩
theorem tr_either {O : Nat → Prop} {B : Nat} {F : Nat → Prop} {g : Nat} {vl : Value} {fm : List Int} {ls L : List Lk} {w w' : World} {E : Int} (h : TkAt B F w g vl fm ls) (hO : ∀ k, O k ↔ (k = g ∨ F k ∨ vl.ownBlock = some k)) (h1 : E ≠ 0 → Below w.heap.size w w') (h2 : E = 0 → ∃ F' vl', TkAt B F' w' g vl' fm L ∧ Kept g vl.ownBlock w w' ∧ (∀ k, F' k → F k ∨ w.heap.size ≤ k) ∧ (vl'.ownBlock = vl.ownBlock ∨ ∃ q, vl'.ownBlock = some q ∧ w.heap.size ≤ q)) :
   Outs O w w' ∧ ∃ O', TrAt O' w' (.pointer (some ⟨g, 0, none⟩)) fm (if E = 0 then L else ls) ∧ ∀ k, O' k → O k ∨ w.heap.size ≤ k := by
 by_cases hE : E = 0
 · obtain ⟨F', vl', hM, hK, hF, hv⟩ := h2 hE
   rw [if_pos hE]
   refine ⟨TkAt.outs hO hK, fun k => k = g ∨ F' k ∨ vl'.ownBlock = some k, ⟨g, B, F', vl', rfl, hM, fun k => Iff.rfl⟩, ?_⟩
   rintro k (rfl | hk | hk)
   · exact .inl ((hO k).2 (.inl rfl))
   · rcases hF k hk with hq | hq
     · exact .inl ((hO k).2 (.inr (.inl hq)))
     · exact .inr hq
   · rcases hv with e | ⟨q, e, hq⟩
     · exact .inl ((hO k).2 (.inr (.inr (e ▸ hk))))
     · rw [hk] at e; cases e; exact .inr hq
 · rw [if_neg hE]
   exact ⟨outs_of (h1 hE), O, ⟨g, B, F, vl, rfl, h.keep (h1 hE), hO⟩, fun k hk => .inl hk⟩
theorem ltake_any (O : Nat → Prop) (v : Value) (fm : List Int) (hfm : rightC 0 fm = true) (ls : List Lk) (hls : chainE 0 fm [] ls = 0) (G : Nat → Prop) (cv : Value) (cs : List Lk) (hcs : ∀ k, k ∈ cs → k.2.1.length ≤ maxLen ∧ k.2.2.length ≤ maxLen) (hcl : cs.length ≤ maxLen) (hrm : ∀ ad n c, cv = .slice ad n c → n ≤ c) (w : World) (h : TrAt O w v fm ls) (hC : Reads G w cv (.l 3 (dLks cs))) :
   Calls Tryz.prog 50 #[v, cv] w fun r w' => r = .returned (.int .i64 (takeE 0 fm ls cs)) ∧ Outs O w w' ∧ ∃ O', TrAt O' w' v fm (if takeE 0 fm ls cs = 0 then cs else ls) ∧ ∀ k, O' k → O k ∨ w.heap.size ≤ k := by
 obtain ⟨g, B, F, vl, rfl, hM, hO⟩ := h
 refine (ltakeK_any B F g vl fm hfm ls hls G cv cs hcs hcl hrm w hM hC).mono ?_
 rintro r w' ⟨rfl, h1, h2⟩
 exact ⟨rfl, tr_either hM hO h1 h2⟩
end
section
open Go.RowKit
end
section
open Go.RowKit
end
section
open Go.RowKit
end
section
open Go.RowKit
end
section
open Go.RowKit
inductive Caps (w : World) : Value → Dat → Prop where
 | i (x : Int) : Caps w (.int .i64 x) (.i x)
 | b (x : Bool) : Caps w (.bool x) (.b x)
 | s (x : ByteArray) : Caps w (.string x) (.s x)
 | q (x : Nat) : Caps w (.int .u64 (x : Int)) (.q x)
 | f (x : Nat) : Caps w (.float .f64 x) (.f x)
 | l (ad : Option Addr) (n cap sz : Nat) (es : List (List Dat)) (hn : n ≤ cap)
     (h : ∀ (g off j q : Nat) (e : List Dat) (d : Dat) (u : Value), ad = some ⟨g, off, none⟩ → es[j]? = some e → e[q]? = some d → w.cell? ⟨g, off + j * sz + q, none⟩ = some u → Caps w u d) : Caps w (.slice ad n cap) (.l sz es)
end
section
open Go.RowKit
end
section
open Go.RowKit
end
section
open Go.RowKit
theorem RdAt.lt {w : World} {b : Nat} {s : ByteArray} {sh : Bool} (h : RdAt w b s sh) : b < w.heap.size := lt_of_blk h
theorem RdAt.c0 {w : World} {b : Nat} {s : ByteArray} {sh : Bool} (h : RdAt w b s sh) : w.cell? ⟨b, 0, none⟩ = some (.string s) := cell_of_blk h 0 (by simp)
theorem RdAt.c1 {w : World} {b : Nat} {s : ByteArray} {sh : Bool} (h : RdAt w b s sh) : w.cell? ⟨b, 1, none⟩ = some (.bool sh) := cell_of_blk h 1 (by simp)
theorem RdAt.fr {w : World} {b : Nat} {s : ByteArray} {sh : Bool} (h : RdAt w b s sh) (j : Nat) : w.frozen? ⟨b, j, none⟩ = false := free_of_blk h j
theorem ret_int {k : IntKind} {a b : Int} (h : a = b) : Ending.returned (.int k a) = .returned (.int k b) := by rw [h]
set_option maxHeartbeats 400000 in
theorem read_any (s : ByteArray) (w : World) :
   Calls Tryz.prog 124 #[.string s] w fun e w' => e = .returned (.pointer (some ⟨w.heap.size, 0, none⟩)) ∧ w' = w.alloc (.cells #[.string s, .bool false] 207) := by
 go_enter Tryz.func124, Tryz.ntmps124
 go_wp2
 go_ret
 exact ⟨rfl, rfl⟩
def endOf (s : ByteArray) (sh : Bool) : Int := if sh then 2 else if 0 < s.size then 5 else 0
set_option maxHeartbeats 400000 in
theorem end_any (b : Nat) (s : ByteArray) (sh : Bool) (w : World) (h : RdAt w b s sh) :
   Calls Tryz.prog 130 #[.pointer (some ⟨b, 0, none⟩)] w fun e w' => e = .returned (.int .i64 (endOf s sh)) ∧ w' = w := by
 have c0 := h.c0
 have c1 := h.c1
 cases sh with
 | true =>
   go_enter Tryz.func130, Tryz.ntmps130
   go_wp2
   go_ret
   exact ⟨rfl, rfl⟩
 | false =>
   by_cases hs : 0 < s.size
   · go_enter Tryz.func130, Tryz.ntmps130
     go_wp2
     go_ret
     exact ⟨by simp [endOf, hs], rfl⟩
   · go_enter Tryz.func130, Tryz.ntmps130
     go_wp2
     go_ret
     exact ⟨by simp [endOf, hs], rfl⟩
theorem RdAt.short {w : World} {b : Nat} {s : ByteArray} {sh : Bool} (h : RdAt w b s sh) (u : Bool) : RdAt (w.setCell ⟨b, 1, none⟩ (.bool u)) b s u := by
 unfold RdAt at h ⊢
 simp [World.setCell, Array.getElem?_modify, h]
theorem RdAt.rest {w : World} {b : Nat} {s : ByteArray} {sh : Bool} (h : RdAt w b s sh) (u : ByteArray) : RdAt (w.setCell ⟨b, 0, none⟩ (.string u)) b u sh := by
 unfold RdAt at h ⊢
 simp [World.setCell, Array.getElem?_modify, h]
def hasB (s : ByteArray) (sh : Bool) (n : Int) : Bool := !sh && decide (n ≤ s.size)
set_option maxHeartbeats 400000 in
theorem has_any (b : Nat) (s : ByteArray) (sh : Bool) (n : Int) (w : World) (h : RdAt w b s sh) :
   Calls Tryz.prog 157 #[.pointer (some ⟨b, 0, none⟩), .int .i64 n] w fun e w' => e = .returned (.bool (hasB s sh n)) ∧ RdAt w' b s (sh || decide ((s.size : Int) < n)) ∧ Kept b none w w' := by
 have c0 := h.c0
 have c1 := h.c1
 have f1 := h.fr 1
 by_cases hn : (s.size : Int) < n
 · go_enter Tryz.func157, Tryz.ntmps157
   go_wp2
   go_ret
   exact ⟨by simp [hasB]; omega, by simpa [hn] using h.short true, (Kept.refl _ _ _).setCell _ _⟩
 · go_enter Tryz.func157, Tryz.ntmps157
   go_wp2
   go_ret
   have hle : n ≤ (s.size : Int) := by omega
   have hd : decide ((s.size : Int) < n) = false := by simp; omega
   exact ⟨by simp [hasB, hle], by rw [hd, Bool.or_false]; exact h, Kept.refl _ _ _⟩
set_option maxHeartbeats 400000 in
theorem take_any (b : Nat) (s : ByteArray) (sh : Bool) (n : Nat) (w : World) (h : RdAt w b s sh) (hn : n ≤ s.size) :
   Calls Tryz.prog 159 #[.pointer (some ⟨b, 0, none⟩), .int .i64 n] w fun e w' => e = .returned (.string (s.extract 0 n)) ∧ w' = w.setCell ⟨b, 0, none⟩ (.string (s.extract n s.size)) := by
 have c0 := h.c0
 have f0 := h.fr 0
 have hn0 : (0 : Int) ≤ (n : Int) := Int.natCast_nonneg _
 have hn1 : (n : Int) ≤ (s.size : Int) := by omega
 go_enter Tryz.func159, Tryz.ntmps159
 go_wp2
 go_ret
 exact ⟨rfl, rfl⟩
set_option maxHeartbeats 400000 in
theorem value_any (s : ByteArray) (w : World) (hs : s.size ≤ 8) :
   Calls Tryz.prog 158 #[.string s] w fun e w' => e = .returned (.int .u64 (val s.data.toList)) ∧ w' = w := by
 go_enter Tryz.func158, Tryz.ntmps158
 go_wp2
 go_loop [3, 7] (fun n i => ∃ k : Nat, k ≤ s.size ∧ i = .int .i64 k ∧ n = .int .u64 (val (s.data.toList.take k))) (fun _ i => s.size - (intOf i).toNat)
 case atStart => exact ⟨0, Nat.zero_le _, rfl, rfl⟩
 case round =>
   obtain ⟨k, hk, rfl, rfl⟩ := hrel
   by_cases hlt : k < s.size
   · have hv := val_lt (s.data.toList.take k)
     have hl : (s.data.toList.take k).length = k := by simp; have : s.data.size = s.size := rfl; omega
     have hv2 : val (s.data.toList.take k) < 72057594037927936 := by
       rw [hl] at hv
       exact Nat.lt_of_lt_of_le hv (Nat.le_trans (Nat.pow_le_pow_right (by decide) (show k ≤ 7 by omega)) (by decide))
     have HV : Hid (val (s.data.toList.take k) < 72057594037927936) := hv2
     clear hv hl hv2
     go_wp2
     go_round
     case rel => exact ⟨k + 1, by omega, by go_num, by rw [or_val _ _ HV.out, take_snoc s k hlt, val_snoc]⟩
     case measure => simp [intOf]; omega
   · go_wp2
     go_ret
     exact ⟨ret_int (by rw [List.take_of_length_le (by simp; have : s.data.size = s.size := rfl; omega)]), rfl⟩
def rN (s : ByteArray) (sh : Bool) (n : Nat) : Nat := if hasB s sh n then val (s.data.toList.take n) else 0
def rS (s : ByteArray) (sh : Bool) (n : Nat) : ByteArray := if hasB s sh n then s.extract n s.size else s
def rB (s : ByteArray) (sh : Bool) (n : Nat) : Bool := !hasB s sh n
set_option maxHeartbeats 400000 in
theorem number_yes (b : Nat) (s : ByteArray) (n : Nat) (w : World) (h : RdAt w b s false) (hn : n ≤ s.size) (h8 : n ≤ 8) :
   Calls Tryz.prog 156 #[.pointer (some ⟨b, 0, none⟩), .int .i64 n] w fun e w' => e = .returned (.int .u64 (val (s.data.toList.take n))) ∧ RdAt w' b (s.extract n s.size) false ∧ Kept b none w w' := by
 have hb : hasB s false n = true := by simp [hasB]; omega
 have hd : decide ((s.size : Int) < (n : Int)) = false := by simp; omega
 have hx : (s.extract 0 n).size ≤ 8 := by simp; omega
 go_enter Tryz.func156, Tryz.ntmps156
 go_wp2_with (first | (go_at_call 157; refine (has_any b s false n _ h).mono ?_; rintro e w1 ⟨rfl, hr, hk⟩) | (go_at_call 159; refine (take_any b s _ n _ hr hn).mono ?_; rintro e w2 ⟨rfl, rfl⟩) | (go_at_call 158; refine (value_any _ _ hx).mono ?_; rintro e w3 ⟨rfl, rfl⟩))
 go_ret
 refine ⟨rfl, ?_, hk.setCell _ _⟩
 have hr2 : RdAt w1 b s false := by rw [hd] at hr; exact hr
 exact hr2.rest _
set_option maxHeartbeats 400000 in
theorem number_no (b : Nat) (s : ByteArray) (sh : Bool) (n : Nat) (w : World) (h : RdAt w b s sh) (hn : hasB s sh n = false) :
   Calls Tryz.prog 156 #[.pointer (some ⟨b, 0, none⟩), .int .i64 n] w fun e w' => e = .returned (.int .u64 0) ∧ RdAt w' b s true ∧ Kept b none w w' := by
 have hd : (sh || decide ((s.size : Int) < (n : Int))) = true := by simp [hasB] at hn ⊢; cases sh <;> simp at hn ⊢; omega
 have HD : Hid ((sh || decide ((s.size : Int) < (n : Int))) = true) := hd
 clear hd
 go_enter Tryz.func156, Tryz.ntmps156
 go_wp2_with (first | (go_at_call 157; refine (has_any b s sh n _ h).mono ?_; rintro e w1 ⟨rfl, hr, hk⟩))
 go_ret
 exact ⟨rfl, by rw [HD.out] at hr; exact hr, hk⟩
theorem number_any (b : Nat) (s : ByteArray) (sh : Bool) (n : Nat) (w : World) (h : RdAt w b s sh) (h8 : n ≤ 8) :
   Calls Tryz.prog 156 #[.pointer (some ⟨b, 0, none⟩), .int .i64 n] w fun e w' => e = .returned (.int .u64 (rN s sh n)) ∧ RdAt w' b (rS s sh n) (rB s sh n) ∧ Kept b none w w' := by
 unfold rN rS rB
 cases hb : hasB s sh n with
 | true =>
   have h1 : sh = false := by cases sh <;> simp [hasB] at hb ⊢
   subst h1
   exact number_yes b s n w h (by simp [hasB] at hb; omega) h8
 | false => exact number_no b s sh n w h hb
theorem rN_lt (s : ByteArray) (sh : Bool) (n : Nat) : rN s sh n < 256 ^ n := by
 unfold rN
 split
 · have := val_lt (s.data.toList.take n)
   exact Nat.lt_of_lt_of_le this (Nat.pow_le_pow_right (by decide) (by simp; omega))
 · exact Nat.pow_pos (by decide)
theorem rN_i (s : ByteArray) (sh : Bool) (n : Nat) (hn : 256 ^ n ≤ 4294967296) : (rN s sh n : Int) ≤ 4294967295 := by
 have := rN_lt s sh n
 omega
set_option maxHeartbeats 400000 in
theorem rbyte_any (b : Nat) (s : ByteArray) (sh : Bool) (w : World) (h : RdAt w b s sh) :
   Calls Tryz.prog 125 #[.pointer (some ⟨b, 0, none⟩)] w fun e w' => e = .returned (.int .i64 (rN s sh 1)) ∧ RdAt w' b (rS s sh 1) (rB s sh 1) ∧ Kept b none w w' := by
 have hc : Calls Tryz.prog 156 #[.pointer (some ⟨b, 0, none⟩), .int .i64 1] w fun e w' => e = .returned (.int .u64 (rN s sh 1)) ∧ RdAt w' b (rS s sh 1) (rB s sh 1) ∧ Kept b none w w' := number_any b s sh 1 w h (by decide)
 have hv2 := rN_i s sh 1 (by decide)
 go_enter Tryz.func125, Tryz.ntmps125
 go_wp2_with (go_at_call 156; refine hc.mono ?_; rintro e w1 ⟨rfl, hr, hk⟩)
 go_ret
 exact ⟨rfl, hr, hk⟩
set_option maxHeartbeats 400000 in
theorem rword_any (b : Nat) (s : ByteArray) (sh : Bool) (w : World) (h : RdAt w b s sh) :
   Calls Tryz.prog 201 #[.pointer (some ⟨b, 0, none⟩)] w fun e w' => e = .returned (.int .i64 (rN s sh 2)) ∧ RdAt w' b (rS s sh 2) (rB s sh 2) ∧ Kept b none w w' := by
 have hc : Calls Tryz.prog 156 #[.pointer (some ⟨b, 0, none⟩), .int .i64 2] w fun e w' => e = .returned (.int .u64 (rN s sh 2)) ∧ RdAt w' b (rS s sh 2) (rB s sh 2) ∧ Kept b none w w' := number_any b s sh 2 w h (by decide)
 have hv2 := rN_i s sh 2 (by decide)
 go_enter Tryz.func201, Tryz.ntmps201
 go_wp2_with (go_at_call 156; refine hc.mono ?_; rintro e w1 ⟨rfl, hr, hk⟩)
 go_ret
 exact ⟨rfl, hr, hk⟩
set_option maxHeartbeats 400000 in
theorem rlong_any (b : Nat) (s : ByteArray) (sh : Bool) (w : World) (h : RdAt w b s sh) :
   Calls Tryz.prog 126 #[.pointer (some ⟨b, 0, none⟩)] w fun e w' => e = .returned (.int .i64 (rN s sh 4)) ∧ RdAt w' b (rS s sh 4) (rB s sh 4) ∧ Kept b none w w' := by
 have hc : Calls Tryz.prog 156 #[.pointer (some ⟨b, 0, none⟩), .int .i64 4] w fun e w' => e = .returned (.int .u64 (rN s sh 4)) ∧ RdAt w' b (rS s sh 4) (rB s sh 4) ∧ Kept b none w w' := number_any b s sh 4 w h (by decide)
 have hv2 := rN_i s sh 4 (by decide)
 go_enter Tryz.func126, Tryz.ntmps126
 go_wp2_with (go_at_call 156; refine hc.mono ?_; rintro e w1 ⟨rfl, hr, hk⟩)
 go_ret
 exact ⟨rfl, hr, hk⟩
set_option maxHeartbeats 400000 in
theorem rbits_any (b : Nat) (s : ByteArray) (sh : Bool) (w : World) (h : RdAt w b s sh) :
   Calls Tryz.prog 129 #[.pointer (some ⟨b, 0, none⟩)] w fun e w' => e = .returned (.int .u64 (rN s sh 8)) ∧ RdAt w' b (rS s sh 8) (rB s sh 8) ∧ Kept b none w w' := by
 have hc : Calls Tryz.prog 156 #[.pointer (some ⟨b, 0, none⟩), .int .i64 8] w fun e w' => e = .returned (.int .u64 (rN s sh 8)) ∧ RdAt w' b (rS s sh 8) (rB s sh 8) ∧ Kept b none w w' := number_any b s sh 8 w h (by decide)
 go_enter Tryz.func129, Tryz.ntmps129
 go_wp2_with (go_at_call 156; refine hc.mono ?_; rintro e w1 ⟨rfl, hr, hk⟩)
 go_ret
 exact ⟨rfl, hr, hk⟩
end
section
open Go.RowKit
theorem take_at (b : Nat) (s : ByteArray) (sh : Bool) (n : Nat) (z : Int) (hz : z = n) (w : World) (h : RdAt w b s sh) (hn : n ≤ s.size) :
   Calls Tryz.prog 159 #[.pointer (some ⟨b, 0, none⟩), .int .i64 z] w fun e w' => e = .returned (.string (s.extract 0 n)) ∧ w' = w.setCell ⟨b, 0, none⟩ (.string (s.extract n s.size)) := by
 subst hz
 exact take_any b s sh n w h hn
theorem back_conv (w : World) (x : ByteArray) (cap : Nat) (fr : Nat × Nat) :
   (convert 196 9 (.slice (some ⟨w.heap.size, 0, none⟩) x.size cap)).run Tryz.prog (w.alloc (.cells (bytesRow x cap) 5 fr)).drew = .ok (.string x) (w.alloc (.cells (bytesRow x cap) 5 fr)).drew := by
 have h := run_convert_bytes_back (P := Tryz.prog) (w.alloc (.cells (bytesRow x cap) 5 fr)).drew 196 9 5 ⟨w.heap.size, 0, none⟩ cap x.data.toList Tryz.underlying196 Tryz.underlying5 Tryz.underlying9 (fun j hj => by
   show (w.alloc (.cells (bytesRow x cap) 5 fr)).cell? ((⟨w.heap.size, 0, none⟩ : Addr).add j) = _
   rw [Addr.add_lit, Nat.zero_add, World.cell?_alloc_mark, bytesRow_at x _ j (by simpa using hj)]
   simp)
 simpa using h
def tOK (s : ByteArray) (sh : Bool) : Bool := hasB s sh 2 && decide (2 + val (s.data.toList.take 2) ≤ s.size)
def tT (s : ByteArray) (sh : Bool) : ByteArray := if tOK s sh then s.extract 2 (2 + val (s.data.toList.take 2)) else ⟨#[]⟩
def tS (s : ByteArray) (sh : Bool) : ByteArray := if tOK s sh then s.extract (2 + val (s.data.toList.take 2)) s.size else s
def tB (s : ByteArray) (sh : Bool) : Bool := !tOK s sh
set_option maxHeartbeats 800000 in
theorem rtext_yes (b : Nat) (s : ByteArray) (w : World) (h : RdAt w b s false) (m : Nat) (hm : val (s.data.toList.take 2) = m) (h2 : 2 + m ≤ s.size) (hm2 : m ≤ 65535) :
   Calls Tryz.prog 127 #[.pointer (some ⟨b, 0, none⟩)] w fun e w' => e = .returned (.string (s.extract 2 (2 + m))) ∧ RdAt w' b (s.extract (2 + m) s.size) false ∧ Kept b none w w' := by
 have hb : hasB s false 2 = true := by simp [hasB]; omega
 have hb2 : hasB s false (2 + m) = true := by simp [hasB]; omega
 have hd : decide ((s.size : Int) < 2) = false := by simp; omega
 have hd2 : decide ((s.size : Int) < 2 + (m : Int)) = false := by simp; omega
 have hx : (s.extract 0 2).size ≤ 8 := by simp; omega
 have hx2 : val (s.extract 0 2).data.toList = m := by rw [extract_list]; simpa using hm
 have hv : ∀ w, Calls Tryz.prog 158 #[.string (s.extract 0 2)] w fun e w' => e = .returned (.int .u64 m) ∧ w' = w := fun w => by
   have := value_any (s.extract 0 2) w hx
   rw [hx2] at this
   exact this
 have HV : Hid (∀ w, Calls Tryz.prog 158 #[.string (s.extract 0 2)] w fun e w' => e = .returned (.int .u64 m) ∧ w' = w) := hv
 have hcv := fun (w : World) (x : ByteArray) => run_bytes_of_string (P := Tryz.prog) w 9 196 5 x Tryz.underlying9 Tryz.underlying196 Tryz.underlying5
 have hxe : (s.extract 0 (2 + m)).extract 2 (2 + m) = s.extract 2 (2 + m) := by
   apply ByteArray.ext
   apply Array.toList_inj.1
   rw [extract_list, extract_list, extract_list]
   simp [List.take_take]
 have hxs : (s.extract 2 (2 + m)).size = m := by simp; omega
 have hbk : ∀ (w : World) (cap : Nat) (fr : Nat × Nat), (convert 196 9 (.slice (some ⟨w.heap.size, 0, none⟩) m cap)).run Tryz.prog (w.alloc (.cells (bytesRow ((s.extract 0 (2 + m)).extract 2 (2 + m)) cap) 5 fr)).drew = .ok (.string (s.extract 2 (2 + m))) (w.alloc (.cells (bytesRow ((s.extract 0 (2 + m)).extract 2 (2 + m)) cap) 5 fr)).drew := fun w cap fr => by
   have := back_conv w (s.extract 2 (2 + m)) cap fr
   rw [hxs] at this
   rw [hxe]
   exact this
 clear hxe hxs
 clear hx hx2 hm hv
 go_enter Tryz.func127, Tryz.ntmps127
 go_wp2_with fail
 refine (has_any b s false 2 _ h).mono ?_
 rintro e w1 ⟨rfl, hr, hk⟩
 have hr1 : RdAt w1 b s false := by rw [hd] at hr; exact hr
 clear hr
 have c0 := hr1.c0
 go_wp2_with fail
 refine (HV.out _).mono ?_
 rintro e w2 ⟨rfl, rfl⟩
 go_wp2_with fail
 refine (has_any b s false (2 + m) _ hr1).mono ?_
 rintro e w2 ⟨rfl, hr, hk2⟩
 have hr2 : RdAt w2 b s false := by rw [hd2] at hr; exact hr
 clear hr hr1 c0
 go_wp2_with fail
 refine (take_at b s false (2 + m) _ (by omega) _ hr2 h2).mono ?_
 rintro e w3 ⟨rfl, hw3⟩
 have hr3 : RdAt w3 b (s.extract (2 + m) s.size) false := by rw [hw3]; exact hr2.rest _
 have hk3 : Kept b none w w3 := by rw [hw3]; exact (hk.trans hk2 (.inl rfl)).setCell _ _
 clear hw3
 go_wp2
 go_ret
 refine ⟨rfl, ?_, (hk3.alloc _).drew⟩
 show RdAt _ _ _ _
 unfold RdAt at hr3 ⊢
 exact (Below.heap_alloc _ _ _ (lt_of_blk hr3)).trans hr3
set_option maxHeartbeats 800000 in
theorem rtext_short (b : Nat) (s : ByteArray) (w : World) (h : RdAt w b s false) (m : Nat) (hm : val (s.data.toList.take 2) = m) (h0 : 2 ≤ s.size) (h2 : s.size < 2 + m) (hm2 : m ≤ 65535) :
   Calls Tryz.prog 127 #[.pointer (some ⟨b, 0, none⟩)] w fun e w' => e = .returned (.string ⟨#[]⟩) ∧ RdAt w' b s true ∧ Kept b none w w' := by
 have hb : hasB s false 2 = true := by simp [hasB]; omega
 have hb2 : hasB s false (2 + m) = false := by simp [hasB]; omega
 have hd : decide ((s.size : Int) < 2) = false := by simp; omega
 have hd2 : decide ((s.size : Int) < 2 + (m : Int)) = true := by simp; omega
 have hx : (s.extract 0 2).size ≤ 8 := by simp; omega
 have hx2 : val (s.extract 0 2).data.toList = m := by rw [extract_list]; simpa using hm
 have hv : ∀ w, Calls Tryz.prog 158 #[.string (s.extract 0 2)] w fun e w' => e = .returned (.int .u64 m) ∧ w' = w := fun w => by
   have := value_any (s.extract 0 2) w hx
   rw [hx2] at this
   exact this
 have HV : Hid (∀ w, Calls Tryz.prog 158 #[.string (s.extract 0 2)] w fun e w' => e = .returned (.int .u64 m) ∧ w' = w) := hv
 clear hx hx2 hm hv
 go_enter Tryz.func127, Tryz.ntmps127
 go_wp2_with fail
 refine (has_any b s false 2 _ h).mono ?_
 rintro e w1 ⟨rfl, hr, hk⟩
 have hr1 : RdAt w1 b s false := by rw [hd] at hr; exact hr
 clear hr
 have c0 := hr1.c0
 go_wp2_with fail
 refine (HV.out _).mono ?_
 rintro e w2 ⟨rfl, rfl⟩
 go_wp2_with fail
 refine (has_any b s false (2 + m) _ hr1).mono ?_
 rintro e w2 ⟨rfl, hr, hk2⟩
 have hr2 : RdAt w2 b s true := by rw [hd2] at hr; exact hr
 go_wp2
 go_ret
 exact ⟨rfl, hr2, hk.trans hk2 (.inl rfl)⟩
set_option maxHeartbeats 800000 in
theorem rtext_no (b : Nat) (s : ByteArray) (sh : Bool) (w : World) (h : RdAt w b s sh) (hn : hasB s sh 2 = false) :
   Calls Tryz.prog 127 #[.pointer (some ⟨b, 0, none⟩)] w fun e w' => e = .returned (.string ⟨#[]⟩) ∧ RdAt w' b s true ∧ Kept b none w w' := by
 have hd : (sh || decide ((s.size : Int) < 2)) = true := by simp [hasB] at hn ⊢; cases sh <;> simp at hn ⊢; omega
 have HD : Hid ((sh || decide ((s.size : Int) < 2)) = true) := hd
 clear hd
 go_enter Tryz.func127, Tryz.ntmps127
 go_wp2_with (first | (go_at_call 157; refine (has_any b s sh 2 _ h).mono ?_; rintro e w1 ⟨rfl, hr, hk⟩))
 go_ret
 exact ⟨rfl, by rw [HD.out] at hr; exact hr, hk⟩
theorem rtext_any (b : Nat) (s : ByteArray) (sh : Bool) (w : World) (h : RdAt w b s sh) :
   Calls Tryz.prog 127 #[.pointer (some ⟨b, 0, none⟩)] w fun e w' => e = .returned (.string (tT s sh)) ∧ RdAt w' b (tS s sh) (tB s sh) ∧ Kept b none w w' := by
 have hm2 : val (s.data.toList.take 2) ≤ 65535 := by
   have := val_lt (s.data.toList.take 2)
   have h3 : 256 ^ (s.data.toList.take 2).length ≤ 256 ^ 2 := Nat.pow_le_pow_right (by decide) (by simp; omega)
   have h4 : (256 : Nat) ^ 2 = 65536 := by decide
   omega
 unfold tT tS tB tOK
 cases hb : hasB s sh 2 with
 | false => simpa using rtext_no b s sh w h hb
 | true =>
   have h1 : sh = false := by cases sh <;> simp [hasB] at hb ⊢
   subst h1
   have h0 : 2 ≤ s.size := by simp [hasB] at hb; omega
   by_cases h2 : 2 + val (s.data.toList.take 2) ≤ s.size
   · simpa [h2] using rtext_yes b s w h _ rfl h2 hm2
   · simpa [h2] using rtext_short b s w h _ rfl h0 (by omega) hm2
end
section
open Go.RowKit
theorem rd_good (s : ByteArray) (n k : Nat) (rest : List UInt8) (h : s.data.toList = be n k ++ rest) (hk : k < 256 ^ n) : rN s false n = k ∧ (rS s false n).data.toList = rest ∧ rB s false n = false := by
 have hl : n ≤ s.size := by rw [← data_len, h, List.length_append, be_len]; omega
 have hb : hasB s false n = true := by rw [hasB, decide_eq_true (by omega)]; rfl
 refine ⟨?_, ?_, by rw [rB, hb]; rfl⟩
 · rw [rN, hb, if_pos rfl, h, List.take_left' (be_len n k), val_be, Nat.mod_eq_of_lt hk]
 · rw [rS, hb, if_pos rfl, ext_data, List.take_of_length_le (by rw [data_len]; exact Nat.le_refl _), h, List.drop_left' (be_len n k)]
theorem rd_back (s : ByteArray) (sh : Bool) (n : Nat) (h : rB s sh n = false) : sh = false ∧ s.data.toList = be n (rN s sh n) ++ (rS s sh n).data.toList := by
 have hb : hasB s sh n = true := by
   rw [rB] at h
   cases e : hasB s sh n with
   | true => rfl
   | false => rw [e] at h; cases h
 have hb2 := hb
 rw [hasB, Bool.and_eq_true_iff] at hb2
 have hl : n ≤ s.size := by have := of_decide_eq_true hb2.2; omega
 refine ⟨by cases sh with | false => rfl | true => exact absurd hb2.1 (by decide), ?_⟩
 have ht : (s.data.toList.take n).length = n := by rw [List.length_take, data_len]; omega
 have hv := be_val (s.data.toList.take n)
 rw [ht] at hv
 rw [rN, hb, if_pos rfl, rS, hb, if_pos rfl, hv, ext_data, List.take_of_length_le (i := s.size) (by rw [data_len]; exact Nat.le_refl _), List.take_append_drop]
theorem end_ok {s : ByteArray} {sh : Bool} (h : endOf s sh = 0) : sh = false ∧ s.data.toList = [] := by
 unfold endOf at h
 split at h
 · cases h
 · next h1 =>
   split at h
   · cases h
   · next h2 => exact ⟨by simpa using h1, List.eq_nil_of_length_eq_zero (by rw [data_len]; omega)⟩
theorem end_of {s : ByteArray} (h : s.data.toList = []) : endOf s false = 0 := by
 have : s.size = 0 := by rw [← data_len, h]; rfl
 unfold endOf
 rw [if_neg (by decide), if_neg (by omega)]
theorem tx_good (s x : ByteArray) (rest : List UInt8) (h : s.data.toList = be 2 x.size ++ (x.data.toList ++ rest)) (hx : x.size ≤ 65535) : tT s false = x ∧ (tS s false).data.toList = rest ∧ tB s false = false := by
 have hl : s.size = 2 + (x.size + rest.length) := by rw [← data_len, h, List.length_append, be_len, List.length_append, data_len]
 have hv : val (s.data.toList.take 2) = x.size := by rw [h, List.take_left' (be_len 2 _), val_be, Nat.mod_eq_of_lt (by omega)]
 have hok : tOK s false = true := by
   rw [tOK, hv, hasB, decide_eq_true (by omega), decide_eq_true (by omega)]
   rfl
 have hd : s.data.toList.drop 2 = x.data.toList ++ rest := by rw [h, List.drop_left' (be_len 2 _)]
 refine ⟨?_, ?_, by rw [tB, hok]; rfl⟩
 · rw [tT, if_pos hok, hv]
   apply ByteArray.ext
   apply Array.ext'
   rw [ext_data, List.drop_take, hd, show 2 + x.size - 2 = x.size by omega, List.take_left' (data_len x)]
 · rw [tS, if_pos hok, hv, ext_data, List.take_of_length_le (by rw [data_len]; exact Nat.le_refl _), ← List.drop_drop, hd, List.drop_left' (data_len x)]
end
section
def nanW (n : Nat) : Bool := decide (9218868437227405312 < n % 9223372036854775808)
def canW (n : Nat) : Nat := bif nanW n then 9221120237041090560 else n
theorem dbl_sign : Ieee.double.signWeight = 9223372036854775808 := by decide
theorem dbl_binade : Ieee.double.binade = 4503599627370496 := by decide
theorem dbl_inf : Ieee.double.infRung = 9218868437227405312 := by decide
theorem dbl_least : Ieee.double.leastPlace = -1074 := by decide
def sgW (n : Nat) : Bool := n / 9223372036854775808 % 2 == 1
theorem read_sub {n : Nat} (h : n % 9223372036854775808 < 4503599627370496) : Ieee.double.read n = .number (sgW n) (n % 9223372036854775808) (-1074) := by
 simp only [Ieee.Format.read, dbl_sign, dbl_binade, dbl_least, if_pos h, sgW]
theorem read_norm {n : Nat} (h : 4503599627370496 ≤ n % 9223372036854775808) (k : n % 9223372036854775808 < 9218868437227405312) :
   Ieee.double.read n = .number (sgW n) (4503599627370496 + n % 9223372036854775808 % 4503599627370496) (-1074 + ((n % 9223372036854775808 / 4503599627370496 - 1 : Nat) : Int)) := by
 simp only [Ieee.Format.read, dbl_sign, dbl_binade, dbl_least, dbl_inf, if_neg (Nat.not_lt.2 h), if_pos k, sgW]
theorem read_inf {n : Nat} (h : n % 9223372036854775808 = 9218868437227405312) : Ieee.double.read n = .infinity (sgW n) := by
 simp only [Ieee.Format.read, dbl_sign, dbl_binade, dbl_least, dbl_inf, h, sgW]
 rfl
theorem read_nan {n : Nat} (h : 9218868437227405312 < n % 9223372036854775808) : Ieee.double.read n = .nan (sgW n) (n % 9223372036854775808 - 9218868437227405312) := by
 simp only [Ieee.Format.read, dbl_sign, dbl_binade, dbl_least, dbl_inf, sgW, if_neg (show ¬ n % 9223372036854775808 < 4503599627370496 by omega), if_neg (show ¬ n % 9223372036854775808 < 9218868437227405312 by omega), if_neg (show ¬ n % 9223372036854775808 = 9218868437227405312 by omega)]
theorem read_fin {n : Nat} (h : nanW n = false) : (∃ m e, Ieee.double.read n = .number (sgW n) m e ∧ n % 9223372036854775808 < 9218868437227405312) ∨ (Ieee.double.read n = .infinity (sgW n) ∧ n % 9223372036854775808 = 9218868437227405312) := by
 simp only [nanW, decide_eq_false_iff_not] at h
 by_cases h1 : n % 9223372036854775808 < 4503599627370496
 · exact .inl ⟨_, _, read_sub h1, by omega⟩
 · by_cases h2 : n % 9223372036854775808 < 9218868437227405312
   · exact .inl ⟨_, _, read_norm (by omega) h2, h2⟩
   · exact .inr ⟨read_inf (by omega), by omega⟩
theorem order_self (n : Nat) : (Ieee.double.order n n == some .eq) = !nanW n := by
 cases hn : nanW n
 · rcases read_fin hn with ⟨m, e, h, -⟩ | ⟨h, -⟩
   · simp [Ieee.Format.order, h, Ieee.Datum.order]
   · simp [Ieee.Format.order, h, Ieee.Datum.order]
 · simp only [nanW, decide_eq_true_eq] at hn
   rw [Ieee.Format.order, read_nan hn]; rfl
theorem order_ne_self (n : Nat) : (Ieee.double.order n n != some .eq) = nanW n := by
 have := order_self n
 rw [bne, this, Bool.not_not]
end
section
open Go.RowKit
theorem fb_run (b : Nat) (w : World) : (callFunc 112 #[.float .f64 b]).run Tryz.prog w = .ok (.value (.int .u64 b)) w := by
 rw [run_callFunc_extern Tryz.func112 (by kernel_rfl) (by kernel_rfl) (by kernel_rfl) (e := Extern.MathFloatBits.float64bits) (by kernel_rfl)]; rfl
theorem ff_run (n : Int) (w : World) : (callFunc 44 #[.int .u64 n]).run Tryz.prog w = .ok (.value (.float .f64 n.toNat)) w := by
 rw [run_callFunc_extern Tryz.func44 (by kernel_rfl) (by kernel_rfl) (by kernel_rfl) (e := Extern.MathFloatBits.float64frombits) (by kernel_rfl)]; rfl
theorem isnan_any (b : Nat) (w : World) : Calls Tryz.prog 155 #[.float .f64 b] w fun e w' => e = .returned (.bool (nanW b)) ∧ w' = w := by
 go_enter Tryz.func155, Tryz.ntmps155
 go_wp2
 go_ret
 exact ⟨by rw [← order_ne_self]; rfl, rfl⟩
theorem bits_any (b : Nat) (w : World) : Calls Tryz.prog 122 #[.float .f64 b] w fun e w' => e = .returned (.int .u64 (canW b : Nat)) ∧ w' = w := by
 go_enter Tryz.func122, Tryz.ntmps122
 cases hn : nanW b
 · go_wp2_with (first | (go_at_call 155; refine (isnan_any _ _).mono ?_; rintro e w1 ⟨rfl, rfl⟩; rw [hn]) | rw [fb_run])
   go_ret
   exact ⟨by simp [canW, hn], rfl⟩
 · go_wp2_with (go_at_call 155; refine (isnan_any _ _).mono ?_; rintro e w1 ⟨rfl, rfl⟩; rw [hn])
   go_ret
   exact ⟨by simp [canW, hn], rfl⟩
def fromW (n : Nat) : Nat := bif canW n == n then n else 0
theorem from_any (n : Nat) (w : World) : Calls Tryz.prog 128 #[.int .u64 (n : Int)] w fun e w' => e = .returned (.tuple #[.float .f64 (fromW n), .bool (canW n == n)]) ∧ w' = w := by
 go_enter Tryz.func128, Tryz.ntmps128
 go_wp2_with (first | (go_at_call 122; refine (bits_any _ _).mono ?_; rintro e w1 ⟨rfl, rfl⟩) | (rw [ff_run, Int.toNat_natCast]))
 · rename_i h
   go_ret2
   have h : canW n ≠ n := by intro e; simp [e] at h
   exact ⟨by simp [fromW, beq_false_of_ne h], rfl⟩
 · rename_i h
   go_ret2
   have h : canW n = n := by
     simp only [bne_eq_false_iff_eq] at h
     omega
   exact ⟨by simp [fromW, h], rfl⟩
theorem canW_lt {b : Nat} (hb : b < 18446744073709551616) : canW b < 18446744073709551616 := by
 unfold canW; cases nanW b <;> simp <;> omega
theorem canW_idem (n : Nat) : canW (canW n) = canW n := by
 cases h : nanW n
 · simp [canW, h]
 · simp only [canW, h]; rfl
end
section
open Go.RowKit
structure Rq where
 c : Int
 st : Int
 k : Int
 key : ByteArray
 b : Nat
 id : Int
def keyedB (r : Rq) : Bool := (decide (1 ≤ r.key.size) && decide (r.key.size ≤ 16)) && decide (r.id = 0)
def plainB (r : Rq) : Bool := decide (canW r.b = 0)
def joinB (r : Rq) : Bool := ((decide (r.key.size = 0) && plainB r) && decide (0 ≤ r.id)) && decide (r.id < 16)
def opB (r : Rq) : Bool := if r.k = 1 ∨ r.k = 2 ∨ r.k = 3 then keyedB r else if r.k = 4 ∨ r.k = 5 then keyedB r && plainB r else if r.k = 6 ∨ r.k = 7 then joinB r else false
def rightB (r : Rq) : Bool := (((decide (1 ≤ r.c) && decide (r.c ≤ 8)) && decide (1 ≤ r.st)) && decide (r.st ≤ 1048576)) && opB r
def nullB (r : Rq) : Bool := ((((decide (r.c = 0) && decide (r.st = 0)) && decide (r.k = 0)) && decide (r.key.size = 0)) && plainB r) && decide (r.id = 0)
def rqL (r : Rq) : List UInt8 := be 1 1 ++ (be 1 r.c.toNat ++ (be 4 r.st.toNat ++ (be 1 r.k.toNat ++ (be 2 r.key.size ++ (r.key.data.toList ++ (be 8 (canW r.b) ++ be 1 r.id.toNat))))))
def rqT (r : Rq) : ByteArray := if nullB r then ⟨#[0]⟩ else if rightB r then ⟨(rqL r).toArray⟩ else ⟨#[]⟩
def rqE (r : Rq) : Int := if nullB r then 0 else if rightB r then 0 else 1
theorem right_fields {r : Rq} (h : rightB r = true) : (1 ≤ r.c ∧ r.c ≤ 8) ∧ (1 ≤ r.st ∧ r.st ≤ 1048576) ∧ (1 ≤ r.k ∧ r.k ≤ 7) ∧ r.key.size ≤ 16 ∧ (0 ≤ r.id ∧ r.id < 16) := by
 simp only [rightB, Bool.and_eq_true, decide_eq_true_eq] at h
 obtain ⟨⟨⟨⟨h1, h2⟩, h3⟩, h4⟩, h5⟩ := h
 unfold opB at h5
 split at h5
 · simp only [keyedB, Bool.and_eq_true, decide_eq_true_eq] at h5
   omega
 · split at h5
   · simp only [keyedB, Bool.and_eq_true, decide_eq_true_eq] at h5
     omega
   · split at h5
     · simp only [joinB, Bool.and_eq_true, decide_eq_true_eq] at h5
       omega
     · cases h5
theorem null_fields {r : Rq} (h : nullB r = true) : r.c = 0 ∧ r.st = 0 ∧ r.k = 0 ∧ r.key.size = 0 ∧ canW r.b = 0 ∧ r.id = 0 := by
 simp only [nullB, plainB, Bool.and_eq_true, decide_eq_true_eq] at h
 omega
theorem right_null {r : Rq} (h : rightB r = true) : nullB r = false := by
 have h1 := right_fields h
 cases hn : nullB r with
 | false => rfl
 | true => have := null_fields hn; omega
theorem rqL_len (r : Rq) : (rqL r).length = 18 + r.key.size := by
 simp only [rqL, List.length_append, be_len, data_len]
 omega
theorem tx_back (s : ByteArray) (sh : Bool) (h : tB s sh = false) : sh = false ∧ s.data.toList = be 2 (tT s sh).size ++ ((tT s sh).data.toList ++ (tS s sh).data.toList) ∧ (tT s sh).size ≤ 65535 := by
 have hok : tOK s sh = true := by
   rw [tB] at h
   cases e : tOK s sh with
   | true => rfl
   | false => rw [e] at h; cases h
 have hok2 := hok
 rw [tOK, Bool.and_eq_true_iff] at hok2
 have hb := hok2.1
 rw [hasB, Bool.and_eq_true_iff] at hb
 have h2 : (2 : Nat) ≤ s.size := by have := of_decide_eq_true hb.2; omega
 have hv := of_decide_eq_true hok2.2
 have hsh : sh = false := by cases sh with | false => rfl | true => exact absurd hb.1 (by decide)
 have ht : (s.data.toList.take 2).length = 2 := by rw [List.length_take, data_len]; omega
 have hlt := val_lt (s.data.toList.take 2)
 rw [ht] at hlt
 have hbv := be_val (s.data.toList.take 2)
 rw [ht] at hbv
 have hT : (tT s sh).data.toList = (s.data.toList.drop 2).take (val (s.data.toList.take 2)) := by
   rw [tT, if_pos hok, ext_data, List.drop_take]
   congr 1
   omega
 have hS : (tS s sh).data.toList = (s.data.toList.drop 2).drop (val (s.data.toList.take 2)) := by
   rw [tS, if_pos hok, ext_data, List.take_of_length_le (i := s.size) (by rw [data_len]; exact Nat.le_refl _), List.drop_drop]
 have hz : (tT s sh).size = val (s.data.toList.take 2) := by
   rw [← data_len, hT, List.length_take, List.length_drop, data_len]
   omega
 refine ⟨hsh, ?_, by rw [hz]; omega⟩
 rw [hz, hT, hS, List.take_append_drop, hbv, List.take_append_drop]
structure Rd where
 s : ByteArray
 sh : Bool
def Rd.num (x : Rd) (n : Nat) : Rd := ⟨rS x.s x.sh n, rB x.s x.sh n⟩
def Rd.txt (x : Rd) : Rd := ⟨tS x.s x.sh, tB x.s x.sh⟩
def rd1 (t : ByteArray) : Rd := (Rd.mk t false).num 1
def rd2 (t : ByteArray) : Rd := (rd1 t).num 1
def rd3 (t : ByteArray) : Rd := (rd2 t).num 4
def rd4 (t : ByteArray) : Rd := (rd3 t).num 1
def rd5 (t : ByteArray) : Rd := (rd4 t).txt
def rd6 (t : ByteArray) : Rd := (rd5 t).num 8
def rd7 (t : ByteArray) : Rd := (rd6 t).num 1
def rdHead (t : ByteArray) : Nat := rN t false 1
def rdBits (t : ByteArray) : Nat := rN (rd5 t).s (rd5 t).sh 8
def rdq (t : ByteArray) : Rq := ⟨rN (rd1 t).s (rd1 t).sh 1, rN (rd2 t).s (rd2 t).sh 4, rN (rd3 t).s (rd3 t).sh 1, tT (rd4 t).s (rd4 t).sh, fromW (rdBits t), rN (rd6 t).s (rd6 t).sh 1⟩
def okq (t : ByteArray) : Bool := ((decide (rdHead t = 1) && (canW (rdBits t) == rdBits t)) && decide (endOf (rd7 t).s (rd7 t).sh = 0)) && rightB (rdq t)
def zeroQ : Rq := ⟨0, 0, 0, ⟨#[]⟩, 0, 0⟩
def isNul (t : ByteArray) : Bool := decide (t.data.toList = [0])
def rdR (t : ByteArray) : Rq := if isNul t then zeroQ else if okq t then rdq t else zeroQ
def rdE (t : ByteArray) : Int := if isNul t then 0 else if okq t then 0 else 5
def wholeB (x y : Rq) : Bool := ((((decide (x.c = y.c) && decide (x.st = y.st)) && decide (x.k = y.k)) && decide (x.key = y.key)) && decide (x.id = y.id)) && decide (canW x.b = canW y.b)
theorem wholeB_iff (x y : Rq) : wholeB x y = true ↔ (x.c = y.c ∧ x.st = y.st ∧ x.k = y.k ∧ x.key = y.key ∧ x.id = y.id ∧ canW x.b = canW y.b) := by
 simp only [wholeB, Bool.and_eq_true, decide_eq_true_eq]
 exact ⟨fun ⟨⟨⟨⟨⟨a, b⟩, c⟩, d⟩, e⟩, f⟩ => ⟨a, b, c, d, e, f⟩, fun ⟨a, b, c, d, e, f⟩ => ⟨⟨⟨⟨⟨a, b⟩, c⟩, d⟩, e⟩, f⟩⟩
theorem whole_alike {x y : Rq} (h : wholeB x y = true) : nullB x = nullB y ∧ rightB x = rightB y ∧ rqT x = rqT y ∧ rqE x = rqE y := by
 obtain ⟨c, st, k, key, b, id⟩ := x
 obtain ⟨c', st', k', key', b', id'⟩ := y
 obtain ⟨h1, h2, h3, h4, h5, h6⟩ := (wholeB_iff _ _).1 h
 simp only at h1 h2 h3 h4 h5 h6
 subst h1 h2 h3 h4 h5
 have hn : nullB ⟨c, st, k, key, b, id⟩ = nullB ⟨c, st, k, key, b', id⟩ := by simp only [nullB, plainB, h6]
 have hr : rightB ⟨c, st, k, key, b, id⟩ = rightB ⟨c, st, k, key, b', id⟩ := by simp only [rightB, opB, keyedB, joinB, plainB, h6]
 have hl : rqL ⟨c, st, k, key, b, id⟩ = rqL ⟨c, st, k, key, b', id⟩ := by simp only [rqL, h6]
 exact ⟨hn, hr, by rw [rqT, rqT, hn, hr, hl], by rw [rqE, rqE, hn, hr]⟩
theorem fromW_can (b : Nat) : fromW (canW b) = canW b := by
 unfold fromW
 rw [canW_idem]
 simp
theorem fromW_ok {n : Nat} (h : (canW n == n) = true) : fromW n = n ∧ canW n = n := by
 have : canW n = n := by simpa using h
 unfold fromW
 rw [h]
 exact ⟨rfl, this⟩
theorem read_back {r : Rq} (h : rightB r = true) (hb : r.b < 18446744073709551616) : okq (rqT r) = true ∧ rdq (rqT r) = { r with b := canW r.b } ∧ isNul (rqT r) = false := by
 obtain ⟨⟨c1, c2⟩, ⟨s1, s2⟩, ⟨k1, k2⟩, hk, i1, i2⟩ := right_fields h
 have hT : (rqT r).data.toList = rqL r := by rw [rqT, right_null h, h]; rfl
 generalize rqT r = t at hT
 have e1 := rd_good t 1 1 _ hT (by decide)
 have q1 : rd1 t = ⟨rS t false 1, false⟩ := by rw [rd1, Rd.num, e1.2.2]
 have h1 := e1.2.1
 generalize rS t false 1 = s1 at q1 h1
 have e2 := rd_good s1 1 r.c.toNat _ h1 (by omega)
 have q2 : rd2 t = ⟨rS s1 false 1, false⟩ := by rw [rd2, q1, Rd.num, e2.2.2]
 have h2 := e2.2.1
 have v2 := e2.1
 clear e2 h1
 generalize rS s1 false 1 = s2 at q2 h2
 have e3 := rd_good s2 4 r.st.toNat _ h2 (by omega)
 have q3 : rd3 t = ⟨rS s2 false 4, false⟩ := by rw [rd3, q2, Rd.num, e3.2.2]
 have h3 := e3.2.1
 have v3 := e3.1
 clear e3 h2
 generalize rS s2 false 4 = s3 at q3 h3
 have e4 := rd_good s3 1 r.k.toNat _ h3 (by omega)
 have q4 : rd4 t = ⟨rS s3 false 1, false⟩ := by rw [rd4, q3, Rd.num, e4.2.2]
 have h4 := e4.2.1
 have v4 := e4.1
 clear e4 h3
 generalize rS s3 false 1 = s4 at q4 h4
 have e5 := tx_good s4 r.key _ h4 (by omega)
 have q5 : rd5 t = ⟨tS s4 false, false⟩ := by rw [rd5, q4, Rd.txt, e5.2.2]
 have h5 := e5.2.1
 have v5 := e5.1
 clear e5 h4
 generalize tS s4 false = s5 at q5 h5
 have hcl := canW_lt hb
 have e6 := rd_good s5 8 (canW r.b) _ h5 hcl
 have q6 : rd6 t = ⟨rS s5 false 8, false⟩ := by rw [rd6, q5, Rd.num, e6.2.2]
 have h6 := e6.2.1
 have v6 := e6.1
 clear e6 h5
 generalize rS s5 false 8 = s6 at q6 h6
 have e7 := rd_good s6 1 r.id.toNat [] (by rw [List.append_nil]; exact h6) (by omega)
 have q7 : endOf (rd7 t).s (rd7 t).sh = 0 := by rw [rd7, q6, Rd.num, e7.2.2]; exact end_of e7.2.1
 have hbits : rdBits t = canW r.b := by rw [rdBits, q5]; exact v6
 have hq : rdq t = { r with b := canW r.b } := by
   rw [rdq, hbits, q1, q2, q3, q4, q6, fromW_can]
   simp only [v2, v3, v4, v5, e7.1]
   rw [Int.toNat_of_nonneg (by omega), Int.toNat_of_nonneg (by omega), Int.toNat_of_nonneg (by omega), Int.toNat_of_nonneg (by omega)]
 refine ⟨?_, hq, ?_⟩
 · have hw : wholeB { r with b := canW r.b } r = true := (wholeB_iff _ _).2 ⟨rfl, rfl, rfl, rfl, rfl, canW_idem r.b⟩
   rw [okq, hq, (whole_alike hw).2.1, h, hbits, canW_idem, show rdHead t = 1 from e1.1, q7]
   simp
 · rw [isNul, hT]
   exact decide_eq_false (by intro e; have := congrArg List.length e; rw [rqL_len] at this; simp at this; omega)
theorem told_back {t : ByteArray} (h : okq t = true) : rightB (rdq t) = true ∧ rqT (rdq t) = t ∧ (rdq t).b < 18446744073709551616 := by
 simp only [okq, Bool.and_eq_true, decide_eq_true_eq] at h
 obtain ⟨⟨⟨h1, h2⟩, h3⟩, h4⟩ := h
 obtain ⟨f1, f2⟩ := fromW_ok h2
 obtain ⟨g7, z7⟩ := end_ok h3
 obtain ⟨g6, z6⟩ := rd_back (rd6 t).s (rd6 t).sh 1 g7
 obtain ⟨g5, z5⟩ := rd_back (rd5 t).s (rd5 t).sh 8 g6
 obtain ⟨g4, z4, hk⟩ := tx_back (rd4 t).s (rd4 t).sh g5
 obtain ⟨g3, z3⟩ := rd_back (rd3 t).s (rd3 t).sh 1 g4
 obtain ⟨g2, z2⟩ := rd_back (rd2 t).s (rd2 t).sh 4 g3
 obtain ⟨g1, z1⟩ := rd_back (rd1 t).s (rd1 t).sh 1 g2
 obtain ⟨_, z0⟩ := rd_back t false 1 g1
 refine ⟨h4, ?_, ?_⟩
 · rw [rqT, right_null h4, h4]
   apply ByteArray.ext
   apply Array.ext'
   show rqL (rdq t) = t.data.toList
   have hc : canW (rdq t).b = rdBits t := by
     show canW (fromW (rdBits t)) = _
     rw [f1, f2]
   rw [rqL, hc]
   have n1 : (rdq t).c.toNat = rN (rd1 t).s (rd1 t).sh 1 := Int.toNat_natCast _
   have n2 : (rdq t).st.toNat = rN (rd2 t).s (rd2 t).sh 4 := Int.toNat_natCast _
   have n3 : (rdq t).k.toNat = rN (rd3 t).s (rd3 t).sh 1 := Int.toNat_natCast _
   have n4 : (rdq t).id.toNat = rN (rd6 t).s (rd6 t).sh 1 := Int.toNat_natCast _
   rw [n1, n2, n3, n4, show (rdq t).key = tT (rd4 t).s (rd4 t).sh from rfl]
   rw [z0, show rN t false 1 = 1 from h1]
   congr 1
   refine Eq.trans ?_ z1.symm
   congr 1
   refine Eq.trans ?_ z2.symm
   congr 1
   refine Eq.trans ?_ z3.symm
   congr 1
   refine Eq.trans ?_ z4.symm
   congr 1
   congr 1
   refine Eq.trans ?_ z5.symm
   congr 1
   refine Eq.trans ?_ z6.symm
   rw [show (rS (rd6 t).s (rd6 t).sh 1).data.toList = [] from z7, List.append_nil]
 · show fromW (rdBits t) < _
   rw [f1]
   have := rN_lt (rd5 t).s (rd5 t).sh 8
   exact this
end
section
open Go.RowKit
def rsB (c : Int) : Bool := decide (0 ≤ c) && decide (c ≤ 8)
def rsL (c : Int) (f : Nat) : List UInt8 := be 1 c.toNat ++ be 8 (canW f)
def rsT (c : Int) (f : Nat) : ByteArray := if rsB c then ⟨(rsL c f).toArray⟩ else ⟨#[]⟩
def rsE (c : Int) : Int := if rsB c then 0 else 1
def rsCode (t : ByteArray) : Nat := rN t false 1
def rsBits (t : ByteArray) : Nat := rN (rd1 t).s (rd1 t).sh 8
def rsEnd (t : ByteArray) : Rd := (rd1 t).num 8
def okRs (t : ByteArray) : Bool := ((canW (rsBits t) == rsBits t) && decide (endOf (rsEnd t).s (rsEnd t).sh = 0)) && decide (rsCode t ≤ 8)
def rsC (t : ByteArray) : Int := if okRs t then rsCode t else 0
def rsF (t : ByteArray) : Nat := if okRs t then fromW (rsBits t) else 0
def rsR (t : ByteArray) : Int := if okRs t then 0 else 5
theorem rs_back {c : Int} {f : Nat} (h : rsB c = true) (hf : f < 18446744073709551616) : okRs (rsT c f) = true ∧ rsC (rsT c f) = c ∧ rsF (rsT c f) = canW f := by
 simp only [rsB, Bool.and_eq_true, decide_eq_true_eq] at h
 have hT : (rsT c f).data.toList = rsL c f := by
   rw [rsT, if_pos (by simp only [rsB, Bool.and_eq_true, decide_eq_true_eq]; exact h)]
 generalize rsT c f = t at hT ⊢
 have e1 := rd_good t 1 c.toNat _ hT (by omega)
 have q1 : rd1 t = ⟨rS t false 1, false⟩ := by rw [rd1, Rd.num, e1.2.2]
 have h1 := e1.2.1
 generalize rS t false 1 = s1 at q1 h1
 have e2 := rd_good s1 8 (canW f) [] (by rw [List.append_nil]; exact h1) (canW_lt hf)
 have hb : rsBits t = canW f := by rw [rsBits, q1]; exact e2.1
 have he : endOf (rsEnd t).s (rsEnd t).sh = 0 := by rw [rsEnd, q1, Rd.num, e2.2.2]; exact end_of e2.2.1
 have hc : rsCode t = c.toNat := e1.1
 have hok : okRs t = true := by
   rw [okRs, hb, he, hc, canW_idem]
   simp
   omega
 refine ⟨hok, ?_, ?_⟩
 · rw [rsC, if_pos hok, hc, Int.toNat_of_nonneg h.1]
 · rw [rsF, if_pos hok, hb, fromW_can]
theorem rs_told {t : ByteArray} (h : okRs t = true) : rsB (rsC t) = true ∧ rsT (rsC t) (rsF t) = t ∧ rsF t < 18446744073709551616 := by
 have hc : rsC t = rsCode t := by rw [rsC, if_pos h]
 have hf : rsF t = fromW (rsBits t) := by rw [rsF, if_pos h]
 simp only [okRs, Bool.and_eq_true, decide_eq_true_eq] at h
 obtain ⟨⟨h1, h2⟩, h3⟩ := h
 obtain ⟨f1, f2⟩ := fromW_ok h1
 obtain ⟨g2, z2⟩ := end_ok h2
 obtain ⟨g1, z1⟩ := rd_back (rd1 t).s (rd1 t).sh 8 g2
 obtain ⟨_, z0⟩ := rd_back t false 1 g1
 have hB : rsB (rsC t) = true := by
   rw [hc]
   simp only [rsB, Bool.and_eq_true, decide_eq_true_eq]
   omega
 refine ⟨hB, ?_, ?_⟩
 · rw [rsT, if_pos hB]
   apply ByteArray.ext
   apply Array.ext'
   show rsL (rsC t) (rsF t) = t.data.toList
   rw [rsL, hc, hf, f1, f2, z0, Int.toNat_natCast]
   refine congrArg (be 1 (rsCode t) ++ ·) ?_
   refine Eq.trans ?_ z1.symm
   rw [show (rS (rd1 t).s (rd1 t).sh 8).data.toList = [] from z2, List.append_nil]
   rfl
 · rw [hf, f1]
   exact rN_lt (rd1 t).s (rd1 t).sh 8
end
section
open Go.RowKit
end
section
open Go.RowKit
def rdS (s : ByteArray) (sh : Bool) : Nat → ByteArray × Bool
 | 0 => (s, sh)
 | k + 1 => (rS (rdS s sh k).1 (rdS s sh k).2 1, rB (rdS s sh k).1 (rdS s sh k).2 1)
def rdL (s : ByteArray) (sh : Bool) : Nat → List Int
 | 0 => []
 | k + 1 => rdL s sh k ++ [(rN (rdS s sh k).1 (rdS s sh k).2 1 : Int)]
theorem rdL_len (s : ByteArray) (sh : Bool) : ∀ k, (rdL s sh k).length = k
 | 0 => rfl
 | k + 1 => by rw [rdL, List.length_append, rdL_len s sh k]; rfl
def cH (t : ByteArray) : Nat := rN t false 1
def cS1 (t : ByteArray) : ByteArray × Bool := (rS t false 1, rB t false 1)
def cE (t : ByteArray) : Nat := rN (cS1 t).1 (cS1 t).2 2
def cS2 (t : ByteArray) : ByteArray × Bool := (rS (cS1 t).1 (cS1 t).2 2, rB (cS1 t).1 (cS1 t).2 2)
def cN (t : ByteArray) : Nat := rN (cS2 t).1 (cS2 t).2 1
def cS3 (t : ByteArray) : ByteArray × Bool := (rS (cS2 t).1 (cS2 t).2 1, rB (cS2 t).1 (cS2 t).2 1)
def cM (t : ByteArray) : List Int := rdL (cS3 t).1 (cS3 t).2 (cN t)
def cF (t : ByteArray) : ByteArray × Bool := rdS (cS3 t).1 (cS3 t).2 (cN t)
def readB (t : ByteArray) : Bool := decide (cH t = 67) && (decide (endOf (cF t).1 (cF t).2 = 0) && rightC (cE t : Int) (cM t))
section
variable {o : Oper} {a : Act} {w : World} {K : Act → World → Prop} {Q : Exit → Act → World → Prop}
end
def readZ (t : ByteArray) : Int := if readB t then (cE t : Int) else 0
def readM (t : ByteArray) : List Int := if readB t then cM t else []
def readE (t : ByteArray) : Int := if readB t then 0 else 5
theorem ret_cell2 {f : Func} {a : Act} {w : World} {Q : Ending → World → Prop} {s s2 : Nat} {t : TypeId} {ad : Addr} {v v2 : Value} (hr : f.results = #[.cell s t, .tmp s2]) (hs : a.tmps.getD s undef = .pointer (some ad)) (hl : (loadVar t ad).run Tryz.prog w = .ok v w) (h2 : a.tmps.getD s2 undef = v2) (hd : a.defers = [])
   (h : Q (.returned (.tuple #[v, v2])) w) : bodyPost Tryz.prog f Q .ret a w := by
 refine bodyPost_ret (v := .tuple #[v, v2]) ?_ hd h
 have h1 : a.tmps.getD s undef = .pointer (some ad) := hs
 simp [results, hr, -Array.getD_eq_getD_getElem?, h1, h2, asAddr, hl]
theorem res_set {w : World} {b : Nat} {p q x y : Value} {T : TypeId} (h : w.heap[b]? = some (.cells #[p, q] T (0, 0))) : ((w.setCell ⟨b, 0, none⟩ x).setCell ⟨b, 1, none⟩ y).heap[b]? = some (.cells #[x, y] T (0, 0)) := by
 have h1 : (w.setCell ⟨b, 0, none⟩ x).heap[b]? = some (.cells #[x, q] T (0, 0)) := (blk_set h 0 x).trans (by simp)
 exact (blk_set h1 1 y).trans (by simp)
theorem own_ints {w : World} {B : Nat} {v : Value} {l : List Int} (h : w.ownsRow B 3 1 v l.length (iC l)) : ∃ ad cap, v = .slice ad l.length cap ∧ IntsIn w ad l := by
 rcases h.2 with ⟨hv, h0⟩ | ⟨g, cap, cur, hv, hB, hh, hx⟩
 · exact ⟨none, 0, by rw [hv, h0], .inl (List.eq_nil_of_length_eq_zero h0)⟩
 · refine ⟨_, cap, hv, .inr ⟨g, 0, rfl, lt_of_blk hh, fun j z hj => ?_⟩⟩
   subst hv
   have := h.cells (g := g) rfl j _ (iC_get l j z hj)
   rwa [Addr.add_lit] at this
end
section
open Go.RowKit
theorem memBytes_cons (x : Int) (l : List Int) : memBytes (x :: l) = be 1 x.toNat ++ memBytes l := rfl
theorem memBytes_app (a b : List Int) : memBytes (a ++ b) = memBytes a ++ memBytes b := by rw [memBytes, List.flatMap_append]; rfl
theorem rdS_good (s : ByteArray) (l : List Int) (rest : List UInt8) (h : s.data.toList = memBytes l ++ rest) (hl : ∀ x, x ∈ l → 0 ≤ x ∧ x < 256) :
   ∀ k, k ≤ l.length → (rdS s false k).1.data.toList = memBytes (l.drop k) ++ rest ∧ (rdS s false k).2 = false ∧ rdL s false k = l.take k
 | 0, _ => ⟨h, rfl, rfl⟩
 | k + 1, hk => by
   obtain ⟨h1, h2, h3⟩ := rdS_good s l rest h hl k (by omega)
   have hd : l.drop k = l[k] :: l.drop (k + 1) := (List.drop_eq_getElem_cons (by omega))
   have hr := hl _ (List.getElem_mem (show k < l.length by omega))
   rw [hd, memBytes_cons, List.append_assoc] at h1
   obtain ⟨g1, g2, g3⟩ := rd_good (rdS s false k).1 1 (l[k]).toNat _ h1 (by omega)
   refine ⟨?_, ?_, ?_⟩
   · rw [rdS, h2]; exact g2
   · rw [rdS, h2]; exact g3
   · rw [rdL, h2, h3, g1, List.take_add_one, List.getElem?_eq_getElem (by omega), Int.toNat_of_nonneg hr.1]
     rfl
theorem rdS_back (s : ByteArray) (sh : Bool) : ∀ k, (rdS s sh k).2 = false → sh = false ∧ s.data.toList = memBytes (rdL s sh k) ++ (rdS s sh k).1.data.toList
 | 0, h => ⟨h, rfl⟩
 | k + 1, h => by
   obtain ⟨h1, h2⟩ := rd_back _ _ 1 (show rB (rdS s sh k).1 (rdS s sh k).2 1 = false from h)
   obtain ⟨h3, h4⟩ := rdS_back s sh k h1
   refine ⟨h3, ?_⟩
   rw [h4, h2, rdL, memBytes_app, List.append_assoc]
   rw [memBytes_cons, List.append_assoc, Int.toNat_natCast]
   rfl
theorem rightC_ep {ep : Int} {l : List Int} (h : rightC ep l = true) : (0 ≤ ep ∧ ep ≤ 60) ∧ memB l = true := by
 rw [rightC, Bool.and_eq_true_iff] at h
 exact ⟨of_decide_eq_true h.1, h.2⟩
theorem read_text (ep : Int) (l : List Int) (h : rightC ep l = true) : readB (textC ep l) = true ∧ readZ (textC ep l) = ep ∧ readM (textC ep l) = l := by
 obtain ⟨he, hm⟩ := rightC_ep h
 obtain ⟨t, et⟩ : ∃ t, t = textC ep l := ⟨_, rfl⟩
 have hlen := mem_len hm
 have hx : ∀ x, x ∈ l → 0 ≤ x ∧ x < 256 := fun x hx => by
   obtain ⟨i, hi, rfl⟩ := List.getElem_of_mem hx
   have := mem_range hm i hi
   rw [List.getD_eq_getElem?_getD, List.getElem?_eq_getElem hi] at this
   have h2 : 0 ≤ l[i] ∧ l[i] < 16 := this
   omega
 have ht : t.data.toList = be 1 67 ++ (be 2 ep.toNat ++ (be 1 l.length ++ (memBytes l ++ []))) := by
   rw [et, textC, if_pos h, mk_data, confB, List.append_nil, List.append_assoc, List.append_assoc]
 obtain ⟨a1, a2, a3⟩ := rd_good t 1 67 _ ht (by decide)
 have e1 : cS1 t = (rS t false 1, false) := by rw [cS1, a3]
 obtain ⟨b1, b2, b3⟩ := rd_good (cS1 t).1 2 ep.toNat _ (by rw [e1]; exact a2) (by omega)
 have e2 : cS2 t = (rS (cS1 t).1 false 2, false) := by rw [cS2, show (cS1 t).2 = false by rw [e1], b3]
 obtain ⟨c1, c2, c3⟩ := rd_good (cS2 t).1 1 l.length _ (by rw [e2]; exact b2) (by omega)
 have e3 : cS3 t = (rS (cS2 t).1 false 1, false) := by rw [cS3, show (cS2 t).2 = false by rw [e2], c3]
 have hN : cN t = l.length := by rw [cN, show (cS2 t).2 = false by rw [e2], c1]
 have hE : cE t = ep.toNat := by rw [cE, show (cS1 t).2 = false by rw [e1], b1]
 obtain ⟨d1, d2, d3⟩ := rdS_good (cS3 t).1 l [] (by rw [e3]; exact c2) hx l.length (Nat.le_refl _)
 have hM : cM t = l := by rw [cM, hN, show (cS3 t).2 = false by rw [e3], d3, List.take_length]
 have hF : endOf (cF t).1 (cF t).2 = 0 := by
   rw [cF, hN, show (cS3 t).2 = false by rw [e3], d2]
   refine end_of ?_
   rw [d1, List.drop_length]
   rfl
 have hZ : ((cE t : Nat) : Int) = ep := by rw [hE]; omega
 have hB : readB t = true := by
   rw [readB, hZ, hM, h, decide_eq_true hF, show cH t = 67 from a1]
   rfl
 rw [← et]
 exact ⟨hB, by rw [readZ, if_pos hB, hZ], by rw [readM, if_pos hB, hM]⟩
theorem text_read (t : ByteArray) (h : readB t = true) : rightC (readZ t) (readM t) = true ∧ textC (readZ t) (readM t) = t := by
 have hb := h
 rw [readB, Bool.and_eq_true_iff, Bool.and_eq_true_iff] at h
 obtain ⟨h1, h2, h3⟩ := h
 have h1 := of_decide_eq_true h1
 obtain ⟨f1, f2⟩ := end_ok (of_decide_eq_true h2)
 obtain ⟨g1, g2⟩ := rdS_back (cS3 t).1 (cS3 t).2 (cN t) f1
 obtain ⟨k1, k2⟩ := rd_back (cS2 t).1 (cS2 t).2 1 g1
 obtain ⟨l1, l2⟩ := rd_back (cS1 t).1 (cS1 t).2 2 k1
 obtain ⟨_, m2⟩ := rd_back t false 1 l1
 have hN : (cM t).length = cN t := rdL_len _ _ _
 rw [readZ, if_pos hb, readM, if_pos hb]
 refine ⟨h3, ?_⟩
 rw [textC, if_pos h3]
 apply ByteArray.ext
 apply Array.ext'
 rw [mk_data, confB, hN, Int.toNat_natCast]
 have m3 : t.data.toList = be 1 (cH t) ++ (cS1 t).1.data.toList := m2
 have l3 : (cS1 t).1.data.toList = be 2 (cE t) ++ (cS2 t).1.data.toList := l2
 have k3 : (cS2 t).1.data.toList = be 1 (cN t) ++ (cS3 t).1.data.toList := k2
 have g3 : (cS3 t).1.data.toList = memBytes (cM t) ++ (cF t).1.data.toList := g2
 rw [m3, l3, k3, g3, f2, h1, List.append_nil, List.append_assoc, List.append_assoc]
end
end Go.Proofs.YtoepppkadpjonaaGreat
