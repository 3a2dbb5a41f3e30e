/- Texts laid together: TqK TrD TrE TrF. -/
import Derived.Test.YtpholamobedkhaaMg11
/- The program's Take. -/
namespace Go.Proofs.Ytpholamobedkhaa
open Go.RowKit

/-- The beginning of a row of one's own. -/
theorem OwnD.cut {T : TypeId} {sz B : Nat} {F : Nat → Prop} {w : World} {r n cap : Nat} {es : List (List Dat)} (h : OwnD T sz B F w (.slice (some ⟨r, 0, none⟩) n cap) es) (m : Nat) (hm : m ≤ es.length) : OwnD T sz B F w (.slice (some ⟨r, 0, none⟩) m cap) (es.take m) := by
  obtain ⟨cs, ho, hc⟩ := h.own
  rcases ho.2 with ⟨hv, _⟩ | ⟨g, cap', cur, hv, hB, hh, hnc, hcp, hcs, ht⟩
  · cases hv
  · cases hv
    have hl : (es.take m).length = m := by rw [List.length_take]; omega
    have hlc : cs.length = es.length * sz := ho.1
    have hms : m * sz ≤ es.length * sz := Nat.mul_le_mul_right _ hm
    refine ⟨⟨cs.take (m * sz), ⟨by rw [List.length_take, hl, hlc]; omega, .inr ⟨r, cap, cur, by rw [hl], hB, hh, by omega, hcp, hcs, ?_⟩⟩, fun j e he => ?_⟩, h.sep⟩
    · rw [hl, ← ht, List.take_take]
      congr 1
      omega
    · rw [List.getElem?_take] at he
      split at he
      · next hj =>
        obtain ⟨h1, h2⟩ := hc j e he
        refine ⟨h1, fun q d hd => ?_⟩
        obtain ⟨u, h3, h4⟩ := h2 q d hd
        have hq := (List.getElem?_eq_some_iff.1 hd).1
        have hjm : (j + 1) * sz ≤ m * sz := Nat.mul_le_mul_right _ hj
        rw [Nat.add_mul, Nat.one_mul] at hjm
        refine ⟨u, ?_, h4⟩
        rw [List.getElem?_take, if_pos (by omega)]
        exact h3
      · cases he
/-- More elements behind the others. -/
theorem OwnD.more {T : TypeId} {sz B : Nat} {F F' : Nat → Prop} {w w2 : World} {v v2 : Value} {es es2 : List (List Dat)} {cs news : List Value} (h : OwnD T sz B F w v es) (ho : w.ownsRow B T sz v es.length cs)
    (hnew : ∀ (j : Nat) (e : List Dat), es2[j]? = some e → e.length = sz ∧ ∀ (q : Nat) (d : Dat), e[q]? = some d → ∃ u, news[j * sz + q]? = some u ∧ Reads F' w2 u d)
    (h2 : w2.ownsRow B T sz v2 (es.length + es2.length) (cs ++ news)) (hg : w.grownBy w2 v.ownBlock) (hF : ∀ k, k < w.heap.size → F k → F' k) (hsep : ∀ g, v2.ownBlock = some g → ¬ F' g) : OwnD T sz B F' w2 v2 (es ++ es2) := by
  obtain ⟨cs', ho', hc⟩ := h.own
  obtain rfl := ownsRow_one ho ho'
  refine ⟨⟨cs ++ news, by rw [List.length_append]; exact h2, fun j x hx => ?_⟩, hsep⟩
  have hl : cs.length = es.length * sz := ho'.1
  by_cases hj : j < es.length
  · rw [List.getElem?_append_left hj] at hx
    obtain ⟨h1, h3⟩ := hc j x hx
    refine ⟨h1, fun q d hd => ?_⟩
    obtain ⟨u, h4, h5⟩ := h3 q d hd
    exact ⟨u, by rw [List.getElem?_append_left (List.getElem?_eq_some_iff.1 h4).1]; exact h4, h5.move hg.size (fun k hk hFk => ⟨hg.block k hk (fun e => h.sep k e.symm hFk), hF k hk hFk⟩)⟩
  · rw [List.getElem?_append_right (by omega)] at hx
    obtain ⟨h1, h3⟩ := hnew _ x hx
    refine ⟨h1, fun q d hd => ?_⟩
    obtain ⟨u, h4, h5⟩ := h3 q d hd
    refine ⟨u, ?_, h5⟩
    have hjs : j * sz = es.length * sz + (j - es.length) * sz := by rw [← Nat.add_mul]; congr 1; omega
    rw [List.getElem?_append_right (by omega), hl, hjs, show es.length * sz + (j - es.length) * sz + q - es.length * sz = (j - es.length) * sz + q by omega]
    exact h4
theorem reads_one {F : Nat → Prop} {w : World} {u : Value} {d : Dat} (h : Reads F w u d) : u.oneCell' = true := by cases h <;> rfl
/-- The cells of a row of one's own are one cell each. -/
theorem OwnD.ones {T : TypeId} {sz B : Nat} {F : Nat → Prop} {w : World} {v : Value} {es : List (List Dat)} {cs : List Value} (h : OwnD T sz B F w v es) (ho : w.ownsRow B T sz v es.length cs) (hz : 0 < sz) : ∀ u ∈ cs, u.oneCell' = true := fun u hu => by
  obtain ⟨cs', ho', hc⟩ := h.own
  obtain rfl := ownsRow_one ho ho'
  obtain ⟨i, hi, rfl⟩ := List.getElem_of_mem hu
  have hl : cs.length = es.length * sz := ho'.1
  have hj : i / sz < es.length := Nat.div_lt_of_lt_mul (by rw [Nat.mul_comm]; omega)
  obtain ⟨h1, h2⟩ := hc (i / sz) _ (List.getElem?_eq_getElem hj)
  have hq : i % sz < es[i / sz].length := by rw [h1]; exact Nat.mod_lt _ hz
  obtain ⟨u, h3, h4⟩ := h2 (i % sz) _ (List.getElem?_eq_getElem hq)
  have hi2 : i / sz * sz + i % sz = i := by rw [Nat.mul_comm]; exact Nat.div_add_mod i sz
  rw [hi2, List.getElem?_eq_getElem hi] at h3
  cases h3
  exact reads_one h4
section
variable {o : Oper} {a : Act} {w : World} {Q : Exit → Act → World → Prop} {K : Act → World → Prop}
/-- More links behind one's own. -/
theorem owp_add_links (s x : Operand) (ho : o.op = .call { callee := .builtin .append, args := #[s, x], argTypes := #[40, 40] }) (B C : Nat) (F F2 : Nat → Prop) (v v2 : Value) (ls cs : List Lk) (hs : a.eval s = v) (hx : a.eval x = v2) (hO : OwnD 27 3 B F w v (dLks ls)) (hO2 : OwnD 27 3 C F2 w v2 (dLks cs)) (hB : B ≤ w.heap.size) (hne : cs ≠ [])
    (hF : ∀ j, F j → j < w.heap.size) (hF2 : ∀ j, F2 j → j < w.heap.size) (hsep : ∀ j, v.ownBlock = some j → ¬ F2 j) (hvv : ∀ j, v.ownBlock = some j → v2.ownBlock ≠ some j) (hl : ls.length + cs.length ≤ 1000)
    (h : ∀ v' w', Hid (OwnD 27 3 B (fun j => F j ∨ F2 j) w' v' (dLks (ls ++ cs)) ∧ w.grownBy w' v.ownBlock ∧ (v'.ownBlock = v.ownBlock ∨ v'.ownBlock = some w.heap.size)) → K (a.put o.dst v') w') : o.wp Try.prog a w K Q := by
  obtain ⟨i0, hi0, hz0, hz1, hz2⟩ := info_parts Try.info27
  obtain ⟨c1, hown, _⟩ := hO.own
  obtain ⟨c2, hown2, hc2⟩ := hO2.own
  rcases hown2.2 with ⟨_, h0⟩ | ⟨g, cap, cur, hv2, _⟩
  · rw [dLks_len] at h0
    exact absurd (List.eq_nil_of_length_eq_zero h0) hne
  subst hv2
  obtain ⟨v', w', hr, h2, h3, h4, h5⟩ := run_append_own_at (P := Try.prog) w B 40 o.type 27 i0 (.agg #[.int .i64 0, .slice none 0 0, .slice none 0 0]) 3 56 Try.underlying40 hi0 hz0 hz1 hz2 rfl (by decide) v _ c1 hown ⟨g, 0, none⟩ (dLks cs).length cap c2 hown2.1 (fun j u hj => hown2.cells rfl j u hj) (hO2.ones hown2 (by decide)) (by rw [dLks_len, dLks_len]; unfold maxLen; omega) (by rw [dLks_len, dLks_len]; omega) hB
  refine owp_value (v := v') (w' := w') ?_ (h v' w' ⟨?_, h3, h5⟩)
  · simp [execOp, ho, resolve, invoke, builtin, hs, hx, hr, Result.andThen]
  · have := hO.more (F' := fun j => F j ∨ F2 j) (es2 := dLks cs) hown (fun j e he => ⟨(hc2 j e he).1, fun q d hd => by
      obtain ⟨u, h6, h7⟩ := (hc2 j e he).2 q d hd
      exact ⟨u, h6, h7.move h3.size (fun k hk hFk => ⟨h3.block k hk (fun e => hsep k e.symm hFk), .inr hFk⟩)⟩⟩) h2 h3 (fun k _ hk => .inl hk) (fun j hj hFj => by
      rcases h5 with e | e
      · rcases hFj with hq | hq
        · exact hO.sep j (e ▸ hj) hq
        · exact hsep j (e ▸ hj) hq
      · rw [e] at hj
        cases hj
        rcases hFj with hq | hq
        · exact absurd (hF _ hq) (Nat.lt_irrefl _)
        · exact absurd (hF2 _ hq) (Nat.lt_irrefl _))
    rw [dLks, List.map_append]
    exact this
end
set_option maxRecDepth 100000 in
set_option maxHeartbeats 6400000 in
theorem ltakeK_any (B : Nat) (F : Nat → Prop) (g : Nat) (vl : Value) (fm : List Int) (hfm : rightC 0 fm = true) (ls : List Lk) (hls : chainE 0 fm [] ls = 0) (G : Nat → Prop) (cv : Value) (cs : List Lk) (hcs : ∀ k, k ∈ cs → k.2.1.length ≤ maxLen ∧ k.2.2.length ≤ maxLen) (hcl : cs.length ≤ maxLen) (hrm : ∀ ad n c, cv = .slice ad n c → n ≤ c) (w : World) (h : TkAt B F w g vl fm ls) (hC : Reads G w cv (.l 3 (dLks cs))) :
    Calls Try.prog 21 #[.pointer (some ⟨g, 0, none⟩), cv] w fun r w' => r = .returned (.int .i64 (takeE 0 fm ls cs)) ∧ (takeE 0 fm ls cs ≠ 0 → Below w.heap.size w w') ∧ (takeE 0 fm ls cs = 0 → ∃ F' vl', TkAt B F' w' g vl' fm cs ∧ Kept g vl.ownBlock w w' ∧ (∀ k, F' k → F k ∨ w.heap.size ≤ k) ∧ (vl'.ownBlock = vl.ownBlock ∨ ∃ q, vl'.ownBlock = some q ∧ w.heap.size ≤ q)) := by
  have hgd := good_of hls
  have hl := hgd.len
  obtain ⟨ca, cc, hv⟩ := lks_form hC
  subst hv
  obtain ⟨r, rc, rfl, hc, hmx, hr, hrg⟩ := h.form
  have HK := hid (fun u => lknows_any B F g (.slice (some ⟨r, 0, none⟩) (ls.length + 1) rc) fm ls u)
  have HEp := hid (fun u => lepochK_any B F g (.slice (some ⟨r, 0, none⟩) (ls.length + 1) rc) fm ls (by omega) u)
  have HAt : Hid (∀ u, TkAt B F u g (.slice (some ⟨r, 0, none⟩) (ls.length + 1) rc) fm ls → ∃ a1 c1, u.cell? ⟨r, 0, none⟩ = some (.int .i64 0) ∧ u.cell? ⟨r, 1, none⟩ = some (.slice a1 fm.length c1) ∧ IntsIn u a1 fm) := hid (fun u hu => by
    obtain ⟨g', off', cap', a1, c1, a2, c2, hv, hg, k0, k1, k2, hi1, hp1⟩ := lks_at hu.reads 0 (0, fm, []) rfl
    cases hv
    exact ⟨a1, c1, k0, k1, hi1⟩)
  have HT := hid h
  have HC : Hid (∀ u, Below w.heap.size w u → Reads G u (.slice ca cs.length cc) (.l 3 (dLks cs))) := hid (fun u hu => hC.under hu (Nat.le_refl _))
  have HWk : Hid (∀ (E : Int), chainE 0 fm [] cs = E → cs.length ≤ 64 → ∀ (u : World) (a1 : Option Addr) (c1 : Nat), IntsIn u a1 fm → Below w.heap.size w u → Calls Try.prog 41 #[.agg #[.int .i64 0, .slice a1 fm.length c1], .slice ca cs.length cc] u fun r w' => r = .returned (.int .i64 E) ∧ Below u.heap.size u w') := hid (fun E hE h64 u a1 c1 hu hb => by rw [← hE]; exact lwalk_any fm (by have := (mem_len (right_mem hfm).2).2; unfold maxLen; omega) a1 c1 G _ cs hcs h64 u hu (HC.out u hb))
  have HOt : Hid (∀ (X : Bool), otherTo ls cs cs.length = X → cs.length ≤ 64 → Good cs → ∀ u : World, TkAt B F u g (.slice (some ⟨r, 0, none⟩) (ls.length + 1) rc) fm ls → Below w.heap.size w u → Calls Try.prog 42 #[.pointer (some ⟨g, 0, none⟩), .slice ca cs.length cc] u fun r w' => r = .returned (.bool X) ∧ Below u.heap.size u w') := hid (fun X hX h64 hgc u hu hb => by rw [← hX]; exact lisOther_any B F g _ fm ls (by omega) (fun k hk => (hgd.small k hk).1) G _ cs h64 hgc hrm u hu (HC.out u hb))
  have hl2 : (ls.length : Int) ≤ 900 := by omega
  have hl0 : (0 : Int) ≤ (ls.length : Int) := Int.natCast_nonneg _
  have hcl2 : (cs.length : Int) ≤ 9223372036854775807 := by unfold maxLen at hcl; omega
  have hrc1 : (1 : Int) ≤ (rc : Int) := by omega
  have hz1 : (0 : Int) < (ls.length : Int) + 1 := by omega
  have HL := hid (And.intro hl (And.intro hc hr))
  clear h hC hcs hrm hc hmx hr hrg hls hl hgd hcl hfm
  by_cases h64 : 64 < cs.length
  · have hE : takeE 0 fm ls cs = 3 := by rw [takeE, if_pos h64]
    have h64i : (64 : Int) < (cs.length : Int) := by omega
    rw [hE]
    clear hE h64
    go_enter Try.func21, Try.ntmps21
    go_wp2_with (go_at_call 37; refine (HK.out _ HT.out).mono ?_; rintro q w1 ⟨rfl, hb1⟩; have H1 := hid (And.intro (HT.out.keep hb1) hb1); clear hb1)
    go_ret
    exact ⟨rfl, fun _ => H1.out.2, fun hq => absurd hq (by decide)⟩
  · have h64n : cs.length ≤ 64 := by omega
    have h64i : ¬ ((64 : Int) < (cs.length : Int)) := by omega
    by_cases hch : chainE 0 fm [] cs = 0
    · have hgc := good_of hch
      have HWb := hid (HWk.out 0 hch h64n)
      by_cases hot : otherTo ls cs cs.length = true
      · have hE : takeE 0 fm ls cs = 22 := by rw [takeE, if_neg h64, if_neg (by simpa using hch), if_pos hot]
        have HOb := hid (HOt.out true hot h64n hgc)
        rw [hE]
        clear hE h64 hch hot hgc h64n
        go_enter Try.func21, Try.ntmps21
        go_wp2_with (first
          | (go_at_call 42; refine (HOb.out _ (by exact H2.out.1) (by exact H2.out.2)).mono ?_; rintro q w3 ⟨rfl, hb3⟩; have H3 := hid (And.intro (H2.out.1.keep hb3) (H2.out.2.trans (hb3.mono H2.out.2.size))); clear hb3)
          | (go_at_call 41; refine (HWb.out _ _ _ (by exact HI.out) (by exact H1.out.2)).mono ?_; rintro q w2 ⟨rfl, hb2⟩; have H2 := hid (And.intro (H1.out.1.keep hb2) (H1.out.2.trans (hb2.mono H1.out.2.size))); clear hb2)
          | (go_at_call 37; refine (HK.out _ HT.out).mono ?_; rintro q w1 ⟨rfl, hb1⟩; have H1 := hid (And.intro (HT.out.keep hb1) hb1); clear hb1; have x0 := cell_one H1.out.1.blk; obtain ⟨a1, c1, x1, x2, hi1⟩ := HAt.out _ H1.out.1; have HI := hid hi1; clear hi1))
        go_ret
        exact ⟨rfl, fun _ => H3.out.2, fun hq => absurd hq (by decide)⟩
      · have hot2 : otherTo ls cs cs.length = false := by simpa using hot
        have HOb := hid (HOt.out false hot2 h64n hgc)
        by_cases hold : cs.length ≤ ls.length
        · have hE : takeE 0 fm ls cs = 17 := by rw [takeE, if_neg h64, if_neg (by simpa using hch), if_neg hot, if_pos hold]
          have holdi : (cs.length : Int) ≤ (ls.length : Int) := by omega
          rw [hE]
          clear hE h64 hch hot hot2 hgc h64n hold
          go_enter Try.func21, Try.ntmps21
          go_wp2_with (first
            | (go_at_call 18; refine (HEp.out _ (by exact H3.out.1)).mono ?_; rintro q w4 ⟨rfl, hb4⟩; have H4 := hid (And.intro (H3.out.1.keep hb4) (H3.out.2.trans (hb4.mono H3.out.2.size))); clear hb4)
            | (go_at_call 42; refine (HOb.out _ (by exact H2.out.1) (by exact H2.out.2)).mono ?_; rintro q w3 ⟨rfl, hb3⟩; have H3 := hid (And.intro (H2.out.1.keep hb3) (H2.out.2.trans (hb3.mono H2.out.2.size))); clear hb3)
            | (go_at_call 41; refine (HWb.out _ _ _ (by exact HI.out) (by exact H1.out.2)).mono ?_; rintro q w2 ⟨rfl, hb2⟩; have H2 := hid (And.intro (H1.out.1.keep hb2) (H1.out.2.trans (hb2.mono H1.out.2.size))); clear hb2)
            | (go_at_call 37; refine (HK.out _ HT.out).mono ?_; rintro q w1 ⟨rfl, hb1⟩; have H1 := hid (And.intro (HT.out.keep hb1) hb1); clear hb1; have x0 := cell_one H1.out.1.blk; obtain ⟨a1, c1, x1, x2, hi1⟩ := HAt.out _ H1.out.1; have HI := hid hi1; clear hi1))
          go_ret
          exact ⟨rfl, fun _ => H4.out.2, fun hq => absurd hq (by decide)⟩
        · have hE : takeE 0 fm ls cs = 0 := by rw [takeE, if_neg h64, if_neg (by simpa using hch), if_neg hot, if_neg hold]
          have holdi : ¬ ((cs.length : Int) ≤ (ls.length : Int)) := by omega
          have holdi2 : (ls.length : Int) < (cs.length : Int) := by omega
          have HG : Hid (cs.length ≤ 64 ∧ cs ≠ [] ∧ ∀ k, k ∈ cs → k.2.1.length ≤ 10 ∧ k.2.2.length ≤ 16) := hid ⟨h64n, by intro e; rw [e] at hold; exact hold (Nat.zero_le _), fun k hk => hgc.small k hk⟩
          rw [hE]
          clear hE h64 hch hot hot2 hgc h64n hold
          go_enter Try.func21, Try.ntmps21
          go_wp2_with (first
            | (go_at_call 18; refine (HEp.out _ (by exact H3.out.1)).mono ?_; rintro q w4 ⟨rfl, hb4⟩; have H4 := hid (And.intro (H3.out.1.keep hb4) (H3.out.2.trans (hb4.mono H3.out.2.size))); clear hb4)
            | (go_at_call 42; refine (HOb.out _ (by exact H2.out.1) (by exact H2.out.2)).mono ?_; rintro q w3 ⟨rfl, hb3⟩; have H3 := hid (And.intro (H2.out.1.keep hb3) (H2.out.2.trans (hb3.mono H2.out.2.size))); clear hb3)
            | (go_at_call 41; refine (HWb.out _ _ _ (by exact HI.out) (by exact H1.out.2)).mono ?_; rintro q w2 ⟨rfl, hb2⟩; have H2 := hid (And.intro (H1.out.1.keep hb2) (H1.out.2.trans (hb2.mono H1.out.2.size))); clear hb2)
            | (go_at_call 37; refine (HK.out _ HT.out).mono ?_; rintro q w1 ⟨rfl, hb1⟩; have H1 := hid (And.intro (HT.out.keep hb1) hb1); clear hb1; have x0 := cell_one H1.out.1.blk; obtain ⟨a1, c1, x1, x2, hi1⟩ := HAt.out _ H1.out.1; have HI := hid hi1; clear hi1))
          clear x0 x1 x2
          have H4d : Hid (TkAt B F w4.drew g (.slice (some ⟨r, 0, none⟩) (ls.length + 1) rc) fm ls ∧ Below w.heap.size w w4.drew) := hid ⟨H4.out.1.keep (Below.refl _ _).drew, H4.out.2.drew⟩
          refine wp_region_held (S := fun ww => True) (by kernel_rfl) ?_
          try (change wpAnyH _ _ _ _ _ _ _ _ (World.drew _))
          refine wpAnyH_take (i := 0) (v := ?v1) rfl (by kernel_rfl) (by kernel_rfl) (by kernel_rfl) (fun _ _ _ h => h) (Or.inl ⟨by rfl, ?hy1⟩) trivial ?rest1
          case hy1 => (intro ww _; go_simp; try with_reducible rfl)
          go_simp
          refine wpAnyH_take (i := 1) (v := ?v2) rfl (by kernel_rfl) (by kernel_rfl) (by kernel_rfl) (fun _ _ _ h => h) (Or.inl ⟨by rfl, ?hy2⟩) trivial ?rest2
          case hy2 => (intro ww _; go_simp; try with_reducible rfl)
          go_simp
          refine wpAnyH_take (i := 2) (v := ?v3) rfl (by kernel_rfl) (by kernel_rfl) (by kernel_rfl) (fun _ _ _ h => h) (Or.inl ⟨by rfl, ?hy3⟩) trivial ?rest3
          case hy3 => (intro ww _; go_simp; try with_reducible rfl)
          go_simp
          refine wpAnyH_take (i := 3) (v := ?v4) rfl (by kernel_rfl) (by kernel_rfl) (by kernel_rfl) (fun _ _ _ h => h) (Or.inl ⟨by rfl, ?hy4⟩) trivial ?rest4
          case hy4 => (intro ww _; go_simp; try with_reducible rfl)
          go_simp
          refine wpAnyH_take (i := 6) (v := ?v5) rfl (by kernel_rfl) (by kernel_rfl) (by kernel_rfl) (fun _ _ _ h => h) (Or.inl ⟨by rfl, ?hy5⟩) trivial ?rest5
          case hy5 => (intro ww _; go_simp; try with_reducible rfl)
          go_simp
          refine wpAnyH_all (rs := [4, 7]) (by kernel_rfl) (by simp) ?_
          intro i hi
          rcases List.mem_cons.1 hi with rfl | hi
          · clear hi
            refine wpOp_k rfl (by rfl) (fun K hK => ?_)
            have q2 := cell_one H4d.out.1.blk
            go_simp
            refine hK _ _ ⟨trivial, ?_⟩
            clear hK K q2
            go_simp
            refine wpAnyH_take (i := 5) (v := ?v6) rfl (by kernel_rfl) (by kernel_rfl) (by kernel_rfl) (fun _ _ _ h => h) (Or.inl ⟨by rfl, ?hy6⟩) trivial ?rest6
            case hy6 => (intro ww _; go_simp; try with_reducible rfl)
            go_simp
            refine wpAnyH_all (rs := [7]) (by kernel_rfl) (by simp) ?_
            intro i hi
            obtain rfl := List.mem_singleton.1 hi
            clear hi
            refine wpOp_k rfl (by rfl) (fun K hK => ?_)
            go_simp
            refine (lcopyLinks_any G _ cs (by have := HG.out.1; omega) HG.out.2.2 _ (HC.out _ H4d.out.2)).mono ?_
            rintro q w5 ⟨v5, F5, rfl, ho5, hF5, hb5⟩
            have H5 : Hid (TkAt B F w5 g (.slice (some ⟨r, 0, none⟩) (ls.length + 1) rc) fm ls ∧ Below w.heap.size w w5 ∧ OwnD 27 3 w4.drew.heap.size F5 w5 v5 (dLks cs) ∧ (∀ k, F5 k → w4.drew.heap.size ≤ k ∧ Free w5 k)) := hid ⟨H4d.out.1.keep hb5, H4d.out.2.trans (hb5.mono H4d.out.2.size), ho5, hF5⟩
            clear ho5 hF5 hb5
            refine hK _ _ ⟨trivial, ?_⟩
            clear hK K
            go_simp
            refine wpAnyH_all (rs := [8]) (by kernel_rfl) (by simp) ?_
            intro i hi
            obtain rfl := List.mem_singleton.1 hi
            clear hi
            refine wpOp_k rfl (by rfl) (fun K hK => ?_)
            refine owp_add_links (.tmp 36) (.tmp 38) rfl B w4.drew.heap.size F F5 (.slice (some ⟨r, 0, none⟩) 1 rc) v5 [(0, fm, [])] cs (by rfl) (by rfl) (by have := H5.out.1.own.cut 1 (by rw [dLks_len, kn_len]; omega); exact this) H5.out.2.2.1 H5.out.1.le HG.out.2.1 H5.out.1.flt (fun j hj => (H5.out.2.2.2 j hj).2.lt) ?sepA6 ?sepB6 (by have := HG.out.1; simp; omega) ?_
            case sepA6 => (intro j hj hF; have h1 := (H4d.out.1.own.lt j (by cases hj; rfl)).2; have h2 := (H5.out.2.2.2 j hF).1; omega)
            case sepB6 => (intro j hj hv; have h1 := (H4d.out.1.own.lt j (by cases hj; rfl)).2; have h2 := (H5.out.2.2.1.lt j hv).1; omega)
            intro v6 w6 H6
            have HA := hid (TkAt.put (L := cs) H5.out.1 H6.out.1 H6.out.2.1 H6.out.2.2 (by rintro (hq | hq); exact H5.out.1.gF hq; have h1 := (H5.out.2.2.2 _ hq).1; have h2 := lt_of_blk H4d.out.1.blk; omega) (by rintro j (hq | hq); exact H5.out.1.flt j hq; exact (H5.out.2.2.2 j hq).2.lt))
            have H6s : Hid (w6.heap[g]? = some (.cells #[(.slice (some ⟨r, 0, none⟩) (ls.length + 1) rc)] 68 (0, 0))) := hid ((H6.out.2.1.block _ (lt_of_blk H5.out.1.blk) (fun he => H5.out.1.gv he.symm)).trans H5.out.1.blk)
            obtain ⟨a6, c6, hv6⟩ := H6.out.1.form
            subst hv6
            refine hK _ _ ⟨trivial, ?_⟩
            clear hK K
            go_simp
            refine wpAnyH_take (i := 9) (v := ?v7) rfl (by kernel_rfl) (by kernel_rfl) (by kernel_rfl) (fun _ _ _ h => h) (Or.inl ⟨by rfl, ?hy7⟩) trivial ?rest7
            case hy7 => (intro ww _; go_simp; try with_reducible rfl)
            go_simp
            refine wpAnyH_take (i := 10) (v := ?v8) rfl (by kernel_rfl) (by kernel_rfl) (by kernel_rfl) (fun _ _ _ h => h) (Or.inl ⟨by rfl, ?hy8⟩) trivial ?rest8
            case hy8 => (intro ww _; go_simp; try with_reducible rfl)
            go_simp
            refine wpAnyH_all (rs := [11]) (by kernel_rfl) (by simp) ?_
            intro i hi
            obtain rfl := List.mem_singleton.1 hi
            clear hi
            refine wpOp_k rfl (by rfl) (fun K hK => ?_)
            have r2 := cell_one H6s.out
            have f2 := free_at H6s.out 0
            go_simp
            refine hK _ _ ⟨trivial, ?_⟩
            clear hK K r2 f2
            go_simp
            refine wpAnyH_done (by kernel_rfl) ?_ _
            go_simp
            go_wp2
            go_ret
            refine ⟨rfl, fun hq => absurd rfl hq, fun _ => ⟨_, _, HA.out.1, ?_, ?_, ?_⟩⟩
            · exact Kept.trans (kept_of_below H5.out.2.1) HA.out.2 (.inl rfl)
            · rintro k (hk | hk)
              · exact .inl hk
              · exact .inr (Nat.le_trans H4d.out.2.size (H5.out.2.2.2 k hk).1)
            · rcases H6.out.2.2 with he | he
              · exact .inl he
              · exact .inr ⟨_, he, H5.out.2.1.size⟩
          · skip
            obtain rfl := List.mem_singleton.1 hi
            clear hi
            refine wpOp_k rfl (by rfl) (fun K hK => ?_)
            go_simp
            refine (lcopyLinks_any G _ cs (by have := HG.out.1; omega) HG.out.2.2 _ (HC.out _ H4d.out.2)).mono ?_
            rintro q w5 ⟨v5, F5, rfl, ho5, hF5, hb5⟩
            have H5 : Hid (TkAt B F w5 g (.slice (some ⟨r, 0, none⟩) (ls.length + 1) rc) fm ls ∧ Below w.heap.size w w5 ∧ OwnD 27 3 w4.drew.heap.size F5 w5 v5 (dLks cs) ∧ (∀ k, F5 k → w4.drew.heap.size ≤ k ∧ Free w5 k)) := hid ⟨H4d.out.1.keep hb5, H4d.out.2.trans (hb5.mono H4d.out.2.size), ho5, hF5⟩
            clear ho5 hF5 hb5
            refine hK _ _ ⟨trivial, ?_⟩
            clear hK K
            go_simp
            refine wpAnyH_all (rs := [4]) (by kernel_rfl) (by simp) ?_
            intro i hi
            obtain rfl := List.mem_singleton.1 hi
            clear hi
            refine wpOp_k rfl (by rfl) (fun K hK => ?_)
            have q2 := cell_one H5.out.1.blk
            go_simp
            refine hK _ _ ⟨trivial, ?_⟩
            clear hK K q2
            go_simp
            refine wpAnyH_take (i := 5) (v := ?v9) rfl (by kernel_rfl) (by kernel_rfl) (by kernel_rfl) (fun _ _ _ h => h) (Or.inl ⟨by rfl, ?hy9⟩) trivial ?rest9
            case hy9 => (intro ww _; go_simp; try with_reducible rfl)
            go_simp
            refine wpAnyH_all (rs := [8]) (by kernel_rfl) (by simp) ?_
            intro i hi
            obtain rfl := List.mem_singleton.1 hi
            clear hi
            refine wpOp_k rfl (by rfl) (fun K hK => ?_)
            refine owp_add_links (.tmp 36) (.tmp 38) rfl B w4.drew.heap.size F F5 (.slice (some ⟨r, 0, none⟩) 1 rc) v5 [(0, fm, [])] cs (by rfl) (by rfl) (by have := H5.out.1.own.cut 1 (by rw [dLks_len, kn_len]; omega); exact this) H5.out.2.2.1 H5.out.1.le HG.out.2.1 H5.out.1.flt (fun j hj => (H5.out.2.2.2 j hj).2.lt) ?sepA9 ?sepB9 (by have := HG.out.1; simp; omega) ?_
            case sepA9 => (intro j hj hF; have h1 := (H4d.out.1.own.lt j (by cases hj; rfl)).2; have h2 := (H5.out.2.2.2 j hF).1; omega)
            case sepB9 => (intro j hj hv; have h1 := (H4d.out.1.own.lt j (by cases hj; rfl)).2; have h2 := (H5.out.2.2.1.lt j hv).1; omega)
            intro v6 w6 H6
            have HA := hid (TkAt.put (L := cs) H5.out.1 H6.out.1 H6.out.2.1 H6.out.2.2 (by rintro (hq | hq); exact H5.out.1.gF hq; have h1 := (H5.out.2.2.2 _ hq).1; have h2 := lt_of_blk H4d.out.1.blk; omega) (by rintro j (hq | hq); exact H5.out.1.flt j hq; exact (H5.out.2.2.2 j hq).2.lt))
            have H6s : Hid (w6.heap[g]? = some (.cells #[(.slice (some ⟨r, 0, none⟩) (ls.length + 1) rc)] 68 (0, 0))) := hid ((H6.out.2.1.block _ (lt_of_blk H5.out.1.blk) (fun he => H5.out.1.gv he.symm)).trans H5.out.1.blk)
            obtain ⟨a6, c6, hv6⟩ := H6.out.1.form
            subst hv6
            refine hK _ _ ⟨trivial, ?_⟩
            clear hK K
            go_simp
            refine wpAnyH_take (i := 9) (v := ?v10) rfl (by kernel_rfl) (by kernel_rfl) (by kernel_rfl) (fun _ _ _ h => h) (Or.inl ⟨by rfl, ?hy10⟩) trivial ?rest10
            case hy10 => (intro ww _; go_simp; try with_reducible rfl)
            go_simp
            refine wpAnyH_take (i := 10) (v := ?v11) rfl (by kernel_rfl) (by kernel_rfl) (by kernel_rfl) (fun _ _ _ h => h) (Or.inl ⟨by rfl, ?hy11⟩) trivial ?rest11
            case hy11 => (intro ww _; go_simp; try with_reducible rfl)
            go_simp
            refine wpAnyH_all (rs := [11]) (by kernel_rfl) (by simp) ?_
            intro i hi
            obtain rfl := List.mem_singleton.1 hi
            clear hi
            refine wpOp_k rfl (by rfl) (fun K hK => ?_)
            have r2 := cell_one H6s.out
            have f2 := free_at H6s.out 0
            go_simp
            refine hK _ _ ⟨trivial, ?_⟩
            clear hK K r2 f2
            go_simp
            refine wpAnyH_done (by kernel_rfl) ?_ _
            go_simp
            go_wp2
            go_ret
            refine ⟨rfl, fun hq => absurd rfl hq, fun _ => ⟨_, _, HA.out.1, ?_, ?_, ?_⟩⟩
            · exact Kept.trans (kept_of_below H5.out.2.1) HA.out.2 (.inl rfl)
            · rintro k (hk | hk)
              · exact .inl hk
              · exact .inr (Nat.le_trans H4d.out.2.size (H5.out.2.2.2 k hk).1)
            · rcases H6.out.2.2 with he | he
              · exact .inl he
              · exact .inr ⟨_, he, H5.out.2.1.size⟩
    · have hE : takeE 0 fm ls cs = chainE 0 fm [] cs := by rw [takeE, if_neg h64, if_pos hch]
      have HWb := hid (HWk.out _ rfl h64n)
      rw [hE]
      generalize chainE 0 fm [] cs = E at *
      have hEb : (E != 0) = true := by simpa using hch
      have HN := hid hch
      clear hE h64 hch h64n
      go_enter Try.func21, Try.ntmps21
      go_wp2_with (first
        | (go_at_call 41; refine (HWb.out _ _ _ (by exact HI.out) (by exact H1.out.2)).mono ?_; rintro q w2 ⟨rfl, hb2⟩; have H2 := hid (And.intro (H1.out.1.keep hb2) (H1.out.2.trans (hb2.mono H1.out.2.size))); clear hb2)
        | (go_at_call 37; refine (HK.out _ HT.out).mono ?_; rintro q w1 ⟨rfl, hb1⟩; have H1 := hid (And.intro (HT.out.keep hb1) hb1); clear hb1; have x0 := cell_one H1.out.1.blk; obtain ⟨a1, c1, x1, x2, hi1⟩ := HAt.out _ H1.out.1; have HI := hid hi1; clear hi1))
      go_ret
      exact ⟨rfl, fun _ => H2.out.2, fun hq => absurd hq HN.out⟩
theorem TkAt.outs {O : Nat → Prop} {F : Nat → Prop} {g : Nat} {vl : Value} {w w' : World} (hO : ∀ k, O k ↔ (k = g ∨ F k ∨ vl.ownBlock = some k)) (h : Kept g vl.ownBlock w w') : Outs O w w' :=
  ⟨h.os, h.tape, h.output, h.size, fun k hk hn => h.block k hk (fun e => hn ((hO k).2 (.inl e))) (fun e => hn ((hO k).2 (.inr (.inr e.symm))))⟩
theorem tr_either {O : Nat → Prop} {B : Nat} {F : Nat → Prop} {g : Nat} {vl : Value} {fm : List Int} {ls L : List Lk} {w w' : World} {E : Int} (h : TkAt B F w g vl fm ls) (hO : ∀ k, O k ↔ (k = g ∨ F k ∨ vl.ownBlock = some k)) (h1 : E ≠ 0 → Below w.heap.size w w') (h2 : E = 0 → ∃ F' vl', TkAt B F' w' g vl' fm L ∧ Kept g vl.ownBlock w w' ∧ (∀ k, F' k → F k ∨ w.heap.size ≤ k) ∧ (vl'.ownBlock = vl.ownBlock ∨ ∃ q, vl'.ownBlock = some q ∧ w.heap.size ≤ q)) :
    Outs O w w' ∧ ∃ O', TrAt O' w' (.pointer (some ⟨g, 0, none⟩)) fm (if E = 0 then L else ls) ∧ ∀ k, O' k → O k ∨ w.heap.size ≤ k := by
  by_cases hE : E = 0
  · obtain ⟨F', vl', hM, hK, hF, hv⟩ := h2 hE
    rw [if_pos hE]
    refine ⟨TkAt.outs hO hK, fun k => k = g ∨ F' k ∨ vl'.ownBlock = some k, ⟨g, B, F', vl', rfl, hM, fun k => Iff.rfl⟩, ?_⟩
    rintro k (rfl | hk | hk)
    · exact .inl ((hO k).2 (.inl rfl))
    · rcases hF k hk with hq | hq
      · exact .inl ((hO k).2 (.inr (.inl hq)))
      · exact .inr hq
    · rcases hv with e | ⟨q, e, hq⟩
      · exact .inl ((hO k).2 (.inr (.inr (e ▸ hk))))
      · rw [hk] at e; cases e; exact .inr hq
  · rw [if_neg hE]
    exact ⟨outs_of (h1 hE), O, ⟨g, B, F, vl, rfl, h.keep (h1 hE), hO⟩, fun k hk => .inl hk⟩
theorem ladd_any (O : Nat → Prop) (v : Value) (fm : List Int) (hfm : rightC 0 fm = true) (ls : List Lk) (hls : chainE 0 fm [] ls = 0) (e : Int) (a : Option Addr) (n cap : Nat) (l : List Int) (hn : l.length = n) (hm : n ≤ maxLen) (bs : Option Addr) (m cp : Nat) (ss : List (Int × ByteArray)) (hsn : ss.length = m) (hsm : m ≤ maxLen) (w : World) (h : TrAt O w v fm ls) (hI : IntsIn w a l) (hP : PairsIn w bs ss) :
    Calls Try.prog 25 #[v, .agg #[.int .i64 e, .slice a n cap, .slice bs m cp]] w fun r w' => r = .returned (.int .i64 (addE 0 fm ls (e, l, ss))) ∧ Outs O w w' ∧ ∃ O', TrAt O' w' v fm (if addE 0 fm ls (e, l, ss) = 0 then ls ++ [(e, l, ss)] else ls) ∧ ∀ k, O' k → O k ∨ w.heap.size ≤ k := by
  obtain ⟨g, B, F, vl, rfl, hM, hO⟩ := h
  refine (laddK_any B F g vl fm hfm ls hls e a n cap l hn hm bs m cp ss hsn hsm w hM hI hP).mono ?_
  rintro r w' ⟨rfl, h1, h2⟩
  exact ⟨rfl, tr_either hM hO h1 h2⟩
theorem ltake_any (O : Nat → Prop) (v : Value) (fm : List Int) (hfm : rightC 0 fm = true) (ls : List Lk) (hls : chainE 0 fm [] ls = 0) (G : Nat → Prop) (cv : Value) (cs : List Lk) (hcs : ∀ k, k ∈ cs → k.2.1.length ≤ maxLen ∧ k.2.2.length ≤ maxLen) (hcl : cs.length ≤ maxLen) (hrm : ∀ ad n c, cv = .slice ad n c → n ≤ c) (w : World) (h : TrAt O w v fm ls) (hC : Reads G w cv (.l 3 (dLks cs))) :
    Calls Try.prog 21 #[v, cv] w fun r w' => r = .returned (.int .i64 (takeE 0 fm ls cs)) ∧ Outs O w w' ∧ ∃ O', TrAt O' w' v fm (if takeE 0 fm ls cs = 0 then cs else ls) ∧ ∀ k, O' k → O k ∨ w.heap.size ≤ k := by
  obtain ⟨g, B, F, vl, rfl, hM, hO⟩ := h
  refine (ltakeK_any B F g vl fm hfm ls hls G cv cs hcs hcl hrm w hM hC).mono ?_
  rintro r w' ⟨rfl, h1, h2⟩
  exact ⟨rfl, tr_either hM hO h1 h2⟩
end Go.Proofs.Ytpholamobedkhaa

/- The law's own call, over the program's tracker. -/
namespace Go.Proofs.Ytpholamobedkhaa
open Go.RowKit

/-- What a call says, and what is known behind it. -/
def callE (fm : List Int) (ls : List Lk) (one : Bool) (cs : List Lk) : Int := if one = true then addE 0 fm ls (cs.headD (0, [], [])) else takeE 0 fm ls cs
def callL (fm : List Int) (ls : List Lk) (one : Bool) (cs : List Lk) : List Lk := if callE fm ls one cs = 0 then (if one = true then ls ++ [cs.headD (0, [], [])] else cs) else ls
theorem callL_ok {fm : List Int} {ls : List Lk} {one : Bool} {cs : List Lk} (h : chainE 0 fm [] ls = 0) : chainE 0 fm [] (callL fm ls one cs) = 0 := by
  unfold callL
  split
  · next h0 =>
    unfold callE at h0
    split
    · next h1 => rw [if_pos h1] at h0; exact chain_add h h0
    · next h1 => rw [if_neg h1] at h0; exact (take_ok h0).1
  · exact h
theorem TrAt.under {O : Nat → Prop} {w w' : World} {v : Value} {fm : List Int} {ls : List Lk} (h : TrAt O w v fm ls) (hb : Below w.heap.size w w') : TrAt O w' v fm ls := h.keep hb.size (fun k hk _ => hb.block k hk)
set_option maxRecDepth 100000 in
set_option maxHeartbeats 6400000 in
theorem jcall_any (O : Nat → Prop) (v : Value) (fm : List Int) (hfm : rightC 0 fm = true) (ls : List Lk) (hls : chainE 0 fm [] ls = 0) (G : Nat → Prop) (one : Bool) (cv : Value) (cs : List Lk) (hcs : ∀ k, k ∈ cs → k.2.1.length ≤ maxLen ∧ k.2.2.length ≤ maxLen) (hcl : cs.length ≤ maxLen) (hrm : ∀ ad n c, cv = .slice ad n c → n ≤ c) (w : World) (h : TrAt O w v fm ls) (hC : Reads G w cv (.l 3 (dLks cs))) :
    Calls Try.prog 14 #[v, .agg #[.bool one, cv]] w fun r w' => r = .returned (.int .i64 (callE fm ls one cs)) ∧ Outs O w w' ∧ ∃ O', TrAt O' w' v fm (callL fm ls one cs) ∧ ∀ k, O' k → O k ∨ w.heap.size ≤ k := by
  obtain ⟨ca, cc, hv⟩ := lks_form hC
  subst hv
  obtain ⟨g, hv⟩ := h.isptr
  subst hv
  have hA : Below w.heap.size w (w.alloc (.cells #[.bool one, .slice ca cs.length cc] 42)) := (Below.refl _ _).alloc (Nat.le_refl _) _
  have H0 : Hid (TrAt O (w.alloc (.cells #[.bool one, .slice ca cs.length cc] 42)) (.pointer (some ⟨g, 0, none⟩)) fm ls ∧ Reads G (w.alloc (.cells #[.bool one, .slice ca cs.length cc] 42)) (.slice ca cs.length cc) (.l 3 (dLks cs)) ∧ Below w.heap.size w (w.alloc (.cells #[.bool one, .slice ca cs.length cc] 42))) := hid ⟨h.under hA, hC.under hA (Nat.le_refl _), hA⟩
  have HLs := hid (And.intro hfm (And.intro hls hcs))
  have HCl := hid (And.intro hcl hrm)
  clear h hC hA hfm hls hcs hcl hrm
  cases one with
  | false =>
    have HT := hid (ltake_any O (.pointer (some ⟨g, 0, none⟩)) fm HLs.out.1 ls HLs.out.2.1 G (.slice ca cs.length cc) cs HLs.out.2.2 HCl.out.1 HCl.out.2 _ H0.out.1 H0.out.2.1)
    go_enter Try.func14, Try.ntmps14
    go_wp2_with (go_at_call 21; refine HT.out.mono ?_; rintro r w2 ⟨rfl, ho2, O', ht2, hO'⟩; have H2 := hid (And.intro ho2 (And.intro ht2 hO')); clear ho2 ht2 hO')
    go_ret
    refine ⟨rfl, (outs_of H0.out.2.2).trans H2.out.1 (fun _ _ hq => hq), O', ?_, fun k hk => ?_⟩
    · have := H2.out.2.1
      unfold callL callE
      rw [if_neg (by decide : ¬ (false = true)), if_neg (by decide : ¬ (false = true))]
      exact this
    · rcases H2.out.2.2 k hk with hq | hq
      · exact .inl hq
      · exact .inr (Nat.le_trans H0.out.2.2.size hq)
  | true =>
    cases cs with
    | nil =>
      have HT := hid (ladd_any O (.pointer (some ⟨g, 0, none⟩)) fm HLs.out.1 ls HLs.out.2.1 0 none 0 0 [] rfl (Nat.zero_le _) none 0 0 [] rfl (Nat.zero_le _) _ H0.out.1 (.inl rfl) (.inl rfl))
      go_enter Try.func14, Try.ntmps14
      go_wp2_with (go_at_call 25; refine HT.out.mono ?_; rintro r w2 ⟨rfl, ho2, O', ht2, hO'⟩; have H2 := hid (And.intro ho2 (And.intro ht2 hO')); clear ho2 ht2 hO')
      go_ret
      refine ⟨rfl, (outs_of H0.out.2.2).trans H2.out.1 (fun _ _ hq => hq), O', H2.out.2.1, fun k hk => ?_⟩
      rcases H2.out.2.2 k hk with hq | hq
      · exact .inl hq
      · exact .inr (Nat.le_trans H0.out.2.2.size hq)
    | cons c cs =>
      obtain ⟨g1, o1, _, a1, c1, a2, c2, hv, hg1, k0, k1, k2, hi1, hp1⟩ := lks_at H0.out.2.1 0 c rfl
      cases hv
      have hz : ¬ (((c :: cs).length : Int) = 0) := by rw [List.length_cons]; omega
      have hz2 : (0 : Int) < ((c :: cs).length : Int) := by rw [List.length_cons]; omega
      rw [Nat.zero_mul, Nat.add_zero] at k0 k1 k2
      have HT := hid (ladd_any O (.pointer (some ⟨g, 0, none⟩)) fm HLs.out.1 ls HLs.out.2.1 c.1 a1 _ c1 c.2.1 rfl (HLs.out.2.2 c (List.mem_cons_self ..)).1 a2 _ c2 c.2.2 rfl (HLs.out.2.2 c (List.mem_cons_self ..)).2 _ H0.out.1 hi1 hp1)
      clear hi1 hp1 hg1
      generalize (c :: cs).length = n at *
      go_enter Try.func14, Try.ntmps14
      go_wp2_with (go_at_call 25; refine HT.out.mono ?_; rintro r w2 ⟨rfl, ho2, O', ht2, hO'⟩; have H2 := hid (And.intro ho2 (And.intro ht2 hO')); clear ho2 ht2 hO')
      go_ret
      refine ⟨rfl, (outs_of H0.out.2.2).trans H2.out.1 (fun _ _ hq => hq), O', H2.out.2.1, fun k hk => ?_⟩
      rcases H2.out.2.2 k hk with hq | hq
      · exact .inl hq
      · exact .inr (Nat.le_trans H0.out.2.2.size hq)
end Go.Proofs.Ytpholamobedkhaa

/- The law's own call, over the document's tracker. -/
namespace Go.Proofs.Ytpholamobedkhaa
open Go.RowKit

theorem right_len {ep : Int} {l : List Int} (h : rightC ep l = true) : l.length ≤ maxLen := by
  have := (mem_len (right_mem h).2).2
  unfold maxLen
  omega
theorem md_either {B : Nat} {F : Nat → Prop} {N M : Nat} {w' : World} {b : Nat} {fa : Option Addr} {fc : Nat} {fm : List Int} {vl : Value} {ls L : List Lk} {E : Int} (hs : N ≤ M) (h1 : E ≠ 0 → MtAt B F w' b 0 fa fc fm vl ls) (h2 : E = 0 → ∃ F' vl', MtAt B F' w' b 0 fa fc fm vl' L ∧ (∀ k, F' k → F k ∨ M ≤ k) ∧ (vl'.ownBlock = vl.ownBlock ∨ ∃ g, vl'.ownBlock = some g ∧ M ≤ g)) :
    ∃ F' vl', MtAt B F' w' b 0 fa fc fm vl' (if E = 0 then L else ls) ∧ (∀ k, F' k → F k ∨ N ≤ k) ∧ (vl'.ownBlock = vl.ownBlock ∨ ∃ g, vl'.ownBlock = some g ∧ N ≤ g) := by
  by_cases hE : E = 0
  · obtain ⟨F', vl', hM, hF, ho⟩ := h2 hE
    rw [if_pos hE]
    refine ⟨F', vl', hM, fun k hk => (hF k hk).imp id (Nat.le_trans hs), ?_⟩
    rcases ho with ho | ⟨g, ho, hg⟩
    · exact .inl ho
    · exact .inr ⟨g, ho, Nat.le_trans hs hg⟩
  · rw [if_neg hE]
    exact ⟨F, vl, h1 hE, fun k hk => .inl hk, .inl rfl⟩
set_option maxRecDepth 100000 in
set_option maxHeartbeats 6400000 in
theorem jmodel_any (B : Nat) (F : Nat → Prop) (b : Nat) (fa : Option Addr) (fc : Nat) (vl : Value) (fm : List Int) (hfm : rightC 0 fm = true) (ls : List Lk) (hls : chainE 0 fm [] ls = 0) (G : Nat → Prop) (one : Bool) (cv : Value) (cs : List Lk) (hcs : ∀ k, k ∈ cs → k.2.1.length ≤ maxLen ∧ k.2.2.length ≤ maxLen) (w : World) (hB : B ≤ w.heap.size) (h : MtAt B F w b 0 fa fc fm vl ls) (hC : Reads G w cv (.l 3 (dLks cs))) :
    Calls Try.prog 15 #[.pointer (some ⟨b, 0, none⟩), .agg #[.bool one, cv]] w fun r w' => r = .returned (.int .i64 (callE fm ls one cs)) ∧ Kept b vl.ownBlock w w' ∧ ∃ F' vl', MtAt B F' w' b 0 fa fc fm vl' (callL fm ls one cs) ∧ (∀ k, F' k → F k ∨ w.heap.size ≤ k) ∧ (vl'.ownBlock = vl.ownBlock ∨ ∃ g, vl'.ownBlock = some g ∧ w.heap.size ≤ g) := by
  obtain ⟨ca, cc, hv⟩ := lks_form hC
  subst hv
  have hA : Below w.heap.size w (w.alloc (.cells #[.bool one, .slice ca cs.length cc] 42)) := (Below.refl _ _).alloc (Nat.le_refl _) _
  have H0 : Hid (MtAt B F (w.alloc (.cells #[.bool one, .slice ca cs.length cc] 42)) b 0 fa fc fm vl ls ∧ Reads G (w.alloc (.cells #[.bool one, .slice ca cs.length cc] 42)) (.slice ca cs.length cc) (.l 3 (dLks cs)) ∧ Below w.heap.size w (w.alloc (.cells #[.bool one, .slice ca cs.length cc] 42))) := hid ⟨h.keep hA, hC.under hA (Nat.le_refl _), hA⟩
  have HLs := hid (And.intro hfm (And.intro hls hcs))
  have HGd := hid (And.intro (right_len hfm) (And.intro (good_of hls) (Nat.le_trans hB hA.size)))
  clear h hC hA hfm hls hcs hB
  cases one with
  | false =>
    have HT := hid (wtake_any B F b 0 fa fc fm HGd.out.1 vl ls (by have := HGd.out.2.1.len; omega) (fun k hk => by have := (HGd.out.2.1.small k hk).1; unfold maxLen; omega) G (.slice ca cs.length cc) cs HLs.out.2.2 _ HGd.out.2.2 H0.out.1 H0.out.2.1)
    go_enter Try.func15, Try.ntmps15
    go_wp2_with (go_at_call 35; refine HT.out.mono ?_; rintro r w2 ⟨rfl, ho2, ht2, hO'⟩; have H2 := hid (And.intro ho2 (And.intro ht2 hO')); clear ho2 ht2 hO')
    go_ret
    refine ⟨rfl, (kept_of_below H0.out.2.2).trans H2.out.1 (.inl rfl), ?_⟩
    unfold callL callE
    rw [if_neg (by decide : ¬ (false = true)), if_neg (by decide : ¬ (false = true))]
    exact md_either H0.out.2.2.size H2.out.2.1 H2.out.2.2
  | true =>
    cases cs with
    | nil =>
      have HT := hid (wadd_any B F b 0 fa fc fm HGd.out.1 vl ls (by have := HGd.out.2.1.len; omega) (fun k hk => by have := (HGd.out.2.1.small k hk).1; unfold maxLen; omega) 0 none 0 0 [] rfl (Nat.zero_le _) none 0 0 [] rfl (Nat.zero_le _) _ HGd.out.2.2 H0.out.1 (.inl rfl) (.inl rfl))
      go_enter Try.func15, Try.ntmps15
      go_wp2_with (go_at_call 34; refine HT.out.mono ?_; rintro r w2 ⟨rfl, ho2, ht2, hO'⟩; have H2 := hid (And.intro ho2 (And.intro ht2 hO')); clear ho2 ht2 hO')
      go_ret
      refine ⟨rfl, (kept_of_below H0.out.2.2).trans H2.out.1 (.inl rfl), ?_⟩
      exact md_either H0.out.2.2.size H2.out.2.1 H2.out.2.2
    | cons c cs =>
      obtain ⟨g1, o1, _, a1, c1, a2, c2, hv, hg1, k0, k1, k2, hi1, hp1⟩ := lks_at H0.out.2.1 0 c rfl
      cases hv
      have hz : ¬ (((c :: cs).length : Int) = 0) := by rw [List.length_cons]; omega
      have hz2 : (0 : Int) < ((c :: cs).length : Int) := by rw [List.length_cons]; omega
      rw [Nat.zero_mul, Nat.add_zero] at k0 k1 k2
      have HT := hid (wadd_any B F b 0 fa fc fm HGd.out.1 vl ls (by have := HGd.out.2.1.len; omega) (fun k hk => by have := (HGd.out.2.1.small k hk).1; unfold maxLen; omega) c.1 a1 _ c1 c.2.1 rfl (HLs.out.2.2 c (List.mem_cons_self ..)).1 a2 _ c2 c.2.2 rfl (HLs.out.2.2 c (List.mem_cons_self ..)).2 _ HGd.out.2.2 H0.out.1 hi1 hp1)
      clear hi1 hp1 hg1
      generalize (c :: cs).length = n at *
      go_enter Try.func15, Try.ntmps15
      go_wp2_with (go_at_call 34; refine HT.out.mono ?_; rintro r w2 ⟨rfl, ho2, ht2, hO'⟩; have H2 := hid (And.intro ho2 (And.intro ht2 hO')); clear ho2 ht2 hO')
      go_ret
      refine ⟨rfl, (kept_of_below H0.out.2.2).trans H2.out.1 (.inl rfl), ?_⟩
      exact md_either H0.out.2.2.size H2.out.2.1 H2.out.2.2
end Go.Proofs.Ytpholamobedkhaa

/- The law's own same: both know the same. -/
namespace Go.Proofs.Ytpholamobedkhaa
open Go.RowKit

theorem atM_max {fm : List Int} {ls : List Lk} (h : rightC 0 fm = true) (hg : Good ls) (e : Int) : (atM fm ls e).length ≤ maxLen := by
  unfold atM
  split
  · exact right_len h
  · split
    · next h1 =>
      have hj : (e - 1).toNat < ls.length := by omega
      rw [List.getD_eq_getElem?_getD, List.getElem?_eq_getElem hj]
      have := (hg.small _ (List.getElem_mem hj)).1
      simp only [Option.getD_some]
      unfold maxLen
      omega
    · exact Nat.zero_le _
theorem RowAt.reads {F : Nat → Prop} {w : World} {v : Value} {sz : Nat} {es : List (List Dat)} (h : RowAt sz F w v es) : ∃ G, Reads G w v (.l sz es) := by
  cases es with
  | nil =>
    obtain ⟨ad, cap, hv⟩ := h.form
    rw [hv]
    exact ⟨fun _ => True, .nil ad cap sz⟩
  | cons e0 es =>
    obtain ⟨g, off, cap, hv, hg, hlt, _, _⟩ := h.item 0 e0 rfl
    subst hv
    have hI : ∀ (j : Nat) (e : List Dat), (e0 :: es)[j]? = some e → e.length = sz ∧ ∀ (q : Nat) (d : Dat), e[q]? = some d → ∃ u, w.cell? ⟨g, off + j * sz + q, none⟩ = some u ∧ Reads F w u d := fun j e he => by
      obtain ⟨g', off', cap', hv', _, _, hl, hc⟩ := h.item j e he
      cases hv'
      exact ⟨hl, hc⟩
    refine ⟨fun _ => True, .l g off cap sz (e0 :: es) (fun j q => (w.cell? ⟨g, off + j * sz + q, none⟩).getD undef) trivial hlt (fun j e he => (hI j e he).1) (fun j e q d he hd => ?_) (fun j e q d he hd => ?_)⟩
    · obtain ⟨u, hu, _⟩ := (hI j e he).2 q d hd
      rw [hu]; rfl
    · obtain ⟨u, hu, hR⟩ := (hI j e he).2 q d hd
      rw [hu]
      exact hR.mono (fun _ _ _ => trivial)
set_option maxRecDepth 100000 in
set_option maxHeartbeats 6400000 in
theorem jsame_any (O : Nat → Prop) (v : Value) (B : Nat) (F : Nat → Prop) (b : Nat) (fa : Option Addr) (fc : Nat) (vl : Value) (fm : List Int) (hfm : rightC 0 fm = true) (ls : List Lk) (hls : chainE 0 fm [] ls = 0) (w : World) (ht : TrAt O w v fm ls) (hm : MtAt B F w b 0 fa fc fm vl ls) :
    Calls Try.prog 16 #[v, .pointer (some ⟨b, 0, none⟩)] w fun r w' => r = .returned (.bool true) ∧ Below w.heap.size w w' := by
  obtain ⟨la, lc, hv⟩ := hm.form
  subst hv
  obtain ⟨g, hv⟩ := ht.isptr
  subst hv
  have hG := good_of hls
  have hl2 : (ls.length : Int) ≤ 60 := by have := hG.len; omega
  have HT : Hid (∀ u, Below w.heap.size w u → TrAt O u (.pointer (some ⟨g, 0, none⟩)) fm ls ∧ MtAt B F u b 0 fa fc fm (.slice la ls.length lc) ls) := hid (fun u hu => ⟨ht.under hu, hm.keep hu⟩)
  have HLt := hid (lt_of_blk hm.blk)
  have HGd := hid (And.intro hG hfm)
  have z2 : w.drew.cell? ⟨b, 2, none⟩ = some (.slice la ls.length lc) := (cell_three hm.blk).2.2
  clear ht hm hG hls hfm
  go_enter Try.func16, Try.ntmps16
  go_wp2
  have HS : Hid (Below w.drew.heap.size w.drew w.drew) := hid (Below.refl _ _)
  refine wp_region_held (S := fun ww => Below w.drew.heap.size w.drew ww) (by kernel_rfl) ?_
  try (change wpAnyH _ _ _ _ _ _ _ _ (World.drew _))
  refine wpAnyH_take (i := 0) (v := ?v1) rfl (by kernel_rfl) (by kernel_rfl) (by kernel_rfl) (fun _ _ _ h => h) (Or.inl ⟨by rfl, ?hy1⟩) HS.out ?rest1
  case hy1 => (intro ww _; go_simp; try with_reducible rfl)
  go_simp
  refine wpAnyH_take (i := 2) (v := ?v2) rfl (by kernel_rfl) (by kernel_rfl) (by kernel_rfl) (fun _ _ _ h => h) (Or.inl ⟨by rfl, ?hy2⟩) HS.out ?rest2
  case hy2 => (intro ww _; go_simp; try with_reducible rfl)
  go_simp
  refine wpAnyH_take (i := 3) (v := ?v3) rfl (by kernel_rfl) (by kernel_rfl) (by kernel_rfl) (fun _ _ _ h => h) (Or.inl ⟨by rfl, ?hy3⟩) HS.out ?rest3
  case hy3 => (intro ww _; go_simp; try with_reducible rfl)
  go_simp
  refine wpAnyH_take (i := 4) (v := ?v4) rfl (by kernel_rfl) (by kernel_rfl) (by kernel_rfl) (fun _ _ _ h => h) (Or.inl ⟨by rfl, ?hy4⟩) HS.out ?rest4
  case hy4 => (intro ww _; go_simp; try with_reducible rfl)
  go_simp
  refine wpAnyH_take (i := 5) (v := ?v5) rfl (by kernel_rfl) (by kernel_rfl) (by kernel_rfl) (fun _ _ _ h => h) (Or.inl ⟨by rfl, ?hy5⟩) HS.out ?rest5
  case hy5 => (intro ww hS; have y2 := (hS.cell (p := ⟨b, 2, none⟩) HLt.out).trans z2; go_simp; try with_reducible rfl)
  go_simp
  refine wpAnyH_take (i := 6) (v := ?v6) rfl (by kernel_rfl) (by kernel_rfl) (by kernel_rfl) (fun _ _ _ h => h) (Or.inl ⟨by rfl, ?hy6⟩) HS.out ?rest6
  case hy6 => (intro ww _; go_simp; try with_reducible rfl)
  go_simp
  refine wpAnyH_all (rs := [1]) (by kernel_rfl) (by simp) ?_
  intro i hi
  obtain rfl := List.mem_singleton.1 hi
  clear hi
  refine wpOp_k rfl (by rfl) (fun K hK => ?_)
  go_simp
  refine (lepoch_any O _ fm ls (by omega) _ (HT.out _ ((Below.refl w.heap.size w).drew.trans HS.out)).1).mono ?_
  rintro r w1 ⟨rfl, hb⟩
  have HT2 := hid (HS.out.trans (hb.mono HS.out.size))
  clear HS hb
  have HS := hid HT2.out
  clear HT2
  refine hK _ _ ⟨HS.out, ?_⟩
  clear hK K
  go_simp
  refine wpAnyH_take (i := 7) (v := ?v7) rfl (by kernel_rfl) (by kernel_rfl) (by kernel_rfl) (fun _ _ _ h => h) (Or.inl ⟨by rfl, ?hy7⟩) HS.out ?rest7
  case hy7 => (intro ww _; go_simp; try with_reducible rfl)
  go_simp
  refine wpAnyH_take (i := 8) (v := ?v8) rfl (by kernel_rfl) (by kernel_rfl) (by kernel_rfl) (fun _ _ _ h => h) (Or.inl ⟨by rfl, ?hy8⟩) HS.out ?rest8
  case hy8 => (intro ww _; go_simp; try with_reducible rfl)
  go_simp
  refine wpAnyH_take (i := 9) (v := ?v9) rfl (by kernel_rfl) (by kernel_rfl) (by kernel_rfl) (fun _ _ _ h => h) (Or.inl ⟨by rfl, ?hy9⟩) HS.out ?rest9
  case hy9 => (intro ww _; go_simp; try with_reducible rfl)
  go_simp
  refine wpAnyH_take (i := 11) (v := ?v10) rfl (by kernel_rfl) (by kernel_rfl) (by kernel_rfl) (fun _ _ _ h => h) (Or.inl ⟨by rfl, ?hy10⟩) HS.out ?rest10
  case hy10 => (intro ww _; go_simp; try with_reducible rfl)
  go_simp
  refine wpAnyH_take (i := 12) (v := ?v11) rfl (by kernel_rfl) (by kernel_rfl) (by kernel_rfl) (fun _ _ _ h => h) (Or.inl ⟨by rfl, ?hy11⟩) HS.out ?rest11
  case hy11 => (intro ww _; go_simp; try with_reducible rfl)
  go_simp
  refine wpAnyH_take (i := 13) (v := ?v12) rfl (by kernel_rfl) (by kernel_rfl) (by kernel_rfl) (fun _ _ _ h => h) (Or.inl ⟨by rfl, ?hy12⟩) HS.out ?rest12
  case hy12 => (intro ww _; go_simp; try with_reducible rfl)
  go_simp
  refine wpAnyH_take (i := 14) (v := ?v13) rfl (by kernel_rfl) (by kernel_rfl) (by kernel_rfl) (fun _ _ _ h => h) (Or.inl ⟨by rfl, ?hy13⟩) HS.out ?rest13
  case hy13 => (intro ww hS; have y2 := (hS.cell (p := ⟨b, 2, none⟩) HLt.out).trans z2; go_simp; try with_reducible rfl)
  go_simp
  refine wpAnyH_all (rs := [10]) (by kernel_rfl) (by simp) ?_
  intro i hi
  obtain rfl := List.mem_singleton.1 hi
  clear hi
  refine wpOp_k rfl (by rfl) (fun K hK => ?_)
  go_simp
  refine (lchain_any O _ fm ls (by omega) (fun k hk => HGd.out.1.small k hk) _ (HT.out _ ((Below.refl w.heap.size w).drew.trans HS.out)).1).mono ?_
  rintro r w2 ⟨v2, F2, rfl, hr2, _, _, hb⟩
  have HT2 := hid (HS.out.trans (hb.mono HS.out.size))
  clear HS hb
  have HS := hid HT2.out
  clear HT2
  obtain ⟨G2, hG2⟩ := hr2.reads
  have HR2 := hid hG2
  clear hr2 hG2
  refine hK _ _ ⟨HS.out, ?_⟩
  clear hK K
  go_simp
  refine wpAnyH_all (rs := [15]) (by kernel_rfl) (by simp) ?_
  intro i hi
  obtain rfl := List.mem_singleton.1 hi
  clear hi
  refine wpOp_k rfl (by rfl) (fun K hK => ?_)
  go_simp
  refine (wsames_eq G2 _ v2 _ ls (by unfold maxLen; omega) (fun k hk => by have := HGd.out.1.small k hk; unfold maxLen; omega) _ HR2.out (HT.out _ ((Below.refl w.heap.size w).drew.trans HS.out)).2.own.reads).mono ?_
  rintro r w3 ⟨rfl, hb⟩
  have HT2 := hid (HS.out.trans (hb.mono HS.out.size))
  clear HS hb
  have HS := hid HT2.out
  clear HT2
  refine hK _ _ ⟨HS.out, ?_⟩
  clear hK K
  go_simp
  refine wpAnyH_take (i := 16) (v := ?v14) rfl (by kernel_rfl) (by kernel_rfl) (by kernel_rfl) (fun _ _ _ h => h) (Or.inl ⟨by rfl, ?hy14⟩) HS.out ?rest14
  case hy14 => (intro ww _; go_simp; try with_reducible rfl)
  go_simp
  refine wpAnyH_take (i := 17) (v := ?v15) rfl (by kernel_rfl) (by kernel_rfl) (by kernel_rfl) (fun _ _ _ h => h) (Or.inl ⟨by rfl, ?hy15⟩) HS.out ?rest15
  case hy15 => (intro ww _; go_simp; try with_reducible rfl)
  go_simp
  refine wpAnyH_done (by kernel_rfl) ?_ _
  go_simp
  have H3 : Hid (Below w.heap.size w w3) := hid ((Below.refl w.heap.size w).drew.trans HS.out)
  clear HS HR2 z2
  go_wp2
  go_loopw [5] (fun i wr => ∃ e : Int, -1 ≤ e ∧ e ≤ (ls.length : Int) + 2 ∧ i = .int .i64 e ∧ Below w.heap.size w wr)
    (fun i _ => ((ls.length : Int) + 2 - intOf i).toNat)
  case atStart => exact ⟨-1, by omega, by omega, rfl, H3.out⟩
  case round =>
    obtain ⟨e, he1, he2, rfl, hbel⟩ := hrel
    have HB := hid hbel
    clear hbel
    have z2 := (cell_three (HT.out _ HB.out).2.blk).2.2
    by_cases hen : e = (ls.length : Int) + 2
    · have h1 : ¬ (e ≤ (ls.length : Int) + 1) := by omega
      clear hen
      go_wp2
      go_ret
      exact ⟨rfl, HB.out⟩
    · have h1 : e ≤ (ls.length : Int) + 1 := by omega
      have HM := hid (atM_max HGd.out.2 HGd.out.1 e)
      have HA1 := hid (lat_any O _ fm (mem_len (right_mem HGd.out.2).2).2 ls (by omega) (fun k hk => (HGd.out.1.small k hk).1) e _ (HT.out _ HB.out).1)
      have HA2 := hid (fun (u : World) (hu : Below w.heap.size w u) => wat_any B F b 0 fa fc fm _ ls (by omega) e u (HT.out u hu).2)
      generalize atZ 0 ls e = Z at *
      generalize atM fm ls e = L at *
      generalize atB ls e = D at *
      have HVs := hid (fun a1 a2 c1 c2 => vsame_eq Z a1 a2 _ c1 c2 L rfl HM.out)
      go_wp2_with (first
        | (go_at_call 24; refine HA1.out.mono ?_; rintro r w4 ⟨a4, c4, rfl, hn4, hb4⟩; have hi4 := hn4.ints; clear hn4
           have hA4 := (Below.refl w4.heap.size w4).alloc (Nat.le_refl _) (.cells #[.int .i64 Z, .slice a4 L.length c4] 24)
           have H4 : Hid (Below w.heap.size w (w4.alloc (.cells #[.int .i64 Z, .slice a4 L.length c4] 24)) ∧ IntsIn (w4.alloc (.cells #[.int .i64 Z, .slice a4 L.length c4] 24)) a4 L ∧ (w4.alloc (.cells #[.int .i64 Z, .slice a4 L.length c4] 24)).heap[w4.heap.size]? = some (.cells #[.int .i64 Z, .slice a4 L.length c4] 24 (0, 0))) := hid ⟨(HB.out.trans (hb4.mono HB.out.size)).trans (hA4.mono (HB.out.trans (hb4.mono HB.out.size)).size), hi4.keep hA4 (Nat.le_refl _), heap_alloc_last w4 _⟩
           clear hi4 hb4 hA4)
        | (go_at_call 36; refine (HA2.out _ (by exact H4.out.1)).mono ?_; rintro r w5 ⟨a5, c5, rfl, hi5, hb5⟩
           have hA5 := (Below.refl w5.heap.size w5).alloc (Nat.le_refl _) (.cells #[.int .i64 Z, .slice a5 L.length c5] 24)
           have H5 : Hid (Below w.heap.size w (w5.alloc (.cells #[.int .i64 Z, .slice a5 L.length c5] 24)) ∧ IntsIn (w5.alloc (.cells #[.int .i64 Z, .slice a5 L.length c5] 24)) a4 L ∧ IntsIn (w5.alloc (.cells #[.int .i64 Z, .slice a5 L.length c5] 24)) a5 L ∧ (w5.alloc (.cells #[.int .i64 Z, .slice a5 L.length c5] 24)).heap[w4.heap.size]? = some (.cells #[.int .i64 Z, .slice a4 L.length c4] 24 (0, 0)) ∧ (w5.alloc (.cells #[.int .i64 Z, .slice a5 L.length c5] 24)).heap[w5.heap.size]? = some (.cells #[.int .i64 Z, .slice a5 L.length c5] 24 (0, 0))) := hid (by
             have hq := H4.out.1.trans (hb5.mono H4.out.1.size)
             have h4 := (hb5.block _ (lt_of_blk H4.out.2.2)).trans H4.out.2.2
             exact ⟨hq.trans (hA5.mono hq.size), (H4.out.2.1.keep hb5 (Nat.le_refl _)).keep hA5 (Nat.le_refl _), hi5.keep hA5 (Nat.le_refl _), (hA5.block _ (lt_of_blk h4)).trans h4, heap_alloc_last w5 _⟩)
           clear hi5 hb5 hA5
           have x0 := (cell_two H5.out.2.2.2.1).1
           have x1 := (cell_two H5.out.2.2.2.1).2
           have y0 := (cell_two H5.out.2.2.2.2).1
           have y1 := (cell_two H5.out.2.2.2.2).2)
        | (go_at_call 20; refine (HVs.out _ _ _ _ _ (by exact H5.out.2.1) (by exact H5.out.2.2.1)).mono ?_; rintro r w6 ⟨rfl, hb6⟩
           have H6 := hid (H5.out.1.trans (hb6.mono H5.out.1.size))
           clear hb6))
      go_roundw
      case rel => exact ⟨e + 1, by omega, by omega, by go_num, H6.out⟩
      case measure => simp [intOf]; omega
end Go.Proofs.Ytpholamobedkhaa
