/- Texts laid together: LiD LiE SiA LiF TsT. -/
import Derived.Test.YtpholamobedkhaaMg05
import Derived.Maps.AppendAt
/- The document's tracker: Add. -/
namespace Go.Proofs.Ytpholamobedkhaa
open Go.RowKit

theorem Try.info27 : (Try.prog.info? 27).map (fun i => (i.zero, i.size, i.bytes)) = some (some (.agg #[.int .i64 0, .slice none 0 0, .slice none 0 0]), 3, 56) := by kernel_rfl
section
variable {o : Oper} {a : Act} {w : World} {Q : Exit → Act → World → Prop} {K : Act → World → Prop}
/-- One more link behind one's own. -/
theorem owp_add_link (s x : Operand) (ho : o.op = .call { callee := .builtin .append, args := #[s, x], argTypes := #[40, 40] }) (B : Nat) (F F' : Nat → Prop) (v : Value) (ls : List Lk) (hs : a.eval s = v) (hO : OwnD 27 3 B F w v (dLks ls)) (hB : B ≤ w.heap.size)
    (g : Nat) (hx : a.eval x = .slice (some ⟨g, 0, none⟩) 1 1) (k : Lk) (u1 u2 : Value) (c0 : w.cell? ⟨g, 0, none⟩ = some (.int .i64 k.1)) (c1 : w.cell? ⟨g, 1, none⟩ = some u1) (c2 : w.cell? ⟨g, 2, none⟩ = some u2) (o1 : u1.oneCell' = true) (o2 : u2.oneCell' = true)
    (hu1 : Reads F' w u1 (dInts k.2.1)) (hu2 : Reads F' w u2 (dPairs k.2.2)) (hF : ∀ j, j < w.heap.size → F j → F' j) (hrow : ∀ j, v.ownBlock = some j → ¬ F' j) (hnew : ∀ j, F' j → j < w.heap.size) (hl : ls.length + 1 ≤ 1000)
    (h : ∀ v' w', Hid (OwnD 27 3 B F' w' v' (dLks (ls ++ [k])) ∧ w.grownBy w' v.ownBlock ∧ (v'.ownBlock = v.ownBlock ∨ v'.ownBlock = some w.heap.size)) → K (a.put o.dst v') w') : o.wp Try.prog a w K Q := by
  obtain ⟨i0, hi0, hz0, hz1, hz2⟩ := info_parts Try.info27
  obtain ⟨cs, hown, _⟩ := hO.own
  obtain ⟨v', w', hr, h2, h3, h4, h5⟩ := run_append_own_at (P := Try.prog) w B 40 o.type 27 i0 (.agg #[.int .i64 0, .slice none 0 0, .slice none 0 0]) 3 56 Try.underlying40 hi0 hz0 hz1 hz2 rfl (by decide) v _ cs hown ⟨g, 0, none⟩ 1 1 [.int .i64 k.1, u1, u2] rfl (fun j u hj => by
    match j, hj with
    | 0, hj => simp at hj; subst hj; simpa [Addr.add] using c0
    | 1, hj => simp at hj; subst hj; simpa [Addr.add] using c1
    | 2, hj => simp at hj; subst hj; simpa [Addr.add] using c2) (by intro u hu; simp at hu; rcases hu with rfl | rfl | rfl; rfl; exact o1; exact o2) (by rw [dLks_len]; unfold maxLen; omega) (by rw [dLks_len]; omega) hB
  have hkeep : ∀ {u : Value} {d : Dat}, Reads F' w u d → Reads F' w' u d := fun hu => hu.keep h3.size (fun j hj hFj => h3.block j hj (fun e => hrow j e.symm hFj))
  refine owp_value (v := v') (w' := w') ?_ (h v' w' ⟨?_, h3, h5⟩)
  · simp [execOp, ho, resolve, invoke, builtin, hs, hx, hr, Result.andThen]
  · have := hO.grow (F' := F') (e := dLk k) hown rfl (fun q d hd => by
      match q, hd with
      | 0, hd => cases hd; exact ⟨_, rfl, .i _⟩
      | 1, hd => cases hd; exact ⟨_, rfl, hkeep hu1⟩
      | 2, hd => cases hd; exact ⟨_, rfl, hkeep hu2⟩) h2 h3 hF (fun j hj hFj => by
      rcases h5 with e | e
      · exact hrow j (e ▸ hj) hFj
      · rw [e] at hj
        cases hj
        exact absurd (hnew _ hFj) (by omega))
    rw [dLks, List.map_append]
    exact this
end
/-- A tracker to which a link was put. -/
theorem MtAt.added {B : Nat} {F F' : Nat → Prop} {u w4 : World} {b : Nat} {ep : Int} {fa : Option Addr} {fc : Nat} {fm : List Int} {vl v' : Value} {ls : List Lk} {k : Lk} (h : MtAt B F u b ep fa fc fm vl ls) (hO : OwnD 27 3 B F' w4 v' (dLks (ls ++ [k]))) (hg : u.grownBy w4 vl.ownBlock) (hv : v'.ownBlock = vl.ownBlock ∨ v'.ownBlock = some u.heap.size) (hF : ∀ j, F j → F' j) (hb : ¬ F' b) (hlt : ∀ j, F' j → j < u.heap.size) (hrow : ∀ j, vl.ownBlock = some j → ¬ F' j) :
    MtAt B F' (w4.setCell ⟨b, 2, none⟩ v') b ep fa fc fm v' (ls ++ [k]) ∧ Kept b vl.ownBlock u (w4.setCell ⟨b, 2, none⟩ v') := by
  have hbu := lt_of_blk h.blk
  have hbv : v'.ownBlock ≠ some b := by
    rcases hv with e | e
    · rw [e]; exact h.bv
    · rw [e]; intro e2; cases e2; exact absurd hbu (Nat.lt_irrefl _)
  have hs : (w4.setCell ⟨b, 2, none⟩ v').heap.size = w4.heap.size := by simp [World.setCell]
  have hB4 : w4.heap[b]? = some (.cells #[.int .i64 ep, .slice fa fm.length fc, vl] 70 (0, 0)) := (hg.block b hbu (fun e => h.bv e.symm)).trans h.blk
  have hne : ∀ j, j ≠ b → (w4.setCell ⟨b, 2, none⟩ v').heap[j]? = w4.heap[j]? := fun j hj => Below.heap_setCell _ _ _ _ hj
  have hne' : ∀ j, F' j → j ≠ b := fun j hj e => hb (e ▸ hj)
  have hR := ((ints_reads (cap := fc) h.fst h.fF).mono (F' := F') (fun j _ => hF j)).keep (w' := w4.setCell ⟨b, 2, none⟩ v') (by rw [hs]; exact hg.size) (fun j hj hFj => (hne j (hne' j hFj)).trans (hg.block j hj (fun e => hrow j e.symm hFj)))
  refine ⟨⟨(blk_set hB4 2 v').trans (by simp), ?_, fun x hx hn => hF _ (h.fF x hx hn), hO.keep (Nat.le_of_eq hs.symm) (fun j _ hj => hne j (hne' j hj)) (fun g hgo => hne g (fun e => hbv (e ▸ hgo))), hb, hbv, fun j hj => ?_⟩, ?_⟩
  · obtain ⟨ad, cap, he, hi, _⟩ := reads_ints hR
    cases he
    exact hi
  · rw [hs]; exact Nat.lt_of_lt_of_le (hlt j hj) hg.size
  · exact ⟨hg.os, hg.tape, hg.output, by rw [hs]; exact hg.size, fun j hj hjb hjr => (hne j hjb).trans (hg.block j hj hjr)⟩
theorem pairs_lt {w : World} {ad : Option Addr} {l : List (Int × ByteArray)} (h : PairsIn w ad l) : ∀ x, ad = some x → l ≠ [] → x.block < w.heap.size := fun x hx hne => by
  rcases h with h | ⟨g, off, ha, hg, _⟩
  · exact absurd h hne
  · rw [hx] at ha; cases ha; exact hg
/-- The document's tracker while a link is put to it. -/
def lastZ (ep : Int) (ls : List Lk) : Int := atZ ep ls (ls.length : Int)
def lastM (fm : List Int) (ls : List Lk) : List Int := atM fm ls (ls.length : Int)
theorem lastM_len (fm : List Int) (ls : List Lk) (h0 : fm.length ≤ maxLen) (h : ∀ k, k ∈ ls → k.2.1.length ≤ maxLen) : (lastM fm ls).length ≤ maxLen := by
  unfold lastM atM
  split
  · exact h0
  · split
    · next h1 =>
      have hj : ((ls.length : Int) - 1).toNat < ls.length := by omega
      rw [List.getD_eq_getElem?_getD, List.getElem?_eq_getElem hj]
      exact h _ (List.getElem_mem hj)
    · exact Nat.zero_le _
set_option maxRecDepth 100000 in
set_option maxHeartbeats 6400000 in
theorem wadd_any (B : Nat) (F : Nat → Prop) (b : Nat) (ep : Int) (fa : Option Addr) (fc : Nat) (fm : List Int) (hfm : fm.length ≤ maxLen) (vl : Value) (ls : List Lk) (hl : ls.length ≤ 900) (hls : ∀ k, k ∈ ls → k.2.1.length ≤ maxLen) (e : Int) (a : Option Addr) (n cap : Nat) (l : List Int) (hn : l.length = n) (hm : n ≤ maxLen) (bs : Option Addr) (m cp : Nat) (ss : List (Int × ByteArray)) (hsn : ss.length = m) (hsm : m ≤ maxLen) (w : World) (hB : B ≤ w.heap.size) (h : MtAt B F w b ep fa fc fm vl ls) (hI : IntsIn w a l) (hP : PairsIn w bs ss) :
    Calls Try.prog 34 #[.pointer (some ⟨b, 0, none⟩), .agg #[.int .i64 e, .slice a n cap, .slice bs m cp]] w fun r w' => r = .returned (.int .i64 (validE (lastZ ep ls) (lastM fm ls) e l ss)) ∧ Kept b vl.ownBlock w w' ∧ (validE (lastZ ep ls) (lastM fm ls) e l ss ≠ 0 → MtAt B F w' b ep fa fc fm vl ls) ∧ (validE (lastZ ep ls) (lastM fm ls) e l ss = 0 → ∃ F' vl', MtAt B F' w' b ep fa fc fm vl' (ls ++ [(e, l, ss)]) ∧ (∀ k, F' k → F k ∨ w.heap.size ≤ k) ∧ (vl'.ownBlock = vl.ownBlock ∨ ∃ g, vl'.ownBlock = some g ∧ w.heap.size ≤ g)) := by
  obtain ⟨la, lc, hv⟩ := h.form
  subst hv
  have hl2 : (ls.length : Int) ≤ 900 := by omega
  have HAt : Hid (∀ u : World, MtAt B F u b ep fa fc fm (.slice la ls.length lc) ls → Calls Try.prog 36 #[.pointer (some ⟨b, 0, none⟩), .int .i64 (ls.length : Int)] u fun r w' => ∃ ad cap, r = .returned (.tuple #[.agg #[.int .i64 (lastZ ep ls), .slice ad (lastM fm ls).length cap], .bool (atB ls (ls.length : Int))]) ∧ IntsIn w' ad (lastM fm ls) ∧ Below u.heap.size u w') := hid (fun u hu => wat_any B F b ep fa fc fm _ ls (by omega) (ls.length : Int) u hu)
  have HVa : Hid (∀ (u : World) (ad : Option Addr) (cc : Nat), IntsIn u ad (lastM fm ls) → IntsIn u a l → PairsIn u bs ss → Calls Try.prog 11 #[.agg #[.int .i64 (lastZ ep ls), .slice ad (lastM fm ls).length cc], .agg #[.int .i64 e, .slice a n cap, .slice bs m cp]] u fun r w' => r = .returned (.int .i64 (validE (lastZ ep ls) (lastM fm ls) e l ss)) ∧ Below u.heap.size u w') := hid (fun u ad cc h1 h2 h3 => wvalid_any _ ad _ cc _ rfl (lastM_len fm ls hfm hls) e a n cap l hn hm bs m cp ss hsn hsm u h1 h2 h3)
  have HGd : Hid (validE (lastZ ep ls) (lastM fm ls) e l ss = 0 → n ≤ 10 ∧ m ≤ 16) := hid (fun h0 => by
    unfold validE at h0
    split at h0
    · cases h0
    · split at h0
      · cases h0
      · next h2 =>
        split at h0
        · cases h0
        · split at h0
          · cases h0
          · next h4 =>
            have hr2 : rightC e l = true := by simpa using h2
            have hp : provesB (lastZ ep ls) (lastM fm ls) (textC e l) ss = true := by simpa using h4
            have h5 := (mem_len (right_mem hr2).2).2
            rw [provesB, Bool.and_eq_true_iff, Bool.and_eq_true_iff, Bool.and_eq_true_iff] at hp
            have h6 := of_decide_eq_true hp.2.2.2
            omega)
  have HD : Hid (∀ u : World, Below w.heap.size w u → IntsIn u a l ∧ PairsIn u bs ss) := hid (fun u hu => ⟨hI.keep hu (Nat.le_refl _), hP.keep hu (Nat.le_refl _)⟩)
  have hA : Below w.heap.size w (w.alloc (.cells #[.int .i64 e, .slice a n cap, .slice bs m cp] 27)) := (Below.refl _ _).alloc (Nat.le_refl _) _
  have H0 : Hid (MtAt B F (w.alloc (.cells #[.int .i64 e, .slice a n cap, .slice bs m cp] 27)) b ep fa fc fm (.slice la ls.length lc) ls ∧ LnAt (w.alloc (.cells #[.int .i64 e, .slice a n cap, .slice bs m cp] 27)) w.heap.size e (.slice a n cap) (.slice bs m cp) ∧ Below w.heap.size w (w.alloc (.cells #[.int .i64 e, .slice a n cap, .slice bs m cp] 27))) := hid ⟨h.keep hA, heap_alloc_last w _, hA⟩
  have t2 := (cell_three H0.out.1.blk).2.2
  have HLn := hid (And.intro hn (And.intro hsn (And.intro hl (And.intro hB (lt_of_blk h.blk)))))
  have HM0 := hid h
  clear hI hP hn hm hsn hsm hA h hfm hls hl hB
  obtain ⟨E, eE⟩ : ∃ E, E = validE (lastZ ep ls) (lastM fm ls) e l ss := ⟨_, rfl⟩
  rw [← eE] at HVa HGd ⊢
  clear eE
  by_cases hE : E = 0
  · have hEb : (E == 0) = true := by simp [hE]
    obtain ⟨hn10, hm16⟩ := HGd.out hE
    have HE := hid (And.intro hE (And.intro hn10 hm16))
    clear hn10 hm16 hE
    go_enter Try.func34, Try.ntmps34
    go_wp2_with (first
      | (go_at_call 36; refine (HAt.out _ (by exact H0.out.1)).mono ?_; rintro r w1 ⟨ad1, cp1, rfl, hi1, hb1⟩
         have hb1a := (Below.refl w1.heap.size w1).alloc (Nat.le_refl _) (.cells #[.int .i64 (lastZ ep ls), .slice ad1 (lastM fm ls).length cp1] 24)
         have H1 : Hid (MtAt B F (w1.alloc (.cells #[.int .i64 (lastZ ep ls), .slice ad1 (lastM fm ls).length cp1] 24)) b ep fa fc fm (.slice la ls.length lc) ls ∧ LnAt (w1.alloc (.cells #[.int .i64 (lastZ ep ls), .slice ad1 (lastM fm ls).length cp1] 24)) w.heap.size e (.slice a n cap) (.slice bs m cp) ∧ Below w.heap.size w (w1.alloc (.cells #[.int .i64 (lastZ ep ls), .slice ad1 (lastM fm ls).length cp1] 24)) ∧ IntsIn (w1.alloc (.cells #[.int .i64 (lastZ ep ls), .slice ad1 (lastM fm ls).length cp1] 24)) ad1 (lastM fm ls)) := hid ⟨(H0.out.1.keep hb1).keep hb1a, (H0.out.2.1.keep hb1).keep hb1a, (H0.out.2.2.trans (hb1.mono H0.out.2.2.size)).trans (hb1a.mono (H0.out.2.2.trans (hb1.mono H0.out.2.2.size)).size), hi1.keep hb1a (Nat.le_refl _)⟩
         clear hb1 hb1a hi1
         have z0 := H1.out.2.1.cells.1
         have z1 := H1.out.2.1.cells.2.1
         have z2 := H1.out.2.1.cells.2.2)
      | (go_at_call 11; refine (HVa.out _ _ _ (by exact H1.out.2.2.2) (by exact (HD.out _ H1.out.2.2.1).1) (by exact (HD.out _ H1.out.2.2.1).2)).mono ?_; rintro r w2 ⟨rfl, hb2⟩
         have H2 : Hid (MtAt B F w2 b ep fa fc fm (.slice la ls.length lc) ls ∧ LnAt w2 w.heap.size e (.slice a n cap) (.slice bs m cp) ∧ Below w.heap.size w w2) := hid ⟨H1.out.1.keep hb2, H1.out.2.1.keep hb2, H1.out.2.2.1.trans (hb2.mono H1.out.2.2.1.size)⟩
         clear hb2))
    have H2d : Hid (MtAt B F w2.drew b ep fa fc fm (.slice la ls.length lc) ls ∧ LnAt w2.drew w.heap.size e (.slice a n cap) (.slice bs m cp) ∧ Below w.heap.size w w2.drew) := hid ⟨H2.out.1.keep (Below.refl _ _).drew, H2.out.2.1, H2.out.2.2.drew⟩
    have HS : Hid (LnAt w2.drew w.heap.size e (.slice a n cap) (.slice bs m cp)) := hid H2d.out.2.1
    refine wp_region_held (S := fun ww => LnAt ww w.heap.size e (.slice a n cap) (.slice bs m cp)) (by kernel_rfl) ?_
    try (change wpAnyH _ _ _ _ _ _ _ _ (World.drew _))
    refine wpAnyH_take (i := 0) (v := ?v1) rfl (by kernel_rfl) (by kernel_rfl) (by kernel_rfl) (fun _ _ _ h => h) (Or.inl ⟨by rfl, ?hy1⟩) HS.out ?rest1
    case hy1 => (intro ww _; go_simp; try with_reducible rfl)
    go_simp
    refine wpAnyH_take (i := 1) (v := ?v2) rfl (by kernel_rfl) (by kernel_rfl) (by kernel_rfl) (fun _ _ _ h => h) (Or.inl ⟨by rfl, ?hy2⟩) HS.out ?rest2
    case hy2 => (intro ww _; go_simp; try with_reducible rfl)
    go_simp
    refine wpAnyH_take (i := 2) (v := ?v3) rfl (by kernel_rfl) (by kernel_rfl) (by kernel_rfl) (fun _ _ _ h => h) (Or.inl ⟨by rfl, ?hy3⟩) HS.out ?rest3
    case hy3 => (intro ww _; go_simp; try with_reducible rfl)
    go_simp
    refine wpAnyH_take (i := 3) (v := ?v4) rfl (by kernel_rfl) (by kernel_rfl) (by kernel_rfl) (fun _ _ _ h => h) (Or.inl ⟨by rfl, ?hy4⟩) HS.out ?rest4
    case hy4 => (intro ww _; go_simp; try with_reducible rfl)
    go_simp
    refine wpAnyH_take (i := 5) (v := ?v5) rfl (by kernel_rfl) (by kernel_rfl) (by kernel_rfl) (fun _ _ _ h => h) (Or.inl ⟨by rfl, ?hy5⟩) HS.out ?rest5
    case hy5 => (intro ww hS; obtain ⟨x0, x1, x2⟩ := hS.cells; go_simp; try with_reducible rfl)
    go_simp
    refine wpAnyH_all (rs := [4, 6]) (by kernel_rfl) (by simp) ?_
    intro i hi
    rcases List.mem_cons.1 hi with rfl | hi
    · clear hi
      refine wpOp_k rfl (by rfl) (fun K hK => ?_)
      have q2 := (cell_three H2d.out.1.blk).2.2
      go_simp
      refine hK _ _ ⟨H2d.out.2.1, ?_⟩
      clear hK K q2
      go_simp
      refine wpAnyH_all (rs := [6]) (by kernel_rfl) (by simp) ?_
      intro i hi
      obtain rfl := List.mem_singleton.1 hi
      clear hi
      refine wpOp_k rfl (by rfl) (fun K hK => ?_)
      go_simp
      refine (wcopied_any e a n cap l HLn.out.1 (by have := HE.out.2.1; omega) bs m cp ss HLn.out.2.1 (by have := HE.out.2.2; omega) _ (HD.out _ H2d.out.2.2).1 (HD.out _ H2d.out.2.2).2).mono ?_
      rintro r w3 ⟨a1, c1, a2, c2, rfl, hi1, hp2, hx1, hx2, hb3⟩
      have H3 : Hid (MtAt B F w3 b ep fa fc fm (.slice la ls.length lc) ls ∧ LnAt w3 w.heap.size e (.slice a n cap) (.slice bs m cp) ∧ Below w.heap.size w w3 ∧ IntsIn w3 a1 l ∧ PairsIn w3 a2 ss) := hid ⟨H2d.out.1.keep hb3, H2d.out.2.1.keep hb3, H2d.out.2.2.trans (hb3.mono H2d.out.2.2.size), hi1, hp2⟩
      have HX : Hid ((∀ x, a1 = some x → w.heap.size < x.block) ∧ (∀ x, a2 = some x → w.heap.size < x.block)) := hid (by
        have h1 : w.heap.size < w2.drew.heap.size := lt_of_blk H2d.out.2.1
        exact ⟨fun x hx => by have := hx1 x hx; omega, fun x hx => by have := hx2 x hx; omega⟩)
      clear hi1 hp2 hx1 hx2 hb3
      refine hK _ _ ⟨H3.out.2.1, ?_⟩
      clear hK K
      go_simp
      refine wpAnyH_all (rs := [7]) (by kernel_rfl) (by simp) ?_
      intro i hi
      obtain rfl := List.mem_singleton.1 hi
      clear hi
      refine wpOp_k rfl (by rfl) (fun K hK => ?_)
      go_simp
      have hb4 := (Below.refl w3.heap.size w3).alloc (Nat.le_refl _) (.cells #[.int .i64 e, .slice a1 n c1, .slice a2 m c2] 27)
      have H4 : Hid (MtAt B F (w3.alloc (.cells #[.int .i64 e, .slice a1 n c1, .slice a2 m c2] 27)) b ep fa fc fm (.slice la ls.length lc) ls ∧ LnAt (w3.alloc (.cells #[.int .i64 e, .slice a1 n c1, .slice a2 m c2] 27)) w.heap.size e (.slice a n cap) (.slice bs m cp) ∧ Below w.heap.size w (w3.alloc (.cells #[.int .i64 e, .slice a1 n c1, .slice a2 m c2] 27)) ∧ IntsIn (w3.alloc (.cells #[.int .i64 e, .slice a1 n c1, .slice a2 m c2] 27)) a1 l ∧ PairsIn (w3.alloc (.cells #[.int .i64 e, .slice a1 n c1, .slice a2 m c2] 27)) a2 ss ∧ LnAt (w3.alloc (.cells #[.int .i64 e, .slice a1 n c1, .slice a2 m c2] 27)) w3.heap.size e (.slice a1 n c1) (.slice a2 m c2)) := hid ⟨H3.out.1.keep hb4, H3.out.2.1.keep hb4, H3.out.2.2.1.trans (hb4.mono H3.out.2.2.1.size), H3.out.2.2.2.1.keep hb4 (Nat.le_refl _), H3.out.2.2.2.2.keep hb4 (Nat.le_refl _), heap_alloc_last w3 _⟩
      clear hb4
      have HU : Hid (Reads (fun j => F j ∨ (w.heap.size < j ∧ j < w3.heap.size)) (w3.alloc (.cells #[.int .i64 e, .slice a1 n c1, .slice a2 m c2] 27)) (.slice a1 n c1) (dInts l) ∧ Reads (fun j => F j ∨ (w.heap.size < j ∧ j < w3.heap.size)) (w3.alloc (.cells #[.int .i64 e, .slice a1 n c1, .slice a2 m c2] 27)) (.slice a2 m c2) (dPairs ss) ∧ (∀ j, (Value.slice la ls.length lc).ownBlock = some j → ¬ (F j ∨ (w.heap.size < j ∧ j < w3.heap.size))) ∧ (∀ j, (F j ∨ (w.heap.size < j ∧ j < w3.heap.size)) → j < (w3.alloc (.cells #[.int .i64 e, .slice a1 n c1, .slice a2 m c2] 27)).heap.size)) := hid (by
        refine ⟨?_, ?_, ?_, ?_⟩
        · have := ints_reads (F := fun j => F j ∨ (w.heap.size < j ∧ j < w3.heap.size)) (cap := c1) H4.out.2.2.2.1 (fun x hx hne => .inr ⟨HX.out.1 x hx, ints_lt H3.out.2.2.2.1 x hx hne⟩)
          rw [HLn.out.1] at this; exact this
        · have := pairs_reads (F := fun j => F j ∨ (w.heap.size < j ∧ j < w3.heap.size)) (cap := c2) H4.out.2.2.2.2.1 (fun x hx hne => .inr ⟨HX.out.2 x hx, pairs_lt H3.out.2.2.2.2 x hx hne⟩)
          rw [HLn.out.2.1] at this; exact this
        · rintro j hj (hq | hq)
          · exact H4.out.1.own.sep j hj hq
          · have := (HM0.out.own.lt j hj).2; omega
        · rintro j (hq | hq)
          · exact H4.out.1.flt j hq
          · simp; omega)
      refine hK _ _ ⟨H4.out.2.1, ?_⟩
      clear hK K
      go_simp
      refine wpAnyH_all (rs := [8]) (by kernel_rfl) (by simp) ?_
      intro i hi
      obtain rfl := List.mem_singleton.1 hi
      clear hi
      refine wpOp_k rfl (by rfl) (fun K hK => ?_)
      refine owp_add_link (.tmp 27) (.tmp 30) rfl B F (fun j => F j ∨ (w.heap.size < j ∧ j < w3.heap.size)) (.slice la ls.length lc) ls (by rfl) H4.out.1.own (Nat.le_trans HLn.out.2.2.2.1 H4.out.2.2.1.size) w3.heap.size (by rfl) (e, l, ss) (.slice a1 n c1) (.slice a2 m c2) H4.out.2.2.2.2.2.cells.1 H4.out.2.2.2.2.2.cells.2.1 H4.out.2.2.2.2.2.cells.2.2 rfl rfl HU.out.1 HU.out.2.1 (fun j _ => .inl) HU.out.2.2.1 HU.out.2.2.2 (by have := HLn.out.2.2.1; omega) ?_
      intro v5 w5 H5
      have HA := hid (MtAt.added H4.out.1 H5.out.1 H5.out.2.1 H5.out.2.2 (fun j => .inl) (by rintro (hq | hq); exact H4.out.1.bF hq; have := HLn.out.2.2.2.2; omega) HU.out.2.2.2 HU.out.2.2.1)
      have H5s : Hid (LnAt w5 w.heap.size e (.slice a n cap) (.slice bs m cp) ∧ w5.heap[b]? = some (.cells #[.int .i64 ep, .slice fa fm.length fc, .slice la ls.length lc] 70 (0, 0))) := hid ⟨(H5.out.2.1.block _ (lt_of_blk H4.out.2.1) (fun he => by have := (HM0.out.own.lt _ he.symm).2; omega)).trans H4.out.2.1, (H5.out.2.1.block _ (lt_of_blk H4.out.1.blk) (fun he => H4.out.1.bv he.symm)).trans H4.out.1.blk⟩
      obtain ⟨a5, c5, hv5⟩ := H5.out.1.form
      subst hv5
      refine hK _ _ ⟨H5s.out.1, ?_⟩
      clear hK K
      go_simp
      refine wpAnyH_take (i := 9) (v := ?v6) rfl (by kernel_rfl) (by kernel_rfl) (by kernel_rfl) (fun _ _ _ h => h) (Or.inl ⟨by rfl, ?hy6⟩) H5s.out.1 ?rest6
      case hy6 => (intro ww _; go_simp; try with_reducible rfl)
      go_simp
      refine wpAnyH_take (i := 10) (v := ?v7) rfl (by kernel_rfl) (by kernel_rfl) (by kernel_rfl) (fun _ _ _ h => h) (Or.inl ⟨by rfl, ?hy7⟩) H5s.out.1 ?rest7
      case hy7 => (intro ww _; go_simp; try with_reducible rfl)
      go_simp
      refine wpAnyH_all (rs := [11]) (by kernel_rfl) (by simp) ?_
      intro i hi
      obtain rfl := List.mem_singleton.1 hi
      clear hi
      refine wpOp_k rfl (by rfl) (fun K hK => ?_)
      have r2 := (cell_three H5s.out.2).2.2
      have f2 := free_at H5s.out.2 2
      go_simp
      refine hK _ _ ⟨(Below.heap_setCell _ _ _ _ (by have := HLn.out.2.2.2.2; simp; omega)).trans H5s.out.1, ?_⟩
      clear hK K r2 f2
      go_simp
      refine wpAnyH_done (by kernel_rfl) ?_ _
      go_simp
      go_wp2
      go_ret
      refine ⟨rfl, ?_, fun hq => absurd HE.out.1 hq, fun _ => ⟨_, _, HA.out.1, ?_, ?_⟩⟩
      · exact Kept.trans ⟨H4.out.2.2.1.os, H4.out.2.2.1.tape, H4.out.2.2.1.output, H4.out.2.2.1.size, fun k hk _ _ => H4.out.2.2.1.block k hk⟩ HA.out.2 (.inl rfl)
      · rintro k (hk | hk)
        · exact .inl hk
        · exact .inr (Nat.le_of_lt hk.1)
      · rcases H5.out.2.2 with he | he
        · exact .inl he
        · exact .inr ⟨_, he, H4.out.2.2.1.size⟩
    · skip
      obtain rfl := List.mem_singleton.1 hi
      clear hi
      refine wpOp_k rfl (by rfl) (fun K hK => ?_)
      go_simp
      refine (wcopied_any e a n cap l HLn.out.1 (by have := HE.out.2.1; omega) bs m cp ss HLn.out.2.1 (by have := HE.out.2.2; omega) _ (HD.out _ H2d.out.2.2).1 (HD.out _ H2d.out.2.2).2).mono ?_
      rintro r w3 ⟨a1, c1, a2, c2, rfl, hi1, hp2, hx1, hx2, hb3⟩
      have H3 : Hid (MtAt B F w3 b ep fa fc fm (.slice la ls.length lc) ls ∧ LnAt w3 w.heap.size e (.slice a n cap) (.slice bs m cp) ∧ Below w.heap.size w w3 ∧ IntsIn w3 a1 l ∧ PairsIn w3 a2 ss) := hid ⟨H2d.out.1.keep hb3, H2d.out.2.1.keep hb3, H2d.out.2.2.trans (hb3.mono H2d.out.2.2.size), hi1, hp2⟩
      have HX : Hid ((∀ x, a1 = some x → w.heap.size < x.block) ∧ (∀ x, a2 = some x → w.heap.size < x.block)) := hid (by
        have h1 : w.heap.size < w2.drew.heap.size := lt_of_blk H2d.out.2.1
        exact ⟨fun x hx => by have := hx1 x hx; omega, fun x hx => by have := hx2 x hx; omega⟩)
      clear hi1 hp2 hx1 hx2 hb3
      refine hK _ _ ⟨H3.out.2.1, ?_⟩
      clear hK K
      go_simp
      refine wpAnyH_all (rs := [4, 7]) (by kernel_rfl) (by simp) ?_
      intro i hi
      rcases List.mem_cons.1 hi with rfl | hi
      · clear hi
        refine wpOp_k rfl (by rfl) (fun K hK => ?_)
        have q2 := (cell_three H3.out.1.blk).2.2
        go_simp
        refine hK _ _ ⟨H3.out.2.1, ?_⟩
        clear hK K q2
        go_simp
        refine wpAnyH_all (rs := [7]) (by kernel_rfl) (by simp) ?_
        intro i hi
        obtain rfl := List.mem_singleton.1 hi
        clear hi
        refine wpOp_k rfl (by rfl) (fun K hK => ?_)
        go_simp
        have hb4 := (Below.refl w3.heap.size w3).alloc (Nat.le_refl _) (.cells #[.int .i64 e, .slice a1 n c1, .slice a2 m c2] 27)
        have H4 : Hid (MtAt B F (w3.alloc (.cells #[.int .i64 e, .slice a1 n c1, .slice a2 m c2] 27)) b ep fa fc fm (.slice la ls.length lc) ls ∧ LnAt (w3.alloc (.cells #[.int .i64 e, .slice a1 n c1, .slice a2 m c2] 27)) w.heap.size e (.slice a n cap) (.slice bs m cp) ∧ Below w.heap.size w (w3.alloc (.cells #[.int .i64 e, .slice a1 n c1, .slice a2 m c2] 27)) ∧ IntsIn (w3.alloc (.cells #[.int .i64 e, .slice a1 n c1, .slice a2 m c2] 27)) a1 l ∧ PairsIn (w3.alloc (.cells #[.int .i64 e, .slice a1 n c1, .slice a2 m c2] 27)) a2 ss ∧ LnAt (w3.alloc (.cells #[.int .i64 e, .slice a1 n c1, .slice a2 m c2] 27)) w3.heap.size e (.slice a1 n c1) (.slice a2 m c2)) := hid ⟨H3.out.1.keep hb4, H3.out.2.1.keep hb4, H3.out.2.2.1.trans (hb4.mono H3.out.2.2.1.size), H3.out.2.2.2.1.keep hb4 (Nat.le_refl _), H3.out.2.2.2.2.keep hb4 (Nat.le_refl _), heap_alloc_last w3 _⟩
        clear hb4
        have HU : Hid (Reads (fun j => F j ∨ (w.heap.size < j ∧ j < w3.heap.size)) (w3.alloc (.cells #[.int .i64 e, .slice a1 n c1, .slice a2 m c2] 27)) (.slice a1 n c1) (dInts l) ∧ Reads (fun j => F j ∨ (w.heap.size < j ∧ j < w3.heap.size)) (w3.alloc (.cells #[.int .i64 e, .slice a1 n c1, .slice a2 m c2] 27)) (.slice a2 m c2) (dPairs ss) ∧ (∀ j, (Value.slice la ls.length lc).ownBlock = some j → ¬ (F j ∨ (w.heap.size < j ∧ j < w3.heap.size))) ∧ (∀ j, (F j ∨ (w.heap.size < j ∧ j < w3.heap.size)) → j < (w3.alloc (.cells #[.int .i64 e, .slice a1 n c1, .slice a2 m c2] 27)).heap.size)) := hid (by
          refine ⟨?_, ?_, ?_, ?_⟩
          · have := ints_reads (F := fun j => F j ∨ (w.heap.size < j ∧ j < w3.heap.size)) (cap := c1) H4.out.2.2.2.1 (fun x hx hne => .inr ⟨HX.out.1 x hx, ints_lt H3.out.2.2.2.1 x hx hne⟩)
            rw [HLn.out.1] at this; exact this
          · have := pairs_reads (F := fun j => F j ∨ (w.heap.size < j ∧ j < w3.heap.size)) (cap := c2) H4.out.2.2.2.2.1 (fun x hx hne => .inr ⟨HX.out.2 x hx, pairs_lt H3.out.2.2.2.2 x hx hne⟩)
            rw [HLn.out.2.1] at this; exact this
          · rintro j hj (hq | hq)
            · exact H4.out.1.own.sep j hj hq
            · have := (HM0.out.own.lt j hj).2; omega
          · rintro j (hq | hq)
            · exact H4.out.1.flt j hq
            · simp; omega)
        refine hK _ _ ⟨H4.out.2.1, ?_⟩
        clear hK K
        go_simp
        refine wpAnyH_all (rs := [8]) (by kernel_rfl) (by simp) ?_
        intro i hi
        obtain rfl := List.mem_singleton.1 hi
        clear hi
        refine wpOp_k rfl (by rfl) (fun K hK => ?_)
        refine owp_add_link (.tmp 27) (.tmp 30) rfl B F (fun j => F j ∨ (w.heap.size < j ∧ j < w3.heap.size)) (.slice la ls.length lc) ls (by rfl) H4.out.1.own (Nat.le_trans HLn.out.2.2.2.1 H4.out.2.2.1.size) w3.heap.size (by rfl) (e, l, ss) (.slice a1 n c1) (.slice a2 m c2) H4.out.2.2.2.2.2.cells.1 H4.out.2.2.2.2.2.cells.2.1 H4.out.2.2.2.2.2.cells.2.2 rfl rfl HU.out.1 HU.out.2.1 (fun j _ => .inl) HU.out.2.2.1 HU.out.2.2.2 (by have := HLn.out.2.2.1; omega) ?_
        intro v5 w5 H5
        have HA := hid (MtAt.added H4.out.1 H5.out.1 H5.out.2.1 H5.out.2.2 (fun j => .inl) (by rintro (hq | hq); exact H4.out.1.bF hq; have := HLn.out.2.2.2.2; omega) HU.out.2.2.2 HU.out.2.2.1)
        have H5s : Hid (LnAt w5 w.heap.size e (.slice a n cap) (.slice bs m cp) ∧ w5.heap[b]? = some (.cells #[.int .i64 ep, .slice fa fm.length fc, .slice la ls.length lc] 70 (0, 0))) := hid ⟨(H5.out.2.1.block _ (lt_of_blk H4.out.2.1) (fun he => by have := (HM0.out.own.lt _ he.symm).2; omega)).trans H4.out.2.1, (H5.out.2.1.block _ (lt_of_blk H4.out.1.blk) (fun he => H4.out.1.bv he.symm)).trans H4.out.1.blk⟩
        obtain ⟨a5, c5, hv5⟩ := H5.out.1.form
        subst hv5
        refine hK _ _ ⟨H5s.out.1, ?_⟩
        clear hK K
        go_simp
        refine wpAnyH_take (i := 9) (v := ?v8) rfl (by kernel_rfl) (by kernel_rfl) (by kernel_rfl) (fun _ _ _ h => h) (Or.inl ⟨by rfl, ?hy8⟩) H5s.out.1 ?rest8
        case hy8 => (intro ww _; go_simp; try with_reducible rfl)
        go_simp
        refine wpAnyH_take (i := 10) (v := ?v9) rfl (by kernel_rfl) (by kernel_rfl) (by kernel_rfl) (fun _ _ _ h => h) (Or.inl ⟨by rfl, ?hy9⟩) H5s.out.1 ?rest9
        case hy9 => (intro ww _; go_simp; try with_reducible rfl)
        go_simp
        refine wpAnyH_all (rs := [11]) (by kernel_rfl) (by simp) ?_
        intro i hi
        obtain rfl := List.mem_singleton.1 hi
        clear hi
        refine wpOp_k rfl (by rfl) (fun K hK => ?_)
        have r2 := (cell_three H5s.out.2).2.2
        have f2 := free_at H5s.out.2 2
        go_simp
        refine hK _ _ ⟨(Below.heap_setCell _ _ _ _ (by have := HLn.out.2.2.2.2; simp; omega)).trans H5s.out.1, ?_⟩
        clear hK K r2 f2
        go_simp
        refine wpAnyH_done (by kernel_rfl) ?_ _
        go_simp
        go_wp2
        go_ret
        refine ⟨rfl, ?_, fun hq => absurd HE.out.1 hq, fun _ => ⟨_, _, HA.out.1, ?_, ?_⟩⟩
        · exact Kept.trans ⟨H4.out.2.2.1.os, H4.out.2.2.1.tape, H4.out.2.2.1.output, H4.out.2.2.1.size, fun k hk _ _ => H4.out.2.2.1.block k hk⟩ HA.out.2 (.inl rfl)
        · rintro k (hk | hk)
          · exact .inl hk
          · exact .inr (Nat.le_of_lt hk.1)
        · rcases H5.out.2.2 with he | he
          · exact .inl he
          · exact .inr ⟨_, he, H4.out.2.2.1.size⟩
      · skip
        obtain rfl := List.mem_singleton.1 hi
        clear hi
        refine wpOp_k rfl (by rfl) (fun K hK => ?_)
        go_simp
        have hb4 := (Below.refl w3.heap.size w3).alloc (Nat.le_refl _) (.cells #[.int .i64 e, .slice a1 n c1, .slice a2 m c2] 27)
        have H4 : Hid (MtAt B F (w3.alloc (.cells #[.int .i64 e, .slice a1 n c1, .slice a2 m c2] 27)) b ep fa fc fm (.slice la ls.length lc) ls ∧ LnAt (w3.alloc (.cells #[.int .i64 e, .slice a1 n c1, .slice a2 m c2] 27)) w.heap.size e (.slice a n cap) (.slice bs m cp) ∧ Below w.heap.size w (w3.alloc (.cells #[.int .i64 e, .slice a1 n c1, .slice a2 m c2] 27)) ∧ IntsIn (w3.alloc (.cells #[.int .i64 e, .slice a1 n c1, .slice a2 m c2] 27)) a1 l ∧ PairsIn (w3.alloc (.cells #[.int .i64 e, .slice a1 n c1, .slice a2 m c2] 27)) a2 ss ∧ LnAt (w3.alloc (.cells #[.int .i64 e, .slice a1 n c1, .slice a2 m c2] 27)) w3.heap.size e (.slice a1 n c1) (.slice a2 m c2)) := hid ⟨H3.out.1.keep hb4, H3.out.2.1.keep hb4, H3.out.2.2.1.trans (hb4.mono H3.out.2.2.1.size), H3.out.2.2.2.1.keep hb4 (Nat.le_refl _), H3.out.2.2.2.2.keep hb4 (Nat.le_refl _), heap_alloc_last w3 _⟩
        clear hb4
        have HU : Hid (Reads (fun j => F j ∨ (w.heap.size < j ∧ j < w3.heap.size)) (w3.alloc (.cells #[.int .i64 e, .slice a1 n c1, .slice a2 m c2] 27)) (.slice a1 n c1) (dInts l) ∧ Reads (fun j => F j ∨ (w.heap.size < j ∧ j < w3.heap.size)) (w3.alloc (.cells #[.int .i64 e, .slice a1 n c1, .slice a2 m c2] 27)) (.slice a2 m c2) (dPairs ss) ∧ (∀ j, (Value.slice la ls.length lc).ownBlock = some j → ¬ (F j ∨ (w.heap.size < j ∧ j < w3.heap.size))) ∧ (∀ j, (F j ∨ (w.heap.size < j ∧ j < w3.heap.size)) → j < (w3.alloc (.cells #[.int .i64 e, .slice a1 n c1, .slice a2 m c2] 27)).heap.size)) := hid (by
          refine ⟨?_, ?_, ?_, ?_⟩
          · have := ints_reads (F := fun j => F j ∨ (w.heap.size < j ∧ j < w3.heap.size)) (cap := c1) H4.out.2.2.2.1 (fun x hx hne => .inr ⟨HX.out.1 x hx, ints_lt H3.out.2.2.2.1 x hx hne⟩)
            rw [HLn.out.1] at this; exact this
          · have := pairs_reads (F := fun j => F j ∨ (w.heap.size < j ∧ j < w3.heap.size)) (cap := c2) H4.out.2.2.2.2.1 (fun x hx hne => .inr ⟨HX.out.2 x hx, pairs_lt H3.out.2.2.2.2 x hx hne⟩)
            rw [HLn.out.2.1] at this; exact this
          · rintro j hj (hq | hq)
            · exact H4.out.1.own.sep j hj hq
            · have := (HM0.out.own.lt j hj).2; omega
          · rintro j (hq | hq)
            · exact H4.out.1.flt j hq
            · simp; omega)
        refine hK _ _ ⟨H4.out.2.1, ?_⟩
        clear hK K
        go_simp
        refine wpAnyH_all (rs := [4]) (by kernel_rfl) (by simp) ?_
        intro i hi
        obtain rfl := List.mem_singleton.1 hi
        clear hi
        refine wpOp_k rfl (by rfl) (fun K hK => ?_)
        have q2 := (cell_three H4.out.1.blk).2.2
        go_simp
        refine hK _ _ ⟨H4.out.2.1, ?_⟩
        clear hK K q2
        go_simp
        refine wpAnyH_all (rs := [8]) (by kernel_rfl) (by simp) ?_
        intro i hi
        obtain rfl := List.mem_singleton.1 hi
        clear hi
        refine wpOp_k rfl (by rfl) (fun K hK => ?_)
        refine owp_add_link (.tmp 27) (.tmp 30) rfl B F (fun j => F j ∨ (w.heap.size < j ∧ j < w3.heap.size)) (.slice la ls.length lc) ls (by rfl) H4.out.1.own (Nat.le_trans HLn.out.2.2.2.1 H4.out.2.2.1.size) w3.heap.size (by rfl) (e, l, ss) (.slice a1 n c1) (.slice a2 m c2) H4.out.2.2.2.2.2.cells.1 H4.out.2.2.2.2.2.cells.2.1 H4.out.2.2.2.2.2.cells.2.2 rfl rfl HU.out.1 HU.out.2.1 (fun j _ => .inl) HU.out.2.2.1 HU.out.2.2.2 (by have := HLn.out.2.2.1; omega) ?_
        intro v5 w5 H5
        have HA := hid (MtAt.added H4.out.1 H5.out.1 H5.out.2.1 H5.out.2.2 (fun j => .inl) (by rintro (hq | hq); exact H4.out.1.bF hq; have := HLn.out.2.2.2.2; omega) HU.out.2.2.2 HU.out.2.2.1)
        have H5s : Hid (LnAt w5 w.heap.size e (.slice a n cap) (.slice bs m cp) ∧ w5.heap[b]? = some (.cells #[.int .i64 ep, .slice fa fm.length fc, .slice la ls.length lc] 70 (0, 0))) := hid ⟨(H5.out.2.1.block _ (lt_of_blk H4.out.2.1) (fun he => by have := (HM0.out.own.lt _ he.symm).2; omega)).trans H4.out.2.1, (H5.out.2.1.block _ (lt_of_blk H4.out.1.blk) (fun he => H4.out.1.bv he.symm)).trans H4.out.1.blk⟩
        obtain ⟨a5, c5, hv5⟩ := H5.out.1.form
        subst hv5
        refine hK _ _ ⟨H5s.out.1, ?_⟩
        clear hK K
        go_simp
        refine wpAnyH_take (i := 9) (v := ?v10) rfl (by kernel_rfl) (by kernel_rfl) (by kernel_rfl) (fun _ _ _ h => h) (Or.inl ⟨by rfl, ?hy10⟩) H5s.out.1 ?rest10
        case hy10 => (intro ww _; go_simp; try with_reducible rfl)
        go_simp
        refine wpAnyH_take (i := 10) (v := ?v11) rfl (by kernel_rfl) (by kernel_rfl) (by kernel_rfl) (fun _ _ _ h => h) (Or.inl ⟨by rfl, ?hy11⟩) H5s.out.1 ?rest11
        case hy11 => (intro ww _; go_simp; try with_reducible rfl)
        go_simp
        refine wpAnyH_all (rs := [11]) (by kernel_rfl) (by simp) ?_
        intro i hi
        obtain rfl := List.mem_singleton.1 hi
        clear hi
        refine wpOp_k rfl (by rfl) (fun K hK => ?_)
        have r2 := (cell_three H5s.out.2).2.2
        have f2 := free_at H5s.out.2 2
        go_simp
        refine hK _ _ ⟨(Below.heap_setCell _ _ _ _ (by have := HLn.out.2.2.2.2; simp; omega)).trans H5s.out.1, ?_⟩
        clear hK K r2 f2
        go_simp
        refine wpAnyH_done (by kernel_rfl) ?_ _
        go_simp
        go_wp2
        go_ret
        refine ⟨rfl, ?_, fun hq => absurd HE.out.1 hq, fun _ => ⟨_, _, HA.out.1, ?_, ?_⟩⟩
        · exact Kept.trans ⟨H4.out.2.2.1.os, H4.out.2.2.1.tape, H4.out.2.2.1.output, H4.out.2.2.1.size, fun k hk _ _ => H4.out.2.2.1.block k hk⟩ HA.out.2 (.inl rfl)
        · rintro k (hk | hk)
          · exact .inl hk
          · exact .inr (Nat.le_of_lt hk.1)
        · rcases H5.out.2.2 with he | he
          · exact .inl he
          · exact .inr ⟨_, he, H4.out.2.2.1.size⟩
  · have hEb : (E == 0) = false := by simpa using hE
    have HE := hid hE
    clear hE
    go_enter Try.func34, Try.ntmps34
    go_wp2_with (first
      | (go_at_call 36; refine (HAt.out _ (by exact H0.out.1)).mono ?_; rintro r w1 ⟨ad1, cp1, rfl, hi1, hb1⟩
         have hb1a := (Below.refl w1.heap.size w1).alloc (Nat.le_refl _) (.cells #[.int .i64 (lastZ ep ls), .slice ad1 (lastM fm ls).length cp1] 24)
         have H1 : Hid (MtAt B F (w1.alloc (.cells #[.int .i64 (lastZ ep ls), .slice ad1 (lastM fm ls).length cp1] 24)) b ep fa fc fm (.slice la ls.length lc) ls ∧ LnAt (w1.alloc (.cells #[.int .i64 (lastZ ep ls), .slice ad1 (lastM fm ls).length cp1] 24)) w.heap.size e (.slice a n cap) (.slice bs m cp) ∧ Below w.heap.size w (w1.alloc (.cells #[.int .i64 (lastZ ep ls), .slice ad1 (lastM fm ls).length cp1] 24)) ∧ IntsIn (w1.alloc (.cells #[.int .i64 (lastZ ep ls), .slice ad1 (lastM fm ls).length cp1] 24)) ad1 (lastM fm ls)) := hid ⟨(H0.out.1.keep hb1).keep hb1a, (H0.out.2.1.keep hb1).keep hb1a, (H0.out.2.2.trans (hb1.mono H0.out.2.2.size)).trans (hb1a.mono (H0.out.2.2.trans (hb1.mono H0.out.2.2.size)).size), hi1.keep hb1a (Nat.le_refl _)⟩
         clear hb1 hb1a hi1
         have z0 := H1.out.2.1.cells.1
         have z1 := H1.out.2.1.cells.2.1
         have z2 := H1.out.2.1.cells.2.2)
      | (go_at_call 11; refine (HVa.out _ _ _ (by exact H1.out.2.2.2) (by exact (HD.out _ H1.out.2.2.1).1) (by exact (HD.out _ H1.out.2.2.1).2)).mono ?_; rintro r w2 ⟨rfl, hb2⟩
         have H2 : Hid (MtAt B F w2 b ep fa fc fm (.slice la ls.length lc) ls ∧ LnAt w2 w.heap.size e (.slice a n cap) (.slice bs m cp) ∧ Below w.heap.size w w2) := hid ⟨H1.out.1.keep hb2, H1.out.2.1.keep hb2, H1.out.2.2.1.trans (hb2.mono H1.out.2.2.1.size)⟩
         clear hb2))
    go_ret
    exact ⟨rfl, ⟨H2.out.2.2.os, H2.out.2.2.tape, H2.out.2.2.output, H2.out.2.2.size, fun k hk _ _ => H2.out.2.2.block k hk⟩, fun _ => H2.out.1, fun hq => absurd hq HE.out⟩
end Go.Proofs.Ytpholamobedkhaa

/- The document's tracker: New. -/
namespace Go.Proofs.Ytpholamobedkhaa
open Go.RowKit

/-- The blocks of a first configuration. -/
def confF (a : Option Addr) (l : List Int) : Nat → Prop := fun k => ∃ x, a = some x ∧ l ≠ [] ∧ k = x.block
theorem confF_lt {w : World} {a : Option Addr} {l : List Int} (h : IntsIn w a l) (k : Nat) (hk : confF a l k) : k < w.heap.size := by
  obtain ⟨x, hx, hl, rfl⟩ := hk
  exact ints_lt h x hx hl
/-- A tracker that knows its first configuration alone. -/
theorem mt_fresh (B : Nat) {w : World} {b : Nat} {ep : Int} {a : Option Addr} {cap : Nat} {l : List Int} {F : Nat → Prop} (hI : IntsIn w a l) (hF : ∀ x, a = some x → l ≠ [] → F x.block) (hb : ¬ F b) (hlt : ∀ k, F k → k < w.heap.size) (h : w.heap[b]? = some (.cells #[.int .i64 ep, .slice a l.length cap, .slice none 0 0] 70 (0, 0))) :
    MtAt B F w b ep a cap l (.slice none 0 0) [] :=
  ⟨h, hI, hF, OwnD.nil _ _ _ _ _, hb, (by intro e; cases e), hlt⟩
set_option maxRecDepth 100000 in
set_option maxHeartbeats 3200000 in
theorem wnew_any (B : Nat) (e : Int) (a : Option Addr) (n cap : Nat) (l : List Int) (hn : l.length = n) (hm : n ≤ maxLen) (w : World) (hI : IntsIn w a l) :
    Calls Try.prog 13 #[.agg #[.int .i64 e, .slice a n cap]] w fun r w' => Below w.heap.size w w' ∧ ((rightC e l = true ∧ e = 0) → ∃ b, r = .returned (.tuple #[.pointer (some ⟨b, 0, none⟩), .int .i64 0]) ∧ w.heap.size ≤ b ∧ MtAt B (confF a l) w' b 0 a cap l (.slice none 0 0) []) ∧ (¬ (rightC e l = true ∧ e = 0) → r = .returned (.tuple #[.pointer none, .int .i64 1])) := by
  have HR : Hid (∀ (B : Bool), rightC e l = B → ∀ u : World, IntsIn u a l → Calls Try.prog 31 #[.agg #[.int .i64 e, .slice a n cap]] u fun e w' => e = .returned (.bool B) ∧ Below u.heap.size u w') := hid (fun B hB u hu => by rw [← hB]; exact vright_any e a n cap l hn hm u hu)
  have hA : Below w.heap.size w (w.alloc (.cells #[.int .i64 e, .slice a n cap] 24)) := (Below.refl _ _).alloc (Nat.le_refl _) _
  have H0 : Hid (IntsIn (w.alloc (.cells #[.int .i64 e, .slice a n cap] 24)) a l ∧ Below w.heap.size w (w.alloc (.cells #[.int .i64 e, .slice a n cap] 24)) ∧ (w.alloc (.cells #[.int .i64 e, .slice a n cap] 24)).heap[w.heap.size]? = some (.cells #[.int .i64 e, .slice a n cap] 24 (0, 0))) := hid ⟨hI.keep hA (Nat.le_refl _), hA, heap_alloc_last w _⟩
  have HI := hid (And.intro hI hn)
  clear hA hI hn
  cases hr : rightC e l with
  | false =>
    have HRb := hid (HR.out false hr)
    have HQ : Hid (¬ ((false = true) ∧ e = 0)) := hid (by simp)
    clear hr
    go_enter Try.func13, Try.ntmps13
    go_wp2_with (go_at_call 31; refine (HRb.out _ (by exact H0.out.1)).mono ?_; rintro r w1 ⟨rfl, hb1⟩; have H1 := hid (H0.out.2.1.trans (hb1.mono H0.out.2.1.size)); clear hb1)
    go_ret2
    exact ⟨H1.out, fun hq => absurd hq HQ.out, fun _ => rfl⟩
  | true =>
    have HRb := hid (HR.out true hr)
    clear hr
    by_cases hz : e = 0
    · subst hz
      go_enter Try.func13, Try.ntmps13
      go_wp2_with (go_at_call 31; refine (HRb.out _ (by exact H0.out.1)).mono ?_; rintro r w1 ⟨rfl, hb1⟩
                   have H1 := hid (And.intro (H0.out.2.1.trans (hb1.mono H0.out.2.1.size)) (And.intro (H0.out.1.keep hb1 (Nat.le_refl _)) ((hb1.block _ (lt_of_blk H0.out.2.2)).trans H0.out.2.2))); clear hb1; have x0 := (cell_two H1.out.2.2).1; have x1 := (cell_two H1.out.2.2).2)
      go_ret2
      have hbA := (Below.refl w1.heap.size w1).alloc (Nat.le_refl _) (.cells #[.int .i64 0, .slice a n cap, .slice none 0 0] 70)
      refine ⟨H1.out.1.trans (hbA.mono H1.out.1.size), fun _ => ⟨w1.heap.size, rfl, H1.out.1.size, ?_⟩, fun hq => absurd ⟨trivial, trivial⟩ hq⟩
      refine mt_fresh B (H1.out.2.1.keep hbA (Nat.le_refl _)) (fun x hx hl => ⟨x, hx, hl, rfl⟩) (fun hq => absurd (confF_lt H1.out.2.1 _ hq) (Nat.lt_irrefl _)) (fun k hk => Nat.lt_of_lt_of_le (confF_lt H1.out.2.1 k hk) hbA.size) ?_
      rw [HI.out.2]
      exact heap_alloc_last w1 _
    · have hzb : (e != 0) = true := by simpa using hz
      have HQ : Hid (¬ ((true = true) ∧ e = 0)) := hid (fun h => hz h.2)
      clear hz
      go_enter Try.func13, Try.ntmps13
      go_wp2_with (go_at_call 31; refine (HRb.out _ (by exact H0.out.1)).mono ?_; rintro r w1 ⟨rfl, hb1⟩
                   have H1 := hid (And.intro (H0.out.2.1.trans (hb1.mono H0.out.2.1.size)) ((hb1.block _ (lt_of_blk H0.out.2.2)).trans H0.out.2.2)); clear hb1; have x0 := (cell_two H1.out.2).1; have x1 := (cell_two H1.out.2).2)
      go_ret2
      exact ⟨H1.out.1, fun hq => absurd hq HQ.out, fun _ => rfl⟩
end Go.Proofs.Ytpholamobedkhaa

/- The document's SameInts, of any two lists. -/
namespace Go.Proofs.Ytpholamobedkhaa
open Go.RowKit

theorem take_grow {α : Type} {l1 l2 : List α} {j : Nat} {s : α} (h : l1.take j = l2.take j) (h1 : l1[j]? = some s) (h2 : l2[j]? = some s) : l1.take (j + 1) = l2.take (j + 1) := by
  obtain ⟨hj1, e1⟩ := List.getElem?_eq_some_iff.1 h1
  obtain ⟨hj2, e2⟩ := List.getElem?_eq_some_iff.1 h2
  rw [List.take_succ_eq_append_getElem hj1, List.take_succ_eq_append_getElem hj2, h, e1, e2]
theorem ne_of_at {α : Type} {l1 l2 : List α} {j : Nat} {s t : α} (h1 : l1[j]? = some s) (h2 : l2[j]? = some t) (h : s ≠ t) : l1 ≠ l2 := fun e => by
  rw [e, h2] at h1
  cases h1
  exact h rfl
set_option maxRecDepth 100000 in
set_option maxHeartbeats 3200000 in
theorem sameInts_dec (a1 a2 : Option Addr) (n1 n2 c1 c2 : Nat) (l1 l2 : List Int) (hn1 : l1.length = n1) (hn2 : l2.length = n2) (hm1 : n1 ≤ maxLen) (hm2 : n2 ≤ maxLen) (w : World) (h1 : IntsIn w a1 l1) (h2 : IntsIn w a2 l2) :
    Calls Try.prog 40 #[.slice a1 n1 c1, .slice a2 n2 c2] w fun e w' => e = .returned (.bool (decide (l1 = l2))) ∧ Below w.heap.size w w' := by
  by_cases hne : n1 = n2
  · subst hne
    have hm3 : (n1 : Int) ≤ 9223372036854775807 := by unfold maxLen at hm1; omega
    have HZ := hid (And.intro h1 (And.intro h2 (And.intro hn1 hn2)))
    clear h1 h2 hn1 hn2 hm1 hm2
    go_enter Try.func40, Try.ntmps40
    go_wp2
    go_loopw [5] (fun i wr => ∃ j : Nat, j ≤ n1 ∧ i = .int .i64 (j : Int) ∧ Below w.heap.size w wr ∧ l1.take j = l2.take j)
      (fun i _ => ((n1 : Int) - intOf i).toNat)
    case atStart => exact ⟨0, by omega, rfl, Below.refl _ _, rfl⟩
    case round =>
      obtain ⟨j, hj, rfl, hbel, htk⟩ := hrel
      have HB := hid (And.intro hbel htk)
      clear hbel htk
      by_cases hjn : j = n1
      · have hj1 : ¬ ((j : Int) < (n1 : Int)) := by omega
        have HE : Hid (l1 = l2) := hid (by
          have := HB.out.2
          rw [List.take_of_length_le (by have := HZ.out.2.2.1; omega), List.take_of_length_le (by have := HZ.out.2.2.2; omega)] at this
          exact this)
        clear hj hjn
        go_wp2
        go_ret
        exact ⟨(congrArg (fun b => Ending.returned (.bool b)) (decide_eq_true HE.out)).symm, HB.out.1⟩
      · have hj1 : (j : Int) < (n1 : Int) := by omega
        have hj0 : (0 : Int) ≤ (j : Int) := Int.natCast_nonneg _
        obtain ⟨s, es⟩ : ∃ s, l1[j]? = some s := ⟨_, List.getElem?_eq_getElem (by rw [HZ.out.2.2.1]; omega)⟩
        obtain ⟨t, et⟩ : ∃ t, l2[j]? = some t := ⟨_, List.getElem?_eq_getElem (by rw [HZ.out.2.2.2]; omega)⟩
        obtain ⟨g1, off1, rfl, hg1, hcell1⟩ := HZ.out.1.at j s es
        obtain ⟨g2, off2, rfl, hg2, hcell2⟩ := HZ.out.2.1.at j t et
        have cz1 : wr.cell? ⟨g1, off1 + j, none⟩ = some (.int .i64 s) := (HB.out.1.cell (p := ⟨g1, off1 + j, none⟩) hg1).trans hcell1
        have cz2 : wr.cell? ⟨g2, off2 + j, none⟩ = some (.int .i64 t) := (HB.out.1.cell (p := ⟨g2, off2 + j, none⟩) hg2).trans hcell2
        have HS := hid (And.intro es et)
        clear es et hg1 hg2 hcell1 hcell2
        by_cases hst : s = t
        · subst hst
          go_wp2
          go_quiet (fail)
          go_wp2
          go_roundw
          case rel => exact ⟨j + 1, by omega, rfl, ⟨HB.out.1.os, HB.out.1.tape, HB.out.1.output, HB.out.1.size, HB.out.1.block⟩, take_grow HB.out.2 HS.out.1 HS.out.2⟩
          case measure => simp [intOf]; omega
        · have hstb : (s != t) = true := by simpa using hst
          have HN : Hid (l1 ≠ l2) := hid (ne_of_at HS.out.1 HS.out.2 hst)
          go_wp2
          go_quiet (fail)
          go_wp2
          go_ret
          exact ⟨(congrArg (fun b => Ending.returned (.bool b)) (decide_eq_false HN.out)).symm, ⟨HB.out.1.os, HB.out.1.tape, HB.out.1.output, HB.out.1.size, HB.out.1.block⟩⟩
  · have hz : ¬ ((n1 : Int) = (n2 : Int)) := by omega
    have HN : Hid (l1 ≠ l2) := hid (fun e => hne (by rw [← hn1, ← hn2, e]))
    clear hne hn1 hn2 h1 h2 hm1 hm2
    go_enter Try.func40, Try.ntmps40
    go_wp2
    go_ret
    exact ⟨(congrArg (fun b => Ending.returned (.bool b)) (decide_eq_false HN.out)).symm, Below.refl _ _⟩
end Go.Proofs.Ytpholamobedkhaa

/- The document's tracker: Take. -/
namespace Go.Proofs.Ytpholamobedkhaa
open Go.RowKit

/-- The j-th link of a chain in memory. -/
theorem lks_at {G : Nat → Prop} {w : World} {v : Value} {cs : List Lk} (h : Reads G w v (.l 3 (dLks cs))) (j : Nat) (k : Lk) (hj : cs[j]? = some k) :
    ∃ g off cap a1 c1 a2 c2, v = .slice (some ⟨g, off, none⟩) cs.length cap ∧ g < w.heap.size ∧ w.cell? ⟨g, off + j * 3, none⟩ = some (.int .i64 k.1) ∧ w.cell? ⟨g, off + j * 3 + 1, none⟩ = some (.slice a1 k.2.1.length c1) ∧ w.cell? ⟨g, off + j * 3 + 2, none⟩ = some (.slice a2 k.2.2.length c2) ∧ IntsIn w a1 k.2.1 ∧ PairsIn w a2 k.2.2 := by
  obtain ⟨g, off, cap, hv, _, hg, _, hc⟩ := h.at j (dLk k) (dLks_at hj)
  obtain ⟨u0, h0, r0⟩ := hc 0 (.i k.1) rfl
  obtain ⟨u1, h1, r1⟩ := hc 1 (dInts k.2.1) rfl
  obtain ⟨u2, h2, r2⟩ := hc 2 (dPairs k.2.2) rfl
  obtain ⟨a1, c1, e1, i1, _⟩ := reads_ints r1
  obtain ⟨a2, c2, e2, i2, _⟩ := reads_pairs r2
  rw [dLks_len] at hv
  exact ⟨g, off, cap, a1, c1, a2, c2, hv, hg, by rw [r0.int] at h0; exact h0, by rw [h1, e1], by rw [h2, e2], i1, i2⟩
theorem lks_form {G : Nat → Prop} {w : World} {v : Value} {cs : List Lk} (h : Reads G w v (.l 3 (dLks cs))) : ∃ ad cap, v = .slice ad cs.length cap := by
  obtain ⟨ad, cap, hv⟩ := h.form
  rw [dLks_len] at hv
  exact ⟨ad, cap, hv⟩

/-- What Add says of a link behind those. -/
def addE (ep : Int) (fm : List Int) (ls : List Lk) (k : Lk) : Int := validE (lastZ ep ls) (lastM fm ls) k.1 k.2.1 k.2.2
/-- The first error of a chain. -/
def chainE (ep : Int) (fm : List Int) : List Lk → List Lk → Int
  | _, [] => 0
  | pre, k :: cs => if addE ep fm pre k = 0 then chainE ep fm (pre ++ [k]) cs else addE ep fm pre k
/-- Do two chains tell other members of an epoch that both know? -/
def otherTo (ls cs : List Lk) (n : Nat) : Bool := (List.range n).any fun i => decide (i < cs.length ∧ i < ls.length) && !decide ((cs.getD i (0, [], [])).2.1 = (ls.getD i (0, [], [])).2.1)
/-- What Take says. -/
def takeE (ep : Int) (fm : List Int) (ls cs : List Lk) : Int :=
  if 64 < cs.length then 3 else if chainE ep fm [] cs ≠ 0 then chainE ep fm [] cs else if otherTo ls cs cs.length = true then 22 else if cs.length ≤ ls.length then 17 else 0
theorem chainE_step (ep : Int) (fm : List Int) (cs : List Lk) (j : Nat) (k : Lk) (h : cs[j]? = some k) (h0 : addE ep fm (cs.take j) k = 0) : chainE ep fm (cs.take (j + 1)) (cs.drop (j + 1)) = chainE ep fm (cs.take j) (cs.drop j) := by
  obtain ⟨hj, rfl⟩ := List.getElem?_eq_some_iff.1 h
  rw [List.drop_eq_getElem_cons hj, chainE, if_pos h0, List.take_succ_eq_append_getElem hj]
theorem chainE_stop (ep : Int) (fm : List Int) (cs : List Lk) (j : Nat) (k : Lk) (h : cs[j]? = some k) (h0 : addE ep fm (cs.take j) k ≠ 0) : chainE ep fm (cs.take j) (cs.drop j) = addE ep fm (cs.take j) k := by
  obtain ⟨hj, rfl⟩ := List.getElem?_eq_some_iff.1 h
  rw [List.drop_eq_getElem_cons hj, chainE, if_neg h0]
/-- While a chain is taken: the fresh tracker at f. -/
def TkSt (w wr : World) (F : Nat → Prop) (ep : Int) (fa : Option Addr) (fc : Nat) (fm : List Int) (pre : List Lk) : Prop :=
  ∃ Fi vi, MtAt w.heap.size Fi wr w.heap.size ep fa fc fm vi pre ∧ (∀ k, Fi k → F k ∨ w.heap.size ≤ k) ∧ Below w.heap.size w wr
theorem TkSt.bel {w wr : World} {F : Nat → Prop} {ep : Int} {fa : Option Addr} {fc : Nat} {fm : List Int} {pre : List Lk} (h : TkSt w wr F ep fa fc fm pre) : Below w.heap.size w wr := by
  obtain ⟨_, _, _, _, h⟩ := h
  exact h
theorem TkSt.start {B : Nat} {w : World} {F : Nat → Prop} {b : Nat} {ep : Int} {fa : Option Addr} {fc : Nat} {fm : List Int} {vl : Value} {ls : List Lk} (h : MtAt B F w b ep fa fc fm vl ls) : TkSt w (w.alloc (.cells #[.int .i64 ep, .slice fa fm.length fc, .slice none 0 0] 70)) F ep fa fc fm [] := by
  have hA := (Below.refl w.heap.size w).alloc (Nat.le_refl _) (.cells #[.int .i64 ep, .slice fa fm.length fc, .slice none 0 0] 70)
  refine ⟨confF fa fm, _, mt_fresh _ (h.fst.keep hA (Nat.le_refl _)) (fun x hx hl => ⟨x, hx, hl, rfl⟩) (fun hq => absurd (confF_lt h.fst _ hq) (Nat.lt_irrefl _)) (fun k hk => Nat.lt_of_lt_of_le (confF_lt h.fst k hk) hA.size) (heap_alloc_last w _), ?_, hA⟩
  rintro k ⟨x, hx, hl, rfl⟩
  exact .inl (h.fF x hx hl)
/-- One link more. -/
theorem TkSt.add {w wr : World} {F : Nat → Prop} {ep : Int} {fa : Option Addr} {fc : Nat} {fm : List Int} {pre : List Lk} (h : TkSt w wr F ep fa fc fm pre) (hfm : fm.length ≤ maxLen) (hl : pre.length ≤ 900) (hls : ∀ k, k ∈ pre → k.2.1.length ≤ maxLen) (k : Lk) (a : Option Addr) (cap : Nat) (hm : k.2.1.length ≤ maxLen) (bs : Option Addr) (cp : Nat) (hsm : k.2.2.length ≤ maxLen) (hI : IntsIn wr a k.2.1) (hP : PairsIn wr bs k.2.2) :
    Calls Try.prog 34 #[.pointer (some ⟨w.heap.size, 0, none⟩), .agg #[.int .i64 k.1, .slice a k.2.1.length cap, .slice bs k.2.2.length cp]] wr fun r w' => r = .returned (.int .i64 (addE ep fm pre k)) ∧ Below w.heap.size w w' ∧ (addE ep fm pre k = 0 → TkSt w w' F ep fa fc fm (pre ++ [k])) := by
  obtain ⟨Fi, vi, hM, hFi, hb⟩ := h
  refine (wadd_any w.heap.size Fi w.heap.size ep fa fc fm hfm vi pre hl hls k.1 a _ cap k.2.1 rfl hm bs _ cp k.2.2 rfl hsm wr hb.size hM hI hP).mono ?_
  rintro r w' ⟨rfl, hK, _, h0⟩
  have hb' : Below w.heap.size w w' := hb.trans (hK.below hb.size (Nat.le_refl _) (fun g hg => (hM.own.lt g hg).1))
  refine ⟨rfl, hb', fun hz => ?_⟩
  obtain ⟨F', vl', hM', hF', _⟩ := h0 hz
  refine ⟨F', vl', hM', fun j hj => ?_, hb'⟩
  rcases hF' j hj with hq | hq
  · exact hFi j hq
  · exact .inr (Nat.le_trans hb.size hq)
end Go.Proofs.Ytpholamobedkhaa

/- Numbers of one's own: kept, read; texts unlike. No walk here. -/
namespace Go.Proofs.Ytpholamobedkhaa
open Go.RowKit

theorem OwnedI.keep {B : Nat} {w0 w w' : World} {v : Value} {l : List Int} (h : OwnedI B w0 w v l) (hb : Below w.heap.size w w') : OwnedI B w0 w' v l := by
  refine ⟨⟨h.own.1, ?_⟩, h.bel.trans (hb.mono h.le), Nat.le_trans h.le hb.size⟩
  rcases h.own.2 with hn | ⟨g, cap, cur, hv, hB, hh, hr⟩
  · exact .inl hn
  · exact .inr ⟨g, cap, cur, hv, hB, (hb.block g (lt_of_blk hh)).trans hh, hr⟩
theorem OwnedI.ints {B : Nat} {w0 w : World} {v : Value} {l : List Int} (h : OwnedI B w0 w v l) : ∃ a cap, v = .slice a l.length cap ∧ IntsIn w a l := by
  by_cases h0 : 0 < l.length
  · obtain ⟨g, cap, hv, _, _, hg, _, hc⟩ := h.form h0
    exact ⟨_, cap, hv, .inr ⟨g, 0, rfl, hg, fun j s hj => by rw [Nat.zero_add]; exact hc j s hj⟩⟩
  · obtain rfl : l = [] := List.eq_nil_of_length_eq_zero (by omega)
    rcases h.own.2 with ⟨hv, _⟩ | ⟨g, cap, cur, hv, _⟩
    · exact ⟨none, 0, hv, .inl rfl⟩
    · exact ⟨_, cap, hv, .inl rfl⟩
theorem text_no {r t : ByteArray} (h : r.data.toList ≠ t.data.toList) : (r.toList == t.toList) = false := by
  rw [data_list, data_list]
  simpa using h
end Go.Proofs.Ytpholamobedkhaa
