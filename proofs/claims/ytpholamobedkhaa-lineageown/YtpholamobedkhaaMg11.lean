/- Texts laid together: TqJ. -/
import Derived.Test.YtpholamobedkhaaMg10
/- The program's Add. -/
namespace Go.Proofs.Ytpholamobedkhaa
open Go.RowKit

/-- A tracker whose row was written or moved, and its variable then. -/
theorem TkAt.put {B : Nat} {F F' : Nat → Prop} {u w4 : World} {g : Nat} {vl v' : Value} {fm : List Int} {ls L : List Lk} (h : TkAt B F u g vl fm ls) (hO : OwnD 27 3 B F' w4 v' (dLks (kn fm L))) (hg : u.grownBy w4 vl.ownBlock) (hv : v'.ownBlock = vl.ownBlock ∨ v'.ownBlock = some u.heap.size) (hb : ¬ F' g) (hlt : ∀ j, F' j → j < u.heap.size) :
    TkAt B F' (w4.setCell ⟨g, 0, none⟩ v') g v' fm L ∧ Kept g vl.ownBlock u (w4.setCell ⟨g, 0, none⟩ v') := by
  have hbu := lt_of_blk h.blk
  have hbv : v'.ownBlock ≠ some g := by
    rcases hv with e | e
    · rw [e]; exact h.gv
    · rw [e]; intro e2; cases e2; exact absurd hbu (Nat.lt_irrefl _)
  have hs : (w4.setCell ⟨g, 0, none⟩ v').heap.size = w4.heap.size := by simp [World.setCell]
  have hB4 : w4.heap[g]? = some (.cells #[vl] 68 (0, 0)) := (hg.block g hbu (fun e => h.gv e.symm)).trans h.blk
  have hne : ∀ j, j ≠ g → (w4.setCell ⟨g, 0, none⟩ v').heap[j]? = w4.heap[j]? := fun j hj => Below.heap_setCell _ _ _ _ hj
  have hne' : ∀ j, F' j → j ≠ g := fun j hj e => hb (e ▸ hj)
  refine ⟨⟨(blk_set hB4 0 v').trans (by simp), hO.keep (Nat.le_of_eq hs.symm) (fun j _ hj => hne j (hne' j hj)) (fun q hq => hne q (fun e => hbv (e ▸ hq))), by rw [hs]; exact Nat.le_trans h.le hg.size, hb, hbv, fun j hj => ?_⟩, ?_⟩
  · rw [hs]; exact Nat.lt_of_lt_of_le (hlt j hj) hg.size
  · exact ⟨hg.os, hg.tape, hg.output, by rw [hs]; exact hg.size, fun j hj hjb hjr => (hne j hjb).trans (hg.block j hj hjr)⟩
set_option maxRecDepth 100000 in
set_option maxHeartbeats 6400000 in
theorem laddK_any (B : Nat) (F : Nat → Prop) (g : Nat) (vl : Value) (fm : List Int) (hfm : rightC 0 fm = true) (ls : List Lk) (hls : chainE 0 fm [] ls = 0) (e : Int) (a : Option Addr) (n cap : Nat) (l : List Int) (hn : l.length = n) (hm : n ≤ maxLen) (bs : Option Addr) (m cp : Nat) (ss : List (Int × ByteArray)) (hsn : ss.length = m) (hsm : m ≤ maxLen) (w : World) (h : TkAt B F w g vl fm ls) (hI : IntsIn w a l) (hP : PairsIn w bs ss) :
    Calls Try.prog 25 #[.pointer (some ⟨g, 0, none⟩), .agg #[.int .i64 e, .slice a n cap, .slice bs m cp]] w fun r w' => r = .returned (.int .i64 (addE 0 fm ls (e, l, ss))) ∧ (addE 0 fm ls (e, l, ss) ≠ 0 → Below w.heap.size w w') ∧ (addE 0 fm ls (e, l, ss) = 0 → ∃ F' vl', TkAt B F' w' g vl' fm (ls ++ [(e, l, ss)]) ∧ Kept g vl.ownBlock w w' ∧ (∀ k, F' k → F k ∨ w.heap.size ≤ k) ∧ (vl'.ownBlock = vl.ownBlock ∨ ∃ q, vl'.ownBlock = some q ∧ w.heap.size ≤ q)) := by
  have hgd := good_of hls
  have hl := hgd.len
  obtain ⟨r, rc, rfl, hc, hmx, hr, hrg⟩ := h.form
  have HK := hid (fun u => lknows_any B F g (.slice (some ⟨r, 0, none⟩) (ls.length + 1) rc) fm ls u)
  have HEp := hid (fun u => lepochK_any B F g (.slice (some ⟨r, 0, none⟩) (ls.length + 1) rc) fm ls (by omega) u)
  obtain ⟨k, hk, ek1, ek2⟩ := kn_at fm ls ls.length (Nat.le_refl _)
  have hkl : k.2.1.length ≤ maxLen := by
    rw [ek2]
    exact lastM_len fm ls (by have := (mem_len (right_mem hfm).2).2; unfold maxLen; omega) (fun x hx => by have := (hgd.small x hx).1; unfold maxLen; omega)
  have HVa : Hid (∀ (u : World) (ad : Option Addr) (cc : Nat), IntsIn u ad k.2.1 → IntsIn u a l → PairsIn u bs ss → Calls Try.prog 10 #[.agg #[.int .i64 k.1, .slice ad k.2.1.length cc], .agg #[.int .i64 e, .slice a n cap, .slice bs m cp]] u fun r w' => r = .returned (.int .i64 (addE 0 fm ls (e, l, ss))) ∧ Below u.heap.size u w') := hid (fun u ad cc h1 h2 h3 => by
    have := lvalid_any k.1 ad _ cc k.2.1 rfl hkl e a n cap l hn hm bs m cp ss hsn hsm u h1 h2 h3
    rw [ek1] at this
    rw [addE, lastZ, lastM, ← ek2, ek1]
    exact this)
  have HAt : Hid (∀ u, TkAt B F u g (.slice (some ⟨r, 0, none⟩) (ls.length + 1) rc) fm ls → ∃ a1 c1, u.cell? ⟨r, ls.length * 3, none⟩ = some (.int .i64 k.1) ∧ u.cell? ⟨r, ls.length * 3 + 1, none⟩ = some (.slice a1 k.2.1.length c1) ∧ IntsIn u a1 k.2.1) := hid (fun u hu => by
    obtain ⟨g', off', cap', a1, c1, a2, c2, hv, hg, k0, k1, k2, hi1, hp1⟩ := lks_at hu.reads ls.length k hk
    cases hv
    rw [Nat.zero_add] at k0 k1
    exact ⟨a1, c1, k0, k1, hi1⟩)
  have HGd : Hid (addE 0 fm ls (e, l, ss) = 0 → n ≤ 10 ∧ m ≤ 16) := hid (fun h0 => by
    have hv := validE_ok h0
    exact ⟨by rw [← hn]; exact (mem_len (right_mem hv.2.1).2).2, by rw [← hsn]; exact hv.2.2.2⟩)
  have HD : Hid (∀ u : World, Below w.heap.size w u → IntsIn u a l ∧ PairsIn u bs ss) := hid (fun u hu => ⟨hI.keep hu (Nat.le_refl _), hP.keep hu (Nat.le_refl _)⟩)
  have hA : Below w.heap.size w (w.alloc (.cells #[.int .i64 e, .slice a n cap, .slice bs m cp] 27)) := (Below.refl _ _).alloc (Nat.le_refl _) _
  have H0 : Hid (TkAt B F (w.alloc (.cells #[.int .i64 e, .slice a n cap, .slice bs m cp] 27)) g (.slice (some ⟨r, 0, none⟩) (ls.length + 1) rc) fm ls ∧ LnAt (w.alloc (.cells #[.int .i64 e, .slice a n cap, .slice bs m cp] 27)) w.heap.size e (.slice a n cap) (.slice bs m cp) ∧ Below w.heap.size w (w.alloc (.cells #[.int .i64 e, .slice a n cap, .slice bs m cp] 27))) := hid ⟨h.keep hA, heap_alloc_last w _, hA⟩
  have HLn := hid (And.intro hn (And.intro hsn (And.intro hl (lt_of_blk h.blk))))
  have HM0 := hid h
  have hl2 : (ls.length : Int) ≤ 900 := by omega
  have hll : (ls.length : Int) < (ls.length : Int) + 1 := by omega
  have hl0 : (0 : Int) ≤ (ls.length : Int) := Int.natCast_nonneg _
  clear hI hP hn hm hsn hsm hA h hfm hls hl hgd hc hmx hr hrg hk ek1 ek2 hkl
  obtain ⟨E, eE⟩ : ∃ E, E = addE 0 fm ls (e, l, ss) := ⟨_, rfl⟩
  rw [← eE] at HVa HGd ⊢
  clear eE
  obtain ⟨W, eW⟩ : ∃ W, W = w.alloc (.cells #[.int .i64 e, .slice a n cap, .slice bs m cp] 27) := ⟨_, rfl⟩
  rw [← eW] at H0
  by_cases hE : E = 0
  · have hEb : (E != 0) = false := by simp [hE]
    obtain ⟨hn10, hm16⟩ := HGd.out hE
    have HE := hid (And.intro hE (And.intro hn10 hm16))
    clear hn10 hm16 hE
    go_enter Try.func25, Try.ntmps25
    go_wp2_with (go_at_call 37; refine (HK.out _ (by first | exact H0.out.1 | exact eW ▸ H0.out.1)).mono ?_; rintro q w1 ⟨rfl, hb1⟩; rw [← eW] at hb1; have H1 := hid (And.intro (H0.out.1.keep hb1) (And.intro (H0.out.2.1.keep hb1) (H0.out.2.2.trans (hb1.mono H0.out.2.2.size)))); clear hb1)
    clear eW
    have HS : Hid (Below w1.heap.size w1 w1.drew) := hid (Below.refl _ _).drew
    obtain ⟨a1, c1, x0, x1, hi1⟩ := HAt.out _ H1.out.1
    have HC : Hid (∀ u, Below w1.heap.size w1 u → (u.cell? ⟨r, ls.length * 3, none⟩ = some (.int .i64 k.1) ∧ u.cell? ⟨r, ls.length * 3 + 1, none⟩ = some (.slice a1 k.2.1.length c1) ∧ u.cell? ⟨g, 0, none⟩ = some (.slice (some ⟨r, 0, none⟩) (ls.length + 1) rc)) ∧ (u.cell? ⟨w.heap.size, 0, none⟩ = some (.int .i64 e) ∧ u.cell? ⟨w.heap.size, 1, none⟩ = some (.slice a n cap) ∧ u.cell? ⟨w.heap.size, 2, none⟩ = some (.slice bs m cp)) ∧ IntsIn u a1 k.2.1) := hid (fun u hu => ⟨⟨(hu.cell (p := ⟨r, _, none⟩) (World.block_lt_of_cell? _ _ x0)).trans x0, (hu.cell (p := ⟨r, _, none⟩) (World.block_lt_of_cell? _ _ x1)).trans x1, (hu.cell (p := ⟨g, 0, none⟩) (lt_of_blk H1.out.1.blk)).trans (cell_one H1.out.1.blk)⟩, (H1.out.2.1.keep hu).cells, hi1.keep hu (Nat.le_refl _)⟩)
    clear x0 x1 hi1
    refine wp_region_held (S := fun ww => Below w1.heap.size w1 ww) (by kernel_rfl) ?_
    try (change wpAnyH _ _ _ _ _ _ _ _ (World.drew _))
    refine wpAnyH_take (i := 0) (v := ?v1) rfl (by kernel_rfl) (by kernel_rfl) (by kernel_rfl) (fun _ _ _ h => h) (Or.inl ⟨by rfl, ?hy1⟩) HS.out ?rest1
    case hy1 => (intro ww _; go_simp; try with_reducible rfl)
    go_simp
    refine wpAnyH_take (i := 1) (v := ?v2) rfl (by kernel_rfl) (by kernel_rfl) (by kernel_rfl) (fun _ _ _ h => h) (Or.inl ⟨by rfl, ?hy2⟩) HS.out ?rest2
    case hy2 => (intro ww _; go_simp; try with_reducible rfl)
    go_simp
    refine wpAnyH_take (i := 2) (v := ?v3) rfl (by kernel_rfl) (by kernel_rfl) (by kernel_rfl) (fun _ _ _ h => h) (Or.inl ⟨by rfl, ?hy3⟩) HS.out ?rest3
    case hy3 => (intro ww _; go_simp; try with_reducible rfl)
    go_simp
    refine wpAnyH_take (i := 3) (v := ?v4) rfl (by kernel_rfl) (by kernel_rfl) (by kernel_rfl) (fun _ _ _ h => h) (Or.inl ⟨by rfl, ?hy4⟩) HS.out ?rest4
    case hy4 => (intro ww hS; obtain ⟨⟨y0, y1, y2⟩, ⟨y3, y4, y5⟩, _⟩ := HC.out ww hS; go_simp; try with_reducible rfl)
    go_simp
    refine wpAnyH_take (i := 4) (v := ?v5) rfl (by kernel_rfl) (by kernel_rfl) (by kernel_rfl) (fun _ _ _ h => h) (Or.inl ⟨by rfl, ?hy5⟩) HS.out ?rest5
    case hy5 => (intro ww _; go_simp; try with_reducible rfl)
    go_simp
    refine wpAnyH_take (i := 9) (v := ?v6) rfl (by kernel_rfl) (by kernel_rfl) (by kernel_rfl) (fun _ _ _ h => h) (Or.inl ⟨by rfl, ?hy6⟩) HS.out ?rest6
    case hy6 => (intro ww hS; obtain ⟨⟨y0, y1, y2⟩, ⟨y3, y4, y5⟩, _⟩ := HC.out ww hS; go_simp; try with_reducible rfl)
    go_simp
    refine wpAnyH_all (rs := [5]) (by kernel_rfl) (by simp) ?_
    intro i hi
    obtain rfl := List.mem_singleton.1 hi
    clear hi
    refine wpOp_k rfl (by rfl) (fun K hK => ?_)
    go_simp
    refine (HEp.out _ (H1.out.1.keep HS.out)).mono ?_
    rintro q w2 ⟨rfl, hb2⟩
    have HSn := hid (HS.out.trans (hb2.mono HS.out.size))
    clear hb2 HS
    have HS := HSn
    clear HSn
    refine hK _ _ ⟨HS.out, ?_⟩
    clear hK K
    go_simp
    refine wpAnyH_take (i := 6) (v := ?v7) rfl (by kernel_rfl) (by kernel_rfl) (by kernel_rfl) (fun _ _ _ h => h) (Or.inl ⟨by rfl, ?hy7⟩) HS.out ?rest7
    case hy7 => (intro ww _; go_simp; try with_reducible rfl)
    go_simp
    refine wpAnyH_take (i := 7) (v := ?v8) rfl (by kernel_rfl) (by kernel_rfl) (by kernel_rfl) (fun _ _ _ h => h) (Or.inl ⟨by rfl, ?hy8⟩) HS.out ?rest8
    case hy8 => (intro ww _; go_simp; try with_reducible rfl)
    go_simp
    refine wpAnyH_take (i := 8) (v := ?v9) rfl (by kernel_rfl) (by kernel_rfl) (by kernel_rfl) (fun _ _ _ h => h) (Or.inl ⟨by rfl, ?hy9⟩) HS.out ?rest9
    case hy9 => (intro ww hS; obtain ⟨⟨y0, y1, y2⟩, ⟨y3, y4, y5⟩, _⟩ := HC.out ww hS; go_simp; try with_reducible rfl)
    go_simp
    refine wpAnyH_all (rs := [10]) (by kernel_rfl) (by simp) ?_
    intro i hi
    obtain rfl := List.mem_singleton.1 hi
    clear hi
    refine wpOp_k rfl (by rfl) (fun K hK => ?_)
    go_simp
    refine (HVa.out _ _ _ (HC.out _ HS.out).2.2 (HD.out _ (H1.out.2.2.trans (HS.out.mono H1.out.2.2.size))).1 (HD.out _ (H1.out.2.2.trans (HS.out.mono H1.out.2.2.size))).2).mono ?_
    rintro q w3 ⟨rfl, hb3⟩
    have HSn := hid (HS.out.trans (hb3.mono HS.out.size))
    clear hb3 HS
    have HS := HSn
    clear HSn
    refine hK _ _ ⟨HS.out, ?_⟩
    clear hK K
    go_simp
    refine wpAnyH_take (i := 11) (v := ?v10) rfl (by kernel_rfl) (by kernel_rfl) (by kernel_rfl) (fun _ _ _ h => h) (Or.inl ⟨by rfl, ?hy10⟩) HS.out ?rest10
    case hy10 => (intro ww _; go_simp; try with_reducible rfl)
    go_simp
    refine wpAnyH_done (by kernel_rfl) ?_ _
    go_simp
    go_wp2
    have H2 : Hid (TkAt B F w3 g (.slice (some ⟨r, 0, none⟩) (ls.length + 1) rc) fm ls ∧ LnAt w3 w.heap.size e (.slice a n cap) (.slice bs m cp) ∧ Below w.heap.size w w3) := hid ⟨H1.out.1.keep HS.out, H1.out.2.1.keep HS.out, H1.out.2.2.trans (HS.out.mono H1.out.2.2.size)⟩
    clear HS HC
    have H2d : Hid (TkAt B F w3.drew g (.slice (some ⟨r, 0, none⟩) (ls.length + 1) rc) fm ls ∧ LnAt w3.drew w.heap.size e (.slice a n cap) (.slice bs m cp) ∧ Below w.heap.size w w3.drew) := hid ⟨H2.out.1.keep (Below.refl _ _).drew, H2.out.2.1, H2.out.2.2.drew⟩
    have HS : Hid (LnAt w3.drew w.heap.size e (.slice a n cap) (.slice bs m cp)) := hid H2d.out.2.1
    refine wp_region_held (S := fun ww => LnAt ww w.heap.size e (.slice a n cap) (.slice bs m cp)) (by kernel_rfl) ?_
    try (change wpAnyH _ _ _ _ _ _ _ _ (World.drew _))
    refine wpAnyH_take (i := 0) (v := ?v11) rfl (by kernel_rfl) (by kernel_rfl) (by kernel_rfl) (fun _ _ _ h => h) (Or.inl ⟨by rfl, ?hy11⟩) HS.out ?rest11
    case hy11 => (intro ww _; go_simp; try with_reducible rfl)
    go_simp
    refine wpAnyH_take (i := 1) (v := ?v12) rfl (by kernel_rfl) (by kernel_rfl) (by kernel_rfl) (fun _ _ _ h => h) (Or.inl ⟨by rfl, ?hy12⟩) HS.out ?rest12
    case hy12 => (intro ww _; go_simp; try with_reducible rfl)
    go_simp
    refine wpAnyH_take (i := 2) (v := ?v13) rfl (by kernel_rfl) (by kernel_rfl) (by kernel_rfl) (fun _ _ _ h => h) (Or.inl ⟨by rfl, ?hy13⟩) HS.out ?rest13
    case hy13 => (intro ww _; go_simp; try with_reducible rfl)
    go_simp
    refine wpAnyH_take (i := 3) (v := ?v14) rfl (by kernel_rfl) (by kernel_rfl) (by kernel_rfl) (fun _ _ _ h => h) (Or.inl ⟨by rfl, ?hy14⟩) HS.out ?rest14
    case hy14 => (intro ww _; go_simp; try with_reducible rfl)
    go_simp
    refine wpAnyH_take (i := 5) (v := ?v15) rfl (by kernel_rfl) (by kernel_rfl) (by kernel_rfl) (fun _ _ _ h => h) (Or.inl ⟨by rfl, ?hy15⟩) HS.out ?rest15
    case hy15 => (intro ww hS; obtain ⟨y0, y1, y2⟩ := hS.cells; go_simp; try with_reducible rfl)
    go_simp
    refine wpAnyH_all (rs := [4, 6]) (by kernel_rfl) (by simp) ?_
    intro i hi
    rcases List.mem_cons.1 hi with rfl | hi
    · clear hi
      refine wpOp_k rfl (by rfl) (fun K hK => ?_)
      have q2 := cell_one H2d.out.1.blk
      go_simp
      refine hK _ _ ⟨H2d.out.2.1, ?_⟩
      clear hK K q2
      go_simp
      refine wpAnyH_all (rs := [6]) (by kernel_rfl) (by simp) ?_
      intro i hi
      obtain rfl := List.mem_singleton.1 hi
      clear hi
      refine wpOp_k rfl (by rfl) (fun K hK => ?_)
      go_simp
      refine (lcopyLink_any e a n cap l HLn.out.1 (by have := HE.out.2.1; omega) bs m cp ss HLn.out.2.1 (by have := HE.out.2.2; omega) _ (HD.out _ H2d.out.2.2).1 (HD.out _ H2d.out.2.2).2).mono ?_
      rintro q w4 ⟨b1, d1, b2, d2, rfl, hN1, hN2, hb4⟩
      have H4 : Hid (TkAt B F w4 g (.slice (some ⟨r, 0, none⟩) (ls.length + 1) rc) fm ls ∧ LnAt w4 w.heap.size e (.slice a n cap) (.slice bs m cp) ∧ Below w.heap.size w w4 ∧ NewI (w.heap.size + 1) w4 b1 l ∧ NewT (w.heap.size + 1) w4 b2 ss) := hid ⟨H2d.out.1.keep hb4, H2d.out.2.1.keep hb4, H2d.out.2.2.trans (hb4.mono H2d.out.2.2.size), hN1.low (lt_of_blk H2d.out.2.1), hN2.low (lt_of_blk H2d.out.2.1)⟩
      clear hN1 hN2 hb4
      refine hK _ _ ⟨H4.out.2.1, ?_⟩
      clear hK K
      go_simp
      refine wpAnyH_all (rs := [7]) (by kernel_rfl) (by simp) ?_
      intro i hi
      obtain rfl := List.mem_singleton.1 hi
      clear hi
      refine wpOp_k rfl (by rfl) (fun K hK => ?_)
      go_simp
      have hb5 := (Below.refl w4.heap.size w4).alloc (Nat.le_refl _) (.cells #[.int .i64 e, .slice b1 n d1, .slice b2 m d2] 27)
      have H5 : Hid (TkAt B F (w4.alloc (.cells #[.int .i64 e, .slice b1 n d1, .slice b2 m d2] 27)) g (.slice (some ⟨r, 0, none⟩) (ls.length + 1) rc) fm ls ∧ LnAt (w4.alloc (.cells #[.int .i64 e, .slice b1 n d1, .slice b2 m d2] 27)) w.heap.size e (.slice a n cap) (.slice bs m cp) ∧ Below w.heap.size w (w4.alloc (.cells #[.int .i64 e, .slice b1 n d1, .slice b2 m d2] 27)) ∧ LnAt (w4.alloc (.cells #[.int .i64 e, .slice b1 n d1, .slice b2 m d2] 27)) w4.heap.size e (.slice b1 n d1) (.slice b2 m d2)) := hid ⟨H4.out.1.keep hb5, H4.out.2.1.keep hb5, H4.out.2.2.1.trans (hb5.mono H4.out.2.2.1.size), heap_alloc_last w4 _⟩
      have HU : Hid (Reads (fun j => F j ∨ (w.heap.size < j ∧ j < w4.heap.size)) (w4.alloc (.cells #[.int .i64 e, .slice b1 n d1, .slice b2 m d2] 27)) (.slice b1 n d1) (dInts l) ∧ Reads (fun j => F j ∨ (w.heap.size < j ∧ j < w4.heap.size)) (w4.alloc (.cells #[.int .i64 e, .slice b1 n d1, .slice b2 m d2] 27)) (.slice b2 m d2) (dPairs ss) ∧ (∀ j, (Value.slice (some ⟨r, 0, none⟩) (ls.length + 1) rc).ownBlock = some j → ¬ (fun j => F j ∨ (w.heap.size < j ∧ j < w4.heap.size)) j) ∧ (∀ j, (fun j => F j ∨ (w.heap.size < j ∧ j < w4.heap.size)) j → j < (w4.alloc (.cells #[.int .i64 e, .slice b1 n d1, .slice b2 m d2] 27)).heap.size)) := hid (by
        refine ⟨?_, ?_, ?_, ?_⟩
        · have := ints_reads (F := (fun j => F j ∨ (w.heap.size < j ∧ j < w4.heap.size))) (cap := d1) (H4.out.2.2.2.1.keep hb5).ints (fun x hx hne => .inr ⟨(H4.out.2.2.2.1.far x hx).1, (H4.out.2.2.2.1.far x hx).2.lt⟩)
          rw [HLn.out.1] at this; exact this
        · have := pairs_reads (F := (fun j => F j ∨ (w.heap.size < j ∧ j < w4.heap.size))) (cap := d2) (H4.out.2.2.2.2.keep hb5).pairs (fun x hx hne => .inr ⟨(H4.out.2.2.2.2.far x hx).1, (H4.out.2.2.2.2.far x hx).2.lt⟩)
          rw [HLn.out.2.1] at this; exact this
        · rintro j hj (hq | hq)
          · exact H5.out.1.own.sep j hj hq
          · have := (HM0.out.own.lt j hj).2; omega
        · rintro j (hq | hq)
          · exact H5.out.1.flt j hq
          · simp; omega)
      clear hb5
      refine hK _ _ ⟨H5.out.2.1, ?_⟩
      clear hK K
      go_simp
      refine wpAnyH_all (rs := [8]) (by kernel_rfl) (by simp) ?_
      intro i hi
      obtain rfl := List.mem_singleton.1 hi
      clear hi
      refine wpOp_k rfl (by rfl) (fun K hK => ?_)
      refine owp_add_link (.tmp 26) (.tmp 29) rfl B F (fun j => F j ∨ (w.heap.size < j ∧ j < w4.heap.size)) (.slice (some ⟨r, 0, none⟩) (ls.length + 1) rc) (kn fm ls) (by rfl) H5.out.1.own H5.out.1.le w4.heap.size (by rfl) (e, l, ss) (.slice b1 n d1) (.slice b2 m d2) H5.out.2.2.2.cells.1 H5.out.2.2.2.cells.2.1 H5.out.2.2.2.cells.2.2 rfl rfl HU.out.1 HU.out.2.1 (fun j _ => .inl) HU.out.2.2.1 HU.out.2.2.2 (by have := HLn.out.2.2.1; rw [kn_len]; omega) ?_
      intro v6 w6 H6
      have HA := hid (TkAt.put (L := ls ++ [(e, l, ss)]) H5.out.1 H6.out.1 H6.out.2.1 H6.out.2.2 (by rintro (hq | hq); exact H5.out.1.gF hq; have := HLn.out.2.2.2; omega) HU.out.2.2.2)
      have H6s : Hid (LnAt w6 w.heap.size e (.slice a n cap) (.slice bs m cp) ∧ w6.heap[g]? = some (.cells #[.slice (some ⟨r, 0, none⟩) (ls.length + 1) rc] 68 (0, 0))) := hid ⟨(H6.out.2.1.block _ (lt_of_blk H5.out.2.1) (fun he => by have := (HM0.out.own.lt _ he.symm).2; omega)).trans H5.out.2.1, (H6.out.2.1.block _ (lt_of_blk H5.out.1.blk) (fun he => H5.out.1.gv he.symm)).trans H5.out.1.blk⟩
      obtain ⟨a6, c6, hv6⟩ := H6.out.1.form
      subst hv6
      refine hK _ _ ⟨H6s.out.1, ?_⟩
      clear hK K
      go_simp
      refine wpAnyH_take (i := 9) (v := ?v16) rfl (by kernel_rfl) (by kernel_rfl) (by kernel_rfl) (fun _ _ _ h => h) (Or.inl ⟨by rfl, ?hy16⟩) H6s.out.1 ?rest16
      case hy16 => (intro ww _; go_simp; try with_reducible rfl)
      go_simp
      refine wpAnyH_take (i := 10) (v := ?v17) rfl (by kernel_rfl) (by kernel_rfl) (by kernel_rfl) (fun _ _ _ h => h) (Or.inl ⟨by rfl, ?hy17⟩) H6s.out.1 ?rest17
      case hy17 => (intro ww _; go_simp; try with_reducible rfl)
      go_simp
      refine wpAnyH_all (rs := [11]) (by kernel_rfl) (by simp) ?_
      intro i hi
      obtain rfl := List.mem_singleton.1 hi
      clear hi
      refine wpOp_k rfl (by rfl) (fun K hK => ?_)
      have r2 := cell_one H6s.out.2
      have f2 := free_at H6s.out.2 0
      go_simp
      refine hK _ _ ⟨(Below.heap_setCell _ _ _ _ (by have := HLn.out.2.2.2; simp; omega)).trans H6s.out.1, ?_⟩
      clear hK K r2 f2
      go_simp
      refine wpAnyH_done (by kernel_rfl) ?_ _
      go_simp
      go_wp2
      go_ret
      refine ⟨by rw [HE.out.1]; rfl, fun hq => absurd HE.out.1 hq, fun _ => ⟨_, _, HA.out.1, ?_, ?_, ?_⟩⟩
      · exact Kept.trans (kept_of_below H5.out.2.2.1) HA.out.2 (.inl rfl)
      · rintro k (hk | hk)
        · exact .inl hk
        · exact .inr (Nat.le_of_lt hk.1)
      · rcases H6.out.2.2 with he | he
        · exact .inl he
        · exact .inr ⟨_, he, H5.out.2.2.1.size⟩
    · skip
      obtain rfl := List.mem_singleton.1 hi
      clear hi
      refine wpOp_k rfl (by rfl) (fun K hK => ?_)
      go_simp
      refine (lcopyLink_any e a n cap l HLn.out.1 (by have := HE.out.2.1; omega) bs m cp ss HLn.out.2.1 (by have := HE.out.2.2; omega) _ (HD.out _ H2d.out.2.2).1 (HD.out _ H2d.out.2.2).2).mono ?_
      rintro q w4 ⟨b1, d1, b2, d2, rfl, hN1, hN2, hb4⟩
      have H4 : Hid (TkAt B F w4 g (.slice (some ⟨r, 0, none⟩) (ls.length + 1) rc) fm ls ∧ LnAt w4 w.heap.size e (.slice a n cap) (.slice bs m cp) ∧ Below w.heap.size w w4 ∧ NewI (w.heap.size + 1) w4 b1 l ∧ NewT (w.heap.size + 1) w4 b2 ss) := hid ⟨H2d.out.1.keep hb4, H2d.out.2.1.keep hb4, H2d.out.2.2.trans (hb4.mono H2d.out.2.2.size), hN1.low (lt_of_blk H2d.out.2.1), hN2.low (lt_of_blk H2d.out.2.1)⟩
      clear hN1 hN2 hb4
      refine hK _ _ ⟨H4.out.2.1, ?_⟩
      clear hK K
      go_simp
      refine wpAnyH_all (rs := [4, 7]) (by kernel_rfl) (by simp) ?_
      intro i hi
      rcases List.mem_cons.1 hi with rfl | hi
      · clear hi
        refine wpOp_k rfl (by rfl) (fun K hK => ?_)
        have q2 := cell_one H4.out.1.blk
        go_simp
        refine hK _ _ ⟨H4.out.2.1, ?_⟩
        clear hK K q2
        go_simp
        refine wpAnyH_all (rs := [7]) (by kernel_rfl) (by simp) ?_
        intro i hi
        obtain rfl := List.mem_singleton.1 hi
        clear hi
        refine wpOp_k rfl (by rfl) (fun K hK => ?_)
        go_simp
        have hb5 := (Below.refl w4.heap.size w4).alloc (Nat.le_refl _) (.cells #[.int .i64 e, .slice b1 n d1, .slice b2 m d2] 27)
        have H5 : Hid (TkAt B F (w4.alloc (.cells #[.int .i64 e, .slice b1 n d1, .slice b2 m d2] 27)) g (.slice (some ⟨r, 0, none⟩) (ls.length + 1) rc) fm ls ∧ LnAt (w4.alloc (.cells #[.int .i64 e, .slice b1 n d1, .slice b2 m d2] 27)) w.heap.size e (.slice a n cap) (.slice bs m cp) ∧ Below w.heap.size w (w4.alloc (.cells #[.int .i64 e, .slice b1 n d1, .slice b2 m d2] 27)) ∧ LnAt (w4.alloc (.cells #[.int .i64 e, .slice b1 n d1, .slice b2 m d2] 27)) w4.heap.size e (.slice b1 n d1) (.slice b2 m d2)) := hid ⟨H4.out.1.keep hb5, H4.out.2.1.keep hb5, H4.out.2.2.1.trans (hb5.mono H4.out.2.2.1.size), heap_alloc_last w4 _⟩
        have HU : Hid (Reads (fun j => F j ∨ (w.heap.size < j ∧ j < w4.heap.size)) (w4.alloc (.cells #[.int .i64 e, .slice b1 n d1, .slice b2 m d2] 27)) (.slice b1 n d1) (dInts l) ∧ Reads (fun j => F j ∨ (w.heap.size < j ∧ j < w4.heap.size)) (w4.alloc (.cells #[.int .i64 e, .slice b1 n d1, .slice b2 m d2] 27)) (.slice b2 m d2) (dPairs ss) ∧ (∀ j, (Value.slice (some ⟨r, 0, none⟩) (ls.length + 1) rc).ownBlock = some j → ¬ (fun j => F j ∨ (w.heap.size < j ∧ j < w4.heap.size)) j) ∧ (∀ j, (fun j => F j ∨ (w.heap.size < j ∧ j < w4.heap.size)) j → j < (w4.alloc (.cells #[.int .i64 e, .slice b1 n d1, .slice b2 m d2] 27)).heap.size)) := hid (by
          refine ⟨?_, ?_, ?_, ?_⟩
          · have := ints_reads (F := (fun j => F j ∨ (w.heap.size < j ∧ j < w4.heap.size))) (cap := d1) (H4.out.2.2.2.1.keep hb5).ints (fun x hx hne => .inr ⟨(H4.out.2.2.2.1.far x hx).1, (H4.out.2.2.2.1.far x hx).2.lt⟩)
            rw [HLn.out.1] at this; exact this
          · have := pairs_reads (F := (fun j => F j ∨ (w.heap.size < j ∧ j < w4.heap.size))) (cap := d2) (H4.out.2.2.2.2.keep hb5).pairs (fun x hx hne => .inr ⟨(H4.out.2.2.2.2.far x hx).1, (H4.out.2.2.2.2.far x hx).2.lt⟩)
            rw [HLn.out.2.1] at this; exact this
          · rintro j hj (hq | hq)
            · exact H5.out.1.own.sep j hj hq
            · have := (HM0.out.own.lt j hj).2; omega
          · rintro j (hq | hq)
            · exact H5.out.1.flt j hq
            · simp; omega)
        clear hb5
        refine hK _ _ ⟨H5.out.2.1, ?_⟩
        clear hK K
        go_simp
        refine wpAnyH_all (rs := [8]) (by kernel_rfl) (by simp) ?_
        intro i hi
        obtain rfl := List.mem_singleton.1 hi
        clear hi
        refine wpOp_k rfl (by rfl) (fun K hK => ?_)
        refine owp_add_link (.tmp 26) (.tmp 29) rfl B F (fun j => F j ∨ (w.heap.size < j ∧ j < w4.heap.size)) (.slice (some ⟨r, 0, none⟩) (ls.length + 1) rc) (kn fm ls) (by rfl) H5.out.1.own H5.out.1.le w4.heap.size (by rfl) (e, l, ss) (.slice b1 n d1) (.slice b2 m d2) H5.out.2.2.2.cells.1 H5.out.2.2.2.cells.2.1 H5.out.2.2.2.cells.2.2 rfl rfl HU.out.1 HU.out.2.1 (fun j _ => .inl) HU.out.2.2.1 HU.out.2.2.2 (by have := HLn.out.2.2.1; rw [kn_len]; omega) ?_
        intro v6 w6 H6
        have HA := hid (TkAt.put (L := ls ++ [(e, l, ss)]) H5.out.1 H6.out.1 H6.out.2.1 H6.out.2.2 (by rintro (hq | hq); exact H5.out.1.gF hq; have := HLn.out.2.2.2; omega) HU.out.2.2.2)
        have H6s : Hid (LnAt w6 w.heap.size e (.slice a n cap) (.slice bs m cp) ∧ w6.heap[g]? = some (.cells #[.slice (some ⟨r, 0, none⟩) (ls.length + 1) rc] 68 (0, 0))) := hid ⟨(H6.out.2.1.block _ (lt_of_blk H5.out.2.1) (fun he => by have := (HM0.out.own.lt _ he.symm).2; omega)).trans H5.out.2.1, (H6.out.2.1.block _ (lt_of_blk H5.out.1.blk) (fun he => H5.out.1.gv he.symm)).trans H5.out.1.blk⟩
        obtain ⟨a6, c6, hv6⟩ := H6.out.1.form
        subst hv6
        refine hK _ _ ⟨H6s.out.1, ?_⟩
        clear hK K
        go_simp
        refine wpAnyH_take (i := 9) (v := ?v18) rfl (by kernel_rfl) (by kernel_rfl) (by kernel_rfl) (fun _ _ _ h => h) (Or.inl ⟨by rfl, ?hy18⟩) H6s.out.1 ?rest18
        case hy18 => (intro ww _; go_simp; try with_reducible rfl)
        go_simp
        refine wpAnyH_take (i := 10) (v := ?v19) rfl (by kernel_rfl) (by kernel_rfl) (by kernel_rfl) (fun _ _ _ h => h) (Or.inl ⟨by rfl, ?hy19⟩) H6s.out.1 ?rest19
        case hy19 => (intro ww _; go_simp; try with_reducible rfl)
        go_simp
        refine wpAnyH_all (rs := [11]) (by kernel_rfl) (by simp) ?_
        intro i hi
        obtain rfl := List.mem_singleton.1 hi
        clear hi
        refine wpOp_k rfl (by rfl) (fun K hK => ?_)
        have r2 := cell_one H6s.out.2
        have f2 := free_at H6s.out.2 0
        go_simp
        refine hK _ _ ⟨(Below.heap_setCell _ _ _ _ (by have := HLn.out.2.2.2; simp; omega)).trans H6s.out.1, ?_⟩
        clear hK K r2 f2
        go_simp
        refine wpAnyH_done (by kernel_rfl) ?_ _
        go_simp
        go_wp2
        go_ret
        refine ⟨by rw [HE.out.1]; rfl, fun hq => absurd HE.out.1 hq, fun _ => ⟨_, _, HA.out.1, ?_, ?_, ?_⟩⟩
        · exact Kept.trans (kept_of_below H5.out.2.2.1) HA.out.2 (.inl rfl)
        · rintro k (hk | hk)
          · exact .inl hk
          · exact .inr (Nat.le_of_lt hk.1)
        · rcases H6.out.2.2 with he | he
          · exact .inl he
          · exact .inr ⟨_, he, H5.out.2.2.1.size⟩
      · skip
        obtain rfl := List.mem_singleton.1 hi
        clear hi
        refine wpOp_k rfl (by rfl) (fun K hK => ?_)
        go_simp
        have hb5 := (Below.refl w4.heap.size w4).alloc (Nat.le_refl _) (.cells #[.int .i64 e, .slice b1 n d1, .slice b2 m d2] 27)
        have H5 : Hid (TkAt B F (w4.alloc (.cells #[.int .i64 e, .slice b1 n d1, .slice b2 m d2] 27)) g (.slice (some ⟨r, 0, none⟩) (ls.length + 1) rc) fm ls ∧ LnAt (w4.alloc (.cells #[.int .i64 e, .slice b1 n d1, .slice b2 m d2] 27)) w.heap.size e (.slice a n cap) (.slice bs m cp) ∧ Below w.heap.size w (w4.alloc (.cells #[.int .i64 e, .slice b1 n d1, .slice b2 m d2] 27)) ∧ LnAt (w4.alloc (.cells #[.int .i64 e, .slice b1 n d1, .slice b2 m d2] 27)) w4.heap.size e (.slice b1 n d1) (.slice b2 m d2)) := hid ⟨H4.out.1.keep hb5, H4.out.2.1.keep hb5, H4.out.2.2.1.trans (hb5.mono H4.out.2.2.1.size), heap_alloc_last w4 _⟩
        have HU : Hid (Reads (fun j => F j ∨ (w.heap.size < j ∧ j < w4.heap.size)) (w4.alloc (.cells #[.int .i64 e, .slice b1 n d1, .slice b2 m d2] 27)) (.slice b1 n d1) (dInts l) ∧ Reads (fun j => F j ∨ (w.heap.size < j ∧ j < w4.heap.size)) (w4.alloc (.cells #[.int .i64 e, .slice b1 n d1, .slice b2 m d2] 27)) (.slice b2 m d2) (dPairs ss) ∧ (∀ j, (Value.slice (some ⟨r, 0, none⟩) (ls.length + 1) rc).ownBlock = some j → ¬ (fun j => F j ∨ (w.heap.size < j ∧ j < w4.heap.size)) j) ∧ (∀ j, (fun j => F j ∨ (w.heap.size < j ∧ j < w4.heap.size)) j → j < (w4.alloc (.cells #[.int .i64 e, .slice b1 n d1, .slice b2 m d2] 27)).heap.size)) := hid (by
          refine ⟨?_, ?_, ?_, ?_⟩
          · have := ints_reads (F := (fun j => F j ∨ (w.heap.size < j ∧ j < w4.heap.size))) (cap := d1) (H4.out.2.2.2.1.keep hb5).ints (fun x hx hne => .inr ⟨(H4.out.2.2.2.1.far x hx).1, (H4.out.2.2.2.1.far x hx).2.lt⟩)
            rw [HLn.out.1] at this; exact this
          · have := pairs_reads (F := (fun j => F j ∨ (w.heap.size < j ∧ j < w4.heap.size))) (cap := d2) (H4.out.2.2.2.2.keep hb5).pairs (fun x hx hne => .inr ⟨(H4.out.2.2.2.2.far x hx).1, (H4.out.2.2.2.2.far x hx).2.lt⟩)
            rw [HLn.out.2.1] at this; exact this
          · rintro j hj (hq | hq)
            · exact H5.out.1.own.sep j hj hq
            · have := (HM0.out.own.lt j hj).2; omega
          · rintro j (hq | hq)
            · exact H5.out.1.flt j hq
            · simp; omega)
        clear hb5
        refine hK _ _ ⟨H5.out.2.1, ?_⟩
        clear hK K
        go_simp
        refine wpAnyH_all (rs := [4]) (by kernel_rfl) (by simp) ?_
        intro i hi
        obtain rfl := List.mem_singleton.1 hi
        clear hi
        refine wpOp_k rfl (by rfl) (fun K hK => ?_)
        have q2 := cell_one H5.out.1.blk
        go_simp
        refine hK _ _ ⟨H5.out.2.1, ?_⟩
        clear hK K q2
        go_simp
        refine wpAnyH_all (rs := [8]) (by kernel_rfl) (by simp) ?_
        intro i hi
        obtain rfl := List.mem_singleton.1 hi
        clear hi
        refine wpOp_k rfl (by rfl) (fun K hK => ?_)
        refine owp_add_link (.tmp 26) (.tmp 29) rfl B F (fun j => F j ∨ (w.heap.size < j ∧ j < w4.heap.size)) (.slice (some ⟨r, 0, none⟩) (ls.length + 1) rc) (kn fm ls) (by rfl) H5.out.1.own H5.out.1.le w4.heap.size (by rfl) (e, l, ss) (.slice b1 n d1) (.slice b2 m d2) H5.out.2.2.2.cells.1 H5.out.2.2.2.cells.2.1 H5.out.2.2.2.cells.2.2 rfl rfl HU.out.1 HU.out.2.1 (fun j _ => .inl) HU.out.2.2.1 HU.out.2.2.2 (by have := HLn.out.2.2.1; rw [kn_len]; omega) ?_
        intro v6 w6 H6
        have HA := hid (TkAt.put (L := ls ++ [(e, l, ss)]) H5.out.1 H6.out.1 H6.out.2.1 H6.out.2.2 (by rintro (hq | hq); exact H5.out.1.gF hq; have := HLn.out.2.2.2; omega) HU.out.2.2.2)
        have H6s : Hid (LnAt w6 w.heap.size e (.slice a n cap) (.slice bs m cp) ∧ w6.heap[g]? = some (.cells #[.slice (some ⟨r, 0, none⟩) (ls.length + 1) rc] 68 (0, 0))) := hid ⟨(H6.out.2.1.block _ (lt_of_blk H5.out.2.1) (fun he => by have := (HM0.out.own.lt _ he.symm).2; omega)).trans H5.out.2.1, (H6.out.2.1.block _ (lt_of_blk H5.out.1.blk) (fun he => H5.out.1.gv he.symm)).trans H5.out.1.blk⟩
        obtain ⟨a6, c6, hv6⟩ := H6.out.1.form
        subst hv6
        refine hK _ _ ⟨H6s.out.1, ?_⟩
        clear hK K
        go_simp
        refine wpAnyH_take (i := 9) (v := ?v20) rfl (by kernel_rfl) (by kernel_rfl) (by kernel_rfl) (fun _ _ _ h => h) (Or.inl ⟨by rfl, ?hy20⟩) H6s.out.1 ?rest20
        case hy20 => (intro ww _; go_simp; try with_reducible rfl)
        go_simp
        refine wpAnyH_take (i := 10) (v := ?v21) rfl (by kernel_rfl) (by kernel_rfl) (by kernel_rfl) (fun _ _ _ h => h) (Or.inl ⟨by rfl, ?hy21⟩) H6s.out.1 ?rest21
        case hy21 => (intro ww _; go_simp; try with_reducible rfl)
        go_simp
        refine wpAnyH_all (rs := [11]) (by kernel_rfl) (by simp) ?_
        intro i hi
        obtain rfl := List.mem_singleton.1 hi
        clear hi
        refine wpOp_k rfl (by rfl) (fun K hK => ?_)
        have r2 := cell_one H6s.out.2
        have f2 := free_at H6s.out.2 0
        go_simp
        refine hK _ _ ⟨(Below.heap_setCell _ _ _ _ (by have := HLn.out.2.2.2; simp; omega)).trans H6s.out.1, ?_⟩
        clear hK K r2 f2
        go_simp
        refine wpAnyH_done (by kernel_rfl) ?_ _
        go_simp
        go_wp2
        go_ret
        refine ⟨by rw [HE.out.1]; rfl, fun hq => absurd HE.out.1 hq, fun _ => ⟨_, _, HA.out.1, ?_, ?_, ?_⟩⟩
        · exact Kept.trans (kept_of_below H5.out.2.2.1) HA.out.2 (.inl rfl)
        · rintro k (hk | hk)
          · exact .inl hk
          · exact .inr (Nat.le_of_lt hk.1)
        · rcases H6.out.2.2 with he | he
          · exact .inl he
          · exact .inr ⟨_, he, H5.out.2.2.1.size⟩
  · have hEb : (E != 0) = true := by simpa using hE
    have HE := hid hE
    clear hE
    go_enter Try.func25, Try.ntmps25
    go_wp2_with (go_at_call 37; refine (HK.out _ (by first | exact H0.out.1 | exact eW ▸ H0.out.1)).mono ?_; rintro q w1 ⟨rfl, hb1⟩; rw [← eW] at hb1; have H1 := hid (And.intro (H0.out.1.keep hb1) (And.intro (H0.out.2.1.keep hb1) (H0.out.2.2.trans (hb1.mono H0.out.2.2.size)))); clear hb1)
    clear eW
    have HS : Hid (Below w1.heap.size w1 w1.drew) := hid (Below.refl _ _).drew
    obtain ⟨a1, c1, x0, x1, hi1⟩ := HAt.out _ H1.out.1
    have HC : Hid (∀ u, Below w1.heap.size w1 u → (u.cell? ⟨r, ls.length * 3, none⟩ = some (.int .i64 k.1) ∧ u.cell? ⟨r, ls.length * 3 + 1, none⟩ = some (.slice a1 k.2.1.length c1) ∧ u.cell? ⟨g, 0, none⟩ = some (.slice (some ⟨r, 0, none⟩) (ls.length + 1) rc)) ∧ (u.cell? ⟨w.heap.size, 0, none⟩ = some (.int .i64 e) ∧ u.cell? ⟨w.heap.size, 1, none⟩ = some (.slice a n cap) ∧ u.cell? ⟨w.heap.size, 2, none⟩ = some (.slice bs m cp)) ∧ IntsIn u a1 k.2.1) := hid (fun u hu => ⟨⟨(hu.cell (p := ⟨r, _, none⟩) (World.block_lt_of_cell? _ _ x0)).trans x0, (hu.cell (p := ⟨r, _, none⟩) (World.block_lt_of_cell? _ _ x1)).trans x1, (hu.cell (p := ⟨g, 0, none⟩) (lt_of_blk H1.out.1.blk)).trans (cell_one H1.out.1.blk)⟩, (H1.out.2.1.keep hu).cells, hi1.keep hu (Nat.le_refl _)⟩)
    clear x0 x1 hi1
    refine wp_region_held (S := fun ww => Below w1.heap.size w1 ww) (by kernel_rfl) ?_
    try (change wpAnyH _ _ _ _ _ _ _ _ (World.drew _))
    refine wpAnyH_take (i := 0) (v := ?v27) rfl (by kernel_rfl) (by kernel_rfl) (by kernel_rfl) (fun _ _ _ h => h) (Or.inl ⟨by rfl, ?hy27⟩) HS.out ?rest27
    case hy27 => (intro ww _; go_simp; try with_reducible rfl)
    go_simp
    refine wpAnyH_take (i := 1) (v := ?v28) rfl (by kernel_rfl) (by kernel_rfl) (by kernel_rfl) (fun _ _ _ h => h) (Or.inl ⟨by rfl, ?hy28⟩) HS.out ?rest28
    case hy28 => (intro ww _; go_simp; try with_reducible rfl)
    go_simp
    refine wpAnyH_take (i := 2) (v := ?v29) rfl (by kernel_rfl) (by kernel_rfl) (by kernel_rfl) (fun _ _ _ h => h) (Or.inl ⟨by rfl, ?hy29⟩) HS.out ?rest29
    case hy29 => (intro ww _; go_simp; try with_reducible rfl)
    go_simp
    refine wpAnyH_take (i := 3) (v := ?v30) rfl (by kernel_rfl) (by kernel_rfl) (by kernel_rfl) (fun _ _ _ h => h) (Or.inl ⟨by rfl, ?hy30⟩) HS.out ?rest30
    case hy30 => (intro ww hS; obtain ⟨⟨y0, y1, y2⟩, ⟨y3, y4, y5⟩, _⟩ := HC.out ww hS; go_simp; try with_reducible rfl)
    go_simp
    refine wpAnyH_take (i := 4) (v := ?v31) rfl (by kernel_rfl) (by kernel_rfl) (by kernel_rfl) (fun _ _ _ h => h) (Or.inl ⟨by rfl, ?hy31⟩) HS.out ?rest31
    case hy31 => (intro ww _; go_simp; try with_reducible rfl)
    go_simp
    refine wpAnyH_take (i := 9) (v := ?v32) rfl (by kernel_rfl) (by kernel_rfl) (by kernel_rfl) (fun _ _ _ h => h) (Or.inl ⟨by rfl, ?hy32⟩) HS.out ?rest32
    case hy32 => (intro ww hS; obtain ⟨⟨y0, y1, y2⟩, ⟨y3, y4, y5⟩, _⟩ := HC.out ww hS; go_simp; try with_reducible rfl)
    go_simp
    refine wpAnyH_all (rs := [5]) (by kernel_rfl) (by simp) ?_
    intro i hi
    obtain rfl := List.mem_singleton.1 hi
    clear hi
    refine wpOp_k rfl (by rfl) (fun K hK => ?_)
    go_simp
    refine (HEp.out _ (H1.out.1.keep HS.out)).mono ?_
    rintro q w2 ⟨rfl, hb2⟩
    have HSn := hid (HS.out.trans (hb2.mono HS.out.size))
    clear hb2 HS
    have HS := HSn
    clear HSn
    refine hK _ _ ⟨HS.out, ?_⟩
    clear hK K
    go_simp
    refine wpAnyH_take (i := 6) (v := ?v33) rfl (by kernel_rfl) (by kernel_rfl) (by kernel_rfl) (fun _ _ _ h => h) (Or.inl ⟨by rfl, ?hy33⟩) HS.out ?rest33
    case hy33 => (intro ww _; go_simp; try with_reducible rfl)
    go_simp
    refine wpAnyH_take (i := 7) (v := ?v34) rfl (by kernel_rfl) (by kernel_rfl) (by kernel_rfl) (fun _ _ _ h => h) (Or.inl ⟨by rfl, ?hy34⟩) HS.out ?rest34
    case hy34 => (intro ww _; go_simp; try with_reducible rfl)
    go_simp
    refine wpAnyH_take (i := 8) (v := ?v35) rfl (by kernel_rfl) (by kernel_rfl) (by kernel_rfl) (fun _ _ _ h => h) (Or.inl ⟨by rfl, ?hy35⟩) HS.out ?rest35
    case hy35 => (intro ww hS; obtain ⟨⟨y0, y1, y2⟩, ⟨y3, y4, y5⟩, _⟩ := HC.out ww hS; go_simp; try with_reducible rfl)
    go_simp
    refine wpAnyH_all (rs := [10]) (by kernel_rfl) (by simp) ?_
    intro i hi
    obtain rfl := List.mem_singleton.1 hi
    clear hi
    refine wpOp_k rfl (by rfl) (fun K hK => ?_)
    go_simp
    refine (HVa.out _ _ _ (HC.out _ HS.out).2.2 (HD.out _ (H1.out.2.2.trans (HS.out.mono H1.out.2.2.size))).1 (HD.out _ (H1.out.2.2.trans (HS.out.mono H1.out.2.2.size))).2).mono ?_
    rintro q w3 ⟨rfl, hb3⟩
    have HSn := hid (HS.out.trans (hb3.mono HS.out.size))
    clear hb3 HS
    have HS := HSn
    clear HSn
    refine hK _ _ ⟨HS.out, ?_⟩
    clear hK K
    go_simp
    refine wpAnyH_take (i := 11) (v := ?v36) rfl (by kernel_rfl) (by kernel_rfl) (by kernel_rfl) (fun _ _ _ h => h) (Or.inl ⟨by rfl, ?hy36⟩) HS.out ?rest36
    case hy36 => (intro ww _; go_simp; try with_reducible rfl)
    go_simp
    refine wpAnyH_done (by kernel_rfl) ?_ _
    go_simp
    go_wp2
    have H2 : Hid (TkAt B F w3 g (.slice (some ⟨r, 0, none⟩) (ls.length + 1) rc) fm ls ∧ LnAt w3 w.heap.size e (.slice a n cap) (.slice bs m cp) ∧ Below w.heap.size w w3) := hid ⟨H1.out.1.keep HS.out, H1.out.2.1.keep HS.out, H1.out.2.2.trans (HS.out.mono H1.out.2.2.size)⟩
    clear HS HC
    go_ret
    exact ⟨rfl, fun _ => H2.out.2.2, fun hq => absurd hq HE.out⟩
end Go.Proofs.Ytpholamobedkhaa
