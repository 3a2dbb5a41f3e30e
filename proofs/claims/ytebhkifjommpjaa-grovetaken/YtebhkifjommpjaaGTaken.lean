/- GroveTaken: the walk. -/
import Derived.Test.YtebhkifjommpjaaGTwo
import Derived.Test.YtebhkifjommpjaaGRoots
namespace Go.Proofs.Ytebhkifjommpjaa
open Go.RowKit

theorem Try.info4 : (Try.prog.info? 4).map (fun i => (i.zero, i.size, i.bytes)) = some (some (.bool false), 1, 1) := by kernel_rfl
theorem run_make256 (u : World) : (Instr.makeSlice 46 (.int .i64 256) (.int .i64 256)).run Try.prog u = .ok (.slice (some ⟨u.heap.size, 0, none⟩) 256 256) (u.alloc (.cells (madeCells #[.bool false] 256) 4)) := by
  obtain ⟨i0, hi0, hz0, hz1, hz2⟩ := info_parts Try.info4
  have h := run_make (P := Try.prog) u 46 4 i0 (.bool false) Try.underlying46 hi0 hz0 .i64 .i64 256 256 (by omega) (by omega) (by rw [hz2]; omega) (by omega)
  rw [hz1] at h
  exact h
/-- Of m the first u are used. -/
def usedM (m u : Nat) : List Value := (List.range m).map fun i => .bool (decide (i < u))
theorem usedM_get (m u j : Nat) (hj : j < m) : (usedM m u)[j]? = some (.bool (decide (j < u))) := by simp [usedM, hj]
theorem usedM_zero (m : Nat) : madeCells #[.bool false] m = (usedM m 0).toArray := by
  apply Array.ext'
  rw [toList_madeCells_one]
  show _ = usedM m 0
  rw [usedM]
  apply List.ext_getElem
  · simp
  · intro i h1 h2
    simp
theorem usedM_set (m u : Nat) : (usedM m u).toArray.setIfInBounds u (.bool true) = (usedM m (u + 1)).toArray := by
  apply Array.ext'
  rw [Array.toList_setIfInBounds]
  show (usedM m u).set u (.bool true) = usedM m (u + 1)
  apply List.ext_getElem
  · simp [usedM]
  · intro i h1 h2
    rw [List.getElem_set]
    simp only [usedM, List.getElem_map, List.getElem_range]
    split
    · next h => subst h; simp
    · next h =>
      congr 1
      apply decide_eq_decide.2
      omega
theorem But.setFar {b g : Nat} {x y : World} (h : But b x y) (hg : x.heap.size ≤ g) (o : Nat) (v : Value) : But b x (y.setCell ⟨g, o, none⟩ v) :=
  ⟨h.os, h.tape, h.output, by have := h.size; simpa [World.setCell] using this, fun i hi hb => by rw [Below.heap_setCell _ _ _ _ (by simp; omega), h.block i hi hb]⟩
theorem head_at (G : ByteArray) (j : Nat) (h : headN G = j) (hp : 0 < G.size) : (G[0]'hp).toNat = j := by rw [← h, head_get G hp]

set_option maxRecDepth 100000 in
set_option maxHeartbeats 6400000 in
theorem groveTaken_yes (s : ByteArray) (hl : s.size ≤ 4096) (k : Nat) (hk : k ≤ 5) (ad : Option Addr) (n cap : Nat) (ss : List ByteArray) (hn : ss.length = n) (hm : n ≤ maxLen) (w : World) (hS : StrsIn w ad ss) :
    Calls Try.prog 6 #[.agg #[.string s, .int .i64 (k : Int)], .slice ad n cap] w fun e w' => e = .returned (.bool true) ∧ Below w.heap.size w w' := by
  have HS := hid (decide_eq_true hl)
  have h32 := pow_le5 k hk
  obtain ⟨N, eN⟩ : ∃ N, N = 2 ^ k := ⟨_, rfl⟩
  rw [← eN] at h32
  obtain ⟨T, eT⟩ : ∃ T, T = rootS s k := ⟨_, rfl⟩
  have HN := hid (gnew_yes s k hk)
  have HMk := hid run_make256
  have HLf : Hid (∀ (u : World) (b i m : Nat), i + m = N → SgAt u b s k i → Calls Try.prog 17 #[.pointer (some ⟨b, 0, none⟩)] u fun e w' => e = .returned (.int .i64 (m : Int)) ∧ Below u.heap.size u w') := hid (fun u b i m hi hg => sleft_le b s k i m hk (by rw [← eN]; exact hi) u hg)
  have HRt : Hid (∀ (u : World) (b i : Nat), SgAt u b s k i → Calls Try.prog 16 #[.pointer (some ⟨b, 0, none⟩)] u fun e w' => e = .returned (.string T) ∧ Below u.heap.size u w') := hid (fun u b i hg => by rw [eT]; exact sroot_le b s (by omega) k i hk u hg)
  have HSg : Hid (∀ (u : World) (b i : Nat) (t : ByteArray), i < N → t.size ≤ 4096 → SgAt u b s k i → Calls Try.prog 18 #[.pointer (some ⟨b, 0, none⟩), .string t] u fun e w' => e = .returned (.tuple #[.string (gsigS s k i t), .int .i64 0]) ∧ SgAt w' b s k (i + 1) ∧ But b u w') := hid (fun u b i t hi ht hg => ssign_yes b s (by omega) k i hk (by rw [← eN]; exact hi) t (by omega) u hg)
  have HSp : Hid (∀ (u : World) (b : Nat) (t : ByteArray), SgAt u b s k N → Calls Try.prog 18 #[.pointer (some ⟨b, 0, none⟩), .string t] u fun e w' => e = .returned (.tuple #[.string ⟨#[]⟩, .int .i64 11]) ∧ Below u.heap.size u w') := hid (fun u b t hg => ssign_spent b s k N hk eN t u hg)
  have HV : Hid (∀ (i : Nat) (t : ByteArray), i < N → t.size ≤ 4096 →
      (gsigS s k i t).size = 561 + 32 * k ∧ headN (gsigS s k i t) = i ∧
      (∀ u : World, Calls Try.prog 20 #[.string T, .int .i64 (k : Int), .string t, .string (gsigS s k i t)] u fun e w' => e = .returned (.bool true) ∧ Below u.heap.size u w') ∧
      (∀ (u : World) (x : ByteArray), x.size ≠ 561 + 32 * k → Calls Try.prog 20 #[.string T, .int .i64 (k : Int), .string t, .string x] u fun e w' => e = .returned (.bool false) ∧ Below u.heap.size u w')) := hid (fun i t hi ht => by
    refine ⟨gsig_size s k i t (by rw [← eN]; exact hi), head_sign s k i t (by omega), fun u => ?_, fun u x hx => ?_⟩
    · have := gverify_any T (k : Int) t (gsigS s k i t) (by omega) u
      rwa [eT, taken_sign s k i t hk (by rw [← eN]; exact hi), ← eT] at this
    · have := gverify_any T (k : Int) t x (by omega) u
      rwa [taken_short T k t x hx] at this)
  have HP := hid (And.intro hS (And.intro hn (And.intro hm (And.intro h32 hk))))
  have hN1 : (N : Int) ≤ 32 := by omega
  have hN0 : (0 : Int) ≤ (N : Int) := Int.natCast_nonneg _
  have hn0 : (0 : Int) ≤ (n : Int) := Int.natCast_nonneg _
  clear hS hn hm h32 eN eT hl hk
  go_enter Try.func6, Try.ntmps6
  go_wp2_with (first
    | rw [HMk.out]
    | (go_at_call 9; refine (glives_any _).mono ?_; rintro e w1 ⟨rfl, hb1⟩; have H1 := hid (And.intro ((PlAt.new w s (k : Int)).keep hb1) (((Below.refl w.heap.size w).alloc (Nat.le_refl _) _).trans (hb1.mono (by simp)))); clear hb1; have c0 := H1.out.1.c0; have c1 := H1.out.1.c1)
    | (go_at_call 10; refine (gshort_any _ _ (by exact HS.out) _).mono ?_; rintro e wx ⟨rfl, rfl⟩)
    | (go_at_call 12; refine (HN.out _).mono ?_; rintro e w2 ⟨rfl, hs2, hb2⟩; have H2 := hid (And.intro (H1.out.1.keep hb2) (And.intro hs2 (And.intro (H1.out.2.trans (hb2.mono H1.out.2.size)) (And.intro H1.out.2.size H1.out.1.lt)))); clear hs2 hb2)
    | (go_at_call 17; refine (HLf.out _ _ 0 N (by omega) (by exact H2.out.2.1.keep ((Below.refl _ _).alloc (Nat.le_refl _) _))).mono ?_; rintro e w3 ⟨rfl, hb3⟩; have H3 := hid (And.intro ((hb3.block w2.heap.size (by simp)).trans (heap_alloc_last w2 _)) (((Below.refl w2.heap.size w2).alloc (Nat.le_refl _) _).trans (hb3.mono (by simp)))); clear hb3))
  obtain ⟨b, eb⟩ : ∃ b, b = wx.heap.size := ⟨_, rfl⟩
  rw [← eb] at H2 ⊢
  obtain ⟨g, eg⟩ : ∃ g, g = w2.heap.size := ⟨_, rfl⟩
  have hU3 : w3.heap[g]? = some (.cells (usedM 256 0).toArray 4 (0, 0)) := by rw [eg, H3.out.1, usedM_zero]
  have hgb : g ≠ b := by have := H2.out.2.1.lt; omega
  have hwb : w.heap.size ≤ b := H2.out.2.2.2.1
  have HF : Hid (∀ v : World, But b w2 v → PlAt v w.heap.size s (k : Int) ∧ StrsIn v ad ss ∧ Below w.heap.size w v) := hid (fun v hv => by
    have hb : Below w.heap.size w v := H2.out.2.2.1.trans (hv.below H2.out.2.2.1.size hwb)
    exact ⟨H2.out.1.but hv (by have := H2.out.2.2.2.2; omega), HP.out.1.keep hb (Nat.le_refl _), hb⟩)
  have HG : Hid (g ≠ b ∧ w2.heap.size ≤ g) := hid ⟨hgb, Nat.le_of_eq eg.symm⟩
  have HS0 := hid (And.intro (H2.out.2.1.keep H3.out.2) (And.intro hU3 (But.of (b := b) H3.out.2)))
  rw [← eg]
  clear c0 c1 eb eg hU3 hgb hwb H1 H2 H3
  go_loopw [8, 9] (fun l i wr => ∃ j m : Nat, j ≤ n ∧ j ≤ 40 ∧ min j N + m = N ∧ l = .int .i64 (m : Int) ∧ i = .int .i64 (j : Int) ∧ SgAt wr b s k (min j N) ∧ wr.heap[g]? = some (.cells (usedM 256 (min j N)).toArray 4 (0, 0)) ∧ But b w2 wr)
    (fun _ i _ => (40 - intOf i).toNat)
  case atStart => exact ⟨0, N, Nat.zero_le _, Nat.zero_le _, by omega, rfl, rfl, by rw [Nat.zero_min]; exact HS0.out.1, by rw [Nat.zero_min]; exact HS0.out.2.1, HS0.out.2.2⟩
  case round =>
    obtain ⟨j, m, hj, hj40, hm, rfl, rfl, hg, hu, hbut⟩ := hrel
    have hj0 : (0 : Int) ≤ (j : Int) := Int.natCast_nonneg _
    have hm0 : (0 : Int) ≤ (m : Int) := Int.natCast_nonneg _
    have hm32 : (m : Int) ≤ 32 := by omega
    by_cases hlt : j < n ∧ j < 40
    · have hj1 : (j : Int) < (n : Int) := by omega
      have hj2 : (j : Int) < 40 := by omega
      obtain ⟨t, et⟩ : ∃ t, ss[j]? = some t := ⟨_, List.getElem?_eq_getElem (by rw [HP.out.2.1]; exact hlt.1)⟩
      obtain ⟨gs, off, rfl, hgs, hct⟩ := (HF.out wr hbut).2.1.at j t et
      by_cases ht : t.size ≤ 4096
      · have ht1 : (t.size : Int) ≤ 4096 := by omega
        have HT : Hid (∀ v : World, But b w2 v → v.cell? ⟨gs, off + j, none⟩ = some (.string t)) := hid (fun v hv => by
          obtain ⟨g', off', eg, _, hc⟩ := (HF.out v hv).2.1.at j t et
          simp at eg
          rw [eg.1, eg.2]
          exact hc)
        have HJ := hid (And.intro hj (And.intro hj40 hlt))
        by_cases hjN : j < N
        · have hmin : min j N = j := by omega
          rw [hmin] at hm hg hu
          obtain ⟨m', rfl⟩ : ∃ m', m = m' + 1 := ⟨m - 1, by omega⟩
          have hm' : ((m' + 1 : Nat) : Int) = (m' : Int) + 1 := by omega
          rw [hm']
          have hm1 : (0 : Int) ≤ (m' : Int) := Int.natCast_nonneg _
          have hm2 : (m' : Int) < 32 := by omega
          obtain ⟨hsz, hhd, hV1, hV0⟩ := HV.out j t hjN ht
          have HSj : Hid (∀ u : World, SgAt u b s k j → Calls Try.prog 18 #[.pointer (some ⟨b, 0, none⟩), .string t] u fun e w' => e = .returned (.tuple #[.string (gsigS s k j t), .int .i64 0]) ∧ SgAt w' b s k (j + 1) ∧ But b u w') := hid (fun u hu => HSg.out u b j t hjN ht hu)
          have HLj : Hid (∀ u : World, SgAt u b s k (j + 1) → Calls Try.prog 17 #[.pointer (some ⟨b, 0, none⟩)] u fun e w' => e = .returned (.int .i64 (m' : Int)) ∧ Below u.heap.size u w') := hid (fun u hu => HLf.out u b (j + 1) m' (by omega) hu)
          obtain ⟨G, eG⟩ : ∃ G, G = gsigS s k j t := ⟨_, rfl⟩
          rw [← eG] at HSj hsz hhd hV1
          have hpos : 0 < G.size := by omega
          have e00 : (G[0]'hpos).toNat = j := head_at G j hhd hpos
          obtain ⟨q, eq⟩ : ∃ q, q = G.size - 1 := ⟨_, rfl⟩
          have e1 : IntKind.i64.wrap ((G.size : Int) - 1) = (q : Int) := by rw [wrap_small _ (by omega) (by have := HP.out; omega)]; omega
          have hq0 : (0 : Int) ≤ (q : Int) := Int.natCast_nonneg _
          have hq1 : (q : Int) ≤ (G.size : Int) := by omega
          have hG1 : decide ((G.size : Int) < 1) = false := decide_eq_false (by omega)
          have hG2 : (1 : Int) ≤ (G.size : Int) := by omega
          have hG3 : (G.size : Int) ≤ 1000 := by have := HP.out; omega
          have HV1 := hid hV1
          have HVs : Hid (∀ u : World, Calls Try.prog 20 #[.string T, .int .i64 (k : Int), .string t, .string (G.extract 0 q)] u fun e w' => e = .returned (.bool false) ∧ Below u.heap.size u w') := hid (fun u => hV0 u _ (by rw [← data_len, ext_data, List.length_drop, List.length_take, data_len]; omega))
          have HVm : Hid (∀ u : World, Calls Try.prog 20 #[.string T, .int .i64 (k : Int), .string t, .string (G ++ ⟨#[120]⟩)] u fun e w' => e = .returned (.bool false) ∧ Below u.heap.size u w') := hid (fun u => hV0 u _ (by rw [ByteArray.size_append]; show G.size + 1 ≠ _; omega))
          have HM : Hid (min (j + 1) N = j + 1 ∧ j + 1 + m' = N) := hid ⟨by omega, by omega⟩
          have HR := hid (And.intro hg (And.intro hu hbut))
          have HJ2 : Hid (j < 256) := hid (by omega)
          clear hj hj40 hg hu hbut hm hlt ht hgs et hmin hjN eG hsz hhd hV1 hV0 hm' eq hm0 hm32
          go_wp2_with (go_at_call 18; refine (HSj.out _ (by exact HR.out.1)).mono ?_; rintro e w5 ⟨rfl, hs5, hb5⟩; have H5 := hid (And.intro hs5 (And.intro ((hb5.block g (lt_of_blk HR.out.2.1) HG.out.1).trans HR.out.2.1) (HR.out.2.2.trans hb5))); clear hs5 hb5)
          have d0 : ∀ x : Cls w5, x.1.cell? ⟨g, j, none⟩ = some (.bool false) := fun x => by
            rw [cell_at (L := usedM 256 j) ((x.2.block g (lt_of_blk H5.out.2.1)).trans H5.out.2.1) j _ (usedM_get 256 j j HJ2.out)]
            simp
          have d1 : ∀ x : Cls w5, x.1.cell? ⟨w.heap.size, 1, none⟩ = some (.int .i64 (k : Int)) := fun x => (HF.out _ (H5.out.2.2.trans (But.of x.2))).1.c1
          have d2 : ∀ x : Cls w5, x.1.cell? ⟨gs, off + j, none⟩ = some (.string t) := fun x => HT.out _ (H5.out.2.2.trans (But.of x.2))
          clear hct
          haveI := Cls.ne w5
          refine wp_region_cls w5 (by kernel_rfl) (by kernel_rfl) ?_
          repeat (go_big_quiet_step ((first
            | (go_at_call 17; exact Cls.of _ (fun u hu => HLj.out u (H5.out.1.keep hu)))
            | (go_at_call 16; exact Cls.of _ (fun u hu => HRt.out u b (j + 1) (H5.out.1.keep hu)))
            | (go_at_call_of 20 (G.extract 0 q); exact Cls.of _ (fun u _ => HVs.out u))
            | (go_at_call_of 20 (ByteArray.mk #[120]); exact Cls.of _ (fun u _ => HVm.out u))
            | (go_at_call 20; exact Cls.of _ (fun u _ => HV1.out u)))))
          refine wpQuiet_nil ?_
          rintro _ ⟨x, rfl⟩
          have f0 := d0 x
          have f1 : x.1.frozen? ⟨g, j, none⟩ = false := free_at ((x.2.block g (lt_of_blk H5.out.2.1)).trans H5.out.2.1) j
          go_wp2
          go_roundw
          case rel =>
            refine ⟨j + 1, m', by have := HJ.out; omega, by have := HJ.out; omega, by rw [HM.out.1]; exact HM.out.2, rfl, by go_num, ?_, ?_, ?_⟩
            · rw [HM.out.1]
              refine Eq.trans (Below.heap_setCell _ _ _ _ (fun e => HG.out.1 e.symm)) (H5.out.1.keep x.2)
            · rw [HM.out.1]
              refine (blk_set ((x.2.block g (lt_of_blk H5.out.2.1)).trans H5.out.2.1) j (.bool true)).trans ?_
              rw [usedM_set]
            · exact (H5.out.2.2.trans (But.of x.2)).setFar HG.out.2 _ _
          case measure => simp [intOf]; omega
        · have hmin : min j N = N := by omega
          rw [hmin] at hm hg hu
          obtain rfl : m = 0 := by omega
          have he0 : ((0 : Nat) : Int) = 0 := rfl
          rw [he0]
          have HSj : Hid (∀ u : World, SgAt u b s k N → Calls Try.prog 18 #[.pointer (some ⟨b, 0, none⟩), .string t] u fun e w' => e = .returned (.tuple #[.string ⟨#[]⟩, .int .i64 11]) ∧ Below u.heap.size u w') := hid (fun u hu => HSp.out u b t hu)
          have HLj : Hid (∀ u : World, SgAt u b s k N → Calls Try.prog 17 #[.pointer (some ⟨b, 0, none⟩)] u fun e w' => e = .returned (.int .i64 0) ∧ Below u.heap.size u w') := hid (fun u hu => HLf.out u b N 0 (by omega) hu)
          have HM : Hid (min (j + 1) N = N) := hid (by omega)
          have HR := hid (And.intro hg (And.intro hu hbut))
          clear hj hj40 hg hu hbut hm hlt ht hgs et hmin hjN he0 hm0 hm32
          go_wp2_with (first
            | (go_at_call 18; refine (HSj.out _ (by exact HR.out.1)).mono ?_; rintro e w4 ⟨rfl, hb4⟩; have H4 := hid (And.intro (HR.out.1.keep hb4) (And.intro ((hb4.block g (lt_of_blk HR.out.2.1)).trans HR.out.2.1) (HR.out.2.2.trans (But.of hb4)))); clear hb4)
            | (go_at_call 17; refine (HLj.out _ (by exact H4.out.1)).mono ?_; rintro e w5 ⟨rfl, hb5⟩; have H5 := hid (And.intro (H4.out.1.keep hb5) (And.intro ((hb5.block g (lt_of_blk H4.out.2.1)).trans H4.out.2.1) (H4.out.2.2.trans (But.of hb5)))); clear hb5))
          go_roundw
          case rel => exact ⟨j + 1, 0, by have := HJ.out; omega, by have := HJ.out; omega, by rw [HM.out]; omega, rfl, by go_num, by rw [HM.out]; exact H5.out.1, by rw [HM.out]; exact H5.out.2.1, H5.out.2.2⟩
          case measure => simp [intOf]; omega
      · have ht1 : ¬ ((t.size : Int) ≤ 4096) := by omega
        have HB := hid (HF.out wr hbut).2.2
        clear hj hj40 hg hbut hm hlt ht hgs et hu
        go_wp2
        go_ret
        exact ⟨rfl, HB.out⟩
    · have HB := hid (HF.out wr hbut).2.2
      by_cases hn1 : j < n
      · have hj1 : (j : Int) < (n : Int) := by omega
        have hj2 : ¬ ((j : Int) < 40) := by omega
        clear hj hj40 hg hbut hm hlt hn1 hu
        go_wp2
        go_ret
        exact ⟨rfl, HB.out⟩
      · have hj1 : ¬ ((j : Int) < (n : Int)) := by omega
        clear hj hj40 hg hbut hm hlt hn1 hu
        go_wp2
        go_ret
        exact ⟨rfl, HB.out⟩

set_option maxRecDepth 100000 in
set_option maxHeartbeats 3200000 in
theorem groveTaken_walk (s : ByteArray) (h : Int) (ad : Option Addr) (n cap : Nat) (ss : List ByteArray) (hn : ss.length = n) (hm : n ≤ maxLen) (w : World) (hS : StrsIn w ad ss) :
    Calls Try.prog 6 #[.agg #[.string s, .int .i64 h], .slice ad n cap] w fun e w' => e = .returned (.bool true) ∧ Below w.heap.size w w' := by
  by_cases hl : s.size ≤ 4096
  · by_cases hh : 0 ≤ h ∧ h ≤ 5
    · obtain ⟨k, rfl⟩ : ∃ k : Nat, h = (k : Int) := ⟨h.toNat, by omega⟩
      exact groveTaken_yes s hl k (by omega) ad n cap ss hn hm w hS
    · have HS := hid (decide_eq_true hl)
      have HB := hid (rightB_no hh)
      clear hl hh hS hn hm
      go_enter Try.func6, Try.ntmps6
      go_wp2_with (first
        | (go_at_call 9; refine (glives_any _).mono ?_; rintro e w1 ⟨rfl, hb1⟩; have H1 := hid (And.intro ((PlAt.new w s h).keep hb1) (((Below.refl w.heap.size w).alloc (Nat.le_refl _) _).trans (hb1.mono (by simp)))); clear hb1; have c0 := H1.out.1.c0; have c1 := H1.out.1.c1)
        | (go_at_call 10; refine (gshort_any _ _ (by exact HS.out) _).mono ?_; rintro e wx ⟨rfl, rfl⟩)
        | (go_at_call 12; refine (gnew_no _ _ (by exact HB.out) _).mono ?_; rintro e wx ⟨rfl, rfl⟩))
      go_ret
      exact ⟨rfl, H1.out.2⟩
  · have HS := hid (decide_eq_false hl)
    clear hl hS hn hm
    go_enter Try.func6, Try.ntmps6
    go_wp2_with (first
      | (go_at_call 9; have := H1; refine (glives_any _).mono ?_; rintro e w2 ⟨rfl, hb2⟩; have H2 := hid (H1.out.2.trans (hb2.mono H1.out.2.size)); clear hb2)
      | (go_at_call 9; refine (glives_any _).mono ?_; rintro e w1 ⟨rfl, hb1⟩; have H1 := hid (And.intro ((PlAt.new w s h).keep hb1) (((Below.refl w.heap.size w).alloc (Nat.le_refl _) _).trans (hb1.mono (by simp)))); clear hb1; have c0 := H1.out.1.c0)
      | (go_at_call 10; refine (gshort_any _ _ (by exact HS.out) _).mono ?_; rintro e wx ⟨rfl, rfl⟩))
    go_ret
    exact ⟨rfl, H2.out⟩
end Go.Proofs.Ytebhkifjommpjaa
