/- GroveSigns: the walk. -/
import Derived.Test.YtebhkifjommpjaaGrI
import Derived.Test.YtebhkifjommpjaaGRoots
namespace Go.Proofs.Ytebhkifjommpjaa
open Go.RowKit

theorem OwnedS.far {B : Nat} {w0 w : World} {v : Value} {l : List ByteArray} (h : OwnedS B w0 w v l) (ad : Addr) (n cap : Nat) (hv : v = .slice (some ad) n cap) : B ≤ ad.block := by
  rcases h.own.2 with ⟨hn, _⟩ | ⟨g, c, cur, hg, hB, _⟩
  · rw [hv] at hn; cases hn
  · rw [hv] at hg; cases hg; exact hB
set_option maxRecDepth 100000 in
set_option maxHeartbeats 6400000 in
theorem groveSigns_yes (s : ByteArray) (hl : s.size ≤ 4096) (k : Nat) (hk : k ≤ 5) (ad : Option Addr) (n cap : Nat) (ss : List ByteArray) (hn : ss.length = n) (hm : n ≤ maxLen) (w : World) (hS : StrsIn w ad ss) :
    Calls Try.prog 4 #[.agg #[.string s, .int .i64 (k : Int)], .slice ad n cap] w fun e w' => e = .returned (.bool true) ∧ Below w.heap.size w w' := by
  have HS := hid (decide_eq_true hl)
  have HE := hid (rightE_yes (h := (k : Int)) (by omega) (by omega))
  have h32 := pow_le5 k hk
  obtain ⟨N, eN⟩ : ∃ N, N = 2 ^ k := ⟨_, rfl⟩
  rw [← eN] at h32
  have HN := hid (gnew_yes s k hk)
  have HLv : Hid (∀ u : World, Calls Try.prog 15 #[.string s, .int .i64 (k : Int)] u fun e w' => ∃ v, e = .returned v ∧ OwnedS u.heap.size u w' v (leafL s k)) := hid (fun u => hleaves_le s (by omega) k hk u)
  have HLf : Hid (∀ (u : World) (b i m : Nat), i + m = N → SgAt u b s k i → Calls Try.prog 17 #[.pointer (some ⟨b, 0, none⟩)] u fun e w' => e = .returned (.int .i64 (m : Int)) ∧ Below u.heap.size u w') := hid (fun u b i m hi hg => sleft_le b s k i m hk (by rw [← eN]; exact hi) u hg)
  have HSg : Hid (∀ (u : World) (b i : Nat) (t : ByteArray), i < N → t.size ≤ 4096 → SgAt u b s k i → Calls Try.prog 18 #[.pointer (some ⟨b, 0, none⟩), .string t] u fun e w' => e = .returned (.tuple #[.string (gsigS s k i t), .int .i64 0]) ∧ SgAt w' b s k (i + 1) ∧ But b u w') := hid (fun u b i t hi ht hg => ssign_yes b s (by omega) k i hk (by rw [← eN]; exact hi) t (by omega) u hg)
  have HSp : Hid (∀ (u : World) (b : Nat) (t : ByteArray), SgAt u b s k N → Calls Try.prog 18 #[.pointer (some ⟨b, 0, none⟩), .string t] u fun e w' => e = .returned (.tuple #[.string ⟨#[]⟩, .int .i64 11]) ∧ Below u.heap.size u w') := hid (fun u b t hg => ssign_spent b s k N hk eN t u hg)
  have HRf : Hid (∀ (u : World) (a : Option Addr) (cap i : Nat) (t : ByteArray), i < N → t.size ≤ 4096 → StrsIn u a (leafL s k) → Calls Try.prog 19 #[.string s, .slice a N cap, .int .i64 (k : Int), .int .i64 (i : Int), .string t] u fun e w' => e = .returned (.string (gsigS s k i t)) ∧ Below u.heap.size u w') := hid (fun u a cap i t hi ht hg => hsign_le s (by omega) a cap k N i hk eN hi t (by omega) u hg)
  have hLn : (leafL s k).length = N := by rw [leafL_len, eN]
  obtain ⟨L, eL⟩ : ∃ L, L = leafL s k := ⟨_, rfl⟩
  rw [← eL] at HLv HRf hLn
  have HP := hid (And.intro hS (And.intro hn (And.intro hm (And.intro h32 hLn))))
  have hN1 : (N : Int) ≤ 32 := by omega
  have hN0 : (0 : Int) ≤ (N : Int) := Int.natCast_nonneg _
  have hn0 : (0 : Int) ≤ (n : Int) := Int.natCast_nonneg _
  clear hS hn hm h32 hLn eL eN hl hk
  go_enter Try.func4, Try.ntmps4
  go_wp2_with (first
    | (go_at_call 9; refine (glives_any _).mono ?_; rintro e w1 ⟨rfl, hb1⟩; have H1 := hid (And.intro ((PlAt.new w s (k : Int)).keep hb1) (((Below.refl w.heap.size w).alloc (Nat.le_refl _) _).trans (hb1.mono (by simp)))); clear hb1; have c0 := H1.out.1.c0; have c1 := H1.out.1.c1)
    | (go_at_call 10; refine (gshort_any _ _ (by exact HS.out) _).mono ?_; rintro e wx ⟨rfl, rfl⟩)
    | (go_at_call 12; refine (HN.out _).mono ?_; rintro e w2 ⟨rfl, hs2, hb2⟩; have H2 := hid (And.intro (H1.out.1.keep hb2) (And.intro hs2 (And.intro (H1.out.2.trans (hb2.mono H1.out.2.size)) (And.intro H1.out.2.size H1.out.1.lt)))); clear hs2 hb2; have c20 := H2.out.1.c0; have c21 := H2.out.1.c1)
    | (go_at_call 13; refine (right_at _ _ (by exact HE.out) _).mono ?_; rintro e wy ⟨rfl, rfl⟩)
    | (go_at_call 15; refine (HLv.out _).mono ?_; rintro e w3 ⟨v3, rfl, ho3⟩; obtain ⟨a3, cap3, rfl, hs3⟩ := ho3.strs; have H3 := hid (And.intro hs3 ho3); clear hs3 ho3))
  rw [HP.out.2.2.2.2]
  obtain ⟨b, eb⟩ : ∃ b, b = wx.heap.size := ⟨_, rfl⟩
  rw [← eb] at H2 ⊢
  have hwb : w.heap.size ≤ b := H2.out.2.2.2.1
  have h3 : Below w.heap.size w w3 := H2.out.2.2.1.trans (H3.out.2.bel.mono H2.out.2.2.1.size)
  have HF : Hid (∀ v : World, But b w3 v → PlAt v w.heap.size s (k : Int) ∧ StrsIn v ad ss ∧ StrsIn v a3 L ∧ Below w.heap.size w v) := hid (fun v hv => by
    have hb : Below w.heap.size w v := h3.trans (hv.below h3.size hwb)
    refine ⟨(H2.out.1.keep H3.out.2.bel).but hv ?_, HP.out.1.keep hb (Nat.le_refl _), hv.strs H3.out.1 ?_, hb⟩
    · have := H2.out.2.2.2.2
      omega
    · intro ad' ha
      have := H3.out.2.far ad' L.length cap3 (by rw [ha])
      have := H2.out.2.1.lt
      omega)
  have HS0 := hid (H2.out.2.1.keep H3.out.2.bel)
  have HW3 := hid (But.refl b w3)
  clear c0 c1 c20 c21 eb hwb h3 H1 H2 H3
  go_loopw [8] (fun i wr => ∃ j : Nat, j ≤ n ∧ j ≤ 40 ∧ i = .int .i64 (j : Int) ∧ SgAt wr b s k (min j N) ∧ But b w3 wr)
    (fun i _ => (40 - intOf i).toNat)
  case atStart => exact ⟨0, Nat.zero_le _, Nat.zero_le _, rfl, by rw [Nat.zero_min]; exact HS0.out, HW3.out⟩
  case round =>
    obtain ⟨j, hj, hj40, rfl, hg, hbut⟩ := hrel
    obtain ⟨m, hm⟩ : ∃ m, min j N + m = N := ⟨N - min j N, by omega⟩
    have HLj := hid (HLf.out wr b (min j N) m hm hg)
    have HR := hid (And.intro hg hbut)
    have hj0 : (0 : Int) ≤ (j : Int) := Int.natCast_nonneg _
    by_cases hlt : j < n ∧ j < 40
    · have hj1 : (j : Int) < (n : Int) := by omega
      have hj2 : (j : Int) < 40 := by omega
      obtain ⟨t, et⟩ : ∃ t, ss[j]? = some t := ⟨_, List.getElem?_eq_getElem (by rw [HP.out.2.1]; exact hlt.1)⟩
      obtain ⟨gs, off, rfl, hgs, hct⟩ := (HF.out wr hbut).2.1.at j t et
      by_cases ht : t.size ≤ 4096
      · have ht1 : (t.size : Int) ≤ 4096 := by omega
        have HT : Hid (∀ v : World, But b w3 v → v.cell? ⟨gs, off + j, none⟩ = some (.string t)) := hid (fun v hv => by
          obtain ⟨g', off', eg, _, hc⟩ := (HF.out v hv).2.1.at j t et
          simp at eg
          rw [eg.1, eg.2]
          exact hc)
        have HJ := hid (And.intro hj (And.intro hj40 hlt))
        by_cases hjN : j < N
        · have hmin : min j N = j := by omega
          rw [hmin] at HR hm hg
          have hx : max ((N : Int) - (j : Int)) 0 = (m : Int) := by omega
          have hjN1 : ¬ ((N : Int) ≤ (j : Int)) := by omega
          have HSj : Hid (∀ u : World, SgAt u b s k j → Calls Try.prog 18 #[.pointer (some ⟨b, 0, none⟩), .string t] u fun e w' => e = .returned (.tuple #[.string (gsigS s k j t), .int .i64 0]) ∧ SgAt w' b s k (j + 1) ∧ But b u w') := hid (fun u hu => HSg.out u b j t hjN ht hu)
          have HRj : Hid (∀ u : World, StrsIn u a3 L → Calls Try.prog 19 #[.string s, .slice a3 N cap3, .int .i64 (k : Int), .int .i64 (j : Int), .string t] u fun e w' => e = .returned (.string (gsigS s k j t)) ∧ Below u.heap.size u w') := hid (fun u hu => HRf.out u a3 cap3 j t hjN ht hu)
          obtain ⟨G, eG⟩ : ∃ G, G = gsigS s k j t := ⟨_, rfl⟩
          rw [← eG] at HSj HRj
          have HM : Hid (min (j + 1) N = j + 1) := hid (by omega)
          clear hj hj40 hg hbut hm hlt ht hgs et hmin hjN eG
          go_wp2_with (first
            | (go_at_call 17; refine HLj.out.mono ?_; rintro e w4 ⟨rfl, hb4⟩; have H4 := hid (And.intro (HR.out.1.keep hb4) (HR.out.2.trans (But.of hb4))); clear hb4; have c4 := HT.out _ H4.out.2)
            | (go_at_call 18; refine (HSj.out _ (by exact H4.out.1)).mono ?_; rintro e w5 ⟨rfl, hs5, hb5⟩; have H5 := hid (And.intro hs5 (H4.out.2.trans hb5)); clear hs5 hb5))
          have d0 : ∀ x : Cls w5, x.1.cell? ⟨w.heap.size, 0, none⟩ = some (.string s) := fun x => (HF.out _ (H5.out.2.trans (But.of x.2))).1.c0
          have d1 : ∀ x : Cls w5, x.1.cell? ⟨w.heap.size, 1, none⟩ = some (.int .i64 (k : Int)) := fun x => (HF.out _ (H5.out.2.trans (But.of x.2))).1.c1
          have d2 : ∀ x : Cls w5, x.1.cell? ⟨gs, off + j, none⟩ = some (.string t) := fun x => HT.out _ (H5.out.2.trans (But.of x.2))
          clear c4
          haveI := Cls.ne w5
          refine wp_region_cls w5 (by kernel_rfl) (by kernel_rfl) ?_
          repeat (go_big_quiet_step ((go_at_call 19; exact Cls.of _ (fun u hu => HRj.out u (HF.out _ (H5.out.2.trans (But.of hu))).2.2.1))))
          refine wpQuiet_nil ?_
          rintro _ ⟨x, rfl⟩
          go_wp2
          go_roundw
          case rel => exact ⟨j + 1, by have := HJ.out; omega, by have := HJ.out; omega, by go_num, by rw [HM.out]; exact H5.out.1.keep x.2, H5.out.2.trans (But.of x.2)⟩
          case measure => simp [intOf]; omega
        · have hmin : min j N = N := by omega
          rw [hmin] at HR hm hg
          have hx : max ((N : Int) - (j : Int)) 0 = (m : Int) := by omega
          have hjN1 : (N : Int) ≤ (j : Int) := by omega
          have HSj : Hid (∀ u : World, SgAt u b s k N → Calls Try.prog 18 #[.pointer (some ⟨b, 0, none⟩), .string t] u fun e w' => e = .returned (.tuple #[.string ⟨#[]⟩, .int .i64 11]) ∧ Below u.heap.size u w') := hid (fun u hu => HSp.out u b t hu)
          have HM : Hid (min (j + 1) N = N) := hid (by omega)
          clear hj hj40 hg hbut hm hlt ht hgs et hmin hjN
          go_wp2_with (first
            | (go_at_call 17; refine HLj.out.mono ?_; rintro e w4 ⟨rfl, hb4⟩; have H4 := hid (And.intro (HR.out.1.keep hb4) (HR.out.2.trans (But.of hb4))); clear hb4; have c4 := HT.out _ H4.out.2)
            | (go_at_call 18; refine (HSj.out _ (by exact H4.out.1)).mono ?_; rintro e w5 ⟨rfl, hb5⟩; have H5 := hid (And.intro (H4.out.1.keep hb5) (H4.out.2.trans (But.of hb5))); clear hb5))
          go_roundw
          case rel => exact ⟨j + 1, by have := HJ.out; omega, by have := HJ.out; omega, by go_num, by rw [HM.out]; exact H5.out.1, H5.out.2⟩
          case measure => simp [intOf]; omega
      · have ht1 : ¬ ((t.size : Int) ≤ 4096) := by omega
        have HB := hid (HF.out wr hbut).2.2.2
        clear hj hj40 hg hbut hm hlt ht hgs et
        go_wp2
        go_ret
        exact ⟨rfl, HB.out⟩
    · have hx : max ((N : Int) - min (n : Int) 40) 0 = (m : Int) := by omega
      by_cases hn1 : j < n
      · have hj1 : (j : Int) < (n : Int) := by omega
        have hj2 : ¬ ((j : Int) < 40) := by omega
        have HB := hid (And.intro hg hbut)
        clear hj hj40 hg hbut hm hlt hn1
        go_wp2_with (go_at_call 17; refine HLj.out.mono ?_; rintro e w4 ⟨rfl, hb4⟩; have H4 := hid (HR.out.2.trans (But.of hb4)); clear hb4)
        go_ret
        exact ⟨rfl, (HF.out _ H4.out).2.2.2⟩
      · have hj1 : ¬ ((j : Int) < (n : Int)) := by omega
        have HB := hid (And.intro hg hbut)
        clear hj hj40 hg hbut hm hlt hn1
        go_wp2_with (go_at_call 17; refine HLj.out.mono ?_; rintro e w4 ⟨rfl, hb4⟩; have H4 := hid (HR.out.2.trans (But.of hb4)); clear hb4)
        go_ret
        exact ⟨rfl, (HF.out _ H4.out).2.2.2⟩

set_option maxRecDepth 100000 in
set_option maxHeartbeats 3200000 in
theorem groveSigns_walk (s : ByteArray) (h : Int) (ad : Option Addr) (n cap : Nat) (ss : List ByteArray) (hn : ss.length = n) (hm : n ≤ maxLen) (w : World) (hS : StrsIn w ad ss) :
    Calls Try.prog 4 #[.agg #[.string s, .int .i64 h], .slice ad n cap] w fun e w' => e = .returned (.bool true) ∧ Below w.heap.size w w' := by
  by_cases hl : s.size ≤ 4096
  · by_cases hh : 0 ≤ h ∧ h ≤ 5
    · obtain ⟨k, rfl⟩ : ∃ k : Nat, h = (k : Int) := ⟨h.toNat, by omega⟩
      exact groveSigns_yes s hl k (by omega) ad n cap ss hn hm w hS
    · have HS := hid (decide_eq_true hl)
      have HB := hid (rightB_no hh)
      have HE := hid (rightE_no hh)
      clear hl hh hS hn hm
      go_enter Try.func4, Try.ntmps4
      go_wp2_with (first
        | (go_at_call 9; refine (glives_any _).mono ?_; rintro e w1 ⟨rfl, hb1⟩; have H1 := hid (And.intro ((PlAt.new w s h).keep hb1) (((Below.refl w.heap.size w).alloc (Nat.le_refl _) _).trans (hb1.mono (by simp)))); clear hb1; have c0 := H1.out.1.c0; have c1 := H1.out.1.c1)
        | (go_at_call 10; refine (gshort_any _ _ (by exact HS.out) _).mono ?_; rintro e wx ⟨rfl, rfl⟩)
        | (go_at_call 12; refine (gnew_no _ _ (by exact HB.out) _).mono ?_; rintro e wx ⟨rfl, rfl⟩)
        | (go_at_call 13; refine (right_at _ _ (by exact HE.out) _).mono ?_; rintro e wx ⟨rfl, rfl⟩))
      go_ret
      exact ⟨rfl, H1.out.2⟩
  · have HS := hid (decide_eq_false hl)
    clear hl hS hn hm
    go_enter Try.func4, Try.ntmps4
    go_wp2_with (first
      | (go_at_call 9; have := H1; refine (glives_any _).mono ?_; rintro e w2 ⟨rfl, hb2⟩; have H2 := hid (H1.out.2.trans (hb2.mono H1.out.2.size)); clear hb2)
      | (go_at_call 9; refine (glives_any _).mono ?_; rintro e w1 ⟨rfl, hb1⟩; have H1 := hid (And.intro ((PlAt.new w s h).keep hb1) (((Below.refl w.heap.size w).alloc (Nat.le_refl _) _).trans (hb1.mono (by simp)))); clear hb1; have c0 := H1.out.1.c0)
      | (go_at_call 10; refine (gshort_any _ _ (by exact HS.out) _).mono ?_; rintro e wx ⟨rfl, rfl⟩))
    go_ret
    exact ⟨rfl, H2.out⟩
end Go.Proofs.Ytebhkifjommpjaa
