/- The program's book: Note. -/
import Derived.Test.YtgnapfgiefdlaaaTmB
namespace Go.Proofs.Ytgnapfgiefdlaaa
open Go.RowKit Go.Maps

/-- All blocks but those named stay. -/
structure Out (F : List Nat) (w w' : World) : Prop where
  os : w'.os = w.os
  tape : w'.tape = w.tape
  output : w'.output = w.output
  size : w.heap.size ≤ w'.heap.size
  block : ∀ k, k < w.heap.size → k ∉ F → w'.heap[k]? = w.heap[k]?
theorem Out.refl (F : List Nat) (w : World) : Out F w w := ⟨rfl, rfl, rfl, Nat.le_refl _, fun _ _ _ => rfl⟩
theorem Out.then {F : List Nat} {w w1 w2 : World} {m : Nat} (h : Out F w w1) (hg : w1.grownBy w2 (some m)) (hm : m ∈ F ∨ w.heap.size ≤ m) : Out F w w2 :=
  ⟨hg.os.trans h.os, hg.tape.trans h.tape, hg.output.trans h.output, Nat.le_trans h.size hg.size, fun k hk hF => (hg.block k (Nat.lt_of_lt_of_le hk h.size) (fun e => by
    cases e
    rcases hm with hm | hm
    · exact hF hm
    · omega)).trans (h.block k hk hF)⟩
theorem Out.alloc {F : List Nat} {w w1 : World} (h : Out F w w1) (o : Obj) : Out F w (w1.alloc o) :=
  ⟨h.os, h.tape, h.output, by have := h.size; simp; omega, fun k hk hF => (Below.heap_alloc _ _ _ (Nat.lt_of_lt_of_le hk h.size)).trans (h.block k hk hF)⟩
theorem Out.drew {F : List Nat} {w w1 : World} (h : Out F w w1) : Out F w w1.drew := ⟨h.os, h.tape, h.output, h.size, h.block⟩
theorem Out.setCell {F : List Nat} {w w1 : World} (h : Out F w w1) (g o : Nat) (v : Value) (hg : g ∈ F) : Out F w (w1.setCell ⟨g, o, none⟩ v) :=
  ⟨h.os, h.tape, h.output, by have := h.size; simpa using this, fun k hk hF => (Below.heap_setCell _ _ _ _ (show k ≠ g from fun e => hF (by rw [e]; exact hg))).trans (h.block k hk hF)⟩
/-- One more is noted. -/
theorem BkAt.more {g m : Nat} {w w2 : World} {L : List (Int × ByteArray)} {D : DataW Unit} (p : Int × ByteArray) (hp : fitP p) (hne : g ≠ m) (hg : w.heap[g]? = some (.cells #[.map (some m)] 59 (0, 0))) (hH : Holds D (.agg []) (.agg []) L)
    (h2 : w2.ownsMap Try.prog 34 unitElem m (Maps.size (D.put (kL p) (.agg []))) (D.put (kL p) (.agg []))) (hgr : w.grownBy w2 (some m)) : BkAt [g, m] w2 (.pointer (some ⟨g, 0, none⟩)) (noted L [p]) := by
  have hP := hH.put p hp
  rw [hP.size] at h2
  exact ⟨g, rfl, .inr ⟨m, _, rfl, hne, (hgr.block g (lt_of_blk hg) (fun e => hne (by cases e; rfl))).trans hg, h2, hP⟩⟩
theorem map_nil (w : World) : (binOp .eql 57 (.map none) (.map none)).run Try.prog w = .ok (.bool true) w := by kernel_rfl
theorem map_some (m : Nat) (w : World) : (binOp .eql 57 (.map (some m)) (.map none)).run Try.prog w = .ok (.bool false) w := by kernel_rfl
theorem BkAt.two {g m : Nat} {w : World} {L : List (Int × ByteArray)} (h : BkAt [g, m] w (.pointer (some ⟨g, 0, none⟩)) L) : ∃ D, g ≠ m ∧ w.heap[g]? = some (.cells #[.map (some m)] 59 (0, 0)) ∧ w.ownsMap Try.prog 34 unitElem m L.length D ∧ Holds D (.agg []) (.agg []) L := by
  obtain ⟨g', h1, ⟨h2, _⟩ | ⟨m', D, h2, h3⟩⟩ := h.bk
  · simp at h2
  · simp at h2
    obtain ⟨rfl, rfl⟩ := h2
    exact ⟨D, h3⟩
set_option maxRecDepth 100000 in
set_option maxHeartbeats 3200000 in
theorem tnote_map (g m : Nat) (L : List (Int × ByteArray)) (a : Option Addr) (n cap : Nat) (ss : List (Int × ByteArray)) (hn : ss.length = n) (hm : (L.length + n) * 24 ≤ 140737488355328) (hf : ∀ p, p ∈ ss → fitP p) (w : World) (hB : BkAt [g, m] w (.pointer (some ⟨g, 0, none⟩)) L) (hP : PairsIn w a ss) (hne : ∀ ad, a = some ad → ss ≠ [] → ad.block ∉ [g, m]) :
    Calls Try.prog 21 #[.pointer (some ⟨g, 0, none⟩), .slice a n cap] w fun e w' => e = .returned (.tuple #[]) ∧ ∃ F', BkAt F' w' (.pointer (some ⟨g, 0, none⟩)) (noted L ss) ∧ (∀ b, b ∈ F' → b ∈ [g, m] ∨ w.heap.size ≤ b) ∧ Out [g, m] w w' := by
  have hm2 : (n : Int) ≤ 9223372036854775807 := by omega
  obtain ⟨D, hgm, hg, hx⟩ := hB.two
  have c0 : w.cell? ⟨g, 0, none⟩ = some (.map (some m)) := cell_at (L := [.map (some m)]) hg 0 _ rfl
  have HX := hid (And.intro hP (And.intro hn (And.intro hm (And.intro hf hne))))
  have HG := hid hgm
  have H0 := hid hB
  have HF : Hid (∀ b, b ∈ [g, m] → b ∈ [g, m] ∨ w.heap.size ≤ b) := hid (fun b hb => .inl hb)
  clear hP hn hm hf hne hB hg hgm hx D
  have hms := map_some m
  go_enter Try.func21, Try.ntmps21
  go_wp2
  clear hms c0
  go_loopw [19] (fun i wr => ∃ j : Nat, j ≤ n ∧ i = .int .i64 (j : Int) ∧ BkAt [g, m] wr (.pointer (some ⟨g, 0, none⟩)) (noted L (ss.take j)) ∧ Out [g, m] w wr)
    (fun i _ => ((n : Int) - intOf i).toNat)
  case atStart => exact ⟨0, by omega, rfl, by rw [List.take_zero]; exact H0.out, Out.refl _ _⟩
  case round =>
    obtain ⟨j, hj, rfl, hBk, hOut⟩ := hrel
    have hj0 : (0 : Int) ≤ (j : Int) := Int.natCast_nonneg _
    have HB := hid hBk
    have HO := hid hOut
    clear hBk hOut H0
    by_cases hjn : j = n
    · have hj1 : ¬ ((j : Int) < (n : Int)) := by omega
      have HE : Hid (BkAt [g, m] wr (.pointer (some ⟨g, 0, none⟩)) (noted L ss)) := hid (by
        have := HB.out
        rw [List.take_of_length_le (by rw [HX.out.2.1]; omega)] at this
        exact this)
      clear hj hjn
      go_wp2
      go_end0
      exact ⟨rfl, [g, m], HE.out, fun b hb => by simpa using HF.out b hb, HO.out⟩
    · have hj1 : (j : Int) < (n : Int) := by omega
      have hjl : j < ss.length := by rw [HX.out.2.1]; omega
      obtain ⟨gs, off, rfl, hgs, hc1, hc2⟩ := HX.out.1.at j _ (getP_some hjl)
      have hnf := HX.out.2.2.2.2 _ rfl (by intro e; rw [e] at hjl; simp at hjl)
      have hblk : wr.heap[gs]? = w.heap[gs]? := HO.out.block gs hgs hnf
      have k1 : wr.cell? ⟨gs, off + j * 2, none⟩ = some (.int .i64 (idOf ss j)) := (World.cell?_of_block hblk).trans hc1
      have k2 : wr.cell? ⟨gs, off + j * 2 + 1, none⟩ = some (.string (rtOf ss j)) := (World.cell?_of_block hblk).trans hc2
      have hfit : fitP (idOf ss j, rtOf ss j) := HX.out.2.2.2.1 _ (List.mem_of_getElem? (getP_some hjl))
      have HN : Hid (noted L (ss.take (j + 1)) = noted (noted L (ss.take j)) [(idOf ss j, rtOf ss j)]) := hid (by rw [List.take_add_one, getP_some hjl, noted_app]; rfl)
      have hlen : (noted L (ss.take j)).length < maxLen := by
        have h1 := noted_len (ss.take j) L
        have h2 := HX.out.2.2.1
        rw [List.length_take] at h1
        unfold maxLen
        omega
      obtain ⟨L1, eL1⟩ : ∃ L1, L1 = noted L (ss.take j) := ⟨_, rfl⟩
      rw [← eL1] at HB HN hlen
      generalize idOf ss j = x at k1 hfit HN
      generalize rtOf ss j = r at k2 hfit HN
      obtain ⟨D, _, hg, hmm, hH⟩ := HB.out.two
      have HJ := hid (And.intro hj hjn)
      have HFt := hid (And.intro hfit hlen)
      have HA : Hid ((wr.alloc (.cells #[.int .i64 x, .string r] 34)).drew.heap[g]? = some (.cells #[.map (some m)] 59 (0, 0)) ∧ (wr.alloc (.cells #[.int .i64 x, .string r] 34)).drew.ownsMap Try.prog 34 unitElem m L1.length D ∧ Holds D (.agg []) (.agg []) L1 ∧ Out [g, m] w (wr.alloc (.cells #[.int .i64 x, .string r] 34)).drew) := hid ⟨(Below.heap_alloc _ _ _ (lt_of_blk hg)).trans hg, (hmm.alloc _).drew, hH, (HO.out.alloc _).drew⟩
      have HS : Hid ((wr.alloc (.cells #[.int .i64 x, .string r] 34)).drew.cell? ⟨g, 0, none⟩ = some (.map (some m)) ∧ (wr.alloc (.cells #[.int .i64 x, .string r] 34)).drew.cell? ⟨wr.heap.size, 0, none⟩ = some (.int .i64 x) ∧ (wr.alloc (.cells #[.int .i64 x, .string r] 34)).drew.cell? ⟨wr.heap.size, 1, none⟩ = some (.string r)) := hid ⟨cell_at (L := [.map (some m)]) HA.out.1 0 _ rfl, (cell_two (T := 34) (fr := (0, 0)) (heap_alloc_last wr _)).1, (cell_two (T := 34) (fr := (0, 0)) (heap_alloc_last wr _)).2⟩
      clear hj hjn hjl hgs hc1 hc2 hnf hblk hfit hlen hg hmm hH eL1
      go_wp2
      clear k1 k2
      refine wp_region_held (S := fun ww => ww.cell? ⟨g, 0, none⟩ = some (.map (some m)) ∧ ww.cell? ⟨wr.heap.size, 0, none⟩ = some (.int .i64 x) ∧ ww.cell? ⟨wr.heap.size, 1, none⟩ = some (.string r)) (by kernel_rfl) ?_
      try (change wpAnyH _ _ _ _ _ _ _ _ (World.drew _))
      refine wpAnyH_take (i := 0) (v := ?v1) rfl (by kernel_rfl) (by kernel_rfl) (by kernel_rfl) (fun _ _ _ h => h) (Or.inl ⟨by rfl, ?hy1⟩) HS.out ?rest1
      case hy1 => (intro ww _; go_simp; try with_reducible rfl)
      go_simp
      refine wpAnyH_take (i := 1) (v := ?v2) rfl (by kernel_rfl) (by kernel_rfl) (by kernel_rfl) (fun _ _ _ h => h) (Or.inl ⟨by rfl, ?hy2⟩) HS.out ?rest2
      case hy2 => (intro ww _; go_simp; try with_reducible rfl)
      go_simp
      refine wpAnyH_take (i := 2) (v := ?v3) rfl (by kernel_rfl) (by kernel_rfl) (by kernel_rfl) (fun _ _ _ h => h) (Or.inl ⟨by rfl, ?hy3⟩) HS.out ?rest3
      case hy3 => (intro ww _; go_simp; try with_reducible rfl)
      go_simp
      refine wpAnyH_take (i := 3) (v := ?v4) rfl (by kernel_rfl) (by kernel_rfl) (by kernel_rfl) (fun _ _ _ h => h) (Or.inl ⟨by rfl, ?hy4⟩) HS.out ?rest4
      case hy4 => (intro ww hS; obtain ⟨y0, y1, y2⟩ := hS; go_simp; try with_reducible rfl)
      go_simp
      refine wpAnyH_take (i := 4) (v := ?v5) rfl (by kernel_rfl) (by kernel_rfl) (by kernel_rfl) (fun _ _ _ h => h) (Or.inl ⟨by rfl, ?hy5⟩) HS.out ?rest5
      case hy5 => (intro ww hS; obtain ⟨y0, y1, y2⟩ := hS; go_simp; try with_reducible rfl)
      go_simp
      refine wpAnyH_take (i := 5) (v := ?v6) rfl (by kernel_rfl) (by kernel_rfl) (by kernel_rfl) (fun _ _ _ h => h) (Or.inl ⟨by rfl, ?hy6⟩) HS.out ?rest6
      case hy6 => (intro ww _; go_simp; try with_reducible rfl)
      go_simp
      refine wpAnyH_all (rs := [6]) (by kernel_rfl) (by simp) ?_
      intro i hi
      obtain rfl := List.mem_singleton.1 hi
      clear hi
      refine wpOp_h rfl (by rfl) (fun K hK => ?_)
      refine owp_put_sig _ _ _ 57 60 rfl map_type _ m L1.length D (by rfl) HA.out.2.1 HFt.out.2 (x, r) HFt.out.1 (.agg #[]) (by rfl) (by rfl) (.agg []) unitElem_mk ?_
      intro w7 H7
      have H8 := hid (And.intro (BkAt.more (x, r) HFt.out.1 HG.out HA.out.1 HA.out.2.2.1 H7.out.1 H7.out.2) (HA.out.2.2.2.then H7.out.2 (.inl (by simp))))
      refine hK _ _ ⟨?_, ?_⟩
      · have hgl := lt_of_blk HA.out.1
        have hml := HB.out.lt m (by simp)
        have hG := HG.out
        exact ⟨(H7.out.2.cell_far ⟨g, 0, none⟩ hgl (by simpa using hG)).trans HS.out.1, (H7.out.2.cell_far ⟨wr.heap.size, 0, none⟩ (by simp) (by simp; omega)).trans HS.out.2.1, (H7.out.2.cell_far ⟨wr.heap.size, 1, none⟩ (by simp) (by simp; omega)).trans HS.out.2.2⟩
      clear hK K
      go_simp
      refine wpAnyH_done (by kernel_rfl) ?_ _
      go_simp
      go_wp2
      go_roundw
      case rel => exact ⟨j + 1, by have := HJ.out; omega, by go_num, by rw [HN.out]; exact H8.out.1, H8.out.2⟩
      case measure => simp [intOf]; omega
set_option maxRecDepth 100000 in
set_option maxHeartbeats 3200000 in
theorem tnote_none (g : Nat) (a : Option Addr) (n cap : Nat) (ss : List (Int × ByteArray)) (hn : ss.length = n) (hm : n * 24 ≤ 140737488355328) (hf : ∀ p, p ∈ ss → fitP p) (w : World) (hB : w.heap[g]? = some (.cells #[.map none] 59 (0, 0))) (hP : PairsIn w a ss) (hne : ∀ ad, a = some ad → ss ≠ [] → ad.block ∉ [g]) :
    Calls Try.prog 21 #[.pointer (some ⟨g, 0, none⟩), .slice a n cap] w fun e w' => e = .returned (.tuple #[]) ∧ ∃ F', BkAt F' w' (.pointer (some ⟨g, 0, none⟩)) (noted [] ss) ∧ (∀ b, b ∈ F' → b ∈ [g] ∨ w.heap.size ≤ b) ∧ Out [g] w w' := by
  have hm2 : (n : Int) ≤ 9223372036854775807 := by omega
  have c0 : w.cell? ⟨g, 0, none⟩ = some (.map none) := cell_at (L := [.map none]) hB 0 _ rfl
  have hgl := lt_of_blk hB
  obtain ⟨m, em⟩ : ∃ m, m = w.heap.size := ⟨_, rfl⟩
  have hgm : g ≠ m := by omega
  obtain ⟨L, eL⟩ : ∃ L : List (Int × ByteArray), L = [] := ⟨_, rfl⟩
  have hbA : (w.alloc (.map #[] 0)).heap[g]? = some (.cells #[.map none] 59 (0, 0)) := (Below.heap_alloc _ _ _ hgl).trans hB
  have fz : (w.alloc (.map #[] 0)).frozen? ⟨g, 0, none⟩ = false := free_at hbA _
  have c1 : (w.alloc (.map #[] 0)).cell? ⟨g, 0, none⟩ = some (.map none) := cell_at (L := [.map none]) hbA 0 _ rfl
  have H0 : Hid (BkAt [g, m] ((w.alloc (.map #[] 0)).setCell ⟨g, 0, none⟩ (.map (some w.heap.size))) (.pointer (some ⟨g, 0, none⟩)) L ∧ Out [g] w ((w.alloc (.map #[] 0)).setCell ⟨g, 0, none⟩ (.map (some w.heap.size)))) := hid ⟨⟨g, rfl, .inr ⟨m, .map [], rfl, hgm, by
      rw [em]
      exact blk_set hbA 0 _, by
      rw [eL, em]
      exact (World.ownsMap_made w Try.prog _ _).setCell (a := ⟨g, 0, none⟩) (show w.heap.size ≠ g by omega) _, by rw [eL]; exact Holds.empty _ _⟩⟩, ((Out.refl [g] w).alloc _).setCell g 0 _ (by simp)⟩
  have HX : Hid (PairsIn w a ss ∧ ss.length = n ∧ (L.length + n) * 24 ≤ 140737488355328 ∧ (∀ p, p ∈ ss → fitP p) ∧ ∀ ad, a = some ad → ss ≠ [] → ad.block ∉ [g]) := hid ⟨hP, hn, by rw [eL, List.length_nil, Nat.zero_add]; exact hm, hf, hne⟩
  have HG := hid hgm
  have HM : Hid (w.heap.size ≤ m) := hid (by omega)
  have HF : Hid (∀ b, b ∈ [g, m] → b ∈ [g] ∨ w.heap.size ≤ b) := hid (fun b hb => by
    simp at hb
    rcases hb with rfl | rfl
    · exact .inl (by simp)
    · exact .inr (by omega))
  rw [← eL]
  clear hP hn hm hf hne hB hgm em eL hbA hgl
  have hmm := @run_makeMap Try.prog
  have hmn := map_nil
  go_enter Try.func21, Try.ntmps21
  go_wp2
  clear hmm hmn fz c0 c1
  go_loopw [19] (fun i wr => ∃ j : Nat, j ≤ n ∧ i = .int .i64 (j : Int) ∧ BkAt [g, m] wr (.pointer (some ⟨g, 0, none⟩)) (noted L (ss.take j)) ∧ Out [g] w wr)
    (fun i _ => ((n : Int) - intOf i).toNat)
  case atStart => exact ⟨0, by omega, rfl, by rw [List.take_zero]; exact H0.out.1, H0.out.2⟩
  case round =>
    obtain ⟨j, hj, rfl, hBk, hOut⟩ := hrel
    have hj0 : (0 : Int) ≤ (j : Int) := Int.natCast_nonneg _
    have HB := hid hBk
    have HO := hid hOut
    clear hBk hOut H0
    by_cases hjn : j = n
    · have hj1 : ¬ ((j : Int) < (n : Int)) := by omega
      have HE : Hid (BkAt [g, m] wr (.pointer (some ⟨g, 0, none⟩)) (noted L ss)) := hid (by
        have := HB.out
        rw [List.take_of_length_le (by rw [HX.out.2.1]; omega)] at this
        exact this)
      clear hj hjn
      go_wp2
      go_end0
      exact ⟨rfl, [g, m], HE.out, fun b hb => by simpa using HF.out b hb, HO.out⟩
    · have hj1 : (j : Int) < (n : Int) := by omega
      have hjl : j < ss.length := by rw [HX.out.2.1]; omega
      obtain ⟨gs, off, rfl, hgs, hc1, hc2⟩ := HX.out.1.at j _ (getP_some hjl)
      have hnf := HX.out.2.2.2.2 _ rfl (by intro e; rw [e] at hjl; simp at hjl)
      have hblk : wr.heap[gs]? = w.heap[gs]? := HO.out.block gs hgs hnf
      have k1 : wr.cell? ⟨gs, off + j * 2, none⟩ = some (.int .i64 (idOf ss j)) := (World.cell?_of_block hblk).trans hc1
      have k2 : wr.cell? ⟨gs, off + j * 2 + 1, none⟩ = some (.string (rtOf ss j)) := (World.cell?_of_block hblk).trans hc2
      have hfit : fitP (idOf ss j, rtOf ss j) := HX.out.2.2.2.1 _ (List.mem_of_getElem? (getP_some hjl))
      have HN : Hid (noted L (ss.take (j + 1)) = noted (noted L (ss.take j)) [(idOf ss j, rtOf ss j)]) := hid (by rw [List.take_add_one, getP_some hjl, noted_app]; rfl)
      have hlen : (noted L (ss.take j)).length < maxLen := by
        have h1 := noted_len (ss.take j) L
        have h2 := HX.out.2.2.1
        rw [List.length_take] at h1
        unfold maxLen
        omega
      obtain ⟨L1, eL1⟩ : ∃ L1, L1 = noted L (ss.take j) := ⟨_, rfl⟩
      rw [← eL1] at HB HN hlen
      generalize idOf ss j = x at k1 hfit HN
      generalize rtOf ss j = r at k2 hfit HN
      obtain ⟨D, _, hg, hmm, hH⟩ := HB.out.two
      have HJ := hid (And.intro hj hjn)
      have HFt := hid (And.intro hfit hlen)
      have HA : Hid ((wr.alloc (.cells #[.int .i64 x, .string r] 34)).drew.heap[g]? = some (.cells #[.map (some m)] 59 (0, 0)) ∧ (wr.alloc (.cells #[.int .i64 x, .string r] 34)).drew.ownsMap Try.prog 34 unitElem m L1.length D ∧ Holds D (.agg []) (.agg []) L1 ∧ Out [g] w (wr.alloc (.cells #[.int .i64 x, .string r] 34)).drew) := hid ⟨(Below.heap_alloc _ _ _ (lt_of_blk hg)).trans hg, (hmm.alloc _).drew, hH, (HO.out.alloc _).drew⟩
      have HS : Hid ((wr.alloc (.cells #[.int .i64 x, .string r] 34)).drew.cell? ⟨g, 0, none⟩ = some (.map (some m)) ∧ (wr.alloc (.cells #[.int .i64 x, .string r] 34)).drew.cell? ⟨wr.heap.size, 0, none⟩ = some (.int .i64 x) ∧ (wr.alloc (.cells #[.int .i64 x, .string r] 34)).drew.cell? ⟨wr.heap.size, 1, none⟩ = some (.string r)) := hid ⟨cell_at (L := [.map (some m)]) HA.out.1 0 _ rfl, (cell_two (T := 34) (fr := (0, 0)) (heap_alloc_last wr _)).1, (cell_two (T := 34) (fr := (0, 0)) (heap_alloc_last wr _)).2⟩
      clear hj hjn hjl hgs hc1 hc2 hnf hblk hfit hlen hg hmm hH eL1
      go_wp2
      clear k1 k2
      refine wp_region_held (S := fun ww => ww.cell? ⟨g, 0, none⟩ = some (.map (some m)) ∧ ww.cell? ⟨wr.heap.size, 0, none⟩ = some (.int .i64 x) ∧ ww.cell? ⟨wr.heap.size, 1, none⟩ = some (.string r)) (by kernel_rfl) ?_
      try (change wpAnyH _ _ _ _ _ _ _ _ (World.drew _))
      refine wpAnyH_take (i := 0) (v := ?v1) rfl (by kernel_rfl) (by kernel_rfl) (by kernel_rfl) (fun _ _ _ h => h) (Or.inl ⟨by rfl, ?hy1⟩) HS.out ?rest1
      case hy1 => (intro ww _; go_simp; try with_reducible rfl)
      go_simp
      refine wpAnyH_take (i := 1) (v := ?v2) rfl (by kernel_rfl) (by kernel_rfl) (by kernel_rfl) (fun _ _ _ h => h) (Or.inl ⟨by rfl, ?hy2⟩) HS.out ?rest2
      case hy2 => (intro ww _; go_simp; try with_reducible rfl)
      go_simp
      refine wpAnyH_take (i := 2) (v := ?v3) rfl (by kernel_rfl) (by kernel_rfl) (by kernel_rfl) (fun _ _ _ h => h) (Or.inl ⟨by rfl, ?hy3⟩) HS.out ?rest3
      case hy3 => (intro ww _; go_simp; try with_reducible rfl)
      go_simp
      refine wpAnyH_take (i := 3) (v := ?v4) rfl (by kernel_rfl) (by kernel_rfl) (by kernel_rfl) (fun _ _ _ h => h) (Or.inl ⟨by rfl, ?hy4⟩) HS.out ?rest4
      case hy4 => (intro ww hS; obtain ⟨y0, y1, y2⟩ := hS; go_simp; try with_reducible rfl)
      go_simp
      refine wpAnyH_take (i := 4) (v := ?v5) rfl (by kernel_rfl) (by kernel_rfl) (by kernel_rfl) (fun _ _ _ h => h) (Or.inl ⟨by rfl, ?hy5⟩) HS.out ?rest5
      case hy5 => (intro ww hS; obtain ⟨y0, y1, y2⟩ := hS; go_simp; try with_reducible rfl)
      go_simp
      refine wpAnyH_take (i := 5) (v := ?v6) rfl (by kernel_rfl) (by kernel_rfl) (by kernel_rfl) (fun _ _ _ h => h) (Or.inl ⟨by rfl, ?hy6⟩) HS.out ?rest6
      case hy6 => (intro ww _; go_simp; try with_reducible rfl)
      go_simp
      refine wpAnyH_all (rs := [6]) (by kernel_rfl) (by simp) ?_
      intro i hi
      obtain rfl := List.mem_singleton.1 hi
      clear hi
      refine wpOp_h rfl (by rfl) (fun K hK => ?_)
      refine owp_put_sig _ _ _ 57 60 rfl map_type _ m L1.length D (by rfl) HA.out.2.1 HFt.out.2 (x, r) HFt.out.1 (.agg #[]) (by rfl) (by rfl) (.agg []) unitElem_mk ?_
      intro w7 H7
      have H8 := hid (And.intro (BkAt.more (x, r) HFt.out.1 HG.out HA.out.1 HA.out.2.2.1 H7.out.1 H7.out.2) (HA.out.2.2.2.then H7.out.2 (.inr HM.out)))
      refine hK _ _ ⟨?_, ?_⟩
      · have hgl := lt_of_blk HA.out.1
        have hml := HB.out.lt m (by simp)
        have hG := HG.out
        exact ⟨(H7.out.2.cell_far ⟨g, 0, none⟩ hgl (by simpa using hG)).trans HS.out.1, (H7.out.2.cell_far ⟨wr.heap.size, 0, none⟩ (by simp) (by simp; omega)).trans HS.out.2.1, (H7.out.2.cell_far ⟨wr.heap.size, 1, none⟩ (by simp) (by simp; omega)).trans HS.out.2.2⟩
      clear hK K
      go_simp
      refine wpAnyH_done (by kernel_rfl) ?_ _
      go_simp
      go_wp2
      go_roundw
      case rel => exact ⟨j + 1, by have := HJ.out; omega, by go_num, by rw [HN.out]; exact H8.out.1, H8.out.2⟩
      case measure => simp [intOf]; omega
theorem tnote_any (F : List Nat) (v : Value) (L : List (Int × ByteArray)) (a : Option Addr) (n cap : Nat) (ss : List (Int × ByteArray)) (hn : ss.length = n) (hm : (L.length + n) * 24 ≤ 140737488355328) (hf : ∀ p, p ∈ ss → fitP p) (w : World) (hB : BkAt F w v L) (hP : PairsIn w a ss) (hne : ∀ ad, a = some ad → ss ≠ [] → ad.block ∉ F) :
    Calls Try.prog 21 #[v, .slice a n cap] w fun e w' => e = .returned (.tuple #[]) ∧ ∃ F', BkAt F' w' v (noted L ss) ∧ (∀ b, b ∈ F' → b ∈ F ∨ w.heap.size ≤ b) ∧ Out F w w' := by
  obtain ⟨g, rfl, ⟨rfl, hg, rfl⟩ | ⟨m, D, rfl, _⟩⟩ := hB.bk
  · exact tnote_none g a n cap ss hn (by simpa using hm) hf w hg hP hne
  · exact tnote_map g m L a n cap ss hn hm hf w hB hP hne
end Go.Proofs.Ytgnapfgiefdlaaa
