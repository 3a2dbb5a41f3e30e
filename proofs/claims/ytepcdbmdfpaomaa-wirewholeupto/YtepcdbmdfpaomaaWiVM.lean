/- The program's parts of a message: signatures, numbers of members. -/
import Derived.Test.YtepcdbmdfpaomaaWiUM
namespace Go.Proofs.Ytepcdbmdfpaomaa
open Go.RowKit

/-- A part under way: the reader at b, its own box, the block of its answer. -/
structure PrAt (b : Nat) (w0 w : World) (s : ByteArray) (Z : List Value) (TR : TypeId) : Prop where
  rd : RdAt w b s false
  kept : Kept b none w0 w
  box : BxAt w w0.heap.size [.pointer (some ⟨b, 0, none⟩)] 97
  res : BxAt w (w0.heap.size + 1) Z TR
  lt : b < w0.heap.size
theorem PrAt.call {b : Nat} {w0 w w' : World} {s s' : ByteArray} {Z : List Value} {TR : TypeId} (h : PrAt b w0 w s Z TR) (hk : Kept b none w w') (hr : RdAt w' b s' false) : PrAt b w0 w' s' Z TR :=
  ⟨hr, h.kept.trans hk (.inl rfl), h.box.kept hk (by have := h.lt; omega), h.res.kept hk (by have := h.lt; omega), h.lt⟩
theorem PrAt.ans {b : Nat} {w0 w w' : World} {s : ByteArray} {Z Z' : List Value} {TR : TypeId} (h : PrAt b w0 w s Z TR) (ho : One (w0.heap.size + 1) w w') (hz : w'.heap[w0.heap.size + 1]? = some (.cells Z'.toArray TR (0, 0))) : PrAt b w0 w' s Z' TR :=
  ⟨h.rd.one ho (by have := h.lt; omega), h.kept.one ho (by omega), h.box.one ho (by omega), hz, h.lt⟩
theorem PrAt.other {b k : Nat} {w0 w w' : World} {s : ByteArray} {Z : List Value} {TR : TypeId} (h : PrAt b w0 w s Z TR) (ho : One k w w') (hk : w0.heap.size + 1 < k) : PrAt b w0 w' s Z TR :=
  ⟨h.rd.one ho (by have := h.lt; omega), h.kept.one ho (by omega), h.box.one ho (by omega), h.res.one ho (by omega), h.lt⟩
theorem PrAt.under {b : Nat} {w0 w w' : World} {s : ByteArray} {Z : List Value} {TR : TypeId} (h : PrAt b w0 w s Z TR) (hb : Below w.heap.size w w') : PrAt b w0 w' s Z TR :=
  h.call ⟨hb.os, hb.tape, hb.output, hb.size, fun k hk _ _ => hb.block k hk⟩ ((hb.block b h.rd.lt).trans h.rd)
theorem pr_begin {b : Nat} {w : World} {s : ByteArray} (h : RdAt w b s false) (Z : List Value) (TR : TypeId) : PrAt b w ((w.alloc (.cells #[.pointer (some ⟨b, 0, none⟩)] 97)).alloc (.cells Z.toArray TR)) s Z TR := by
  have h1 : (w.alloc (.cells #[.pointer (some ⟨b, 0, none⟩)] 97)).heap.size = w.heap.size + 1 := by simp
  refine ⟨(h.alloc _).alloc _, ((Kept.refl b none w).alloc _).alloc _, ?_, ?_, h.lt⟩
  · exact (Below.heap_alloc _ _ _ (by rw [h1]; omega)).trans (heap_alloc_last w _)
  · have := heap_alloc_last (w.alloc (.cells #[.pointer (some ⟨b, 0, none⟩)] 97)) (.cells Z.toArray TR)
    rw [h1] at this
    exact this
/-- A part under way that answers no block of its own. -/
structure PlAt (b : Nat) (w0 w : World) (s : ByteArray) : Prop where
  rd : RdAt w b s false
  kept : Kept b none w0 w
  box : BxAt w w0.heap.size [.pointer (some ⟨b, 0, none⟩)] 97
  lt : b < w0.heap.size
theorem PlAt.call {b : Nat} {w0 w w' : World} {s s' : ByteArray} (h : PlAt b w0 w s) (hk : Kept b none w w') (hr : RdAt w' b s' false) : PlAt b w0 w' s' :=
  ⟨hr, h.kept.trans hk (.inl rfl), h.box.kept hk (by have := h.lt; omega), h.lt⟩
theorem PlAt.under {b : Nat} {w0 w w' : World} {s : ByteArray} (h : PlAt b w0 w s) (hb : Below w.heap.size w w') : PlAt b w0 w' s :=
  h.call ⟨hb.os, hb.tape, hb.output, hb.size, fun k hk _ _ => hb.block k hk⟩ ((hb.block b h.rd.lt).trans h.rd)
theorem pl_begin {b : Nat} {w : World} {s : ByteArray} (h : RdAt w b s false) : PlAt b w (w.alloc (.cells #[.pointer (some ⟨b, 0, none⟩)] 97)) s :=
  ⟨h.alloc _, (Kept.refl b none w).alloc _, heap_alloc_last w _, h.lt⟩
/-- A part whose list has grown by one element (behind a new block that held it). -/
theorem PlAt.grown {b : Nat} {w0 w w' : World} {s : ByteArray} {o : Obj} {r : Option Nat} (h : PlAt b w0 w s) (hg : (w.alloc o).grownBy w' r) (hr : ∀ g, r = some g → w0.heap.size < g) : PlAt b w0 w' s := by
  have hlt := h.rd.lt
  have hbx := lt_of_blk h.box
  have hb : ∀ k, k < w.heap.size → some k ≠ r → w'.heap[k]? = w.heap[k]? := fun k hk hn => (hg.block k (by simp; omega) hn).trans (Below.heap_alloc w o k hk)
  exact ⟨(hb b hlt (fun e => by have := hr b e.symm; have := h.lt; omega)).trans h.rd,
    ⟨hg.os.trans h.kept.os, hg.tape.trans h.kept.tape, hg.output.trans h.kept.output, Nat.le_trans h.kept.size (Nat.le_trans (by simp) hg.size), fun k hk h1 h2 => (hb k (Nat.lt_of_lt_of_le hk h.kept.size) (fun e => by have := hr k e.symm; omega)).trans (h.kept.block k hk h1 h2)⟩,
    (hb w0.heap.size hbx (fun e => by have := hr _ e.symm; omega)).trans h.box, h.lt⟩
def vSg (x : Sg) (v : Value) (_ _ : World) : Prop := v = .agg #[.int .i64 x.1, .string x.2]
set_option maxRecDepth 100000 in
set_option maxHeartbeats 1600000 in
theorem ipsig_got (b : Nat) (s : ByteArray) (w : World) (h : RdAt w b s false) : Calls Try.prog 92 #[.agg #[.pointer (some ⟨b, 0, none⟩)]] w (Got pSg b s vSg w) := by
  have H0 := hid (pr_begin h [.int .i64 0, .string ⟨#[]⟩] 48)
  have y0 := H0.out.box.cell 0 _ rfl
  clear h
  go_enter Try.func92, Try.ntmps92
  go_wp2_with fail
  refine (ipbyte_got b s _ H0.out.rd).mono ?_
  rintro e w1 ⟨hk, hor⟩
  rcases hor with ⟨x, s1, v1, hp, rfl, rfl, hr⟩ | ⟨hp, rfl⟩
  rotate_left
  · have HX := hid (And.intro hp hk)
    clear hp hk
    go_wp2
    exact ⟨rfl, H0.out.kept.trans HX.out.2 (.inl rfl), .inr ⟨by have ql := HX.out.1; simp [pSg, pSeq, ql], rfl⟩⟩
  have N1 := hid (H0.out.call hk hr)
  have HP1 := hid hp
  have HKc1 := hid hk
  clear hk hr hp y0
  have y0 := N1.out.box.cell 0 _ rfl
  go_wp2_with fail
  refine (iptext_got b s1 _ N1.out.rd).mono ?_
  rintro e w2 ⟨hk, hor⟩
  rcases hor with ⟨t, s2, v2, hp, rfl, rfl, hr⟩ | ⟨hp, rfl⟩
  rotate_left
  · have HX := hid (And.intro hp hk)
    clear hp hk
    go_wp2
    exact ⟨rfl, N1.out.kept.trans HX.out.2 (.inl rfl), .inr ⟨by have q0 := HP1.out; have ql := HX.out.1; simp [pSg, pSeq, q0, ql], rfl⟩⟩
  have N2 := hid (N1.out.call hk hr)
  have HP2 := hid hp
  have HKc2 := hid hk
  clear hk hr hp y0
  have y0 := N2.out.box.cell 0 _ rfl
  go_wp2_with (refine wl_store_blk rfl 48 _ _ rfl (w.heap.size + 1) 0 rfl #[.int .i64 x, .string t] rfl [.int .i64 0, .string ⟨#[]⟩] 48 N2.out.res (by simp) (by kernel_rfl) (by simp [Value.oneCell']) ?_; intro w3 Hz; have H4 : Hid (PrAt b w w3 s2 [.int .i64 x, .string t] 48) := hid (N2.out.ans Hz.out.2 Hz.out.1); clear Hz)
  have x0 := H4.out.res.cell 0 _ rfl
  have x1 := H4.out.res.cell 1 _ rfl
  refine bodyPost_ret (v := .agg #[.int .i64 x, .string t]) (by simp [results, Try.results92, go_sem, x0, x1]) rfl ?_
  exact ⟨H4.out.kept, .inl ⟨(x, t), s2, _, by have q0 := HP1.out; have q1 := HP2.out; simp [pSg, pSeq, q0, q1], rfl, rfl, H4.out.rd⟩⟩
/-- A list that was read lies in new memory. -/
def vL {α : Type} (d : List α → Dat) (x : List α) (v : Value) (w w' : World) : Prop := Reads (fun k => w.heap.size ≤ k) w' v (d x)
set_option maxRecDepth 100000 in
set_option maxHeartbeats 3200000 in
theorem ipmembers_got (b : Nat) (s : ByteArray) (w : World) (h : RdAt w b s false) : Calls Try.prog 75 #[.agg #[.pointer (some ⟨b, 0, none⟩)]] w (Got (pList (pI 1)) b s (vL dInts) w) := by
  have H0 := hid (pl_begin h)
  have y0 := H0.out.box.cell 0 _ rfl
  clear h
  go_enter Try.func75, Try.ntmps75
  go_wp2_with fail
  refine (ipbyte_got b s _ H0.out.rd).mono ?_
  rintro e w1 ⟨hk, hor⟩
  rcases hor with ⟨x, s1, v1, hp, rfl, rfl, hr⟩ | ⟨hp, rfl⟩
  rotate_left
  · have HX := hid (And.intro hp hk)
    clear hp hk
    go_wp2
    exact ⟨rfl, H0.out.kept.trans HX.out.2 (.inl rfl), .inr ⟨list_no HX.out.1, rfl⟩⟩
  obtain ⟨n, rfl, hn, hl⟩ := list_of (p := (pI 1)) hp
  have N1 := hid (H0.out.call hk hr)
  have HL := hid hl
  have hn1 : (n : Int) < 256 := by omega
  clear hk hr hp hl y0 hn
  go_wp2_with fail
  go_loopw [3, 6] (fun v i wr => ∃ (j : Nat) (l : List Int) (s2 : ByteArray) (vv : Value), j ≤ n ∧ i = .int .i64 (j : Int) ∧ vv = v ∧ pMany (pI 1) j s1 = some (l, s2) ∧ PlAt b w wr s2 ∧ OwnD 3 1 (w.heap.size + 1) (fun _ => False) wr vv (l.map (fun z : Int => [Dat.i z])))
    (fun _ i _ => ((n : Int) - intOf i).toNat)
  case atStart => exact ⟨0, [], s1, _, Nat.zero_le _, rfl, rfl, rfl, N1.out, OwnD.nil _ _ _ _ _⟩
  case round =>
    obtain ⟨j, l, s2, v, hj, rfl, rfl, hm, hpl, hO⟩ := hrel
    have HS := hid (And.intro hpl hO)
    have HM := hid hm
    clear hm hpl hO
    have hj0 : (0 : Int) ≤ (j : Int) := Int.natCast_nonneg _
    have y0 := HS.out.1.box.cell 0 _ rfl
    by_cases hjn : j = n
    · have hj1 : ¬ ((j : Int) < (n : Int)) := by omega
      have HE : Hid (j = n) := hid hjn
      clear hj hjn
      go_wp2
      go_ret
      refine ⟨HS.out.1.kept, .inl ⟨l, s2, _, ?_, rfl, ?_, HS.out.1.rd⟩⟩
      · rw [HL.out, ← HE.out]
        exact HM.out
      · exact (HS.out.2.reads).mono (fun k _ hk => by
          rcases hk with hk | hk
          · exact hk.elim
          · exact Nat.le_of_succ_le (HS.out.2.lt k hk).1)
    · have hj1 : (j : Int) < (n : Int) := by omega
      have HJ := hid (And.intro hj hjn)
      clear hj hjn
      go_wp2_with fail
      refine (ipbyte_got b s2 _ HS.out.1.rd).mono ?_
      rintro e w2 ⟨hk, hor⟩
      rcases hor with ⟨x, s3, v2, hp, rfl, rfl, hr⟩ | ⟨hp, rfl⟩
      rotate_left
      · have HX := hid (And.intro hp hk)
        clear hp hk
        go_wp2
        exact ⟨rfl, HS.out.1.kept.trans HX.out.2 (.inl rfl), .inr ⟨by rw [HL.out]; exact many_none (many_fail HM.out HX.out.1) n (by have := HJ.out; omega), rfl⟩⟩
      have M2 := hid (many_snoc HM.out hp)
      have hlen := many_len M2.out
      have S2 := hid (HS.out.1.call hk hr)
      have O2 := hid (HS.out.2.kept hk (fun hFb => hFb) (by have := HS.out.1.lt; omega))
      clear hk hr hp y0
      have hll : l.length + 1 ≤ 256 := by rw [List.length_append] at hlen; simp at hlen; omega
      go_wp2_with (first
        | (at_builtin; refine wl_add_D rfl _ _ 29 3 rfl (.int .i64 0) 1 8 Try.underlying29 (by kernel_rfl) rfl (by decide) (w.heap.size + 1) (fun _ => False) (fun _ => False) v (l.map (fun z : Int => [Dat.i z])) rfl (O2.out.under ((Below.refl w2.heap.size w2).alloc (Nat.le_refl _) _) (Nat.le_refl _)) (by have := lt_of_blk S2.out.box; simp; omega) w2.heap.size rfl ((fun z : Int => [Dat.i z]) x) [.int .i64 x] rfl rfl (fun j u hu => cell_at (heap_alloc_last w2 _) j u hu) (fun q dd hq => by match q, hq with | 0, hq => cases hq; exact ⟨_, rfl, .i _⟩ | q + 1, hq => cases hq) (by simp [Value.oneCell']) (fun _ _ h => h) O2.out.sep (fun _ h => h.elim) (by rw [List.length_map]; omega) (by rw [List.length_map]; unfold maxLen; omega) ?_; intro v' w' Hz; have H5 := hid Hz.out; clear Hz))
      go_roundw
      case rel => exact ⟨j + 1, l ++ [x], s3, _, by have := HJ.out; omega, by go_num, rfl, M2.out, S2.out.grown H5.out.2.1 (fun g hg => (O2.out.lt g hg).1), by rw [List.map_append]; exact H5.out.1⟩
      case measure => simp [intOf]; omega
set_option maxRecDepth 100000 in
set_option maxHeartbeats 3200000 in
theorem ipsigs_got (b : Nat) (s : ByteArray) (w : World) (h : RdAt w b s false) : Calls Try.prog 76 #[.agg #[.pointer (some ⟨b, 0, none⟩)]] w (Got (pList pSg) b s (vL dPairs) w) := by
  have H0 := hid (pl_begin h)
  have y0 := H0.out.box.cell 0 _ rfl
  clear h
  go_enter Try.func76, Try.ntmps76
  go_wp2_with fail
  refine (ipbyte_got b s _ H0.out.rd).mono ?_
  rintro e w1 ⟨hk, hor⟩
  rcases hor with ⟨x, s1, v1, hp, rfl, rfl, hr⟩ | ⟨hp, rfl⟩
  rotate_left
  · have HX := hid (And.intro hp hk)
    clear hp hk
    go_wp2
    exact ⟨rfl, H0.out.kept.trans HX.out.2 (.inl rfl), .inr ⟨list_no HX.out.1, rfl⟩⟩
  obtain ⟨n, rfl, hn, hl⟩ := list_of (p := pSg) hp
  have N1 := hid (H0.out.call hk hr)
  have HL := hid hl
  have hn1 : (n : Int) < 256 := by omega
  clear hk hr hp hl y0 hn
  go_wp2_with fail
  go_loopw [3, 6] (fun v i wr => ∃ (j : Nat) (l : List Sg) (s2 : ByteArray) (vv : Value), j ≤ n ∧ i = .int .i64 (j : Int) ∧ vv = v ∧ pMany pSg j s1 = some (l, s2) ∧ PlAt b w wr s2 ∧ OwnD 48 2 (w.heap.size + 1) (fun _ => False) wr vv (l.map (fun p : Sg => [Dat.i p.1, Dat.s p.2])))
    (fun _ i _ => ((n : Int) - intOf i).toNat)
  case atStart => exact ⟨0, [], s1, _, Nat.zero_le _, rfl, rfl, rfl, N1.out, OwnD.nil _ _ _ _ _⟩
  case round =>
    obtain ⟨j, l, s2, v, hj, rfl, rfl, hm, hpl, hO⟩ := hrel
    have HS := hid (And.intro hpl hO)
    have HM := hid hm
    clear hm hpl hO
    have hj0 : (0 : Int) ≤ (j : Int) := Int.natCast_nonneg _
    have y0 := HS.out.1.box.cell 0 _ rfl
    by_cases hjn : j = n
    · have hj1 : ¬ ((j : Int) < (n : Int)) := by omega
      have HE : Hid (j = n) := hid hjn
      clear hj hjn
      go_wp2
      go_ret
      refine ⟨HS.out.1.kept, .inl ⟨l, s2, _, ?_, rfl, ?_, HS.out.1.rd⟩⟩
      · rw [HL.out, ← HE.out]
        exact HM.out
      · exact (HS.out.2.reads).mono (fun k _ hk => by
          rcases hk with hk | hk
          · exact hk.elim
          · exact Nat.le_of_succ_le (HS.out.2.lt k hk).1)
    · have hj1 : (j : Int) < (n : Int) := by omega
      have HJ := hid (And.intro hj hjn)
      clear hj hjn
      go_wp2_with fail
      refine (ipsig_got b s2 _ HS.out.1.rd).mono ?_
      rintro e w2 ⟨hk, hor⟩
      rcases hor with ⟨x, s3, v2, hp, rfl, rfl, hr⟩ | ⟨hp, rfl⟩
      rotate_left
      · have HX := hid (And.intro hp hk)
        clear hp hk
        go_wp2
        exact ⟨rfl, HS.out.1.kept.trans HX.out.2 (.inl rfl), .inr ⟨by rw [HL.out]; exact many_none (many_fail HM.out HX.out.1) n (by have := HJ.out; omega), rfl⟩⟩
      have M2 := hid (many_snoc HM.out hp)
      have hlen := many_len M2.out
      have S2 := hid (HS.out.1.call hk hr)
      have O2 := hid (HS.out.2.kept hk (fun hFb => hFb) (by have := HS.out.1.lt; omega))
      clear hk hr hp y0
      have hll : l.length + 1 ≤ 256 := by rw [List.length_append] at hlen; simp at hlen; omega
      go_wp2_with (first
        | (at_builtin; refine wl_add_D rfl _ _ 30 48 rfl (.agg #[.int .i64 0, .string ⟨#[]⟩]) 2 24 Try.underlying30 (by kernel_rfl) rfl (by decide) (w.heap.size + 1) (fun _ => False) (fun _ => False) v (l.map (fun p : Sg => [Dat.i p.1, Dat.s p.2])) rfl (O2.out.under ((Below.refl w2.heap.size w2).alloc (Nat.le_refl _) _) (Nat.le_refl _)) (by have := lt_of_blk S2.out.box; simp; omega) w2.heap.size rfl ((fun p : Sg => [Dat.i p.1, Dat.s p.2]) x) [.int .i64 x.1, .string x.2] rfl rfl (fun j u hu => cell_at (heap_alloc_last w2 _) j u hu) (fun q dd hq => by match q, hq with | 0, hq => cases hq; exact ⟨_, rfl, .i _⟩ | 1, hq => cases hq; exact ⟨_, rfl, .s _⟩ | q + 2, hq => cases hq) (by simp [Value.oneCell']) (fun _ _ h => h) O2.out.sep (fun _ h => h.elim) (by rw [List.length_map]; omega) (by rw [List.length_map]; unfold maxLen; omega) ?_; intro v' w' Hz; have H5 := hid Hz.out; clear Hz))
      go_roundw
      case rel => exact ⟨j + 1, l ++ [x], s3, _, by have := HJ.out; omega, by go_num, rfl, M2.out, S2.out.grown H5.out.2.1 (fun g hg => (O2.out.lt g hg).1), by rw [List.map_append]; exact H5.out.1⟩
      case measure => simp [intOf]; omega
end Go.Proofs.Ytepcdbmdfpaomaa
