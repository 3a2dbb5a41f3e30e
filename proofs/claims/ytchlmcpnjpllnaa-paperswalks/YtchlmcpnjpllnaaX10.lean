/- Texts laid together: PyE PyF PyG GrC GrF GrG GrH GrJ CoN. -/
import Derived.Test.YtchlmcpnjpllnaaX09
/- What the program reads as a paper. -/
namespace Go.Proofs.Ytchlmcpnjpllnaa
open Go.RowKit

/-- Bytes read so far, and room for the rest. -/
def pbR (L : List UInt8) (N : Nat) : List UInt8 := L ++ List.replicate (N - L.length) 0
theorem pbR_len (L : List UInt8) (N : Nat) (h : L.length ≤ N) : (pbR L N).length = N := by rw [pbR, List.length_append, List.length_replicate]; omega
theorem pbR_all (L : List UInt8) (N : Nat) (h : L.length = N) : pbR L N = L := by rw [pbR, h, Nat.sub_self, List.replicate_zero, List.append_nil]
theorem pad_set {α : Type} (L : List α) (N j : Nat) (z x : α) (hj : L.length = j) (hN : j < N) : (L ++ List.replicate (N - j) z).set j x = (L ++ [x]) ++ List.replicate (N - (j + 1)) z := by
  obtain ⟨m, hm⟩ : ∃ m, N - j = m + 1 := ⟨N - j - 1, by omega⟩
  rw [hm, show N - (j + 1) = m by omega, List.set_append_right _ _ (by omega), hj, Nat.sub_self, List.replicate_succ, List.set_cons_zero, List.append_assoc]
  rfl
theorem pbR_set (L : List UInt8) (N j n : Nat) (hj : L.length = j) (hN : j < N) (hn : n < 256) : (bC (pbR L N)).set j (.int .u8 (n : Int)) = bC (pbR (L ++ [UInt8.ofNat n]) N) := by
  have h := pad_set L N j 0 (UInt8.ofNat n) hj hN
  rw [pbR, pbR, hj, List.length_append, hj, show [UInt8.ofNat n].length = 1 from rfl, ← h]
  have hb := byte_at n hn
  have hb2 : Value.int .u8 ((UInt8.ofNat n).toNat : Int) = .int .u8 (n : Int) := by
    have : [Value.int .u8 ((UInt8.ofNat n).toNat : Int)] = [.int .u8 (n : Int)] := hb
    exact (List.cons.inj this).1
  rw [← hb2, bC, bC, List.map_set]
/-- While a root is read: the reader at b, the row g. -/
structure RrSt (w0 w : World) (b : Nat) (s : ByteArray × Bool) (L : List UInt8) : Prop where
  rd : RdAt w b s.1 s.2
  row : w.heap[w0.heap.size]? = some (.cells (bC (pbR L 32)).toArray 5 (0, 0))
  kept : Kept b none w0 w
  lt : b < w0.heap.size
theorem kept_fresh {b : Nat} {w0 w : World} (h : Kept b none w0 w) (g o : Nat) (v : Value) (hg : w0.heap.size ≤ g) : Kept b none w0 (w.setCell ⟨g, o, none⟩ v) :=
  ⟨h.os, h.tape, h.output, by have := h.size; simpa [World.setCell] using this, fun i hi hb hne => by rw [Below.heap_setCell _ _ _ _ (show i ≠ g by omega), h.block i hi hb hne]⟩
theorem RrSt.byte {w0 w w' : World} {b : Nat} {s s' : ByteArray × Bool} {L : List UInt8} (h : RrSt w0 w b s L) (k : Kept b none w w') (hr : RdAt w' b s'.1 s'.2) : RrSt w0 w' b s' L :=
  ⟨hr, (k.block _ (lt_of_blk h.row) (by have := h.lt; omega) (by simp)).trans h.row, h.kept.trans k (.inl rfl), h.lt⟩
theorem RrSt.put {w0 w : World} {b : Nat} {s : ByteArray × Bool} {L : List UInt8} (h : RrSt w0 w b s L) (j n : Nat) (hj : L.length = j) (hN : j < 32) (hn : n < 256) : RrSt w0 (w.setCell ⟨w0.heap.size, j, none⟩ (.int .u8 (n : Int))) b s (L ++ [UInt8.ofNat n]) := by
  have hlt := h.lt
  refine ⟨(Below.heap_setCell _ _ _ _ (show b ≠ w0.heap.size by omega)).trans h.rd, (blk_set h.row j _).trans ?_, kept_fresh h.kept _ _ _ (Nat.le_refl _), hlt⟩
  rw [List.setIfInBounds_toArray, pbR_set L 32 j n hj hN hn]
theorem run_make32 (u : World) : (Instr.makeSlice 57 (.int .i64 32) (.int .i64 32)).run Try.prog u = .ok (.slice (some ⟨u.heap.size, 0, none⟩) 32 32) (u.alloc (.cells (bC (pbR [] 32)).toArray 5)) := by
  obtain ⟨i0, hi0, hz0, hz1, hz2⟩ := info_parts Try.info5
  have h := run_make (P := Try.prog) u 57 5 i0 (.int .u8 0) Try.underlying57 hi0 hz0 .i64 .i64 32 32 (by decide) (by decide) (by rw [hz2]; decide) (by decide)
  have hc : madeCells (Value.int .u8 0).cells 32 = (bC (pbR [] 32)).toArray := by
    apply Array.ext'
    have h2 : (Value.int .u8 0).cells = #[.int .u8 0] := rfl
    rw [h2, toList_madeCells_one]
    show _ = bC _
    rw [pbR, bC, List.nil_append, List.map_replicate]
    rfl
  have e : (32 : Int).toNat * 1 = 32 := rfl
  rw [hz1, e, hc] at h
  exact h
set_option maxRecDepth 100000 in
set_option maxHeartbeats 1600000 in
theorem yrroot (b : Nat) (s : ByteArray × Bool) (w : World) (h : RdAt w b s.1 s.2) :
    Calls Try.prog 37 #[.pointer (some ⟨b, 0, none⟩)] w fun e w' => e = .returned (.string ⟨(brL s 32).toArray⟩) ∧ RdAt w' b (brS s 32).1 (brS s 32).2 ∧ Kept b none w w' := by
  have H0 : Hid (RrSt w (w.alloc (.cells (bC (pbR [] 32)).toArray 5)) b s []) := hid ⟨(Below.heap_alloc _ _ _ (lt_of_blk h)).trans h, heap_alloc_last w _, (Kept.refl _ _ _).alloc _, lt_of_blk h⟩
  have HMk := hid run_make32
  clear h
  go_enter Try.func37, Try.ntmps37
  go_wp2_with (rw [HMk.out])
  go_loopw [8] (fun i wr => ∃ j : Nat, j ≤ 32 ∧ i = .int .i64 (j : Int) ∧ RrSt w wr b (brS s j) (brL s j))
    (fun i _ => ((32 : Int) - intOf i).toNat)
  case atStart => exact ⟨0, by omega, rfl, H0.out⟩
  case round =>
    obtain ⟨j, hj, rfl, hO⟩ := hrel
    have HO := hid hO
    clear hO
    have hj0 : (0 : Int) ≤ (j : Int) := Int.natCast_nonneg _
    by_cases hjn : j = 32
    · have hj1 : ¬ ((j : Int) < 32) := by omega
      have hO := HO.out
      rw [hjn] at hO
      have hT := row_text wr w.heap.size 32 (brL s 32) (fun i v hv => cell_at hO.row i v (by rw [pbR_all _ _ (brL_len s 32)]; exact hv)) 32 (brL_len s 32)
      have HE := hid (And.intro hT (And.intro hO.rd hO.kept))
      clear hj hjn hO hT
      go_wp2_with (rw [HE.out.1])
      go_ret
      exact ⟨rfl, HE.out.2⟩
    · have hj1 : (j : Int) < 32 := by omega
      obtain ⟨y, ey⟩ : ∃ y, y = rN (brS s j).1 (brS s j).2 1 := ⟨_, rfl⟩
      have hy : (y : Int) < 256 := by have := rN_lt (brS s j).1 (brS s j).2 1; omega
      have hy0 : (0 : Int) ≤ (y : Int) := Int.natCast_nonneg _
      have HK : Hid (∀ u : World, RrSt w u b (brS s j) (brL s j) → Calls Try.prog 35 #[.pointer (some ⟨b, 0, none⟩)] u fun e w' => e = .returned (.int .i64 (y : Int)) ∧ RrSt w w' b (brS s (j + 1)) (brL s j)) := hid (fun u hu => (rbyte_any _ _ _ u hu.rd).mono fun e w' ⟨he, hr, hk⟩ => ⟨by rw [he, ey], hu.byte hk hr⟩)
      have HL : Hid (brL s (j + 1) = brL s j ++ [UInt8.ofNat y]) := hid (by rw [brL, ey])
      have HLn : Hid (j < (bC (pbR (brL s j) 32)).toArray.size) := hid (by show j < (bC (pbR (brL s j) 32)).length; rw [bC_len, pbR_len _ _ (by rw [brL_len]; omega)]; omega)
      have HJ := hid (And.intro hj hjn)
      clear ey hj hjn
      go_wp2_with (go_at_call 35; refine (HK.out _ (by exact HO.out)).mono ?_; rintro e w5 ⟨rfl, h5⟩; have H5 := hid h5; clear h5; have z5 := cell_of_blk H5.out.row j HLn.out; have f5 := free_of_blk H5.out.row j)
      go_roundw
      case rel => exact ⟨j + 1, by have := HJ.out; omega, by go_num, by rw [HL.out]; exact H5.out.put j y (brL_len s j) (by have := HJ.out; omega) (by omega)⟩
      case measure => simp [intOf]; omega

/-- Pairs read so far, and room for the rest. -/
def padP (L : List (Int × ByteArray)) (N : Nat) : List (Int × ByteArray) := L ++ List.replicate (N - L.length) (0, ⟨#[]⟩)
theorem padP_len (L : List (Int × ByteArray)) (N : Nat) (h : L.length ≤ N) : (padP L N).length = N := by rw [padP, List.length_append, List.length_replicate]; omega
theorem padP_all (L : List (Int × ByteArray)) (N : Nat) (h : L.length = N) : padP L N = L := by rw [padP, h, Nat.sub_self, List.replicate_zero, List.append_nil]
theorem pC_set : ∀ (l : List (Int × ByteArray)) (j : Nat) (y : Int) (r : ByteArray), ((pC l).set (j * 2) (.int .i64 y)).set (j * 2 + 1) (.string r) = pC (l.set j (y, r))
  | [], _, _, _ => rfl
  | p :: l, 0, y, r => rfl
  | p :: l, j + 1, y, r => by
    have e1 : (j + 1) * 2 = j * 2 + 1 + 1 := by omega
    rw [e1, pC_cons, List.set_cons_succ, List.set_cons_succ, List.set_cons_succ, List.set_cons_succ, pC_set l j y r, List.set_cons_succ, pC_cons]
theorem padP_set (L : List (Int × ByteArray)) (N j : Nat) (y : Int) (r : ByteArray) (hj : L.length = j) (hN : j < N) : ((pC (padP L N)).set (j * 2) (.int .i64 y)).set (j * 2 + 1) (.string r) = pC (padP (L ++ [(y, r)]) N) := by
  rw [pC_set, padP, padP, hj, pad_set L N j _ (y, r) hj hN, List.length_append, hj]
  rfl
theorem made_pairs : ∀ n, (madeCells #[.int .i64 0, .string ⟨#[]⟩] (n * 2)).toList = pC (List.replicate n (0, ⟨#[]⟩))
  | 0 => by simp [madeCells, pC]
  | n + 1 => by
    have e1 : (n + 1) * 2 = n * 2 + 1 + 1 := by omega
    have ih := made_pairs n
    rw [List.replicate_succ', pC_app, ← ih, e1]
    unfold madeCells
    simp [List.range_succ, pC, Nat.add_mod]
/-- While pairs are read: the result's block o, the reader behind it, the row R at b. -/
structure YmSt (o : Obj) (T : TypeId) (w0 w : World) (s : ByteArray × Bool) (b : Nat) (R : List Value) : Prop where
  res : w.heap[w0.heap.size]? = some o
  rd : RdAt w (w0.heap.size + 1) s.1 s.2
  bel : Below w0.heap.size w0 w
  row : w.heap[b]? = some (.cells R.toArray T (0, 0))
  hb : w0.heap.size + 2 ≤ b
theorem YmSt.kept {o : Obj} {T : TypeId} {w0 w w' : World} {s s' : ByteArray × Bool} {b : Nat} {R : List Value} (h : YmSt o T w0 w s b R) (k : Kept (w0.heap.size + 1) none w w') (hr : RdAt w' (w0.heap.size + 1) s'.1 s'.2) : YmSt o T w0 w' s' b R :=
  ⟨(k.block _ (lt_of_blk h.res) (by omega) (by simp)).trans h.res, hr, h.bel.trans (k.below (Nat.le_of_lt (lt_of_blk h.res)) (by omega) (fun g hg => by cases hg)), (k.block _ (lt_of_blk h.row) (by have := h.hb; omega) (by simp)).trans h.row, h.hb⟩
theorem YmSt.keep {o : Obj} {T : TypeId} {w0 w w' : World} {s : ByteArray × Bool} {b : Nat} {R : List Value} (h : YmSt o T w0 w s b R) (hb : Below w.heap.size w w') : YmSt o T w0 w' s b R :=
  ⟨(hb.block _ (lt_of_blk h.res)).trans h.res, (hb.block _ (lt_of_blk h.rd)).trans h.rd, h.bel.trans (hb.mono h.bel.size), (hb.block _ (lt_of_blk h.row)).trans h.row, h.hb⟩
theorem YmSt.put {o : Obj} {T : TypeId} {w0 w : World} {s : ByteArray × Bool} {b : Nat} {R R2 : List Value} (h : YmSt o T w0 w s b R) (j : Nat) (y : Value) (hl : R.set j y = R2) : YmSt o T w0 (w.setCell ⟨b, j, none⟩ y) s b R2 := by
  have hb := h.hb
  refine ⟨(Below.heap_setCell _ _ _ _ (show w0.heap.size ≠ b by omega)).trans h.res, (Below.heap_setCell _ _ _ _ (show w0.heap.size + 1 ≠ b by omega)).trans h.rd, h.bel.setCell (p := ⟨b, j, none⟩) (by show w0.heap.size ≤ b; omega) _, (blk_set h.row j _).trans ?_, h.hb⟩
  subst hl
  rw [List.setIfInBounds_toArray]
theorem own_row {B : Nat} {w : World} {T : TypeId} {g n : Nat} {ps : List (Int × ByteArray)} (h : w.heap[g]? = some (.cells (pC ps).toArray T (0, 0))) (hB : B ≤ g) (hn : ps.length = n) (hm : n ≤ maxLen) : w.ownsRow B T 2 (.slice (some ⟨g, 0, none⟩) n n) n (pC ps) := by
  subst hn
  refine ⟨pC_len ps, .inr ⟨g, _, _, rfl, hB, h, Nat.le_refl _, hm, by show (pC ps).length = _; rw [pC_len], ?_⟩⟩
  show (pC ps).take _ = _
  rw [← pC_len, List.take_length]
theorem run_makeP (n : Nat) (hm : n ≤ 1000) (u : World) : (Instr.makeSlice 22 (.int .i64 (n : Int)) (.int .i64 (n : Int))).run Try.prog u = .ok (.slice (some ⟨u.heap.size, 0, none⟩) n n) (u.alloc (.cells (pC (padP [] n)).toArray 44)) := by
  obtain ⟨i0, hi0, hz0, hz1, hz2⟩ := info_parts Try.info44
  have h := run_make (P := Try.prog) u 22 44 i0 (.agg #[.int .i64 0, .string ⟨#[]⟩]) Try.underlying22 hi0 hz0 .i64 .i64 n n (by omega) (by omega) (by rw [hz2]; omega) (by omega)
  rw [hz1, Int.toNat_natCast] at h
  have hc : madeCells (Value.agg #[.int .i64 0, .string ⟨#[]⟩]).cells (n * 2) = (pC (padP [] n)).toArray := by
    apply Array.ext'
    have h2 : (Value.agg #[.int .i64 0, .string ⟨#[]⟩]).cells = #[.int .i64 0, .string ⟨#[]⟩] := rfl
    rw [h2, made_pairs]
    rfl
  rw [hc] at h
  exact h
end Go.Proofs.Ytchlmcpnjpllnaa

/- What the program reads as a paper. -/
namespace Go.Proofs.Ytchlmcpnjpllnaa
open Go.RowKit

/-- The result's block is as laid, the program's reader stands at s; nothing else has turned since w0. -/
structure YpSt (o : Obj) (w0 w : World) (s : ByteArray × Bool) : Prop where
  res : w.heap[w0.heap.size]? = some o
  rd : RdAt w (w0.heap.size + 1) s.1 s.2
  bel : Below w0.heap.size w0 w
theorem YpSt.kept {o : Obj} {w0 w w' : World} {s s' : ByteArray × Bool} (h : YpSt o w0 w s) (k : Kept (w0.heap.size + 1) none w w') (hr : RdAt w' (w0.heap.size + 1) s'.1 s'.2) : YpSt o w0 w' s' :=
  ⟨(k.block _ (lt_of_blk h.res) (by omega) (by simp)).trans h.res, hr, h.bel.trans (k.below (Nat.le_of_lt (lt_of_blk h.res)) (by omega) (fun g hg => by cases hg))⟩
theorem YpSt.keep {o : Obj} {w0 w w' : World} {s : ByteArray × Bool} (h : YpSt o w0 w s) (hb : Below w.heap.size w w') : YpSt o w0 w' s :=
  ⟨(hb.block _ (lt_of_blk h.res)).trans h.res, (hb.block _ (lt_of_blk h.rd)).trans h.rd, h.bel.trans (hb.mono h.bel.size)⟩
def noPaper : Obj := .cells #[.int .i64 0, .slice none 0 0] 24 (0, 0)
set_option maxRecDepth 100000 in
set_option maxHeartbeats 3200000 in
theorem yread_all (t : ByteArray) (w : World) :
    Calls Try.prog 12 #[.string t] w fun e w' => ∃ v, e = .returned (.tuple #[.agg #[.int .i64 (readPZ t), v], .int .i64 (readPE t)]) ∧ w'.ownsRow w.heap.size 44 2 v (readPL t).length (pC (readPL t)) ∧ Below w.heap.size w w' := by
  have H0 : Hid (YpSt noPaper w ((w.alloc (.cells #[.int .i64 0, .slice none 0 0] 24)).alloc (.cells #[.string t, .bool false] 102)) (t, false)) := hid
    ⟨(Below.heap_alloc _ _ _ (by simp)).trans (heap_alloc_last w _), snd_alloc w _ _, ((Below.refl _ _).alloc (Nat.le_refl _) _).alloc (by simp) _⟩
  have hN1 := yN_lt t
  obtain ⟨N, eN⟩ : ∃ N, N = yN t := ⟨_, rfl⟩
  obtain ⟨E, eE⟩ : ∃ E, E = yE t := ⟨_, rfl⟩
  obtain ⟨H, eH⟩ : ∃ H, H = yH t := ⟨_, rfl⟩
  have hN2 : (N : Int) < 256 := by omega
  have HC := hid (And.intro eN (And.intro eE eH))
  have HA : Hid (∀ u : World, YpSt noPaper w u (t, false) → Calls Try.prog 35 #[.pointer (some ⟨w.heap.size + 1, 0, none⟩)] u fun e w' => e = .returned (.int .i64 (H : Int)) ∧ YpSt noPaper w w' (yS1 t)) := hid (fun u hu => (rbyte_any _ _ _ u hu.rd).mono fun e w' ⟨he, hr, hk⟩ => ⟨by rw [he, eH]; rfl, hu.kept hk hr⟩)
  have HB : Hid (∀ u : World, YpSt noPaper w u (yS1 t) → Calls Try.prog 36 #[.pointer (some ⟨w.heap.size + 1, 0, none⟩)] u fun e w' => e = .returned (.int .i64 (E : Int)) ∧ YpSt noPaper w w' (yS2 t)) := hid (fun u hu => (rword_any _ _ _ u hu.rd).mono fun e w' ⟨he, hr, hk⟩ => ⟨by rw [he, eE]; rfl, hu.kept hk hr⟩)
  have HD : Hid (∀ u : World, YpSt noPaper w u (yS2 t) → Calls Try.prog 35 #[.pointer (some ⟨w.heap.size + 1, 0, none⟩)] u fun e w' => e = .returned (.int .i64 (N : Int)) ∧ YpSt noPaper w w' (yS3 t)) := hid (fun u hu => (rbyte_any _ _ _ u hu.rd).mono fun e w' ⟨he, hr, hk⟩ => ⟨by rw [he, eN]; rfl, hu.kept hk hr⟩)
  have HMk : Hid (∀ u : World, (Instr.makeSlice 22 (.int .i64 (N : Int)) (.int .i64 (N : Int))).run Try.prog u = .ok (.slice (some ⟨u.heap.size, 0, none⟩) N N) (u.alloc (.cells (pC (padP [] N)).toArray 44))) := hid (fun u => run_makeP N (by omega) u)
  clear eN eE eH hN1
  go_enter Try.func12, Try.ntmps12
  go_wp2_with (first
    | (go_at_call 34; refine (read_any _ _).mono ?_; rintro e w1 ⟨rfl, rfl⟩)
    | (go_at_call 36; refine (HB.out _ (by exact H1.out)).mono ?_; rintro e w2 ⟨rfl, h2⟩; have H2 := hid h2; clear h2)
    | (go_at_call 35; have := H2; refine (HD.out _ (by exact H2.out)).mono ?_; rintro e w3 ⟨rfl, h3⟩; have H3 := hid h3; clear h3)
    | (go_at_call 35; refine (HA.out _ (by exact H0.out)).mono ?_; rintro e w1 ⟨rfl, h1⟩; have H1 := hid h1; clear h1)
    | rw [HMk.out])
  obtain ⟨b, eb⟩ : ∃ b, b = w3.heap.size := ⟨_, rfl⟩
  obtain ⟨S, eS⟩ : ∃ S, S = yS3 t := ⟨_, rfl⟩
  rw [← eS] at H3
  have H4 : Hid (YmSt noPaper 44 w (w3.alloc (.cells (pC (padP [] N)).toArray 44)) S b (pC (padP (ysL S 0) N))) := hid (by
    have hk := H3.out.keep ((Below.refl w3.heap.size w3).alloc (Nat.le_refl _) (.cells (pC (padP [] N)).toArray 44))
    exact ⟨hk.res, hk.rd, hk.bel, by rw [eb]; exact heap_alloc_last w3 _, by rw [eb]; exact lt_of_blk H3.out.rd⟩)
  rw [← eb]
  have HS := hid eS
  clear eb eS this H0 H1 H2
  go_loopw [21] (fun i wr => ∃ j : Nat, j ≤ N ∧ i = .int .i64 (j : Int) ∧ YmSt noPaper 44 w wr (ysS S j) b (pC (padP (ysL S j) N)))
    (fun i _ => ((N : Int) - intOf i).toNat)
  case atStart => exact ⟨0, by omega, rfl, H4.out⟩
  case round =>
    obtain ⟨j, hj, rfl, hO⟩ := hrel
    have HO := hid hO
    clear hO H3
    by_cases hjn : j = N
    · have hj1 : ¬ ((j : Int) < (N : Int)) := by omega
      have hO := HO.out
      rw [hjn, padP_all _ _ (ysL_len S N)] at hO
      obtain ⟨M, eM⟩ : ∃ M, M = ysL S N := ⟨_, rfl⟩
      obtain ⟨F, eF⟩ : ∃ F, F = ysS S N := ⟨_, rfl⟩
      rw [← eM, ← eF] at hO
      have hpl := yread_plain t
      rw [← HC.out.1, ← HC.out.2.1, ← HC.out.2.2, ← HS.out, ← eM, ← eF] at hpl
      have HPl := hid hpl
      have HLN : Hid (M.length = N) := hid (by rw [eM, ysL_len])
      have HF := hid hO
      clear hj hjn hO HO hpl eM eF
      have HG : Hid (YmSt noPaper 44 w (wr.alloc (.cells #[.int .i64 (E : Int), .slice (some ⟨b, 0, none⟩) N N] 24)) F b (pC M)) := hid (HF.out.keep ((Below.refl _ _).alloc (Nat.le_refl _) _))
      have HK : Hid ((wr.alloc (.cells #[.int .i64 (E : Int), .slice (some ⟨b, 0, none⟩) N N] 24)).heap[wr.heap.size]? = some (.cells #[.int .i64 (E : Int), .slice (some ⟨b, 0, none⟩) N N] 24 (0, 0))) := hid (heap_alloc_last wr _)
      obtain ⟨wz, ewz⟩ : ∃ wz, wz = wr.alloc (.cells #[.int .i64 (E : Int), .slice (some ⟨b, 0, none⟩) N N] 24) := ⟨_, rfl⟩
      have r0 : wz.cell? ⟨w.heap.size, 0, none⟩ = some (.int .i64 0) := by rw [ewz]; exact cell_of_blk HG.out.res 0 (by simp)
      have r1 : wz.cell? ⟨w.heap.size, 1, none⟩ = some (.slice none 0 0) := by rw [ewz]; exact cell_of_blk HG.out.res 1 (by simp)
      have f0 : wz.frozen? ⟨w.heap.size, 0, none⟩ = false := by rw [ewz]; exact free_of_blk HG.out.res 0
      have f1 : wz.frozen? ⟨w.heap.size, 1, none⟩ = false := by rw [ewz]; exact free_of_blk HG.out.res 1
      have k0 : wz.cell? ⟨wr.heap.size, 0, none⟩ = some (.int .i64 (E : Int)) := by rw [ewz]; exact cell_of_blk HK.out 0 (by simp)
      have k1 : wz.cell? ⟨wr.heap.size, 1, none⟩ = some (.slice (some ⟨b, 0, none⟩) N N) := by rw [ewz]; exact cell_of_blk HK.out 1 (by simp)
      have HI : Hid (PairsIn wz (some ⟨b, 0, none⟩) M) := hid (by
        rw [ewz]
        refine .inr ⟨b, 0, rfl, lt_of_blk HG.out.row, fun i p hp => ⟨?_, ?_⟩⟩
        · rw [Nat.zero_add]; exact cell_at HG.out.row _ _ (pC_get M i p hp).1
        · rw [Nat.zero_add]; exact cell_at HG.out.row _ _ (pC_get M i p hp).2)
      rw [ewz] at r0 r1 f0 f1 k0 k1
      by_cases hH : H = 80
      · have hH1 : (H : Int) = 80 := by omega
        have hE := end_any (w.heap.size + 1) F.1 F.2 wz (by rw [ewz]; exact HG.out.rd)
        rw [ewz] at hE HI
        by_cases he : endOf F.1 F.2 = 0
        · rw [he] at hE
          have HEnd := hid hE
          have HRt : Hid (∀ (bb : Bool), rightP (E : Int) M = bb → ∀ u : World, PairsIn u (some ⟨b, 0, none⟩) M → Calls Try.prog 25 #[.agg #[.int .i64 (E : Int), .slice (some ⟨b, 0, none⟩) N N]] u fun e w' => e = .returned (.bool bb) ∧ Below u.heap.size u w') := hid (fun bb hbb u hu => by rw [← hbb]; exact yright_any (E : Int) _ N N M HLN.out (by unfold maxLen; omega) u hu)
          cases hr : rightP (E : Int) M with
          | true =>
            have HRb := hid (HRt.out true hr)
            have HB : Hid (readPB t = true) := hid (by rw [← HPl.out.1, decide_eq_true hH, decide_eq_true he, hr]; rfl)
            clear hH he hr hE ewz
            go_wp2_with (first
              | (go_at_call 38; refine (HEnd.out).mono ?_; rintro e wx ⟨rfl, rfl⟩)
              | (go_at_call 25; refine (HRb.out _ (by exact HI.out)).mono ?_; rintro e w7 ⟨rfl, hb7⟩; have H7 := hid hb7; clear hb7
                 have HR7 := hid ((H7.out.block _ (lt_of_blk HG.out.res)).trans HG.out.res)
                 have HK7 := hid ((H7.out.block _ (lt_of_blk HK.out)).trans HK.out)
                 have HM7 := hid ((H7.out.block _ (lt_of_blk HG.out.row)).trans HG.out.row)
                 have q0 : w7.cell? ⟨wr.heap.size, 0, none⟩ = some (.int .i64 (E : Int)) := cell_of_blk HK7.out 0 (by simp)
                 have q1 : w7.cell? ⟨wr.heap.size, 1, none⟩ = some (.slice (some ⟨b, 0, none⟩) N N) := cell_of_blk HK7.out 1 (by simp)
                 have s0 : w7.cell? ⟨w.heap.size, 0, none⟩ = some (.int .i64 0) := cell_of_blk HR7.out 0 (by simp)
                 have s1 : w7.cell? ⟨w.heap.size, 1, none⟩ = some (.slice none 0 0) := cell_of_blk HR7.out 1 (by simp)
                 have g0 : w7.frozen? ⟨w.heap.size, 0, none⟩ = false := free_of_blk HR7.out 0
                 have g1 : w7.frozen? ⟨w.heap.size, 1, none⟩ = false := free_of_blk HR7.out 1))
            refine ret_pair (s := 2) (s2 := 3) (ad := ⟨w.heap.size, 0, none⟩) rfl rfl (load_paper _ _ (.int .i64 (E : Int)) (.slice (some ⟨b, 0, none⟩) N N) (cell_two (res_put HR7.out)).1 (cell_two (res_put HR7.out)).2) rfl rfl ?_
            have hb2 := HG.out.hb
            have hbl := ((HG.out.bel.trans (H7.out.mono HG.out.bel.size)).setCell (p := ⟨w.heap.size, 0, none⟩) (Nat.le_refl _) (.int .i64 (E : Int))).setCell (p := ⟨w.heap.size, 1, none⟩) (Nat.le_refl _) (.slice (some ⟨b, 0, none⟩) N N)
            rw [readPE, if_pos HB.out, (HPl.out.2 HB.out).1, (HPl.out.2 HB.out).2, HLN.out]
            refine ⟨_, rfl, own_row ?_ (by omega) HLN.out (by unfold maxLen; omega), hbl⟩
            exact (Below.heap_setCell _ _ _ _ (show b ≠ w.heap.size by omega)).trans ((Below.heap_setCell _ _ _ _ (show b ≠ w.heap.size by omega)).trans HM7.out)
          | false =>
            have HRb := hid (HRt.out false hr)
            have HB : Hid (readPB t = false) := hid (by rw [← HPl.out.1, hr]; simp)
            clear hH he hr hE ewz
            go_wp2_with (first
              | (go_at_call 38; refine (HEnd.out).mono ?_; rintro e wx ⟨rfl, rfl⟩)
              | (go_at_call 25; refine (HRb.out _ (by exact HI.out)).mono ?_; rintro e w7 ⟨rfl, hb7⟩; have H7 := hid hb7; clear hb7
                 have HR7 := hid ((H7.out.block _ (lt_of_blk HG.out.res)).trans HG.out.res)
                 have s0 : w7.cell? ⟨w.heap.size, 0, none⟩ = some (.int .i64 0) := cell_of_blk HR7.out 0 (by simp)
                 have s1 : w7.cell? ⟨w.heap.size, 1, none⟩ = some (.slice none 0 0) := cell_of_blk HR7.out 1 (by simp)
                 have g0 : w7.frozen? ⟨w.heap.size, 0, none⟩ = false := free_of_blk HR7.out 0
                 have g1 : w7.frozen? ⟨w.heap.size, 1, none⟩ = false := free_of_blk HR7.out 1))
            refine ret_pair (s := 2) (s2 := 3) (ad := ⟨w.heap.size, 0, none⟩) rfl rfl (load_paper _ _ (.int .i64 0) (.slice none 0 0) (cell_two (res_put HR7.out)).1 (cell_two (res_put HR7.out)).2) rfl rfl ?_
            rw [readPZ, readPL, readPE, HB.out]
            have hbl := ((HG.out.bel.trans (H7.out.mono HG.out.bel.size)).setCell (p := ⟨w.heap.size, 0, none⟩) (Nat.le_refl _) (.int .i64 0)).setCell (p := ⟨w.heap.size, 1, none⟩) (Nat.le_refl _) (.slice none 0 0)
            exact ⟨_, rfl, ⟨rfl, .inl ⟨rfl, rfl⟩⟩, hbl⟩
        · have HB : Hid (readPB t = false) := hid (by rw [← HPl.out.1, decide_eq_false he]; simp)
          generalize endOf F.1 F.2 = er at hE he
          have HEnd := hid hE
          clear hH hE ewz
          go_wp2_with (go_at_call 38; refine (HEnd.out).mono ?_; rintro e wx ⟨rfl, rfl⟩)
          refine ret_pair (s := 2) (s2 := 3) (ad := ⟨w.heap.size, 0, none⟩) rfl rfl (load_paper _ _ (.int .i64 0) (.slice none 0 0) (cell_two (res_put HG.out.res)).1 (cell_two (res_put HG.out.res)).2) rfl rfl ?_
          rw [readPZ, readPL, readPE, HB.out]
          have hbl := (HG.out.bel.setCell (p := ⟨w.heap.size, 0, none⟩) (Nat.le_refl _) (.int .i64 0)).setCell (p := ⟨w.heap.size, 1, none⟩) (Nat.le_refl _) (.slice none 0 0)
          exact ⟨_, rfl, ⟨rfl, .inl ⟨rfl, rfl⟩⟩, hbl⟩
      · have hH1 : ¬ ((H : Int) = 80) := by omega
        have HB : Hid (readPB t = false) := hid (by rw [← HPl.out.1, decide_eq_false hH]; rfl)
        clear hH ewz
        go_wp2
        refine ret_pair (s := 2) (s2 := 3) (ad := ⟨w.heap.size, 0, none⟩) rfl rfl (load_paper _ _ (.int .i64 0) (.slice none 0 0) (cell_two (res_put HG.out.res)).1 (cell_two (res_put HG.out.res)).2) rfl rfl ?_
        rw [readPZ, readPL, readPE, HB.out]
        have hbl := (HG.out.bel.setCell (p := ⟨w.heap.size, 0, none⟩) (Nat.le_refl _) (.int .i64 0)).setCell (p := ⟨w.heap.size, 1, none⟩) (Nat.le_refl _) (.slice none 0 0)
        exact ⟨_, rfl, ⟨rfl, .inl ⟨rfl, rfl⟩⟩, hbl⟩
    · have hj1 : (j : Int) < (N : Int) := by omega
      have hj0 : (0 : Int) ≤ (j : Int) := Int.natCast_nonneg _
      obtain ⟨y, ey⟩ : ∃ y, y = rN (ysS S j).1 (ysS S j).2 1 := ⟨_, rfl⟩
      obtain ⟨q, eq⟩ : ∃ q : ByteArray, q = ⟨(brL (sgM (ysS S j)) 32).toArray⟩ := ⟨_, rfl⟩
      obtain ⟨R, eR⟩ : ∃ R, R = pC (padP (ysL S j) N) := ⟨_, rfl⟩
      obtain ⟨R1, eR1⟩ : ∃ R1, R1 = R.set (j * 2) (.int .i64 (y : Int)) := ⟨_, rfl⟩
      have hRl : R.length = N * 2 := by rw [eR, pC_len, padP_len _ _ (by rw [ysL_len]; omega)]
      have HL : Hid (R1.set (j * 2 + 1) (.string q) = pC (padP (ysL S (j + 1)) N)) := hid (by rw [eR1, eR, padP_set _ N j (y : Int) q (ysL_len S j) (by omega), ysL, ey, eq])
      rw [← eR] at HO
      have HK : Hid (∀ u : World, YmSt noPaper 44 w u (ysS S j) b R → Calls Try.prog 35 #[.pointer (some ⟨w.heap.size + 1, 0, none⟩)] u fun e w' => e = .returned (.int .i64 (y : Int)) ∧ YmSt noPaper 44 w w' (sgM (ysS S j)) b R) := hid (fun u hu => (rbyte_any _ _ _ u hu.rd).mono fun e w' ⟨he, hr, hk⟩ => ⟨by rw [he, ey], hu.kept hk hr⟩)
      have HK2 : Hid (∀ u : World, YmSt noPaper 44 w u (sgM (ysS S j)) b R1 → Calls Try.prog 37 #[.pointer (some ⟨w.heap.size + 1, 0, none⟩)] u fun e w' => e = .returned (.string q) ∧ YmSt noPaper 44 w w' (ysS S (j + 1)) b R1) := hid (fun u hu => (yrroot _ _ u hu.rd).mono fun e w' ⟨he, hr, hk⟩ => ⟨by rw [he, eq], hu.kept hk hr⟩)
      have HLn : Hid (j * 2 < R.toArray.size ∧ j * 2 + 1 < R1.toArray.size) := hid (by
        constructor
        · show j * 2 < R.length; omega
        · show j * 2 + 1 < R1.length; rw [eR1, List.length_set]; omega)
      have HR1 := hid eR1.symm
      have HJ := hid (And.intro hj hjn)
      clear ey eq eR eR1 hRl hj hjn
      go_wp2_with (first
        | (go_at_call 35; refine (HK.out _ (by exact HO.out)).mono ?_; rintro e w5 ⟨rfl, h5⟩; have H5 := hid h5; clear h5; have z5 := cell_of_blk H5.out.row (j * 2) HLn.out.1; have f5 := free_of_blk H5.out.row (j * 2); have H6 := hid (H5.out.put (j * 2) _ HR1.out))
        | (go_at_call 37; refine (HK2.out _ (by exact H6.out)).mono ?_; rintro e w7 ⟨rfl, h7⟩; have H7 := hid h7; clear h7; have z7 := cell_of_blk H7.out.row (j * 2 + 1) HLn.out.2; have f7 := free_of_blk H7.out.row (j * 2 + 1)))
      go_roundw
      case rel => exact ⟨j + 1, by have := HJ.out; omega, by go_num, H7.out.put (j * 2 + 1) _ HL.out⟩
      case measure => simp [intOf]; omega
theorem yread_any (t : ByteArray) (_ht : t.size ≤ maxLen) (w : World) :
    Calls Try.prog 12 #[.string t] w fun e w' => ∃ v, e = .returned (.tuple #[.agg #[.int .i64 (readPZ t), v], .int .i64 (readPE t)]) ∧ w'.ownsRow w.heap.size 44 2 v (readPL t).length (pC (readPL t)) ∧ Below w.heap.size w w' := yread_all t w
end Go.Proofs.Ytchlmcpnjpllnaa

/- What the program reads as a certificate. -/
namespace Go.Proofs.Ytchlmcpnjpllnaa
open Go.RowKit

theorem Try.info54 : (Try.prog.info? 54).map (fun i => (i.zero, i.size, i.bytes)) = some (some (.agg #[.int .i64 0, .string ⟨#[]⟩]), 2, 24) := by kernel_rfl
theorem run_makeS (n : Nat) (hm : n ≤ 1000) (u : World) : (Instr.makeSlice 33 (.int .i64 (n : Int)) (.int .i64 (n : Int))).run Try.prog u = .ok (.slice (some ⟨u.heap.size, 0, none⟩) n n) (u.alloc (.cells (pC (padP [] n)).toArray 54)) := by
  obtain ⟨i0, hi0, hz0, hz1, hz2⟩ := info_parts Try.info54
  have h := run_make (P := Try.prog) u 33 54 i0 (.agg #[.int .i64 0, .string ⟨#[]⟩]) Try.underlying33 hi0 hz0 .i64 .i64 n n (by omega) (by omega) (by rw [hz2]; omega) (by omega)
  rw [hz1, Int.toNat_natCast] at h
  have hc : madeCells (Value.agg #[.int .i64 0, .string ⟨#[]⟩]).cells (n * 2) = (pC (padP [] n)).toArray := by
    apply Array.ext'
    have h2 : (Value.agg #[.int .i64 0, .string ⟨#[]⟩]).cells = #[.int .i64 0, .string ⟨#[]⟩] := rfl
    rw [h2, made_pairs]
    rfl
  rw [hc] at h
  exact h
def noCert : Obj := .cells #[.string ⟨#[]⟩, .int .i64 0, .slice none 0 0, .slice none 0 0] 79 (0, 0)
theorem load_cert (w : World) (b : Nat) (x0 x1 x2 x3 : Value) (c0 : w.cell? ⟨b, 0, none⟩ = some x0) (c1 : w.cell? ⟨b, 1, none⟩ = some x1) (c2 : w.cell? ⟨b, 2, none⟩ = some x2) (c3 : w.cell? ⟨b, 3, none⟩ = some x3) : (loadVar 79 ⟨b, 0, none⟩).run Try.prog w = .ok (.agg #[x0, x1, x2, x3]) w := by
  go_simp
theorem res_put4 {w : World} {b : Nat} {p q r s x0 x1 x2 x3 : Value} {T : TypeId} (h : w.heap[b]? = some (.cells #[p, q, r, s] T (0, 0))) : ((((w.setCell ⟨b, 0, none⟩ x0).setCell ⟨b, 1, none⟩ x1).setCell ⟨b, 2, none⟩ x2).setCell ⟨b, 3, none⟩ x3).heap[b]? = some (.cells #[x0, x1, x2, x3] T (0, 0)) := by
  have h1 : (w.setCell ⟨b, 0, none⟩ x0).heap[b]? = some (.cells #[x0, q, r, s] T (0, 0)) := (blk_set h 0 x0).trans (by simp)
  have h2 : ((w.setCell ⟨b, 0, none⟩ x0).setCell ⟨b, 1, none⟩ x1).heap[b]? = some (.cells #[x0, x1, r, s] T (0, 0)) := (blk_set h1 1 x1).trans (by simp)
  have h3 : (((w.setCell ⟨b, 0, none⟩ x0).setCell ⟨b, 1, none⟩ x1).setCell ⟨b, 2, none⟩ x2).heap[b]? = some (.cells #[x0, x1, x2, s] T (0, 0)) := (blk_set h2 2 x2).trans (by simp)
  exact (blk_set h3 3 x3).trans (by simp)
theorem cell_four {w : World} {b : Nat} {x0 x1 x2 x3 : Value} {T : TypeId} {fr : Nat × Nat} (h : w.heap[b]? = some (.cells #[x0, x1, x2, x3] T fr)) : w.cell? ⟨b, 0, none⟩ = some x0 ∧ w.cell? ⟨b, 1, none⟩ = some x1 ∧ w.cell? ⟨b, 2, none⟩ = some x2 ∧ w.cell? ⟨b, 3, none⟩ = some x3 :=
  ⟨cell_at (L := [x0, x1, x2, x3]) h 0 _ rfl, cell_at (L := [x0, x1, x2, x3]) h 1 _ rfl, cell_at (L := [x0, x1, x2, x3]) h 2 _ rfl, cell_at (L := [x0, x1, x2, x3]) h 3 _ rfl⟩
theorem below_four {B b : Nat} {w0 w : World} (h : Below B w0 w) (hb : B ≤ b) (x0 x1 x2 x3 : Value) : Below B w0 ((((w.setCell ⟨b, 0, none⟩ x0).setCell ⟨b, 1, none⟩ x1).setCell ⟨b, 2, none⟩ x2).setCell ⟨b, 3, none⟩ x3) :=
  (((h.setCell (p := ⟨b, 0, none⟩) hb _).setCell (p := ⟨b, 1, none⟩) hb _).setCell (p := ⟨b, 2, none⟩) hb _).setCell (p := ⟨b, 3, none⟩) hb _
theorem own_four {w : World} {B z b : Nat} {v : Value} {n : Nat} {xs : List Value} {e : TypeId} (h : w.ownsRow B e z v n xs) (hb : b < B) (x0 x1 x2 x3 : Value) : ((((w.setCell ⟨b, 0, none⟩ x0).setCell ⟨b, 1, none⟩ x1).setCell ⟨b, 2, none⟩ x2).setCell ⟨b, 3, none⟩ x3).ownsRow B e z v n xs :=
  own_put (own_put (own_put (own_put h b 0 x0 hb) b 1 x1 hb) b 2 x2 hb) b 3 x3 hb
theorem own_low {w : World} {B B' z : Nat} {v : Value} {n : Nat} {xs : List Value} {e : TypeId} (h : w.ownsRow B e z v n xs) (hB : B' ≤ B) : w.ownsRow B' e z v n xs := by
  refine ⟨h.1, ?_⟩
  rcases h.2 with hn | ⟨g, cap, cur, hv, hg, hr⟩
  · exact .inl hn
  · exact .inr ⟨g, cap, cur, hv, Nat.le_trans hB hg, hr⟩
/-- No certificate: what is answered. -/
theorem open_no {c : ByteArray} (h : openB c = false) : opZ c = 0 ∧ opP c = [] ∧ opT c = ⟨#[]⟩ ∧ opL c = [] := by
  refine ⟨?_, ?_, ?_, ?_⟩
  · rw [opZ, h]; rfl
  · rw [opP, h]; rfl
  · rw [opT, h]; rfl
  · rw [opL, h]; rfl
set_option maxRecDepth 100000 in
set_option maxHeartbeats 6400000 in
theorem yrcert (c : ByteArray) (w : World) :
    Calls Try.prog 44 #[.string c] w fun e w' => ∃ v u, e = .returned (.tuple #[.agg #[.string (opT c), .int .i64 (opZ c), v, u], .bool (openB c)]) ∧ w'.ownsRow w.heap.size 44 2 v (opP c).length (pC (opP c)) ∧ w'.ownsRow w.heap.size 54 2 u (opL c).length (pC (opL c)) ∧ Below w.heap.size w w' := by
  have H0 : Hid (YpSt noCert w ((w.alloc (.cells #[.string ⟨#[]⟩, .int .i64 0, .slice none 0 0, .slice none 0 0] 79)).alloc (.cells #[.string c, .bool false] 102)) (c, false)) := hid
    ⟨(Below.heap_alloc _ _ _ (by simp)).trans (heap_alloc_last w _), snd_alloc w _ _, ((Below.refl _ _).alloc (Nat.le_refl _) _).alloc (by simp) _⟩
  have hN1 : oN c < 256 := by have := rN_lt (oS1 c).1 (oS1 c).2 1; simpa [oN] using this
  obtain ⟨N, eN⟩ : ∃ N, N = oN c := ⟨_, rfl⟩
  obtain ⟨T, eT⟩ : ∃ T, T = oT c := ⟨_, rfl⟩
  obtain ⟨Z, eZ⟩ : ∃ Z, Z = readPZ T := ⟨_, rfl⟩
  obtain ⟨R, eR⟩ : ∃ R, R = readPE T := ⟨_, rfl⟩
  obtain ⟨P, eP⟩ : ∃ P, P = readPL T := ⟨_, rfl⟩
  obtain ⟨S, eS⟩ : ∃ S, S = oS2 c := ⟨_, rfl⟩
  have hN2 : (N : Int) < 256 := by omega
  have hN0 : (0 : Int) ≤ (N : Int) := Int.natCast_nonneg _
  have HC : Hid (N = oN c ∧ T = oT c ∧ Z = readPZ T ∧ R = readPE T ∧ P = readPL T ∧ S = oS2 c) := hid ⟨eN, eT, eZ, eR, eP, eS⟩
  have HA : Hid (∀ u : World, YpSt noCert w u (c, false) → Calls Try.prog 64 #[.pointer (some ⟨w.heap.size + 1, 0, none⟩)] u fun e w' => e = .returned (.string T) ∧ YpSt noCert w w' (oS1 c)) := hid (fun u hu => (rtext_any _ _ _ u hu.rd).mono fun e w' ⟨he, hr, hk⟩ => ⟨by rw [he, eT]; rfl, hu.kept hk hr⟩)
  have HB : Hid (∀ u : World, YpSt noCert w u (oS1 c) → Calls Try.prog 35 #[.pointer (some ⟨w.heap.size + 1, 0, none⟩)] u fun e w' => e = .returned (.int .i64 (N : Int)) ∧ YpSt noCert w w' S) := hid (fun u hu => (rbyte_any _ _ _ u hu.rd).mono fun e w' ⟨he, hr, hk⟩ => ⟨by rw [he, eN]; rfl, by rw [eS]; exact hu.kept hk hr⟩)
  have HRd : Hid (∀ u : World, Calls Try.prog 12 #[.string T] u fun e w' => ∃ v, e = .returned (.tuple #[.agg #[.int .i64 Z, v], .int .i64 R]) ∧ w'.ownsRow u.heap.size 44 2 v P.length (pC P) ∧ Below u.heap.size u w') := hid (fun u => by rw [eZ, eR, eP]; exact yread_all T u)
  have HMk : Hid (∀ u : World, (Instr.makeSlice 33 (.int .i64 (N : Int)) (.int .i64 (N : Int))).run Try.prog u = .ok (.slice (some ⟨u.heap.size, 0, none⟩) N N) (u.alloc (.cells (pC (padP [] N)).toArray 54))) := hid (fun u => run_makeS N (by omega) u)
  have HO : Hid (openB c = (readPB T && (decide (N ≤ 16) && decide (endOf (sgS S N).1 (sgS S N).2 = 0)))) := hid (by rw [openB, eN, eT, eS])
  clear eN eT eZ eR eP eS hN1
  by_cases hE : R = 0
  · have hEb : (R != 0) = false := by simp [hE]
    have HBt : Hid (readPB T = true) := hid (by
      have h := HC.out.2.2.2.1
      rw [hE, readPE] at h
      cases e : readPB T with
      | true => rfl
      | false => rw [e] at h; cases h)
    by_cases h16 : N ≤ 16
    · have k16 : ¬ ((16 : Int) < (N : Int)) := by omega
      have HN := hid h16
      clear hE h16
      go_enter Try.func44, Try.ntmps44
      go_wp2_with (first
        | (go_at_call 34; refine (read_any _ _).mono ?_; rintro e w1 ⟨rfl, rfl⟩)
        | (go_at_call 64; refine (HA.out _ (by exact H0.out)).mono ?_; rintro e w1 ⟨rfl, h1⟩; have H1 := hid h1; clear h1)
        | (go_at_call 35; refine (HB.out _ (by exact H1.out)).mono ?_; rintro e w2 ⟨rfl, h2⟩; have H2 := hid h2; clear h2)
        | (go_at_call 12; refine (HRd.out _).mono ?_; rintro e w3 ⟨v3, rfl, ho3, hb3⟩
           obtain ⟨ad3, cap3, hv3, hI3⟩ := own_pairs ho3
           subst hv3
           have H3 := hid (And.intro (H2.out.keep hb3) (own_low ho3 (show w.heap.size + 2 ≤ w2.heap.size from lt_of_blk H2.out.rd)))
           clear ho3 hb3 hI3)
        | rw [HMk.out])
      obtain ⟨pb, epb⟩ : ∃ pb, pb = w3.heap.size := ⟨_, rfl⟩
      obtain ⟨wA, ewA⟩ : ∃ wA, wA = w3.alloc (.cells #[.int .i64 Z, .slice ad3 P.length cap3] 24) := ⟨_, rfl⟩
      have HAb : Hid (wA.heap.size = pb + 1 ∧ w.heap.size + 2 ≤ pb ∧ YpSt noCert w wA S ∧ wA.heap[pb]? = some (.cells #[.int .i64 Z, .slice ad3 P.length cap3] 24 (0, 0)) ∧ wA.ownsRow (w.heap.size + 2) 44 2 (.slice ad3 P.length cap3) P.length (pC P)) := hid (by
        rw [ewA, epb]
        exact ⟨by simp, lt_of_blk H3.out.1.rd, H3.out.1.keep ((Below.refl _ _).alloc (Nat.le_refl _) _), heap_alloc_last w3 _, H3.out.2.alloc _⟩)
      have H4 : Hid (YmSt noCert 54 w (wA.alloc (.cells (pC (padP [] N)).toArray 54)) S (pb + 1) (pC (padP (sgL S 0) N)) ∧ Kept (w.heap.size + 1) none wA (wA.alloc (.cells (pC (padP [] N)).toArray 54))) := hid (by
        have hk := HAb.out.2.2.1.keep ((Below.refl wA.heap.size wA).alloc (Nat.le_refl _) (.cells (pC (padP [] N)).toArray 54))
        exact ⟨⟨hk.res, hk.rd, hk.bel, by rw [← HAb.out.1]; exact heap_alloc_last wA _, by have := HAb.out.2.1; omega⟩, (Kept.refl _ _ _).alloc _⟩)
      rw [← ewA, ← epb]
      clear ewA epb H3 H0 H1 H2
      go_loopw [33] (fun i wr => ∃ j : Nat, j ≤ N ∧ i = .int .i64 (j : Int) ∧ YmSt noCert 54 w wr (sgS S j) (pb + 1) (pC (padP (sgL S j) N)) ∧ Kept (w.heap.size + 1) none wA wr)
        (fun i _ => ((N : Int) - intOf i).toNat)
      case atStart => exact ⟨0, by omega, rfl, H4.out⟩
      case round =>
        obtain ⟨j, hj, rfl, hO⟩ := hrel
        have HQ := hid hO
        clear hO H4
        by_cases hjn : j = N
        · have hj1 : ¬ ((j : Int) < (N : Int)) := by omega
          have hO := HQ.out.1
          rw [hjn, padP_all _ _ (sgL_len S N)] at hO
          have HF := hid (And.intro hO HQ.out.2)
          have hE := end_any (w.heap.size + 1) (sgS S N).1 (sgS S N).2 wr hO.rd
          have r0 := (cell_four HF.out.1.res).1
          have r1 := (cell_four HF.out.1.res).2.1
          have r2 := (cell_four HF.out.1.res).2.2.1
          have r3 := (cell_four HF.out.1.res).2.2.2
          have f0 : wr.frozen? ⟨w.heap.size, 0, none⟩ = false := free_at HF.out.1.res 0
          have f1 : wr.frozen? ⟨w.heap.size, 1, none⟩ = false := free_at HF.out.1.res 1
          have f2 : wr.frozen? ⟨w.heap.size, 2, none⟩ = false := free_at HF.out.1.res 2
          have f3 : wr.frozen? ⟨w.heap.size, 3, none⟩ = false := free_at HF.out.1.res 3
          have HPb : Hid (wr.heap[pb]? = some (.cells #[.int .i64 Z, .slice ad3 P.length cap3] 24 (0, 0))) := hid ((HF.out.2.block pb (by rw [HAb.out.1]; omega) (by have := HAb.out.2.1; omega) (by simp)).trans HAb.out.2.2.2.1)
          have p0 := (cell_two HPb.out).1
          have p1 := (cell_two HPb.out).2
          have HOw : Hid (wr.ownsRow (w.heap.size + 2) 44 2 (.slice ad3 P.length cap3) P.length (pC P)) := hid (row_kept HAb.out.2.2.2.2 HF.out.2 (by omega))
          clear hj hjn hO HQ
          by_cases he : endOf (sgS S N).1 (sgS S N).2 = 0
          · rw [he] at hE
            have HEnd := hid hE
            have HOp : Hid (openB c = true) := hid (by rw [HO.out, HBt.out, decide_eq_true HN.out, decide_eq_true he]; rfl)
            clear he hE
            go_wp2_with (go_at_call 38; refine (HEnd.out).mono ?_; rintro e wx ⟨rfl, rfl⟩)
            refine ret_pair (s := 2) (s2 := 3) (ad := ⟨w.heap.size, 0, none⟩) rfl rfl (load_cert _ _ (.string T) (.int .i64 Z) (.slice ad3 P.length cap3) (.slice (some ⟨pb + 1, 0, none⟩) N N) (cell_four (res_put4 HF.out.1.res)).1 (cell_four (res_put4 HF.out.1.res)).2.1 (cell_four (res_put4 HF.out.1.res)).2.2.1 (cell_four (res_put4 HF.out.1.res)).2.2.2) rfl rfl ?_
            have e1 : opZ c = Z := by rw [opZ, if_pos HOp.out, ← HC.out.2.1, HC.out.2.2.1]
            have e2 : opP c = P := by rw [opP, if_pos HOp.out, ← HC.out.2.1, HC.out.2.2.2.2.1]
            have e3 : opT c = T := by rw [opT, if_pos HOp.out, ← HC.out.2.1]
            have e4 : opL c = sgL S N := by rw [opL, if_pos HOp.out, ← HC.out.1, HC.out.2.2.2.2.2]
            rw [e1, e2, e3, e4, HOp.out, sgL_len]
            refine ⟨_, _, rfl, own_low (own_four HOw.out (by omega) _ _ _ _) (by omega), ?_, below_four HF.out.1.bel (Nat.le_refl _) _ _ _ _⟩
            exact own_low (own_four (own_row (B := w.heap.size + 2) HF.out.1.row (by have := HAb.out.2.1; omega) (sgL_len S N) (by unfold maxLen; omega)) (by omega) _ _ _ _) (by omega)
          · have HOp : Hid (openB c = false) := hid (by rw [HO.out, decide_eq_false he]; simp)
            generalize endOf (sgS S N).1 (sgS S N).2 = er at hE he
            have HEnd := hid hE
            clear hE
            go_wp2_with (go_at_call 38; refine (HEnd.out).mono ?_; rintro e wx ⟨rfl, rfl⟩)
            refine ret_pair (s := 2) (s2 := 3) (ad := ⟨w.heap.size, 0, none⟩) rfl rfl (load_cert _ _ (.string ⟨#[]⟩) (.int .i64 0) (.slice none 0 0) (.slice none 0 0) (cell_four (res_put4 HF.out.1.res)).1 (cell_four (res_put4 HF.out.1.res)).2.1 (cell_four (res_put4 HF.out.1.res)).2.2.1 (cell_four (res_put4 HF.out.1.res)).2.2.2) rfl rfl ?_
            obtain ⟨e1, e2, e3, e4⟩ := open_no HOp.out
            rw [e1, e2, e3, e4, HOp.out]
            exact ⟨_, _, rfl, ⟨rfl, .inl ⟨rfl, rfl⟩⟩, ⟨rfl, .inl ⟨rfl, rfl⟩⟩, below_four HF.out.1.bel (Nat.le_refl _) _ _ _ _⟩
        · have hj1 : (j : Int) < (N : Int) := by omega
          have hj0 : (0 : Int) ≤ (j : Int) := Int.natCast_nonneg _
          obtain ⟨y, ey⟩ : ∃ y, y = rN (sgS S j).1 (sgS S j).2 1 := ⟨_, rfl⟩
          obtain ⟨q, eq⟩ : ∃ q : ByteArray, q = tT (sgM (sgS S j)).1 (sgM (sgS S j)).2 := ⟨_, rfl⟩
          obtain ⟨Rw, eRw⟩ : ∃ Rw, Rw = pC (padP (sgL S j) N) := ⟨_, rfl⟩
          obtain ⟨R1, eR1⟩ : ∃ R1, R1 = Rw.set (j * 2) (.int .i64 (y : Int)) := ⟨_, rfl⟩
          have hRl : Rw.length = N * 2 := by rw [eRw, pC_len, padP_len _ _ (by rw [sgL_len]; omega)]
          have HL : Hid (R1.set (j * 2 + 1) (.string q) = pC (padP (sgL S (j + 1)) N)) := hid (by rw [eR1, eRw, padP_set _ N j (y : Int) q (sgL_len S j) (by omega), sgL, ey, eq])
          rw [← eRw] at HQ
          have HK : Hid (∀ u : World, YmSt noCert 54 w u (sgS S j) (pb + 1) Rw ∧ Kept (w.heap.size + 1) none wA u → Calls Try.prog 35 #[.pointer (some ⟨w.heap.size + 1, 0, none⟩)] u fun e w' => e = .returned (.int .i64 (y : Int)) ∧ YmSt noCert 54 w w' (sgM (sgS S j)) (pb + 1) Rw ∧ Kept (w.heap.size + 1) none wA w') := hid (fun u hu => (rbyte_any _ _ _ u hu.1.rd).mono fun e w' ⟨he, hr, hk⟩ => ⟨by rw [he, ey], hu.1.kept hk hr, hu.2.trans hk (.inl rfl)⟩)
          have HK2 : Hid (∀ u : World, YmSt noCert 54 w u (sgM (sgS S j)) (pb + 1) R1 ∧ Kept (w.heap.size + 1) none wA u → Calls Try.prog 64 #[.pointer (some ⟨w.heap.size + 1, 0, none⟩)] u fun e w' => e = .returned (.string q) ∧ YmSt noCert 54 w w' (sgS S (j + 1)) (pb + 1) R1 ∧ Kept (w.heap.size + 1) none wA w') := hid (fun u hu => (rtext_any _ _ _ u hu.1.rd).mono fun e w' ⟨he, hr, hk⟩ => ⟨by rw [he, eq], hu.1.kept hk hr, hu.2.trans hk (.inl rfl)⟩)
          have HLn : Hid (j * 2 < Rw.toArray.size ∧ j * 2 + 1 < R1.toArray.size) := hid (by
            constructor
            · show j * 2 < Rw.length; omega
            · show j * 2 + 1 < R1.length; rw [eR1, List.length_set]; omega)
          have HR1 := hid eR1.symm
          have HJ := hid (And.intro hj hjn)
          clear ey eq eRw eR1 hRl hj hjn
          go_wp2_with (first
            | (go_at_call 35; refine (HK.out _ (by exact HQ.out)).mono ?_; rintro e w5 ⟨rfl, h5, k5⟩; have H5 := hid (And.intro h5 k5); clear h5 k5; have z5 := cell_of_blk H5.out.1.row (j * 2) HLn.out.1; have f5 := free_of_blk H5.out.1.row (j * 2); have H6 := hid (And.intro (H5.out.1.put (j * 2) _ HR1.out) (kept_fresh H5.out.2 (pb + 1) (j * 2) (.int .i64 (y : Int)) (Nat.le_of_eq HAb.out.1))))
            | (go_at_call 64; refine (HK2.out _ (by exact H6.out)).mono ?_; rintro e w7 ⟨rfl, h7, k7⟩; have H7 := hid (And.intro h7 k7); clear h7 k7; have z7 := cell_of_blk H7.out.1.row (j * 2 + 1) HLn.out.2; have f7 := free_of_blk H7.out.1.row (j * 2 + 1)))
          go_roundw
          case rel => exact ⟨j + 1, by have := HJ.out; omega, by go_num, H7.out.1.put (j * 2 + 1) _ HL.out, kept_fresh H7.out.2 (pb + 1) (j * 2 + 1) (.string q) (Nat.le_of_eq HAb.out.1)⟩
          case measure => simp [intOf]; omega
    · have k16 : (16 : Int) < (N : Int) := by omega
      have HOp : Hid (openB c = false) := hid (by rw [HO.out, decide_eq_false h16]; simp)
      clear hE h16
      go_enter Try.func44, Try.ntmps44
      go_wp2_with (first
        | (go_at_call 34; refine (read_any _ _).mono ?_; rintro e w1 ⟨rfl, rfl⟩)
        | (go_at_call 64; refine (HA.out _ (by exact H0.out)).mono ?_; rintro e w1 ⟨rfl, h1⟩; have H1 := hid h1; clear h1)
        | (go_at_call 35; refine (HB.out _ (by exact H1.out)).mono ?_; rintro e w2 ⟨rfl, h2⟩; have H2 := hid h2; clear h2)
        | (go_at_call 12; refine (HRd.out _).mono ?_; rintro e w3 ⟨v3, rfl, ho3, hb3⟩
           obtain ⟨ad3, cap3, hv3, hI3⟩ := own_pairs ho3
           subst hv3
           have H3 := hid ((H2.out.keep hb3).keep ((Below.refl w3.heap.size w3).alloc (Nat.le_refl _) (.cells #[.int .i64 Z, .slice ad3 P.length cap3] 24)))
           have r0 := (cell_four H3.out.res).1
           have r1 := (cell_four H3.out.res).2.1
           have r2 := (cell_four H3.out.res).2.2.1
           have r3 := (cell_four H3.out.res).2.2.2
           have f0 : (w3.alloc (.cells #[.int .i64 Z, .slice ad3 P.length cap3] 24)).frozen? ⟨w.heap.size, 0, none⟩ = false := free_at H3.out.res 0
           have f1 : (w3.alloc (.cells #[.int .i64 Z, .slice ad3 P.length cap3] 24)).frozen? ⟨w.heap.size, 1, none⟩ = false := free_at H3.out.res 1
           have f2 : (w3.alloc (.cells #[.int .i64 Z, .slice ad3 P.length cap3] 24)).frozen? ⟨w.heap.size, 2, none⟩ = false := free_at H3.out.res 2
           have f3 : (w3.alloc (.cells #[.int .i64 Z, .slice ad3 P.length cap3] 24)).frozen? ⟨w.heap.size, 3, none⟩ = false := free_at H3.out.res 3
           clear ho3 hb3 hI3))
      refine ret_pair (s := 2) (s2 := 3) (ad := ⟨w.heap.size, 0, none⟩) rfl rfl (load_cert _ _ (.string ⟨#[]⟩) (.int .i64 0) (.slice none 0 0) (.slice none 0 0) (cell_four (res_put4 H3.out.res)).1 (cell_four (res_put4 H3.out.res)).2.1 (cell_four (res_put4 H3.out.res)).2.2.1 (cell_four (res_put4 H3.out.res)).2.2.2) rfl rfl ?_
      obtain ⟨e1, e2, e3, e4⟩ := open_no HOp.out
      rw [e1, e2, e3, e4, HOp.out]
      exact ⟨_, _, rfl, ⟨rfl, .inl ⟨rfl, rfl⟩⟩, ⟨rfl, .inl ⟨rfl, rfl⟩⟩, below_four H3.out.bel (Nat.le_refl _) _ _ _ _⟩
  · have hEb : (R != 0) = true := by simpa using hE
    have HOp : Hid (openB c = false) := hid (by
      rw [HO.out]
      have h := HC.out.2.2.2.1
      cases e : readPB T with
      | false => rfl
      | true => exact absurd (by rw [h, readPE, e]; rfl) hE)
    clear hE
    go_enter Try.func44, Try.ntmps44
    go_wp2_with (first
      | (go_at_call 34; refine (read_any _ _).mono ?_; rintro e w1 ⟨rfl, rfl⟩)
      | (go_at_call 64; refine (HA.out _ (by exact H0.out)).mono ?_; rintro e w1 ⟨rfl, h1⟩; have H1 := hid h1; clear h1)
      | (go_at_call 35; refine (HB.out _ (by exact H1.out)).mono ?_; rintro e w2 ⟨rfl, h2⟩; have H2 := hid h2; clear h2)
      | (go_at_call 12; refine (HRd.out _).mono ?_; rintro e w3 ⟨v3, rfl, ho3, hb3⟩
         obtain ⟨ad3, cap3, hv3, hI3⟩ := own_pairs ho3
         subst hv3
         have H3 := hid ((H2.out.keep hb3).keep ((Below.refl w3.heap.size w3).alloc (Nat.le_refl _) (.cells #[.int .i64 Z, .slice ad3 P.length cap3] 24)))
         have r0 := (cell_four H3.out.res).1
         have r1 := (cell_four H3.out.res).2.1
         have r2 := (cell_four H3.out.res).2.2.1
         have r3 := (cell_four H3.out.res).2.2.2
         have f0 : (w3.alloc (.cells #[.int .i64 Z, .slice ad3 P.length cap3] 24)).frozen? ⟨w.heap.size, 0, none⟩ = false := free_at H3.out.res 0
         have f1 : (w3.alloc (.cells #[.int .i64 Z, .slice ad3 P.length cap3] 24)).frozen? ⟨w.heap.size, 1, none⟩ = false := free_at H3.out.res 1
         have f2 : (w3.alloc (.cells #[.int .i64 Z, .slice ad3 P.length cap3] 24)).frozen? ⟨w.heap.size, 2, none⟩ = false := free_at H3.out.res 2
         have f3 : (w3.alloc (.cells #[.int .i64 Z, .slice ad3 P.length cap3] 24)).frozen? ⟨w.heap.size, 3, none⟩ = false := free_at H3.out.res 3
         clear ho3 hb3 hI3))
    refine ret_pair (s := 2) (s2 := 3) (ad := ⟨w.heap.size, 0, none⟩) rfl rfl (load_cert _ _ (.string ⟨#[]⟩) (.int .i64 0) (.slice none 0 0) (.slice none 0 0) (cell_four (res_put4 H3.out.res)).1 (cell_four (res_put4 H3.out.res)).2.1 (cell_four (res_put4 H3.out.res)).2.2.1 (cell_four (res_put4 H3.out.res)).2.2.2) rfl rfl ?_
    obtain ⟨e1, e2, e3, e4⟩ := open_no HOp.out
    rw [e1, e2, e3, e4, HOp.out]
    exact ⟨_, _, rfl, ⟨rfl, .inl ⟨rfl, rfl⟩⟩, ⟨rfl, .inl ⟨rfl, rfl⟩⟩, below_four H3.out.bel (Nat.le_refl _) _ _ _ _⟩
end Go.Proofs.Ytchlmcpnjpllnaa

/- The document's leaves and signatures. -/
namespace Go.Proofs.Ytchlmcpnjpllnaa
open Go.RowKit

theorem pub_yes (seed : ByteArray) (j : Nat) (hj : j < 256) : pubS seed (j : Int) = pubN seed j ∧ leafE (j : Int) = 0 := by
  have hb : leafB (j : Int) = true := leafB_yes (by omega) (by omega)
  exact ⟨by unfold pubS; rw [hb, Int.toNat_natCast]; rfl, by unfold leafE; rw [hb]; rfl⟩
theorem sign_yes (seed : ByteArray) (j : Nat) (hj : j < 256) (t : ByteArray) : signS seed (j : Int) t = ⟨(signB seed j t).toArray⟩ ∧ leafE (j : Int) = 0 := by
  have hb : leafB (j : Int) = true := leafB_yes (by omega) (by omega)
  exact ⟨by unfold signS; rw [hb, Int.toNat_natCast]; rfl, by unfold leafE; rw [hb]; rfl⟩
theorem leafL_take (seed : ByteArray) (h j : Nat) (hj : j < 2 ^ h) : (leafL seed h).take (j + 1) = (leafL seed h).take j ++ [pubN seed j] := by
  rw [List.take_add_one, leafL_get seed h j hj]
  rfl
theorem Owned.lit1 (w : World) (b : Nat) (hb : b < 256) (g : Nat) (hg : g = w.heap.size) : Owned w.heap.size w (w.alloc (.cells #[.int .u8 (b : Int)] 5)) (.slice (some ⟨g, 0, none⟩) 1 1) [UInt8.ofNat b] := by
  subst hg
  refine ⟨⟨by simp [bC], .inr ⟨w.heap.size, 1, #[.int .u8 (b : Int)], rfl, Nat.le_refl _, heap_alloc_last w _, Nat.le_refl _, by decide, rfl, ?_⟩⟩, (Below.refl _ _).alloc (Nat.le_refl _) _, by simp⟩
  show [Value.int .u8 (b : Int)] = [Value.int .u8 ((UInt8.ofNat b).toNat : Int)]
  rw [byte_in b hb]
theorem pathB_succ (L : List ByteArray) (leaf k : Nat) : pathB L leaf (k + 1) = pathB L leaf k ++ (nodeS L (besideN (leaf / 2 ^ k) * 2 ^ k) k).data.toList := rfl
end Go.Proofs.Ytchlmcpnjpllnaa

/- The program's trees: heights, leaves, nodes. -/
namespace Go.Proofs.Ytchlmcpnjpllnaa
open Go.RowKit

theorem rightB_yes {h : Int} (h0 : 0 ≤ h) (h5 : h ≤ 5) : rightB h = true := decide_eq_true ⟨h0, h5⟩
theorem rightB_no {h : Int} (hn : ¬ (0 ≤ h ∧ h ≤ 5)) : rightB h = false := decide_eq_false hn
theorem isHeight_any (h : Int) (w : World) : Calls Try.prog 74 #[.int .i64 h] w fun e w' => e = .returned (.bool (rightB h)) ∧ w' = w := by
  by_cases h0 : 0 ≤ h
  · by_cases h1 : h ≤ 5
    · rw [rightB_yes h0 h1]
      go_enter Try.func74, Try.ntmps74
      go_wp2
      go_ret
      exact ⟨rfl, rfl⟩
    · rw [rightB_no (fun h => h1 h.2)]
      go_enter Try.func74, Try.ntmps74
      go_wp2
      go_ret
      exact ⟨rfl, rfl⟩
  · rw [rightB_no (fun h => h0 h.1)]
    go_enter Try.func74, Try.ntmps74
    go_wp2
    go_ret
    exact ⟨rfl, rfl⟩
theorem isHeight_at (h : Int) (b : Bool) (hb : rightB h = b) (w : World) : Calls Try.prog 74 #[.int .i64 h] w fun e w' => e = .returned (.bool b) ∧ w' = w := by
  rw [← hb]
  exact isHeight_any h w
set_option maxRecDepth 100000 in
theorem gleaves_le (h : Nat) (hh : h ≤ 5) (w : World) : Calls Try.prog 76 #[.int .i64 (h : Int)] w fun e w' => e = .returned (.int .i64 ((2 ^ h : Nat) : Int)) ∧ w' = w := by
  have key : ∀ (k : Int) (p : Int), (k = 0 ∧ p = 1) ∨ (k = 1 ∧ p = 2) ∨ (k = 2 ∧ p = 4) ∨ (k = 3 ∧ p = 8) ∨ (k = 4 ∧ p = 16) ∨ (k = 5 ∧ p = 32) → Calls Try.prog 76 #[.int .i64 k] w fun e w' => e = .returned (.int .i64 p) ∧ w' = w := by
    rintro k p (⟨rfl, rfl⟩ | ⟨rfl, rfl⟩ | ⟨rfl, rfl⟩ | ⟨rfl, rfl⟩ | ⟨rfl, rfl⟩ | ⟨rfl, rfl⟩)
    all_goals
      go_enter Try.func76, Try.ntmps76
      go_wp2
      go_ret
      exact ⟨rfl, rfl⟩
  refine key (h : Int) _ ?_
  obtain rfl | rfl | rfl | rfl | rfl | rfl : h = 0 ∨ h = 1 ∨ h = 2 ∨ h = 3 ∨ h = 4 ∨ h = 5 := by omega
  all_goals decide
theorem sigSize_le (h : Nat) (hh : h ≤ 5) (w : World) : Calls Try.prog 88 #[.int .i64 (h : Int)] w fun e w' => e = .returned (.int .i64 (561 + 32 * (h : Int))) ∧ w' = w := by
  have h5 : (h : Int) ≤ 5 := by omega
  have h0 : (0 : Int) ≤ (h : Int) := Int.natCast_nonneg _
  clear hh
  go_enter Try.func88, Try.ntmps88
  go_wp2
  go_ret
  exact ⟨rfl, rfl⟩

/-- The node l above the leaves, with p left of it. -/
def nodeP (seed : ByteArray) : Nat → Nat → ByteArray
  | 0, p => pubN seed p
  | l + 1, p => shaS (nodeP seed l (2 * p) ++ nodeP seed l (2 * p + 1))
theorem nodeP_size (seed : ByteArray) (l p : Nat) : (nodeP seed l p).size = 32 := by
  cases l with
  | zero => rw [nodeP, pubN_size]
  | succ l => rw [nodeP, shaS_size]
theorem nodeP_zero (seed : ByteArray) (p : Nat) : nodeP seed 0 p = pubN seed p := rfl
theorem nodeP_succ (seed : ByteArray) (l p : Nat) : nodeP seed (l + 1) p = shaS (nodeP seed l (2 * p) ++ nodeP seed l (2 * p + 1)) := rfl
theorem two_up (p l : Nat) : (2 * p + 1 + 1) * 2 ^ l = (p + 1) * 2 ^ (l + 1) := by
  rw [Nat.pow_succ, Nat.mul_comm (2 ^ l) 2, ← Nat.mul_assoc]
  congr 1
  omega
theorem nodeP_eq (seed : ByteArray) (h : Nat) : ∀ l p, (p + 1) * 2 ^ l ≤ 2 ^ h → nodeP seed l p = nodeS (leafL seed h) (p * 2 ^ l) l
  | 0, p, hp => by
    rw [nodeP, nodeS, Nat.pow_zero, Nat.mul_one, List.getD_eq_getElem?_getD, leafL_get seed h p (by simp at hp; omega)]
    rfl
  | l + 1, p, hp => by
    have h2 := two_up p l
    have h1 : (2 * p + 1) * 2 ^ l ≤ (2 * p + 1 + 1) * 2 ^ l := Nat.mul_le_mul_right _ (by omega)
    rw [nodeP, node_up, nodeP_eq seed h l (2 * p) (by omega), nodeP_eq seed h l (2 * p + 1) (by omega)]
theorem nodeP_root (seed : ByteArray) (h : Nat) : nodeP seed h 0 = rootS seed h := by
  rw [nodeP_eq seed h h 0 (by omega), Nat.zero_mul, rootS]
theorem nodeP_beside (seed : ByteArray) (h leaf k : Nat) (hl : leaf < 2 ^ h) (hk : k < h) : nodeP seed k (besideN (leaf / 2 ^ k)) = nodeS (leafL seed h) (besideN (leaf / 2 ^ k) * 2 ^ k) k :=
  nodeP_eq seed h k _ (by have := beside_lt leaf h k hl hk; rw [Nat.succ_mul]; exact this)
theorem sum_cat (s t : ByteArray) (hs : s.size ≤ 2000000) (ht : t.size ≤ 2000000) (u : World) (g : Nat) (hg : g = u.heap.size) :
    Calls Try.prog 99 #[.slice (some ⟨g, 0, none⟩) 2 2] (u.alloc (.cells #[.string s, .string t] 9)) fun e w' => e = .returned (.string (shaS (s ++ t))) ∧ Below u.heap.size u w' := by
  have := sum_two s t hs ht u g hg
  rw [shaS, ByteArray.data_append, Array.toList_append]
  exact this

set_option maxRecDepth 100000 in
set_option maxHeartbeats 1600000 in
theorem gnode_le (seed : ByteArray) (hs : seed.size ≤ 1000000) :
    ∀ (l p : Nat), l ≤ 5 → (p + 1) * 2 ^ l ≤ 64 → ∀ w : World,
      Calls Try.prog 75 #[.string seed, .int .i64 (l : Int), .int .i64 (p : Int)] w fun e w' => e = .returned (.string (nodeP seed l p)) ∧ Below w.heap.size w w' := by
  intro l
  induction l with
  | zero =>
    intro p _ hp w
    have hp1 : p < 256 := by simp at hp; omega
    have HK : Hid (∀ u : World, Calls Try.prog 98 #[.string seed, .int .i64 (p : Int)] u fun e w' => e = .returned (.tuple #[.string (pubN seed p), .int .i64 0]) ∧ Below u.heap.size u w') := hid (fun u => by
      have := opublic_le seed hs (p : Int) u
      rwa [(pub_yes seed p hp1).1, (pub_yes seed p hp1).2] at this)
    rw [nodeP_zero]
    obtain ⟨T, eT⟩ : ∃ T, T = pubN seed p := ⟨_, rfl⟩
    rw [← eT] at HK ⊢
    have he : ((0 : Nat) : Int) = 0 := rfl
    rw [he]
    clear he hp hp1 hs eT
    go_enter Try.func75, Try.ntmps75
    go_wp2_with (go_at_call 98; refine (HK.out _).mono ?_; rintro e w1 ⟨rfl, hb1⟩; have H1 := hid hb1; clear hb1)
    go_ret
    exact ⟨rfl, H1.out⟩
  | succ l ih =>
    intro p hl hp w
    have h2 := two_up p l
    have h1 : (2 * p + 1) * 2 ^ l ≤ (2 * p + 1 + 1) * 2 ^ l := Nat.mul_le_mul_right _ (by omega)
    have hpp : p + 1 ≤ 64 := by
      have h3 : p + 1 ≤ (p + 1) * 2 ^ (l + 1) := Nat.le_mul_of_pos_right _ (pow_pos2 _)
      omega
    obtain ⟨X, eX⟩ : ∃ X, X = nodeP seed l (2 * p) := ⟨_, rfl⟩
    obtain ⟨Y, eY⟩ : ∃ Y, Y = nodeP seed l (2 * p + 1) := ⟨_, rfl⟩
    obtain ⟨T, eT⟩ : ∃ T, T = shaS (X ++ Y) := ⟨_, rfl⟩
    rw [nodeP_succ, ← eX, ← eY, ← eT]
    have hX : X.size = 32 := by rw [eX, nodeP_size]
    have hY : Y.size = 32 := by rw [eY, nodeP_size]
    have HX : Hid (∀ u : World, Calls Try.prog 75 #[.string seed, .int .i64 (l : Int), .int .i64 (2 * (p : Int))] u fun e w' => e = .returned (.string X) ∧ Below u.heap.size u w') := hid (fun u => by rw [eX]; exact ih (2 * p) (by omega) (by omega) u)
    have HY : Hid (∀ u : World, Calls Try.prog 75 #[.string seed, .int .i64 (l : Int), .int .i64 (2 * (p : Int) + 1)] u fun e w' => e = .returned (.string Y) ∧ Below u.heap.size u w') := hid (fun u => by rw [eY]; exact ih (2 * p + 1) (by omega) (by omega) u)
    have HT : Hid (∀ (u : World) (g : Nat), g = u.heap.size → Calls Try.prog 99 #[.slice (some ⟨g, 0, none⟩) 2 2] (u.alloc (.cells #[.string X, .string Y] 9)) fun e w' => e = .returned (.string T) ∧ Below u.heap.size u w') := hid (fun u g hg => by rw [eT]; exact sum_cat X Y (by omega) (by omega) u g hg)
    have hl0 : (0 : Int) ≤ (l : Int) := Int.natCast_nonneg _
    have hl1 : (l : Int) ≤ 4 := by omega
    have hz : ¬ ((l : Int) + 1 = 0) := by omega
    have he : (((l + 1 : Nat) : Int)) = (l : Int) + 1 := by omega
    have hp0 : (0 : Int) ≤ (p : Int) := Int.natCast_nonneg _
    have hp1 : (p : Int) ≤ 64 := by omega
    rw [he]
    clear he eX eY eT hX hY hp h1 h2 ih hl hpp hs
    go_enter Try.func75, Try.ntmps75
    go_wp2_with (first
      | (go_at_call 75; have := H1; refine (HY.out _).mono ?_; rintro e w2 ⟨rfl, hb2⟩; have H2 := hid (H1.out.trans (hb2.mono H1.out.size)); clear hb2)
      | (go_at_call 75; refine (HX.out _).mono ?_; rintro e w1 ⟨rfl, hb1⟩; have H1 := hid hb1; clear hb1)
      | (go_at_call 99; refine (HT.out _ _ (by simp)).mono ?_; rintro e w3 ⟨rfl, hb3⟩; have H3 := hid (H2.out.trans (hb3.mono H2.out.size)); clear hb3))
    go_ret
    exact ⟨rfl, H3.out⟩

/-- Is it a left one? -/
def evB (p : Nat) : Bool := decide (p % 2 = 0)
theorem isLeft_any (p : Nat) (w : World) : Calls Try.prog 103 #[.int .i64 (p : Int)] w fun e w' => e = .returned (.bool (evB p)) ∧ w' = w := by
  by_cases hp : p % 2 = 0
  · rw [show evB p = true from decide_eq_true hp]
    have h1 : (p : Int) % 2 = 0 := by omega
    have h0 : (0 : Int) ≤ (p : Int) := Int.natCast_nonneg _
    clear hp
    go_enter Try.func103, Try.ntmps103
    go_wp2
    go_ret
    exact ⟨rfl, rfl⟩
  · rw [show evB p = false from decide_eq_false hp]
    have h1 : ((p : Int) % 2 == 0) = false := by
      have : ¬ ((p : Int) % 2 = 0) := by omega
      simpa using this
    have h0 : (0 : Int) ≤ (p : Int) := Int.natCast_nonneg _
    clear hp
    go_enter Try.func103, Try.ntmps103
    go_wp2
    go_ret
    exact ⟨rfl, rfl⟩
theorem isLeft_at (p : Nat) (b : Bool) (hb : evB p = b) (w : World) : Calls Try.prog 103 #[.int .i64 (p : Int)] w fun e w' => e = .returned (.bool b) ∧ w' = w := by
  rw [← hb]
  exact isLeft_any p w
theorem beside_any (p : Nat) (hp : p ≤ 1000) (w : World) : Calls Try.prog 83 #[.int .i64 (p : Int)] w fun e w' => e = .returned (.int .i64 ((besideN p : Nat) : Int)) ∧ w' = w := by
  have h0 : (0 : Int) ≤ (p : Int) := Int.natCast_nonneg _
  have h1 : (p : Int) ≤ 1000 := by omega
  by_cases hq : p % 2 = 0
  · have HB := hid (show evB p = true from decide_eq_true hq)
    rw [show ((besideN p : Nat) : Int) = (p : Int) + 1 by rw [besideN, if_neg (by omega)]; omega]
    clear hq hp
    go_enter Try.func83, Try.ntmps83
    go_wp2_with (go_at_call 103; refine (isLeft_at _ _ (by exact HB.out) _).mono ?_; rintro e wx ⟨rfl, rfl⟩)
    go_ret
    exact ⟨rfl, rfl⟩
  · have HB := hid (show evB p = false from decide_eq_false hq)
    have h2 : (1 : Int) ≤ (p : Int) := by omega
    rw [show ((besideN p : Nat) : Int) = (p : Int) - 1 by rw [besideN, if_pos (by omega)]; omega]
    clear hq hp
    go_enter Try.func83, Try.ntmps83
    go_wp2_with (go_at_call 103; refine (isLeft_at _ _ (by exact HB.out) _).mono ?_; rintro e wx ⟨rfl, rfl⟩)
    go_ret
    exact ⟨rfl, rfl⟩
end Go.Proofs.Ytchlmcpnjpllnaa

/- The program's paths, and the way up. -/
namespace Go.Proofs.Ytchlmcpnjpllnaa
open Go.RowKit

set_option maxRecDepth 100000 in
set_option maxHeartbeats 1600000 in
theorem gpath_le (seed : ByteArray) (hs : seed.size ≤ 1000000) (h leaf : Nat) (hh : h ≤ 5) (hl : leaf < 2 ^ h) (w : World) :
    Calls Try.prog 56 #[.string seed, .int .i64 (h : Int), .int .i64 (leaf : Int)] w fun e w' => e = .returned (.string ⟨(pathB (leafL seed h) leaf h).toArray⟩) ∧ Below w.heap.size w w' := by
  have h32 := pow_le5 h hh
  obtain ⟨P, eP⟩ : ∃ P, P = pathB (leafL seed h) leaf := ⟨_, rfl⟩
  rw [← eP]
  have HP : Hid (P 0 = [] ∧ (∀ k, k < h → P (k + 1) = P k ++ (nodeP seed k (besideN (leaf / 2 ^ k))).data.toList) ∧ ∀ k, k ≤ h → (P k).length = 32 * k) :=
    hid ⟨by rw [eP]; rfl, fun k hk => by rw [eP, pathB_succ, nodeP_beside seed h leaf k hl hk], fun k hk => by rw [eP]; exact path_len _ (leafL_size seed h) leaf h (leafL_len seed h) hl k hk⟩
  have HN : Hid (∀ k, k < h → ∀ u : World, Calls Try.prog 75 #[.string seed, .int .i64 (k : Int), .int .i64 ((besideN (leaf / 2 ^ k) : Nat) : Int)] u fun e w' => e = .returned (.string (nodeP seed k (besideN (leaf / 2 ^ k)))) ∧ Below u.heap.size u w') :=
    hid (fun k hk u => gnode_le seed hs k _ (by omega) (by have := beside_lt leaf h k hl hk; rw [Nat.succ_mul]; omega) u)
  have HH := hid (And.intro hh (And.intro hl h32))
  have hh1 : (h : Int) ≤ 5 := by omega
  clear eP hs hh hl h32
  go_enter Try.func56, Try.ntmps56
  go_wp2
  go_loopw [8, 12] (fun q i wr => ∃ k : Nat, k ≤ h ∧ i = .int .i64 (k : Int) ∧ q = .int .i64 ((leaf / 2 ^ k : Nat) : Int) ∧ Bld w.heap.size w wr w.heap.size (P k))
    (fun _ i _ => ((h : Int) - intOf i).toNat)
  case atStart => exact ⟨0, by omega, rfl, by rw [Nat.pow_zero, Nat.div_one], by rw [HP.out.1]; exact Bld.new w _ rfl⟩
  case round =>
    obtain ⟨k, hk, rfl, rfl, hR⟩ := hrel
    have HR := hid hR
    clear hR
    by_cases hkn : k = h
    · have hk1 : ¬ ((k : Int) < (h : Int)) := by omega
      subst hkn
      clear hk
      go_wp2_with (go_at_call 84; refine (bstring_any _ _ _ _ _ (by exact HR.out)).mono ?_; rintro e w1 ⟨rfl, hb1⟩; have H1 := hid hb1; clear hb1)
      go_ret
      exact ⟨rfl, H1.out⟩
    · have hk1 : (k : Int) < (h : Int) := by omega
      have hk0 : (0 : Int) ≤ (k : Int) := Int.natCast_nonneg _
      have hkh : k < h := by omega
      have HNk := hid (HN.out k hkh)
      have hE := HP.out.2.1 k hkh
      have hlen := HP.out.2.2 k hk
      have hhalf := half_pow leaf k
      have hq : leaf / 2 ^ k ≤ leaf := Nat.div_le_self _ _
      generalize leaf / 2 ^ k = q at HNk hE hhalf hq ⊢
      obtain ⟨X, eX⟩ : ∃ X, X = nodeP seed k (besideN q) := ⟨_, rfl⟩
      have hX : X.size = 32 := by rw [eX, nodeP_size]
      rw [← eX] at HNk hE
      have HB : Hid (∀ u : World, Calls Try.prog 83 #[.int .i64 (q : Int)] u fun e w' => e = .returned (.int .i64 ((besideN q : Nat) : Int)) ∧ w' = u) := hid (fun u => beside_any q (by have := HH.out; omega) u)
      obtain ⟨m, em⟩ : ∃ m, m = besideN q := ⟨_, rfl⟩
      rw [← em] at HNk HB
      have hq1 : (q : Int) ≤ 31 := by have := HH.out; omega
      have hq0 : (0 : Int) ≤ (q : Int) := Int.natCast_nonneg _
      have HL : Hid ((P k).length + X.size ≤ 140737488355328) := hid (by rw [hlen, hX]; have := HH.out; omega)
      have HE := hid hE
      have HJ := hid (And.intro hk (And.intro hkn hhalf))
      clear hk hkn hE hlen hhalf hq eX hX em hkh
      go_wp2_with (first
        | (go_at_call 83; refine (HB.out _).mono ?_; rintro e wx ⟨rfl, rfl⟩)
        | (go_at_call 75; refine (HNk.out _).mono ?_; rintro e w2 ⟨rfl, hb2⟩; have H2 := hid (HR.out.keep hb2); clear hb2)
        | (go_at_call 82; refine (bwrite_any _ _ _ _ _ _ (by exact H2.out) (by exact HL.out)).mono ?_; rintro e w3 ⟨⟨n3, rfl⟩, hb3⟩; have H3 := hid hb3; clear hb3))
      go_roundw
      case rel => exact ⟨k + 1, by have := HJ.out; omega, by go_num, by rw [HJ.out.2.2]; go_num, by rw [HE.out]; exact H3.out⟩
      case measure => simp [intOf]; omega

/-- What is left of the path. -/
def restS (sig : ByteArray) (k : Nat) : ByteArray := sig.extract (561 + 32 * k) sig.size
theorem rest_size (sig : ByteArray) (k h : Nat) (hs : sig.size = 561 + 32 * h) (hk : k ≤ h) : (restS sig k).size = 32 * (h - k) := by
  rw [restS, ← data_len, ext_data, List.length_drop, List.length_take, data_len, hs]
  omega
theorem rest_side (sig : ByteArray) (k : Nat) : (restS sig k).extract 0 32 = sideS sig k := by
  apply ByteArray.ext
  apply Array.ext'
  rw [ext_data, restS, ext_data, sideS, ext_data, List.take_of_length_le (i := sig.size) (by rw [data_len]; exact Nat.le_refl _), List.drop_zero, List.drop_take]
  congr 1
  omega
theorem rest_rest (sig : ByteArray) (k : Nat) : (restS sig k).extract 32 (restS sig k).size = restS sig (k + 1) := by
  apply ByteArray.ext
  apply Array.ext'
  rw [ext_data, List.take_of_length_le (i := (restS sig k).size) (by rw [data_len]; exact Nat.le_refl _), restS, ext_data, restS, ext_data, List.take_of_length_le (i := sig.size) (by rw [data_len]; exact Nat.le_refl _), List.drop_drop]
  congr 1
theorem rest_none (sig : ByteArray) (h : Nat) (hs : sig.size = 561 + 32 * h) : restS sig h = ⟨#[]⟩ := by
  apply ByteArray.ext
  apply Array.ext'
  apply List.eq_nil_of_length_eq_zero
  rw [data_len, rest_size sig h h hs (Nat.le_refl _), Nat.sub_self]

theorem not_none (P : ByteArray) (h : 0 < P.size) : P.toList.isEmpty = false := by
  rw [ByteArray.toList_eq]
  cases e : P.data.toList with
  | nil => rw [← data_len, e] at h; simp at h
  | cons x l => rfl
set_option maxRecDepth 100000 in
set_option maxHeartbeats 1600000 in
theorem climbed_le (N : ByteArray) (hN : N.size ≤ 32) (hd : Nat) (hd5 : hd < 256) (sig : ByteArray) (h : Nat) (hs : sig.size = 561 + 32 * h) (hh : h ≤ 5) (w : World) :
    Calls Try.prog 90 #[.string N, .int .i64 (hd : Int), .string (restS sig 0)] w fun e w' => e = .returned (.string (upS sig hd N h)) ∧ Below w.heap.size w w' := by
  have HK := hid (And.intro hs (And.intro hh (And.intro hN hd5)))
  clear hs hh hN hd5
  go_enter Try.func90, Try.ntmps90
  go_wp2
  go_loopw [2, 7, 8] (fun p v q wr => ∃ j : Nat, j ≤ h ∧ p = .string (restS sig j) ∧ v = .string (upS sig hd N j) ∧ q = .int .i64 ((hd / 2 ^ j : Nat) : Int) ∧ Below w.heap.size w wr)
    (fun p _ _ _ => match p with | .string s => s.size | _ => 0)
  case atStart => exact ⟨0, by omega, rfl, rfl, by rw [Nat.pow_zero, Nat.div_one], Below.refl _ _⟩
  case round =>
    obtain ⟨j, hj, rfl, rfl, rfl, hbel⟩ := hrel
    have HB := hid hbel
    clear hbel
    by_cases hjn : j = h
    · subst hjn
      rw [rest_none sig j HK.out.1]
      generalize hd / 2 ^ j = q
      obtain ⟨X, eX⟩ : ∃ X, X = upS sig hd N j := ⟨_, rfl⟩
      rw [← eX]
      have HX := hid eX
      clear hj eX
      go_wp2
      go_ret
      exact ⟨by rw [← HX.out]; rfl, HB.out⟩
    · have hjh : j < h := by omega
      have hev := upS_even sig hd N j
      have hod := upS_odd sig hd N j
      have hhalf := half_pow hd j
      have hqle : hd / 2 ^ j ≤ hd := Nat.div_le_self _ _
      have hXs : (upS sig hd N j).size ≤ 32 := upS_size sig hd N HK.out.2.2.1 j
      have hSs : (sideS sig j).size = 32 := side_size sig j h HK.out.1 hjh
      have hPs := rest_size sig j h HK.out.1 hj
      have hP1 := rest_side sig j
      have hP2 := rest_rest sig j
      have hRs := rest_size sig (j + 1) h HK.out.1 hjh
      obtain ⟨q, eq⟩ : ∃ q, q = hd / 2 ^ j := ⟨_, rfl⟩
      rw [← eq] at hev hod hhalf hqle ⊢
      obtain ⟨X, eX⟩ : ∃ X, X = upS sig hd N j := ⟨_, rfl⟩
      rw [← eX] at hev hod hXs ⊢
      obtain ⟨S, eS⟩ : ∃ S, S = sideS sig j := ⟨_, rfl⟩
      rw [← eS] at hev hod hSs hP1
      obtain ⟨R, eR⟩ : ∃ R, R = restS sig (j + 1) := ⟨_, rfl⟩
      rw [← eR] at hP2 hRs
      obtain ⟨P, eP⟩ : ∃ P, P = restS sig j := ⟨_, rfl⟩
      rw [← eP] at hPs hP1 hP2 ⊢
      have hq1 : (q : Int) < 256 := by have := HK.out; omega
      have hq0 : (0 : Int) ≤ (q : Int) := Int.natCast_nonneg _
      have hP3 : (32 : Int) ≤ (P.size : Int) := by omega
      have hne := not_none P (by omega)
      have HJ := hid (And.intro hj (And.intro hjn (And.intro hhalf (And.intro hPs (And.intro hRs eR)))))
      clear hqle hhalf eq eX eS eR eP hj hjn hPs hRs hjh
      by_cases hpar : q % 2 = 0
      · have HV := hid (show evB q = true from decide_eq_true hpar)
        obtain ⟨T, eT⟩ : ∃ T, T = upS sig hd N (j + 1) := ⟨_, rfl⟩
        have HT : Hid (∀ (u : World) (g : Nat), g = u.heap.size → Calls Try.prog 99 #[.slice (some ⟨g, 0, none⟩) 2 2] (u.alloc (.cells #[.string X, .string S] 9)) fun e w' => e = .returned (.string T) ∧ Below u.heap.size u w') := hid (fun u g hg => by rw [eT, hev hpar]; exact sum_cat X S (by omega) (by omega) u g hg)
        have HU := hid eT
        clear hev hod hpar eT hSs hXs
        go_wp2_with (first
          | (go_at_call 103; refine (isLeft_at _ _ (by exact HV.out) _).mono ?_; rintro e wx ⟨rfl, rfl⟩)
          | (go_at_call 99; refine (HT.out _ _ (by simp)).mono ?_; rintro e w2 ⟨rfl, hb2⟩; have H2 := hid (HB.out.trans (hb2.mono HB.out.size)); clear hb2))
        go_roundw
        case rel => exact ⟨j + 1, by have := HJ.out; omega, by rw [HJ.out.2.2.2.2.2], by rw [HU.out], by rw [HJ.out.2.2.1]; go_num, H2.out⟩
        case measure => show R.size < P.size; have := HJ.out; omega
      · have HV := hid (show evB q = false from decide_eq_false hpar)
        obtain ⟨T, eT⟩ : ∃ T, T = upS sig hd N (j + 1) := ⟨_, rfl⟩
        have HT : Hid (∀ (u : World) (g : Nat), g = u.heap.size → Calls Try.prog 99 #[.slice (some ⟨g, 0, none⟩) 2 2] (u.alloc (.cells #[.string S, .string X] 9)) fun e w' => e = .returned (.string T) ∧ Below u.heap.size u w') := hid (fun u g hg => by rw [eT, hod hpar]; exact sum_cat S X (by omega) (by omega) u g hg)
        have HU := hid eT
        clear hev hod hpar eT hSs hXs
        go_wp2_with (first
          | (go_at_call 103; refine (isLeft_at _ _ (by exact HV.out) _).mono ?_; rintro e wx ⟨rfl, rfl⟩)
          | (go_at_call 99; refine (HT.out _ _ (by simp)).mono ?_; rintro e w2 ⟨rfl, hb2⟩; have H2 := hid (HB.out.trans (hb2.mono HB.out.size)); clear hb2))
        go_roundw
        case rel => exact ⟨j + 1, by have := HJ.out; omega, by rw [HJ.out.2.2.2.2.2], by rw [HU.out], by rw [HJ.out.2.2.1]; go_num, H2.out⟩
        case measure => show R.size < P.size; have := HJ.out; omega
end Go.Proofs.Ytchlmcpnjpllnaa

/- The program's signers: what lies in memory; New, Root, Left. -/
namespace Go.Proofs.Ytchlmcpnjpllnaa
open Go.RowKit

/-- All blocks but b are as they were; the streams too. -/
structure But (b : Nat) (w w' : World) : Prop where
  os : w'.os = w.os
  tape : w'.tape = w.tape
  output : w'.output = w.output
  size : w.heap.size ≤ w'.heap.size
  block : ∀ k, k < w.heap.size → k ≠ b → w'.heap[k]? = w.heap[k]?
theorem But.refl (b : Nat) (w : World) : But b w w := ⟨rfl, rfl, rfl, Nat.le_refl _, fun _ _ _ => rfl⟩
theorem But.trans {b : Nat} {x y z : World} (h : But b x y) (k : But b y z) : But b x z :=
  ⟨k.os.trans h.os, k.tape.trans h.tape, k.output.trans h.output, Nat.le_trans h.size k.size, fun i hi hb => (k.block i (Nat.lt_of_lt_of_le hi h.size) hb).trans (h.block i hi hb)⟩
theorem But.of {b : Nat} {x y : World} (h : Below x.heap.size x y) : But b x y := ⟨h.os, h.tape, h.output, h.size, fun k hk _ => h.block k hk⟩
theorem But.setCell {b : Nat} {x y : World} (h : But b x y) (o : Nat) (u : Value) : But b x (y.setCell ⟨b, o, none⟩ u) :=
  ⟨h.os, h.tape, h.output, by have := h.size; simpa [World.setCell] using this, fun i hi hb => by rw [Below.heap_setCell _ _ _ _ hb, h.block i hi hb]⟩
theorem But.below {b B : Nat} {x y : World} (h : But b x y) (hB : B ≤ x.heap.size) (hb : B ≤ b) : Below B x y := ⟨h.os, h.tape, h.output, h.size, fun k hk => h.block k (by omega) (by omega)⟩
theorem But.cell {b : Nat} {x y : World} (h : But b x y) (g o : Nat) (hg : g < x.heap.size) (hne : g ≠ b) : y.cell? ⟨g, o, none⟩ = x.cell? ⟨g, o, none⟩ := by
  simp only [World.cell?, h.block g hg hne]
theorem But.strs {b : Nat} {x y : World} {a : Option Addr} {ss : List ByteArray} (h : But b x y) (hS : StrsIn x a ss) (hne : ∀ ad, a = some ad → ad.block ≠ b) : StrsIn y a ss := by
  rcases hS with k | ⟨g, off, ha, hg, hc⟩
  · exact .inl k
  · exact .inr ⟨g, off, ha, Nat.lt_of_lt_of_le hg h.size, fun j s hs => (h.cell g _ hg (hne _ ha)).trans (hc j s hs)⟩

/-- The signer in block b has used u leaves. -/
def SgAt (w : World) (b : Nat) (seed : ByteArray) (h u : Nat) : Prop := w.heap[b]? = some (.cells #[.string seed, .int .i64 (h : Int), .int .i64 (u : Int)] 93 (0, 0))
theorem SgAt.lt {w : World} {b : Nat} {seed : ByteArray} {h u : Nat} (hS : SgAt w b seed h u) : b < w.heap.size := lt_of_blk hS
theorem SgAt.c0 {w : World} {b : Nat} {seed : ByteArray} {h u : Nat} (hS : SgAt w b seed h u) : w.cell? ⟨b, 0, none⟩ = some (.string seed) := cell_at (L := [.string seed, .int .i64 (h : Int), .int .i64 (u : Int)]) hS 0 _ rfl
theorem SgAt.c1 {w : World} {b : Nat} {seed : ByteArray} {h u : Nat} (hS : SgAt w b seed h u) : w.cell? ⟨b, 1, none⟩ = some (.int .i64 (h : Int)) := cell_at (L := [.string seed, .int .i64 (h : Int), .int .i64 (u : Int)]) hS 1 _ rfl
theorem SgAt.c2 {w : World} {b : Nat} {seed : ByteArray} {h u : Nat} (hS : SgAt w b seed h u) : w.cell? ⟨b, 2, none⟩ = some (.int .i64 (u : Int)) := cell_at (L := [.string seed, .int .i64 (h : Int), .int .i64 (u : Int)]) hS 2 _ rfl
theorem SgAt.fr {w : World} {b : Nat} {seed : ByteArray} {h u : Nat} (hS : SgAt w b seed h u) (j : Nat) : w.frozen? ⟨b, j, none⟩ = false := free_at hS j
theorem SgAt.keep {w w' : World} {b : Nat} {seed : ByteArray} {h u : Nat} (hS : SgAt w b seed h u) (hb : Below w.heap.size w w') : SgAt w' b seed h u := (hb.block b hS.lt).trans hS
theorem SgAt.but {w w' : World} {b c : Nat} {seed : ByteArray} {h u : Nat} (hS : SgAt w b seed h u) (hb : But c w w') (hne : b ≠ c) : SgAt w' b seed h u := (hb.block b hS.lt hne).trans hS
theorem SgAt.next {w : World} {b : Nat} {seed : ByteArray} {h u : Nat} (hS : SgAt w b seed h u) : SgAt (w.setCell ⟨b, 2, none⟩ (.int .i64 ((u : Int) + 1))) b seed h (u + 1) :=
  (blk_set hS 2 _).trans rfl

theorem gnew_no (seed : ByteArray) (h : Int) (hn : rightB h = false) (w : World) :
    Calls Try.prog 51 #[.string seed, .int .i64 h] w fun e w' => e = .returned (.tuple #[.pointer none, .int .i64 1]) ∧ w' = w := by
  have HB := hid hn
  clear hn
  go_enter Try.func51, Try.ntmps51
  go_wp2_with (go_at_call 74; refine (isHeight_at _ _ (by exact HB.out) _).mono ?_; rintro e wx ⟨rfl, rfl⟩)
  go_ret2
  exact ⟨rfl, rfl⟩
set_option maxRecDepth 100000 in
theorem gnew_yes (seed : ByteArray) (h : Nat) (hh : h ≤ 5) (w : World) :
    Calls Try.prog 51 #[.string seed, .int .i64 (h : Int)] w fun e w' => e = .returned (.tuple #[.pointer (some ⟨w.heap.size, 0, none⟩), .int .i64 0]) ∧ SgAt w' w.heap.size seed h 0 ∧ Below w.heap.size w w' := by
  have HB := hid (rightB_yes (h := (h : Int)) (by omega) (by omega))
  clear hh
  go_enter Try.func51, Try.ntmps51
  go_wp2_with (go_at_call 74; refine (isHeight_at _ _ (by exact HB.out) _).mono ?_; rintro e wx ⟨rfl, rfl⟩)
  go_ret2
  exact ⟨rfl, heap_alloc_last _ _, (Below.refl _ _).alloc (Nat.le_refl _) _⟩
theorem node_root (seed : ByteArray) (hs : seed.size ≤ 1000000) (h : Nat) (hh : h ≤ 5) (w : World) : Calls Try.prog 75 #[.string seed, .int .i64 (h : Int), .int .i64 0] w fun e w' => e = .returned (.string (rootS seed h)) ∧ Below w.heap.size w w' := by
  rw [← nodeP_root]
  exact gnode_le seed hs h 0 hh (by have := pow_le5 h hh; omega) w
theorem sroot_nil (w : World) : Calls Try.prog 52 #[.pointer none] w fun e w' => e = .returned (.string ⟨#[]⟩) ∧ w' = w := by
  go_enter Try.func52, Try.ntmps52
  go_wp2
  go_ret
  exact ⟨rfl, rfl⟩
theorem sleft_nil (w : World) : Calls Try.prog 54 #[.pointer none] w fun e w' => e = .returned (.int .i64 0) ∧ w' = w := by
  go_enter Try.func54, Try.ntmps54
  go_wp2
  go_ret
  exact ⟨rfl, rfl⟩
theorem ssign_nil (t : ByteArray) (w : World) : Calls Try.prog 24 #[.pointer none, .string t] w fun e w' => e = .returned (.tuple #[.string ⟨#[]⟩, .int .i64 1]) ∧ w' = w := by
  go_enter Try.func24, Try.ntmps24
  go_wp2
  go_ret2
  exact ⟨rfl, rfl⟩
set_option maxRecDepth 100000 in
set_option maxHeartbeats 1600000 in
theorem sroot_le (b : Nat) (seed : ByteArray) (hs : seed.size ≤ 1000000) (h u : Nat) (hh : h ≤ 5) (w : World) (hS : SgAt w b seed h u) :
    Calls Try.prog 52 #[.pointer (some ⟨b, 0, none⟩)] w fun e w' => e = .returned (.string (rootS seed h)) ∧ Below w.heap.size w w' := by
  have HN := hid (node_root seed hs h hh)
  obtain ⟨T, eT⟩ : ∃ T, T = rootS seed h := ⟨_, rfl⟩
  rw [← eT] at HN ⊢
  have c0 : ∀ x : Cls w, x.1.cell? ⟨b, 0, none⟩ = some (.string seed) := fun x => (hS.keep x.2).c0
  have c1 : ∀ x : Cls w, x.1.cell? ⟨b, 1, none⟩ = some (.int .i64 (h : Int)) := fun x => (hS.keep x.2).c1
  clear hh hs eT hS
  go_enter Try.func52, Try.ntmps52
  go_wp2
  haveI := Cls.ne w
  refine wp_region_cls w (by kernel_rfl) (by kernel_rfl) ?_
  repeat (go_big_quiet_step ((go_at_call 75; exact Cls.of _ (fun u _ => HN.out u))))
  refine wpQuiet_nil ?_
  rintro _ ⟨x, rfl⟩
  go_wp2
  go_ret
  exact ⟨rfl, x.2⟩
set_option maxRecDepth 100000 in
set_option maxHeartbeats 1600000 in
theorem sleft_le (b : Nat) (seed : ByteArray) (h u n : Nat) (hh : h ≤ 5) (hu : u + n = 2 ^ h) (w : World) (hS : SgAt w b seed h u) :
    Calls Try.prog 54 #[.pointer (some ⟨b, 0, none⟩)] w fun e w' => e = .returned (.int .i64 (n : Int)) ∧ Below w.heap.size w w' := by
  obtain ⟨N, eN⟩ : ∃ N, N = 2 ^ h := ⟨_, rfl⟩
  have h32 := pow_le5 h hh
  have HL : Hid (∀ v : World, Calls Try.prog 76 #[.int .i64 (h : Int)] v fun e w' => e = .returned (.int .i64 (N : Int)) ∧ w' = v) := hid (fun v => by rw [eN]; exact gleaves_le h hh v)
  rw [← eN] at hu h32
  have e1 : IntKind.i64.wrap ((N : Int) - (u : Int)) = (n : Int) := by rw [wrap_small _ (by omega) (by omega)]; omega
  have c1 : ∀ x : Cls w, x.1.cell? ⟨b, 1, none⟩ = some (.int .i64 (h : Int)) := fun x => (hS.keep x.2).c1
  have c2 : ∀ x : Cls w, x.1.cell? ⟨b, 2, none⟩ = some (.int .i64 (u : Int)) := fun x => (hS.keep x.2).c2
  clear hh h32 hu eN hS
  go_enter Try.func54, Try.ntmps54
  go_wp2
  haveI := Cls.ne w
  refine wp_region_cls w (by kernel_rfl) (by kernel_rfl) ?_
  repeat (go_big_quiet_step ((go_at_call 76; exact Cls.of _ (fun u _ => of_same HL.out u))))
  refine wpQuiet_nil ?_
  rintro _ ⟨x, rfl⟩
  go_wp2
  go_ret
  exact ⟨rfl, x.2⟩
end Go.Proofs.Ytchlmcpnjpllnaa

/- Which signature the program takes; what lives; what is short. -/
namespace Go.Proofs.Ytchlmcpnjpllnaa
open Go.RowKit

set_option maxRecDepth 100000 in
set_option maxHeartbeats 1600000 in
theorem gverify_no0 (root : ByteArray) (h : Int) (hn : rightB h = false) (t sig : ByteArray) (w : World) :
    Calls Try.prog 66 #[.string root, .int .i64 h, .string t, .string sig] w fun e w' => e = .returned (.bool false) ∧ Below w.heap.size w w' := by
  have HB := hid hn
  clear hn
  go_enter Try.func66, Try.ntmps66
  go_wp2_with (go_at_call 74; refine (isHeight_at _ _ (by exact HB.out) _).mono ?_; rintro e wx ⟨rfl, rfl⟩)
  go_ret
  exact ⟨rfl, Below.refl _ _⟩
set_option maxRecDepth 100000 in
set_option maxHeartbeats 1600000 in
theorem gverify_no1 (root : ByteArray) (k : Nat) (hk : k ≤ 5) (t sig : ByteArray) (hs : ¬ sig.size = 561 + 32 * k) (w : World) :
    Calls Try.prog 66 #[.string root, .int .i64 (k : Int), .string t, .string sig] w fun e w' => e = .returned (.bool false) ∧ Below w.heap.size w w' := by
  have HB := hid (rightB_yes (h := (k : Int)) (by omega) (by omega))
  have HZ := hid (sigSize_le k hk)
  have hs1 : ¬ ((sig.size : Int) = 561 + 32 * (k : Int)) := by omega
  clear hk hs
  go_enter Try.func66, Try.ntmps66
  go_wp2_with (first
    | (go_at_call 74; refine (isHeight_at _ _ (by exact HB.out) _).mono ?_; rintro e wx ⟨rfl, rfl⟩)
    | (go_at_call 88; refine (HZ.out _).mono ?_; rintro e wx ⟨rfl, rfl⟩))
  go_ret
  exact ⟨rfl, Below.refl _ _⟩
set_option maxRecDepth 100000 in
set_option maxHeartbeats 1600000 in
theorem gverify_no2 (root : ByteArray) (k : Nat) (hk : k ≤ 5) (t sig : ByteArray) (hs : sig.size = 561 + 32 * k) (hh : ¬ headN sig < 2 ^ k) (w : World) :
    Calls Try.prog 66 #[.string root, .int .i64 (k : Int), .string t, .string sig] w fun e w' => e = .returned (.bool false) ∧ Below w.heap.size w w' := by
  have HB := hid (rightB_yes (h := (k : Int)) (by omega) (by omega))
  have HZ := hid (sigSize_le k hk)
  obtain ⟨p, ep⟩ : ∃ p, p = 2 ^ k := ⟨_, rfl⟩
  obtain ⟨hd, ehd⟩ : ∃ hd, hd = headN sig := ⟨_, rfl⟩
  rw [← ep, ← ehd] at hh
  have HL : Hid (∀ v : World, Calls Try.prog 76 #[.int .i64 (k : Int)] v fun e w' => e = .returned (.int .i64 (p : Int)) ∧ w' = v) := hid (fun v => by rw [ep]; exact gleaves_le k hk v)
  have hs1 : (sig.size : Int) = 561 + 32 * (k : Int) := by omega
  have hpos : 0 < sig.size := by omega
  have e00 : (sig[0]'hpos).toNat = hd := by rw [ehd, head_get sig hpos]
  have hd255 : (hd : Int) < 256 := by rw [ehd, head_get sig (by omega)]; have := (sig[0]'(by omega)).toNat_lt; omega
  have hd0 : (0 : Int) ≤ (hd : Int) := Int.natCast_nonneg _
  have hh1 : (p : Int) ≤ (hd : Int) := by omega
  clear hk hs hh ep ehd
  go_enter Try.func66, Try.ntmps66
  go_wp2_with (first
    | (go_at_call 74; refine (isHeight_at _ _ (by exact HB.out) _).mono ?_; rintro e wx ⟨rfl, rfl⟩)
    | (go_at_call 88; refine (HZ.out _).mono ?_; rintro e wx ⟨rfl, rfl⟩)
    | (go_at_call 76; refine (HL.out _).mono ?_; rintro e wx ⟨rfl, rfl⟩))
  go_ret
  exact ⟨rfl, Below.refl _ _⟩
set_option maxRecDepth 100000 in
set_option maxHeartbeats 1600000 in
theorem gverify_yes (root : ByteArray) (k : Nat) (hk : k ≤ 5) (t sig : ByteArray) (ht : t.size ≤ 1000000) (hs : sig.size = 561 + 32 * k) (hh : headN sig < 2 ^ k) (w : World) :
    Calls Try.prog 66 #[.string root, .int .i64 (k : Int), .string t, .string sig] w fun e w' => e = .returned (.bool ((upS sig (headN sig) (recN t sig) k).toList == root.toList)) ∧ Below w.heap.size w w' := by
  have HB := hid (rightB_yes (h := (k : Int)) (by omega) (by omega))
  have HZ := hid (sigSize_le k hk)
  obtain ⟨p, ep⟩ : ∃ p, p = 2 ^ k := ⟨_, rfl⟩
  obtain ⟨hd, ehd⟩ : ∃ hd, hd = headN sig := ⟨_, rfl⟩
  obtain ⟨N, eN⟩ : ∃ N, N = recN t sig := ⟨_, rfl⟩
  have hN : N.size ≤ 32 := by rw [eN, recN_size]; exact Nat.le_refl _
  rw [← eN, ← ehd]
  rw [← ep, ← ehd] at hh
  have HL : Hid (∀ v : World, Calls Try.prog 76 #[.int .i64 (k : Int)] v fun e w' => e = .returned (.int .i64 (p : Int)) ∧ w' = v) := hid (fun v => by rw [ep]; exact gleaves_le k hk v)
  have HR : Hid (∀ u : World, Calls Try.prog 89 #[.string t, .string (sig.extract 1 561)] u fun e w' => e = .returned (.tuple #[.string N, .bool true]) ∧ Below u.heap.size u w') := hid (fun u => by
    have := orecover_le t ht (oneS sig) u
    rw [(rec_yes t sig (by omega)).1, (rec_yes t sig (by omega)).2, ← eN] at this
    exact this)
  have hs1 : (sig.size : Int) = 561 + 32 * (k : Int) := by omega
  have hk0 : (0 : Int) ≤ (k : Int) := Int.natCast_nonneg _
  have hpos : 0 < sig.size := by omega
  have e00 : (sig[0]'hpos).toNat = hd := by rw [ehd, head_get sig hpos]
  have hd255 : (hd : Int) < 256 := by rw [ehd, head_get sig (by omega)]; have := (sig[0]'(by omega)).toNat_lt; omega
  have hd0 : (0 : Int) ≤ (hd : Int) := Int.natCast_nonneg _
  have hh1 : ¬ ((p : Int) ≤ (hd : Int)) := by omega
  obtain ⟨X, eX⟩ : ∃ X, X = upS sig hd N k := ⟨_, rfl⟩
  rw [← eX]
  have HC : Hid (∀ u : World, Calls Try.prog 90 #[.string N, .int .i64 (hd : Int), .string (sig.extract 561 sig.size)] u fun e w' => e = .returned (.string X) ∧ Below u.heap.size u w') := hid (fun u => by rw [eX]; exact climbed_le N hN hd (by omega) sig k hs hk u)
  clear hk hs hh ep ehd eN hN eX ht
  go_enter Try.func66, Try.ntmps66
  go_wp2_with (first
    | (go_at_call 74; refine (isHeight_at _ _ (by exact HB.out) _).mono ?_; rintro e wx ⟨rfl, rfl⟩)
    | (go_at_call 88; refine (HZ.out _).mono ?_; rintro e wx ⟨rfl, rfl⟩)
    | (go_at_call 76; refine (HL.out _).mono ?_; rintro e wx ⟨rfl, rfl⟩)
    | (go_at_call 89; refine (HR.out _).mono ?_; rintro e w1 ⟨rfl, hb1⟩; have H1 := hid hb1; clear hb1)
    | (go_at_call 90; refine (HC.out _).mono ?_; rintro e w2 ⟨rfl, hb2⟩; have H2 := hid (H1.out.trans (hb2.mono H1.out.size)); clear hb2))
  go_ret
  exact ⟨rfl, H2.out⟩
/-- Which signature the program takes. -/
theorem gverify_any (root : ByteArray) (h : Int) (t sig : ByteArray) (ht : t.size ≤ 1000000) (w : World) :
    Calls Try.prog 66 #[.string root, .int .i64 h, .string t, .string sig] w fun e w' => e = .returned (.bool (takenB root h t sig)) ∧ Below w.heap.size w w' := by
  by_cases h0 : 0 ≤ h ∧ h ≤ 5
  · obtain ⟨k, rfl⟩ : ∃ k : Nat, h = (k : Int) := ⟨h.toNat, by omega⟩
    by_cases h1 : sig.size = 561 + 32 * k
    · by_cases h2 : headN sig < 2 ^ k
      · have hf : formB (k : Int) sig = true := decide_eq_true ⟨h0.1, h0.2, by rw [Int.toNat_natCast]; exact h1, by rw [Int.toNat_natCast]; exact h2⟩
        rw [takenB, hf, Bool.true_and, Int.toNat_natCast]
        exact gverify_yes root k (by omega) t sig ht h1 h2 w
      · rw [taken_no (form_no (fun hc => h2 (by have := hc.2.2.2; rwa [Int.toNat_natCast] at this)))]
        exact gverify_no2 root k (by omega) t sig h1 h2 w
    · rw [taken_no (form_no (fun hc => h1 (by have := hc.2.2.1; rwa [Int.toNat_natCast] at this)))]
      exact gverify_no1 root k (by omega) t sig h1 w
  · rw [taken_no (form_no (fun hc => h0 ⟨hc.1, hc.2.1⟩))]
    exact gverify_no0 root h (rightB_no h0) t sig w

def qS : ByteArray := ⟨#[113]⟩
end Go.Proofs.Ytchlmcpnjpllnaa

/- The program's counts. -/
namespace Go.Proofs.Ytchlmcpnjpllnaa
open Go.RowKit

theorem cfaults_same (n : Int) (hn : n ≤ 9223372036854775807) (w : World) : Calls Try.prog 53 #[.int .i64 n] w fun e w' => e = .returned (.int .i64 (fltZ n)) ∧ w' = w := by
  by_cases h : n < 1
  · rw [fltZ_lo h]
    go_enter Try.func53, Try.ntmps53
    go_wp2
    go_ret
    exact ⟨rfl, rfl⟩
  · have HF : Hid (fltZ n = (n - 1) / 3) := hid (fltZ_hi h)
    rw [HF.out]
    go_enter Try.func53, Try.ntmps53
    go_wp2
    go_ret
    exact ⟨rfl, rfl⟩
theorem cfaults_any (n : Int) (hn : n ≤ 9223372036854775807) (w : World) : Calls Try.prog 53 #[.int .i64 n] w fun e w' => e = .returned (.int .i64 (fltZ n)) ∧ Below w.heap.size w w' :=
  (cfaults_same n hn w).mono fun _ _ ⟨h1, h2⟩ => ⟨h1, by rw [h2]; exact Below.refl _ _⟩
theorem cquorum_any (n : Int) (hn : n ≤ 9223372036854775807) (w : World) : Calls Try.prog 23 #[.int .i64 n] w fun e w' => e = .returned (.int .i64 (quoZ n)) ∧ Below w.heap.size w w' := by
  have HC : Hid (∀ u : World, Calls Try.prog 53 #[.int .i64 n] u fun e w' => e = .returned (.int .i64 (fltZ n)) ∧ w' = u) := hid (cfaults_same n hn)
  by_cases h : n < 1
  · rw [quoZ_lo h]
    go_enter Try.func23, Try.ntmps23
    go_wp2
    go_ret
    exact ⟨rfl, Below.refl _ _⟩
  · rw [quoZ_hi h]
    have hf := fltZ_le h
    generalize fltZ n = f at HC hf ⊢
    have h1 : 0 ≤ f := hf.1
    have h2 : f ≤ 4000000000000000000 := by omega
    have h3 : f ≤ n := by omega
    have HQ : Hid ((n + f) / 2 + 1 = f + (n - f) / 2 + 1) := hid (by omega)
    rw [HQ.out]
    clear hf
    go_enter Try.func23, Try.ntmps23
    go_wp2_with (go_at_call 53; refine (HC.out _).mono ?_; rintro e wx ⟨rfl, rfl⟩)
    go_ret
    exact ⟨rfl, Below.refl _ _⟩
end Go.Proofs.Ytchlmcpnjpllnaa
