/- Where chains begin; the pieces of a signature. -/
import Derived.Test.YtebhkifjommpjaaOtC
import Derived.Test.YtebhkifjommpjaaGnF
namespace Go.Proofs.Ytebhkifjommpjaa
open Go.RowKit

def begL (seed : ByteArray) (leaf : Nat) : List ByteArray := (List.range 35).map (begS seed leaf)
def pieL (sig : ByteArray) : List ByteArray := (List.range 35).map (pieceS sig)
theorem begL_len (seed : ByteArray) (leaf : Nat) : (begL seed leaf).length = 35 := by simp [begL]
theorem pieL_len (sig : ByteArray) : (pieL sig).length = 35 := by simp [pieL]
theorem begL_get (seed : ByteArray) (leaf j : Nat) (h : j < 35) : (begL seed leaf)[j]? = some (begS seed leaf j) := by simp [begL, h]
theorem pieL_get (sig : ByteArray) (j : Nat) (h : j < 35) : (pieL sig)[j]? = some (pieceS sig j) := by simp [pieL, h]
theorem byte_in (n : Nat) (h : n < 256) : (Value.int .u8 ((UInt8.ofNat n).toNat : Int)) = .int .u8 (n : Int) := by
  congr 1
  simp
  omega
theorem two_bytes (a b : Nat) (ha : a < 256) (hb : b < 256) : bC [UInt8.ofNat a, UInt8.ofNat b] = [.int .u8 (a : Int), .int .u8 (b : Int)] := by
  show [Value.int .u8 ((UInt8.ofNat a).toNat : Int), Value.int .u8 ((UInt8.ofNat b).toNat : Int)] = _
  rw [byte_in a ha, byte_in b hb]
theorem two_text (a b : Nat) (ha : a < 256) (hb : b < 256) (u : World) (g : Nat) (hg : g = u.heap.size) :
    (convert 55 9 (.slice (some ⟨g, 0, none⟩) 2 2)).run Try.prog (u.alloc (.cells #[.int .u8 (a : Int), .int .u8 (b : Int)] 5)) = .ok (.string ⟨#[UInt8.ofNat a, UInt8.ofNat b]⟩) (u.alloc (.cells #[.int .u8 (a : Int), .int .u8 (b : Int)] 5)) := by
  subst hg
  refine row_text _ u.heap.size 2 [UInt8.ofNat a, UInt8.ofNat b] (fun j v hv => ?_) 2 rfl
  rw [two_bytes a b ha hb] at hv
  exact cell_at (L := [.int .u8 (a : Int), .int .u8 (b : Int)]) (t := 5) (fr := (0, 0)) (heap_alloc_last u _) j v hv
theorem run_make35 (u : World) : (Instr.makeSlice 34 (.int .i64 35) (.int .i64 35)).run Try.prog u = .ok (.slice (some ⟨u.heap.size, 0, none⟩) 35 35) (u.alloc (.cells (madeCells #[.string ⟨#[]⟩] 35) 9)) := by
  obtain ⟨i0, hi0, hz0, hz1, hz2⟩ := info_parts Try.info9
  have h := run_make (P := Try.prog) u 34 9 i0 (.string ⟨#[]⟩) Try.underlying34 hi0 hz0 .i64 .i64 35 35 (by omega) (by omega) (by rw [hz2]; omega) (by omega)
  rw [hz1] at h
  exact h

set_option maxRecDepth 100000 in
set_option maxHeartbeats 1600000 in
theorem begins_le (seed : ByteArray) (hs : seed.size ≤ 1000000) (leaf : Nat) (hl : leaf < 256) (w : World) :
    Calls Try.prog 39 #[.string seed, .int .i64 (leaf : Int)] w fun e w' => e = .returned (.slice (some ⟨w.heap.size, 0, none⟩) 35 35) ∧ StrsIn w' (some ⟨w.heap.size, 0, none⟩) (begL seed leaf) ∧ Below w.heap.size w w' := by
  obtain ⟨L, eL⟩ : ∃ L, L = begL seed leaf := ⟨_, rfl⟩
  rw [← eL]
  have HL : Hid (L.length = 35 ∧ ∀ j, j < 35 → L[j]? = some (begS seed leaf j)) := hid ⟨by rw [eL, begL_len], fun j hj => by rw [eL, begL_get _ _ _ hj]⟩
  have HMk := hid run_make35
  have HS := hid (And.intro hs hl)
  have hl0 : (0 : Int) ≤ (leaf : Int) := Int.natCast_nonneg _
  have hl1 : (leaf : Int) < 256 := by omega
  clear eL hs hl
  go_enter Try.func39, Try.ntmps39
  go_wp2_with rw [HMk.out]
  go_loopw [10] (fun i wr => ∃ j : Nat, j ≤ 35 ∧ i = .int .i64 (j : Int) ∧ wr.heap[w.heap.size]? = some (.cells (sC (upTo L 35 j)).toArray 9 (0, 0)) ∧ Below w.heap.size w wr)
    (fun i _ => (35 - intOf i).toNat)
  case atStart => exact ⟨0, by omega, rfl, by rw [← made_strs L 35]; exact heap_alloc_last w _, (Below.refl _ _).alloc (Nat.le_refl _) _⟩
  case round =>
    obtain ⟨j, hj, rfl, hblk, hbel⟩ := hrel
    have HR := hid (And.intro hblk hbel)
    clear hblk hbel
    by_cases hjn : j = 35
    · have hj1 : ¬ ((j : Int) < 35) := by omega
      have HJ := hid hjn
      clear hj hjn
      go_wp2
      go_ret
      refine ⟨rfl, ?_, HR.out.2⟩
      have hB := HR.out.1
      rw [HJ.out, upTo_all L 35 HL.out.1] at hB
      exact .inr ⟨w.heap.size, 0, rfl, lt_of_blk hB, fun i s hi => by rw [Nat.zero_add]; exact cell_at hB i _ (sC_get L i s hi)⟩
    · have hj1 : (j : Int) < 35 := by omega
      have hj0 : (0 : Int) ≤ (j : Int) := Int.natCast_nonneg _
      obtain ⟨c, ec⟩ : ∃ c : ByteArray, c = ⟨#[UInt8.ofNat leaf, UInt8.ofNat j]⟩ := ⟨_, rfl⟩
      obtain ⟨T, eT⟩ : ∃ T : ByteArray, T = ⟨(shaB (seed.data.toList ++ c.data.toList)).toArray⟩ := ⟨_, rfl⟩
      have HC : Hid (∀ (u : World), (convert 55 9 (.slice (some ⟨u.heap.size, 0, none⟩) 2 2)).run Try.prog (u.alloc (.cells #[.int .u8 (leaf : Int), .int .u8 (j : Int)] 5)) = .ok (.string c) (u.alloc (.cells #[.int .u8 (leaf : Int), .int .u8 (j : Int)] 5))) :=
        hid (fun u => by rw [ec]; exact two_text leaf j HS.out.2 (by omega) u _ rfl)
      have HT : Hid (T.extract 0 16 = begS seed leaf j) := hid (by rw [eT, ext_take, ec]; rfl)
      have hT : (16 : Int) ≤ (T.size : Int) := by rw [eT, mk_size, shaB_len]; decide
      have HM : Hid (∀ (u : World) (g : Nat), g = u.heap.size → Calls Try.prog 41 #[.slice (some ⟨g, 0, none⟩) 2 2] (u.alloc (.cells #[.string seed, .string c] 9)) fun e w' => e = .returned (.string T) ∧ Below u.heap.size u w') :=
        hid (fun u g hg => by rw [eT]; exact sum_two seed c (by have := HS.out.1; omega) (by rw [ec]; exact show (2 : Nat) ≤ 2000000 by decide) u g hg)
      have HJ := hid (And.intro hj hjn)
      clear ec eT hj hjn
      go_wp2_with (first
        | rw [HC.out]
        | (go_at_call 41; refine (HM.out _ _ (by simp)).mono ?_; rintro e w4 ⟨rfl, hb4⟩
           have hb5 : Below wr.heap.size wr w4 := ((Below.refl _ _).alloc (Nat.le_refl _) _).trans (hb4.mono (by simp))
           have H4 := hid (And.intro ((hb5.block _ (lt_of_blk HR.out.1)).trans HR.out.1) (HR.out.2.trans (hb5.mono HR.out.2.size)))
           clear hb4 hb5
           have c5 : ∃ v, w4.cell? ⟨w.heap.size, j, none⟩ = some v := ⟨_, cell_at H4.out.1 j _ (sC_get _ j _ (List.getElem?_eq_getElem (by rw [upTo_len L 35 j HL.out.1 HJ.out.1]; have := HJ.out; omega)))⟩
           obtain ⟨v5, c5⟩ := c5
           have f5 : w4.frozen? ⟨w.heap.size, j, none⟩ = false := free_at H4.out.1 j))
      go_roundw
      case rel =>
        refine ⟨j + 1, by have := HJ.out; omega, by go_num, ?_, ?_⟩
        · refine (blk_set H4.out.1 _ _).trans ?_
          rw [sC_set _ _ _ (begS seed leaf j) (by rw [← HT.out]), upTo_set L 35 j (begS seed leaf j) HL.out.1 (by have := HJ.out; omega) (HL.out.2 j (by have := HJ.out; omega))]
        · exact H4.out.2.setCell (Nat.le_refl _) _
      case measure => simp [intOf]; omega

set_option maxRecDepth 100000 in
set_option maxHeartbeats 1600000 in
theorem pieces_any (sig : ByteArray) (hs : sig.size = 560) (w : World) :
    Calls Try.prog 50 #[.string sig] w fun e w' => e = .returned (.slice (some ⟨w.heap.size, 0, none⟩) 35 35) ∧ StrsIn w' (some ⟨w.heap.size, 0, none⟩) (pieL sig) ∧ Below w.heap.size w w' := by
  obtain ⟨L, eL⟩ : ∃ L, L = pieL sig := ⟨_, rfl⟩
  rw [← eL]
  have HL : Hid (L.length = 35 ∧ ∀ j, j < 35 → L[j]? = some (pieceS sig j)) := hid ⟨by rw [eL, pieL_len], fun j hj => by rw [eL, pieL_get _ _ hj]⟩
  have HMk := hid run_make35
  have hs1 : (560 : Int) ≤ (sig.size : Int) := by omega
  clear eL hs
  go_enter Try.func50, Try.ntmps50
  go_wp2_with rw [HMk.out]
  go_loopw [8] (fun i wr => ∃ j : Nat, j ≤ 35 ∧ i = .int .i64 (j : Int) ∧ wr.heap[w.heap.size]? = some (.cells (sC (upTo L 35 j)).toArray 9 (0, 0)) ∧ Below w.heap.size w wr)
    (fun i _ => (35 - intOf i).toNat)
  case atStart => exact ⟨0, by omega, rfl, by rw [← made_strs L 35]; exact heap_alloc_last w _, (Below.refl _ _).alloc (Nat.le_refl _) _⟩
  case round =>
    obtain ⟨j, hj, rfl, hblk, hbel⟩ := hrel
    have HR := hid (And.intro hblk hbel)
    clear hblk hbel
    by_cases hjn : j = 35
    · have hj1 : ¬ ((j : Int) < 35) := by omega
      have HJ := hid hjn
      clear hj hjn
      go_wp2
      go_ret
      refine ⟨rfl, ?_, HR.out.2⟩
      have hB := HR.out.1
      rw [HJ.out, upTo_all L 35 HL.out.1] at hB
      exact .inr ⟨w.heap.size, 0, rfl, lt_of_blk hB, fun i s hi => by rw [Nat.zero_add]; exact cell_at hB i _ (sC_get L i s hi)⟩
    · have hj1 : (j : Int) < 35 := by omega
      have hj0 : (0 : Int) ≤ (j : Int) := Int.natCast_nonneg _
      have hj2 : ((j : Int) + 1) * 16 ≤ (sig.size : Int) := by omega
      have hj3 : (j : Int) * 16 ≤ ((j : Int) + 1) * 16 := by omega
      have c5 : ∃ v, wr.cell? ⟨w.heap.size, j, none⟩ = some v := ⟨_, cell_at HR.out.1 j _ (sC_get _ j _ (List.getElem?_eq_getElem (by rw [upTo_len L 35 j HL.out.1 hj]; omega)))⟩
      obtain ⟨v5, c5⟩ := c5
      have f5 : wr.frozen? ⟨w.heap.size, j, none⟩ = false := free_at HR.out.1 j
      have HJ := hid (And.intro hj hjn)
      clear hj hjn
      go_wp2
      go_roundw
      case rel =>
        refine ⟨j + 1, by have := HJ.out; omega, by go_num, ?_, ?_⟩
        · refine (blk_set HR.out.1 _ _).trans ?_
          rw [sC_set _ _ _ (pieceS sig j) (by rw [pieceS]; congr 2 <;> omega), upTo_set L 35 j (pieceS sig j) HL.out.1 (by have := HJ.out; omega) (HL.out.2 j (by have := HJ.out; omega))]
        · exact HR.out.2.setCell (Nat.le_refl _) _
      case measure => simp [intOf]; omega
end Go.Proofs.Ytebhkifjommpjaa
