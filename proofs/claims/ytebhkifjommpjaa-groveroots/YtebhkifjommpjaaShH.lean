/- The padding. -/
import Derived.Test.YtebhkifjommpjaaShG
namespace Go.Proofs.Ytebhkifjommpjaa
open Go.RowKit

def zB (k : Nat) : Array Value := (bC (List.replicate k 0)).toArray
theorem zB_made (n : Nat) : madeCells #[Value.int .u8 0] n = zB n := by
  apply Array.ext'
  simp [madeCells, zB, bC]
  apply List.ext_getElem?
  intro i
  by_cases h : i < n
  · simp [h, Nat.mod_one]
  · simp [h]
theorem zB_size (k : Nat) : (zB k).size = k := by simp [zB, bC]
theorem zB_get (k : Nat) (h : 0 < k) : (zB k)[0]? = some (.int .u8 0) := by
  cases k with
  | zero => omega
  | succ k => simp [zB, bC, List.replicate_succ]
theorem take_pad (z : Nat) : (((zB (z + 9)).setIfInBounds 0 (.int .u8 128)).toList.take ((z + 1) * 1)) = bC (128 :: List.replicate z 0) := by
  have : List.replicate (z + 9) (0 : UInt8) = 0 :: List.replicate (z + 8) 0 := List.replicate_succ
  unfold zB
  rw [this]
  simp [bC, List.take_replicate]

theorem pad_byte (n k : Nat) : (8 * (n : Int)) / 2 ^ (8 * k) % 256 = ((UInt8.ofNat (8 * n / 256 ^ k)).toNat : Int) := by
  rw [← byte_of, show (256 : Nat) ^ k = 2 ^ (8 * k) by rw [Nat.pow_mul]]
  simp

set_option maxRecDepth 100000 in
set_option maxHeartbeats 1600000 in
theorem padding_any (n : Nat) (hn : n < 1152921504606846976) (w : World) :
    Calls Try.prog 60 #[.int .u64 (n : Int)] w fun e w' => e = .returned (.string ⟨(padB n).toArray⟩) ∧ Below w.heap.size w w' := by
  obtain ⟨i0, hi0, hz0, hz1, hz2⟩ := info_parts Try.info5
  obtain ⟨z, ez⟩ : ∃ z, z = zerosN n := ⟨_, rfl⟩
  have hz64 : z < 64 := by rw [ez]; unfold zerosN; omega
  have hmk : ∀ u : World, (Instr.makeSlice 55 (.int .u64 (1 + -(((n : Int) + 9) % 64) % 64)) (.int .u64 (9 + -(((n : Int) + 9) % 64) % 64))).run Try.prog u = .ok (.slice (some ⟨u.heap.size, 0, none⟩) (z + 1) (z + 9)) (u.alloc (.cells (zB (z + 9)) 5)) := fun u => by
    have e1 : 1 + -(((n : Int) + 9) % 64) % 64 = ((z + 1 : Nat) : Int) := by rw [ez]; unfold zerosN; omega
    have e2 : 9 + -(((n : Int) + 9) % 64) % 64 = ((z + 9 : Nat) : Int) := by rw [ez]; unfold zerosN; omega
    rw [e1, e2]
    have h := run_make (P := Try.prog) u 55 5 i0 (.int .u8 0) Try.underlying55 hi0 hz0 .u64 .u64 ((z + 1 : Nat) : Int) ((z + 9 : Nat) : Int) (by omega) (by omega) (by rw [hz2]; omega) (by omega)
    rw [hz1] at h
    simp only [Int.toNat_natCast, Nat.mul_one] at h
    rw [h]
    simp [Value.cells, zB_made]
  have HM := hid hmk
  have HN := hid hn
  have HZ := hid (And.intro ez hz64)
  have hn0 : (0 : Int) ≤ (n : Int) := Int.natCast_nonneg _
  have hn1 : (n : Int) + 9 < 18446744073709551616 := by omega
  have hn2 : 8 * (n : Int) < 18446744073709551616 := by omega
  have hl0 : (0 : Int) < ((z + 1 : Nat) : Int) := by omega
  have c0 : ∀ u : World, (u.alloc (.cells (zB (z + 9)) 5)).cell? ⟨u.heap.size, 0, none⟩ = some (.int .u8 0) := fun u => by
    have := heap_alloc_last u (.cells (zB (z + 9)) 5)
    simp only [World.cell?, this]
    exact zB_get _ (by omega)
  clear hn ez hz64 hmk
  go_enter Try.func60, Try.ntmps60
  go_wp2_with rw [HM.out]
  clear hl0 c0
  go_loopw [5, 6] (fun v i wr => ∃ (k : Nat) (l : List UInt8), k ≤ 8 ∧ i = .int .i64 ((k : Int) - 1) ∧ l.length + k = z + 9 ∧ l ++ be k (8 * n) = padB n ∧ Owned w.heap.size w wr v l)
    (fun _ i _ => (intOf i + 1).toNat)
  case atStart =>
    refine ⟨8, 128 :: List.replicate z 0, by omega, rfl, by simp, by rw [HZ.out.1]; rfl, ⟨by rw [bC_len, Nat.mul_one], .inr ⟨w.heap.size, z + 9, _, ?_, Nat.le_refl _, heap_alloc_last w _, ?_, ?_, ?_, ?_⟩⟩, (Below.refl _ _).alloc (Nat.le_refl _) _, by simp⟩
    · simp
    · simp
    · have := HZ.out.2; unfold maxLen; omega
    · rw [Array.size_setIfInBounds, zB_size, Nat.mul_one]
    · rw [List.length_cons, List.length_replicate]; exact take_pad z
  case round =>
    obtain ⟨k, l, hk, rfl, hlen, hl, hO⟩ := hrel
    have HO := hid (And.intro hO (And.intro hlen hl))
    clear hO hlen hl
    cases k with
    | zero =>
      have hc := HO.out.1.text
      have et : l = padB n := by have := HO.out.2.2; simpa [be] using this
      rw [et] at hc
      have HC := hid hc
      clear hc et hk
      go_wp2_with rw [HC.out]
      go_ret
      exact ⟨rfl, HO.out.1.bel⟩
    | succ j =>
      have ej : (((j + 1 : Nat) : Int) - 1) = (j : Int) := by omega
      rw [ej]
      clear ej
      have hj0 : (0 : Int) ≤ (j : Int) := Int.natCast_nonneg _
      have hj7 : (j : Int) ≤ 7 := by omega
      have hj8 : (0 : Int) ≤ 8 * (j : Int) := by omega
      have HB := hid (pad_byte n j)
      obtain ⟨c, ec⟩ : ∃ c, c = UInt8.ofNat (8 * n / 256 ^ j) := ⟨_, rfl⟩
      rw [← ec] at HB
      have HE := hid ec
      clear ec
      go_wp2_with (first
        | (at_builtin; refine wpList_append_own_at _ rfl _ _ 55 rfl w.heap.size 5 i0 (.int .u8 0) 1 1 Try.underlying55 hi0 hz0 hz1 hz2 rfl (by decide) _ _ _ rfl (HO.out.1.alloc _).own ⟨_, 0, none⟩ 1 1 (bC [c]) rfl rfl (by rw [HB.out]; exact World.news_of_block (t := 5) (fr := (0, 0)) (heap_alloc_last _ _)) (bC_one _) (by have := HO.out.2.1; have := HZ.out.2; unfold maxLen; omega) (by have := HO.out.2.1; have := HZ.out.2; omega) (HO.out.1.alloc _).le ?_
           intro v3 w3 hown3 hgrow3 i3 i4
           have HO3 := hid ((HO.out.1.alloc _).grow (xs := [c]) rfl hown3 hgrow3)
           clear hown3 hgrow3 i3 i4))
      go_roundw
      case rel =>
        refine ⟨j, l ++ [c], by omega, rfl, ?_, ?_, HO3.out⟩
        · have := HO.out.2.1
          rw [List.length_append, List.length_singleton]
          omega
        · have := HO.out.2.2
          rw [be, ← HE.out] at this
          rw [List.append_assoc]
          exact this
      case measure => simp [intOf]
end Go.Proofs.Ytebhkifjommpjaa
