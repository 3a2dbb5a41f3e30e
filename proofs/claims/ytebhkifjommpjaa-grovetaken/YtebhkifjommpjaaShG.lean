/- Bytes that a call gathers; a state as text; the padding. -/
import Derived.Test.YtebhkifjommpjaaShF
import Derived.Laws.MakeOwn
import Derived.Laws.IdiomStrings
import Derived.Maps.AppendAt
import Derived.Deep.AppendLies
namespace Go.Proofs.Ytebhkifjommpjaa
open Go.RowKit

theorem byte_of (n : Nat) : (n : Int) % 256 = ((UInt8.ofNat n).toNat : Int) := by simp
theorem u_bytes (x : BitVec 32) : [Value.int .u8 (u x / 16777216 % 256), .int .u8 (u x / 65536 % 256), .int .u8 (u x / 256 % 256), .int .u8 (u x % 256)] = bC (wBytes x) := by
  have e : ∀ k : Nat, u x / (k : Int) % 256 = ((UInt8.ofNat (x.toNat / k)).toNat : Int) := fun k => by rw [← byte_of]; rfl
  have e0 : u x % 256 = ((UInt8.ofNat x.toNat).toNat : Int) := by rw [← byte_of]; rfl
  have e1 := e 16777216
  have e2 := e 65536
  have e3 := e 256
  simp only [wBytes, bC, List.map_cons, List.map_nil]
  rw [← e1, ← e2, ← e3, ← e0]
  rfl

theorem flat_snoc (l : List (BitVec 32)) (j : Nat) (h : j < l.length) : (l.take (j + 1)).flatMap wBytes = (l.take j).flatMap wBytes ++ wBytes (l.getD j 0) := by
  rw [List.take_add_one, List.flatMap_append]
  simp [h, List.getD]
theorem flat_len (l : List (BitVec 32)) : (l.flatMap wBytes).length = 4 * l.length := by
  induction l with
  | nil => rfl
  | cons a l ih => simp [wBytes] at ih ⊢; omega

set_option maxRecDepth 100000 in
set_option maxHeartbeats 1600000 in
theorem stext_any (S : St) (w : World) :
    Calls Try.prog 61 #[.agg (uC S.list).toArray] w fun e w' => e = .returned (.string ⟨S.text.toArray⟩) ∧ Below w.heap.size w w' := by
  obtain ⟨i0, hi0, hz0, hz1, hz2⟩ := info_parts Try.info5
  have hmk : ∀ u : World, (Instr.makeSlice 55 (.int .i64 0) (.int .i64 32)).run Try.prog u = .ok (.slice (some ⟨u.heap.size, 0, none⟩) 0 32) (u.alloc (.cells (madeCells #[.int .u8 0] 32) 5)) := fun u => by
    have h := run_make (P := Try.prog) u 55 5 i0 (.int .u8 0) Try.underlying55 hi0 hz0 .i64 .i64 0 32 (by omega) (by omega) (by rw [hz2]; omega) (by omega)
    rw [hz1] at h
    exact h
  obtain ⟨SL, hSL⟩ : ∃ l, l = S.list := ⟨_, rfl⟩
  rw [← hSL]
  have HSL := hid hSL
  have HE := hid (list_len S)
  rw [← hSL] at HE
  have HM := hid hmk
  clear hSL hmk
  go_enter Try.func61, Try.ntmps61
  go_wp2_with (first
    | refine wl_box_row rfl 81 _ rfl _ rfl ?_
    | refine wl_load_row rfl 81 _ rfl w.heap.size 0 rfl (uC SL) _ Try.underlying81 rfl 8 (by rw [uC_len]; exact HE.out) Try.size81 (heap_cells (t := 81) (fr := (0, 0)) ((Below.heap_alloc _ _ _ (by simp)).trans (heap_alloc_last w _))) ?_
    | rw [HM.out])
  go_loopw [3, 8] (fun v i wr => ∃ j : Nat, j ≤ 8 ∧ i = .int .i64 (j : Int) ∧ Owned w.heap.size w wr v ((SL.take j).flatMap wBytes))
    (fun _ i _ => (8 - intOf i).toNat)
  case atStart =>
    refine ⟨0, by omega, rfl, ?_, ((Below.refl _ _).alloc (Nat.le_refl _) _).alloc (by simp) _, by simp; omega⟩
    have := World.ownsRow_made (base := w.heap.size) (e := 5) (size := 1) (w.alloc (.cells (uC SL).toArray 81)) (madeCells #[.int .u8 0] 32) 32 (by simp) (by decide) (size_madeCells _ _)
    simpa [bC] using this
  case round =>
    obtain ⟨j, hj, rfl, hO⟩ := hrel
    have HO := hid hO
    clear hO
    by_cases hj8 : j = 8
    · have hj1 : ¬ ((j : Int) < 8) := by omega
      have hc := HO.out.text
      have et : (SL.take j).flatMap wBytes = S.text := by rw [hj8, List.take_of_length_le (by rw [HE.out]; exact Nat.le_refl _), HSL.out]; rfl
      rw [et] at hc
      have HC := hid hc
      clear hc et hj hj8
      go_wp2_with rw [HC.out]
      go_ret
      exact ⟨rfl, HO.out.bel⟩
    · have hj1 : (j : Int) < 8 := by omega
      have hj0 : (0 : Int) ≤ (j : Int) := Int.natCast_nonneg _
      obtain ⟨x, ex⟩ : ∃ x, x = SL.getD j 0 := ⟨_, rfl⟩
      have hv : (uC SL).toArray[(j : Int).toNat]? = some (.int .u32 (u x)) := by
        rw [Int.toNat_natCast, List.getElem?_toArray, ex]
        exact uC_get SL j (by rw [HE.out]; omega)
      have HV := hid hv
      have HX := hid ex
      clear hv ex
      have hlen : ((SL.take j).flatMap wBytes).length + 4 ≤ 40 := by
        rw [flat_len, List.length_take, HE.out]
        omega
      have HN := hid hlen
      clear hlen
      go_wp2_with (first
        | refine wl_index_row rfl 81 _ _ rfl _ rfl _ _ rfl 8 73 Try.underlying81 _ Try.underlying73 rfl Try.size73 hj0 hj1 _ HV.out ?_
        | (at_builtin; refine wpList_append_own_at _ rfl _ _ 55 rfl w.heap.size 5 i0 (.int .u8 0) 1 1 Try.underlying55 hi0 hz0 hz1 hz2 rfl (by decide) _ _ _ rfl (HO.out.alloc _).own ⟨_, 0, none⟩ 4 4 (bC (wBytes x)) rfl rfl (by rw [← u_bytes]; exact World.news_of_block (t := 5) (fr := (0, 0)) (heap_alloc_last _ _)) (bC_one _) (by have := HN.out; unfold maxLen; omega) (by have := HN.out; omega) (HO.out.alloc _).le ?_
           intro v3 w3 hown3 hgrow3 i3 i4
           have HO3 := hid ((HO.out.alloc _).grow (xs := wBytes x) rfl hown3 hgrow3)
           clear hown3 hgrow3 i3 i4))
      go_roundw
      case rel => exact ⟨j + 1, by omega, rfl, by rw [flat_snoc _ _ (by rw [HE.out]; omega), ← HX.out]; exact HO3.out⟩
      case measure => simp [intOf]; omega
end Go.Proofs.Ytebhkifjommpjaa
