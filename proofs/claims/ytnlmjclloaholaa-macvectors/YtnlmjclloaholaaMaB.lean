/- The MAC: a key as a block, its masks, the digests. -/
import Derived.Test.YtnlmjclloaholaaMaA
namespace Go.Proofs.Ytnlmjclloaholaa
open Go.RowKit

theorem z64C : (bC z64B).toArray = Array.replicate 64 (.int .u8 0) := by
  unfold bC z64B
  rw [List.map_replicate]
  rfl
theorem Try.infz43 : (Try.prog.info? 43).map (fun i => (i.zero, i.size)) = some (some (.agg (bC z64B).toArray), 64) := by rw [z64C]; exact Try.info43
theorem z64C_len : (bC z64B).length = 64 := by rw [bC_len, z64B_len]
theorem bytes_cells (s : ByteArray) : bC s.data.toList = s.data.toList.map fun b : UInt8 => Value.int .u8 (b.toNat : Int) := rfl
theorem take_all (s : ByteArray) (n : Nat) (h : s.size ≤ n) : s.data.toList.take n = s.data.toList := List.take_of_length_le (by rw [data_len]; exact h)

theorem snd_alloc (w : World) (A B : Obj) : ((w.alloc A).alloc B).heap[w.heap.size + 1]? = some B := by
  have := heap_alloc_last (w.alloc A) B
  simpa using this
theorem setRow_heap_ne (w : World) (g k : Nat) (c : Array Value) (h : k ≠ g) : (w.setRow g c).heap[k]? = w.heap[k]? := by
  simp [World.setRow, Array.getElem?_modify, Ne.symm h]

set_option maxRecDepth 100000 in
set_option maxHeartbeats 1600000 in
theorem keyBlock_any (s : ByteArray) (hs : s.size ≤ 1000000) (w : World) :
    Calls Try.prog 21 #[.string s] w fun e w' => e = .returned (.agg (bC (fillB (keyB s.data.toList))).toArray) ∧ Below w.heap.size w w' := by
  have HF := hid (show (bC (fillB (keyB s.data.toList))).length = 64 by rw [bC_len, fillB_len _ (keyB_le _)])
  by_cases hl : 64 < s.size
  · have hl2 : (64 : Int) < (s.size : Int) := by omega
    obtain ⟨t, et⟩ : ∃ t : ByteArray, t = ⟨(shaB s.data.toList).toArray⟩ := ⟨_, rfl⟩
    have hk : t.data.toList = keyB s.data.toList := by rw [et, keyB, if_pos (by rw [data_len]; exact hl)]
    have ht : t.size ≤ 64 := by rw [← data_len, hk]; exact keyB_le _
    have HS : Hid (∀ (u : World) (g : Nat), g = u.heap.size → Calls Try.prog 22 #[.slice (some ⟨g, 0, none⟩) 1 1] (u.alloc (.cells #[.string s] 9)) fun e w' => e = .returned (.string t) ∧ Below u.heap.size u w') := hid (fun u g hg => by
      subst hg
      have := ssum_new [s] #[.string s] 1 1 u rfl rfl (by rw [joinB_one, data_len]; omega) (by decide)
      rw [joinB_one, ← et] at this
      exact this)
    have HT := hid (And.intro hk ht)
    clear hl hs et hk ht
    go_enter Try.func21, Try.ntmps21
    go_wp2_with (first
      | refine wl_alloc_row rfl 43 rfl _ _ Try.infz43 ?_
      | (go_at_call 22; refine (HS.out _ _ (by simp)).mono ?_; rintro e w1 ⟨rfl, hb1⟩; have H1 := hid hb1; clear hb1)
      | (refine wl_copy_prefix rfl _ _ 41 9 rfl (w1.heap.size) 0 64 64 rfl t rfl 5 (bC z64B) (bC t.data.toList) 43 Try.underlying41 Try.size5 (heap_alloc_last w1 _) (by rw [take_all _ _ HT.out.2]; rfl) (by rw [bC_len, data_len, z64C_len]; have := HT.out.2; omega) ?_
         intro w2 h2 e2
         have H2 : Hid (w2.heap[w1.heap.size]? = some (.cells (bC (fillB (keyB s.data.toList))).toArray 43 (0, 0)) ∧ w2.heap[w.heap.size]? = some (.cells (bC z64B).toArray 43 (0, 0)) ∧ Below w.heap.size w w2) := hid (by
           refine ⟨by rw [h2.out, fill_copy, ← HT.out.1], ?_, ?_⟩
           · rw [e2.out]
             exact (setRow_heap_ne _ _ _ _ (by have := H1.out.size; simp at this; omega)).trans ((Below.heap_alloc _ _ _ (by have := H1.out.size; simp at this; omega)).trans ((H1.out.block w.heap.size (by simp)).trans (heap_alloc_last w _)))
           · rw [e2.out]
             exact Below.setRow ((((Below.refl _ _).alloc (Nat.le_refl _) _).trans (H1.out.mono (by simp))).alloc (by have := H1.out.size; simp at this; omega) _) (by have := H1.out.size; simp at this; omega) _)
         clear h2 e2)
      | refine wl_load_row rfl 43 _ rfl (w1.heap.size) 0 rfl (bC (fillB (keyB s.data.toList))) _ Try.underlying43 rfl 64 HF.out Try.size43 (heap_cells (t := 43) (fr := (0, 0)) H2.out.1) ?_
      | (refine wl_store_row rfl 43 _ _ rfl w.heap.size 0 rfl 43 (bC z64B) (bC (fillB (keyB s.data.toList))) rfl H2.out.2.1 64 HF.out Try.size43 (by rw [z64C_len]; decide) (bC_one _) ?_; intro w3 h3 e3))
    have hl : (loadVar 43 ⟨w.heap.size, 0, none⟩).run Try.prog w3 = .ok (.agg (bC (fillB (keyB s.data.toList))).toArray) w3 := by
      refine run_load_row (w := w3) 43 w.heap.size 0 (bC (fillB (keyB s.data.toList))) _ Try.underlying43 rfl 64 HF.out Try.size43 (heap_cells (t := 43) (fr := (0, 0)) ?_)
      have := h3.out
      rwa [splice_all _ _ (by rw [HF.out, z64C_len])] at this
    refine ret_row rfl rfl hl rfl ⟨rfl, ?_⟩
    rw [e3.out]
    exact Below.setRow H2.out.2.2 (Nat.le_refl _) _
  · have hl2 : ¬ ((64 : Int) < (s.size : Int)) := by omega
    have hk : s.data.toList = keyB s.data.toList := by rw [keyB, if_neg (by rw [data_len]; exact hl)]
    have ht : s.size ≤ 64 := by omega
    have HT := hid (And.intro hk ht)
    clear hl hs hk ht
    go_enter Try.func21, Try.ntmps21
    go_wp2_with (first
      | refine wl_alloc_row rfl 43 rfl _ _ Try.infz43 ?_
      | (refine wl_copy_prefix rfl _ _ 41 9 rfl (w.heap.size + 1) 0 64 64 rfl s rfl 5 (bC z64B) (bC s.data.toList) 43 Try.underlying41 Try.size5 (snd_alloc w _ _) (by rw [take_all _ _ HT.out.2]; rfl) (by rw [bC_len, data_len, z64C_len]; have := HT.out.2; omega) ?_
         intro w2 h2 e2
         have H2 : Hid (w2.heap[w.heap.size + 1]? = some (.cells (bC (fillB (keyB s.data.toList))).toArray 43 (0, 0)) ∧ w2.heap[w.heap.size]? = some (.cells (bC z64B).toArray 43 (0, 0)) ∧ Below w.heap.size w w2) := hid (by
           refine ⟨by rw [h2.out, fill_copy, ← HT.out.1], ?_, ?_⟩
           · rw [e2.out]
             exact (setRow_heap_ne _ _ _ _ (by omega)).trans ((Below.heap_alloc _ _ _ (by simp)).trans (heap_alloc_last w _))
           · rw [e2.out]
             exact Below.setRow (((Below.refl _ _).alloc (Nat.le_refl _) _).alloc (by simp) _) (by omega) _)
         clear h2 e2)
      | refine wl_load_row rfl 43 _ rfl (w.heap.size + 1) 0 rfl (bC (fillB (keyB s.data.toList))) _ Try.underlying43 rfl 64 HF.out Try.size43 (heap_cells (t := 43) (fr := (0, 0)) H2.out.1) ?_
      | (refine wl_store_row rfl 43 _ _ rfl w.heap.size 0 rfl 43 (bC z64B) (bC (fillB (keyB s.data.toList))) rfl H2.out.2.1 64 HF.out Try.size43 (by rw [z64C_len]; decide) (bC_one _) ?_; intro w3 h3 e3))
    have hl : (loadVar 43 ⟨w.heap.size, 0, none⟩).run Try.prog w3 = .ok (.agg (bC (fillB (keyB s.data.toList))).toArray) w3 := by
      refine run_load_row (w := w3) 43 w.heap.size 0 (bC (fillB (keyB s.data.toList))) _ Try.underlying43 rfl 64 HF.out Try.size43 (heap_cells (t := 43) (fr := (0, 0)) ?_)
      have := h3.out
      rwa [splice_all _ _ (by rw [HF.out, z64C_len])] at this
    refine ret_row rfl rfl hl rfl ⟨rfl, ?_⟩
    rw [e3.out]
    exact Below.setRow H2.out.2.2 (Nat.le_refl _) _

end Go.Proofs.Ytnlmjclloaholaa
