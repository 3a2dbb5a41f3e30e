/- The MAC; nodes, keys of pairs, tags. -/
import Derived.Test.YtnlmjclloaholaaMaC
namespace Go.Proofs.Ytnlmjclloaholaa
open Go.RowKit

theorem joinB_two (s t : ByteArray) : joinB [s, t] = s.data.toList ++ t.data.toList := by simp [joinB]
theorem mk_data (l : List UInt8) : (⟨l.toArray⟩ : ByteArray).data.toList = l := rfl
theorem sum_two (s t : ByteArray) (hs : s.size ≤ 2000000) (ht : t.size ≤ 2000000) (u : World) (g : Nat) (hg : g = u.heap.size) :
    Calls Try.prog 22 #[.slice (some ⟨g, 0, none⟩) 2 2] (u.alloc (.cells #[.string s, .string t] 9)) fun e w' => e = .returned (.string ⟨(shaB (s.data.toList ++ t.data.toList)).toArray⟩) ∧ Below u.heap.size u w' := by
  subst hg
  have := ssum_new [s, t] #[.string s, .string t] 2 2 u rfl rfl (by rw [joinB_two, List.length_append, data_len, data_len]; omega) (by decide)
  rwa [joinB_two] at this

set_option maxRecDepth 100000 in
set_option maxHeartbeats 1600000 in
theorem mac_any (s t : ByteArray) (hs : s.size ≤ 1000000) (ht : t.size ≤ 1000000) (w : World) :
    Calls Try.prog 11 #[.string s, .string t] w fun e w' => e = .returned (.string ⟨(macB s.data.toList t.data.toList).toArray⟩) ∧ Below w.heap.size w w' := by
  obtain ⟨L, eL⟩ : ∃ L, L = fillB (keyB s.data.toList) := ⟨_, rfl⟩
  have hL : L.length = 64 := by rw [eL, fillB_len _ (keyB_le _)]
  obtain ⟨A, eA⟩ : ∃ A : ByteArray, A = ⟨(maskB 54 L).toArray⟩ := ⟨_, rfl⟩
  obtain ⟨B, eB⟩ : ∃ B : ByteArray, B = ⟨(maskB 92 L).toArray⟩ := ⟨_, rfl⟩
  obtain ⟨T, eT⟩ : ∃ T : ByteArray, T = ⟨(shaB (A.data.toList ++ t.data.toList)).toArray⟩ := ⟨_, rfl⟩
  obtain ⟨U, eU⟩ : ∃ U : ByteArray, U = ⟨(shaB (B.data.toList ++ T.data.toList)).toArray⟩ := ⟨_, rfl⟩
  have hU : U = ⟨(macB s.data.toList t.data.toList).toArray⟩ := by
    rw [eU, eT, eA, eB, mk_data, mk_data, mk_data, eL, macB]
  have hA : A.size = 64 := by rw [← data_len, eA, mk_data, maskB_len, hL]
  have hB : B.size = 64 := by rw [← data_len, eB, mk_data, maskB_len, hL]
  have hT : T.size = 32 := by rw [← data_len, eT, mk_data, shaB_len]
  have HK : Hid (∀ u : World, Calls Try.prog 21 #[.string s] u fun e w' => e = .returned (.agg (bC L).toArray) ∧ Below u.heap.size u w') := hid (fun u => by rw [eL]; exact keyBlock_any s hs u)
  have HM : Hid (∀ u : World, Calls Try.prog 23 #[.agg (bC L).toArray, .int .u8 54] u fun e w' => e = .returned (.string A) ∧ Below u.heap.size u w') := hid (fun u => by rw [eA]; exact masked_any L hL 54 54 (by decide) u)
  have HN : Hid (∀ u : World, Calls Try.prog 23 #[.agg (bC L).toArray, .int .u8 92] u fun e w' => e = .returned (.string B) ∧ Below u.heap.size u w') := hid (fun u => by rw [eB]; exact masked_any L hL 92 92 (by decide) u)
  have HS : Hid (∀ (u : World) (g : Nat), g = u.heap.size → Calls Try.prog 22 #[.slice (some ⟨g, 0, none⟩) 2 2] (u.alloc (.cells #[.string A, .string t] 9)) fun e w' => e = .returned (.string T) ∧ Below u.heap.size u w') := hid (by
    rw [eT]; exact sum_two A t (by omega) (by omega))
  have HV : Hid (∀ (u : World) (g : Nat), g = u.heap.size → Calls Try.prog 22 #[.slice (some ⟨g, 0, none⟩) 2 2] (u.alloc (.cells #[.string B, .string T] 9)) fun e w' => e = .returned (.string U) ∧ Below u.heap.size u w') := hid (by
    rw [eU]; exact sum_two B T (by omega) (by omega))
  have HL := hid (show (bC L).length = 64 by rw [bC_len, hL])
  rw [← hU]
  clear eL hL eA eB eT eU hU hA hB hT hs ht
  go_enter Try.func11, Try.ntmps11
  go_wp2_with (first
    | (go_at_call 21; refine (HK.out _).mono ?_; rintro e w1 ⟨rfl, hb1⟩; have H1 := hid hb1; clear hb1)
    | refine wl_alloc_row rfl 43 rfl _ _ Try.infz43 ?_
    | (refine wl_store_row rfl 43 _ _ rfl w1.heap.size 0 rfl 43 (bC z64B) (bC L) rfl (heap_alloc_last w1 _) 64 HL.out Try.size43 (by rw [z64C_len]; decide) (bC_one _) ?_
       intro w2 h2 e2
       have H2 : Hid (w2.heap[w1.heap.size]? = some (.cells (bC L).toArray 43 (0, 0)) ∧ Below w.heap.size w w2) := hid (by
         refine ⟨by rw [h2.out, splice_all _ _ (by rw [HL.out, z64C_len])], ?_⟩
         rw [e2.out]
         exact Below.setRow (H1.out.alloc H1.out.size _) H1.out.size _)
       clear h2 e2)
    | refine wl_load_row rfl 43 _ rfl w1.heap.size 0 rfl (bC L) _ Try.underlying43 rfl 64 HL.out Try.size43 (heap_cells (t := 43) (fr := (0, 0)) H4.out.1) ?_
    | refine wl_load_row rfl 43 _ rfl w1.heap.size 0 rfl (bC L) _ Try.underlying43 rfl 64 HL.out Try.size43 (heap_cells (t := 43) (fr := (0, 0)) H2.out.1) ?_
    | (go_at_call 23; have := H4; refine (HN.out _).mono ?_; rintro e w5 ⟨rfl, hb5⟩; have H5 := hid hb5; clear hb5)
    | (go_at_call 23; refine (HM.out _).mono ?_; rintro e w3 ⟨rfl, hb3⟩; have H3 := hid hb3; clear hb3)
    | (go_at_call 22; have := H5; refine (HV.out _ _ (by simp)).mono ?_; rintro e w6 ⟨rfl, hb6⟩; have H6 := hid hb6; clear hb6)
    | (go_at_call 22; refine (HS.out _ _ (by simp)).mono ?_; rintro e w4 ⟨rfl, hb4⟩
       have H4 : Hid (w4.heap[w1.heap.size]? = some (.cells (bC L).toArray 43 (0, 0)) ∧ Below w.heap.size w w4) := hid (by
         have hb : Below w2.heap.size w2 w4 := H3.out.trans (hb4.mono H3.out.size)
         exact ⟨(hb.block _ (lt_of_blk H2.out.1)).trans H2.out.1, H2.out.2.trans (hb.mono H2.out.2.size)⟩)
       clear hb4))
  go_ret
  have hb : Below w4.heap.size w4 w6 := H5.out.trans (H6.out.mono H5.out.size)
  exact ⟨rfl, H4.out.2.trans (hb.mono H4.out.2.size)⟩
end Go.Proofs.Ytnlmjclloaholaa
