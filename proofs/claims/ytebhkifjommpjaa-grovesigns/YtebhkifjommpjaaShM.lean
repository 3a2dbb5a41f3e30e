/- The document's padding. -/
import Derived.Test.YtebhkifjommpjaaShK
namespace Go.Proofs.Ytebhkifjommpjaa
open Go.RowKit

def lenOf : Value → Nat
  | .slice _ n _ => n
  | _ => 0

set_option maxRecDepth 100000 in
set_option maxHeartbeats 1600000 in
theorem qpad_any (n : Nat) (hn : n ≤ 1099511627776) (w : World) :
    Calls Try.prog 54 #[.int .i64 (n : Int)] w fun e w' => ∃ v, e = .returned v ∧ Owned w.heap.size w w' v (padB n) := by
  obtain ⟨i0, hi0, hz0, hz1, hz2⟩ := info_parts Try.info5
  obtain ⟨z, ez⟩ : ∃ z, z = zerosN n := ⟨_, rfl⟩
  have hz64 : z < 64 := by rw [ez]; exact zerosN_lt n
  have HZ := hid (And.intro ez (And.intro hz64 hn))
  have hn0 : (0 : Int) ≤ (n : Int) := Int.natCast_nonneg _
  have hn1 : (n : Int) ≤ 1099511627776 := by omega
  clear ez hz64 hn
  go_enter Try.func54, Try.ntmps54
  go_wp2
  go_loopw [3] (fun v wr => ∃ k : Nat, k ≤ z ∧ Owned w.heap.size w wr v (128 :: List.replicate k 0))
    (fun v _ => 66 - lenOf v)
  case atStart =>
    refine ⟨0, by omega, ⟨rfl, .inr ⟨w.heap.size, 1, _, rfl, Nat.le_refl _, heap_alloc_last w _, by simp, by decide, rfl, rfl⟩⟩, (Below.refl _ _).alloc (Nat.le_refl _) _, by simp⟩
  case round =>
    obtain ⟨k, hk, hO⟩ := hrel
    obtain ⟨av, cv, hv⟩ := hO.form
    rw [List.length_cons, List.length_replicate] at hv
    subst hv
    have HO := hid hO
    clear hO
    by_cases hkz : k = z
    · have hm : ((n : Int) + ((k + 1 : Nat) : Int) + 8) % 64 = 0 := by
        rw [hkz, HZ.out.1]
        unfold zerosN
        omega
      have hkn : (k : Int) ≤ 64 := by have := HZ.out.2.1; omega
      have HK := hid hkz
      clear hkz hk
      go_wp2
      have hb : (((n : Int) + ((k : Int) + 1) + 8) % 64 != 0) = false := by
        simp only [bne_eq_false_iff_eq]
        omega
      rw [hb]
      clear hb hm hkn
      have hO2 : Owned w.heap.size w wr (.slice av (k + 1) cv) (128 :: List.replicate z 0) := by rw [← HK.out]; exact HO.out
      have HO2 := hid hO2
      clear hO2 HO
      have hn2 : 8 * (n : Int) ≤ 8796093022208 := by omega
      go_loopw [3, 4] (fun v i wr => ∃ (q : Nat) (l : List UInt8), q ≤ 8 ∧ i = .int .i64 ((q : Int) - 1) ∧ l.length + q = z + 9 ∧ l ++ be q (8 * n) = padB n ∧ Owned w.heap.size w wr v l)
        (fun _ i _ => (intOf i + 1).toNat)
      case atStart => exact ⟨8, 128 :: List.replicate z 0, by omega, rfl, by simp, by rw [HZ.out.1]; rfl, HO2.out⟩
      case round =>
        clear HO2
        obtain ⟨q, l, hq, rfl, hlen, hl, hO⟩ := hrel
        have HO := hid (And.intro hO (And.intro hlen hl))
        clear hO hlen hl
        cases q with
        | zero =>
          have et : l = padB n := by have := HO.out.2.2; simpa [be] using this
          have HT := hid et
          clear et hq
          go_wp2
          go_ret
          exact ⟨_, rfl, by rw [← HT.out]; exact HO.out.1⟩
        | succ j =>
          have ej : (((j + 1 : Nat) : Int) - 1) = (j : Int) := by omega
          rw [ej]
          clear ej
          have hj0 : (0 : Int) ≤ (j : Int) := Int.natCast_nonneg _
          have hj7 : (j : Int) ≤ 7 := by omega
          have hj8 : (0 : Int) ≤ 8 * (j : Int) := by omega
          have HB := hid (pad_byte n j)
          obtain ⟨c, ec⟩ : ∃ c, c = UInt8.ofNat (8 * n / 256 ^ j) := ⟨_, rfl⟩
          rw [← ec] at HB
          have HE := hid ec
          clear ec
          go_wp2_with (first
            | (at_builtin; refine wpList_append_own_at _ rfl _ _ 55 rfl w.heap.size 5 i0 (.int .u8 0) 1 1 Try.underlying55 hi0 hz0 hz1 hz2 rfl (by decide) _ _ _ rfl (HO.out.1.alloc _).own ⟨_, 0, none⟩ 1 1 (bC [c]) rfl rfl (by rw [HB.out]; exact World.news_of_block (t := 5) (fr := (0, 0)) (heap_alloc_last _ _)) (bC_one _) (by have := HO.out.2.1; have := HZ.out.2.1; unfold maxLen; omega) (by have := HO.out.2.1; have := HZ.out.2.1; omega) (HO.out.1.alloc _).le ?_
               intro v3 w3 hown3 hgrow3 i3 i4
               have HO3 := hid ((HO.out.1.alloc _).grow (xs := [c]) rfl hown3 hgrow3)
               clear hown3 hgrow3 i3 i4))
          go_roundw
          case rel =>
            refine ⟨j, l ++ [c], by omega, rfl, ?_, ?_, HO3.out⟩
            · have := HO.out.2.1
              rw [List.length_append, List.length_singleton]
              omega
            · have := HO.out.2.2
              rw [be, ← HE.out] at this
              rw [List.append_assoc]
              exact this
          case measure => simp [intOf]
    · have hm : ¬ (((n : Int) + ((k + 1 : Nat) : Int) + 8) % 64 = 0) := by
        have := HZ.out.1
        have := HZ.out.2.1
        unfold zerosN at *
        omega
      have hkn : (k : Int) ≤ 64 := by have := HZ.out.2.1; omega
      have HK := hid (And.intro hkz hk)
      clear hkz hk
      go_wp2_with (first
        | (at_builtin; refine wpList_append_own_at _ rfl _ _ 55 rfl w.heap.size 5 i0 (.int .u8 0) 1 1 Try.underlying55 hi0 hz0 hz1 hz2 rfl (by decide) _ _ _ rfl (HO.out.alloc _).own ⟨_, 0, none⟩ 1 1 (bC [0]) rfl rfl (World.news_of_block (t := 5) (fr := (0, 0)) (heap_alloc_last _ _)) (bC_one _) (by have := HK.out.2; have := HZ.out.2.1; simp only [List.length_cons, List.length_replicate]; unfold maxLen; omega) (by have := HK.out.2; have := HZ.out.2.1; simp only [List.length_cons, List.length_replicate]; omega) (HO.out.alloc _).le ?_
           intro v3 w3 hown3 hgrow3 i3 i4
           have HO3 := hid ((HO.out.alloc _).grow (xs := [0]) rfl hown3 hgrow3)
           clear hown3 hgrow3 i3 i4))
      go_roundw
      case rel => exact ⟨k + 1, by have := HK.out; omega, by rw [List.replicate_succ']; exact HO3.out⟩
      case measure =>
        obtain ⟨a3, c3, h3⟩ := HO3.out.form
        simp only [List.length_append, List.length_cons, List.length_replicate, List.length_nil] at h3
        have := HK.out
        have := HZ.out.2.1
        rw [h3]
        simp only [lenOf]
        omega
end Go.Proofs.Ytebhkifjommpjaa
