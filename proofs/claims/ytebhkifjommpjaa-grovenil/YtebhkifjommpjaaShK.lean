/- Sum, Pad and Part. -/
import Derived.Test.YtebhkifjommpjaaShJ
namespace Go.Proofs.Ytebhkifjommpjaa
open Go.RowKit

def z64B : List UInt8 := List.replicate 64 0
def D0 : List Value := dgC .start z64B 0 0
def DZ : List Value := dgC ⟨0, 0, 0, 0, 0, 0, 0, 0⟩ z64B 0 0
theorem z64B_len : z64B.length = 64 := by rw [z64B, List.length_replicate]
theorem D0_len : D0.length = 74 := dg_len _ _ _ _ z64B_len
theorem DZ_len : DZ.length = 74 := dg_len _ _ _ _ z64B_len
theorem Try.info86 : (Try.prog.info? 86).map (fun i => (i.zero, i.size)) = some (some (.agg DZ.toArray), 74) := by kernel_rfl
theorem Try.size86 : (Try.prog.info? 86).map (·.size) = some 74 := (zero_of_info Try.info86).2
theorem hC_eq : hC = (uC St.start.list).toArray := rfl
theorem dg_one (S : St) (B : List UInt8) (k n : Nat) : ∀ v ∈ dgC S B k n, v.oneCell' = true := by
  intro v hv
  simp only [dgC, List.mem_append] at hv
  rcases hv with h | h | h
  · exact uC_one _ v h
  · exact bC_one _ v h
  · simp at h
    rcases h with rfl | rfl <;> rfl
/-- The bytes of texts, one behind the other. -/
def joinB (ss : List ByteArray) : List UInt8 := ss.flatMap fun s => s.data.toList
theorem joinB_snoc (ss : List ByteArray) (j : Nat) (s : ByteArray) (h : ss[j]? = some s) : joinB (ss.take (j + 1)) = joinB (ss.take j) ++ s.data.toList := by
  rw [joinB, List.take_add_one, h, List.flatMap_append]
  simp [joinB]
theorem joinB_le (ss : List ByteArray) (j : Nat) : (joinB (ss.take j)).length ≤ (joinB ss).length := by
  have : joinB ss = joinB (ss.take j) ++ joinB (ss.drop j) := by
    rw [joinB, joinB, joinB, ← List.flatMap_append, List.take_append_drop]
  rw [this, List.length_append]
  omega

theorem Dig.final {w : World} {b : Nat} {S : St} {B : List UInt8} {k : Nat} {d m : List UInt8} (h : Dig w b S B k d m) (hm : m.length % 64 = 0) : S = hashB .start m := by
  have e := h.all
  obtain ⟨q, hq⟩ := h.whole
  have hl : m.length = 64 * q + k := by
    rw [← e, List.length_append, hq, List.length_take, h.len, Nat.min_eq_left (Nat.le_of_lt h.lt)]
  have hk : k = 0 := by have := h.lt; omega
  rw [hk, List.take_zero, List.append_nil] at e
  rw [h.st, e]
theorem Dig.keep {w w1 : World} {b : Nat} {S : St} {B : List UInt8} {k : Nat} {d m : List UInt8} (h : Dig w b S B k d m) (hb : Below w.heap.size w w1) : Dig w1 b S B k d m :=
  ⟨(hb.block b (lt_of_blk h.blk)).trans h.blk, h.len, h.lt, h.st, h.whole, h.all⟩
theorem data_pad (n : Nat) : (⟨(padB n).toArray⟩ : ByteArray).size = 9 + zerosN n := by
  show (padB n).toArray.size = _
  rw [List.size_toArray, padB_len]
theorem zerosN_lt (n : Nat) : zerosN n < 64 := by unfold zerosN; omega
theorem pad_mod (l : List UInt8) : (l ++ padB l.length).length % 64 = 0 := by
  rw [List.length_append, padB_len]
  unfold zerosN
  omega

set_option maxRecDepth 100000 in
set_option maxHeartbeats 1600000 in
theorem ssum_any (g cap : Nat) (ss : List ByteArray) (w : World) (hg : g < w.heap.size) (hc : ∀ j s, ss[j]? = some s → w.cell? ⟨g, j, none⟩ = some (.string s)) (hsz : (joinB ss).length < 1152921504606840000) (hcap : ss.length ≤ 9223372036854775807) :
    Calls Try.prog 41 #[.slice (some ⟨g, 0, none⟩) ss.length cap] w fun e w' => e = .returned (.string ⟨(shaB (joinB ss)).toArray⟩) ∧ Below w.heap.size w w' := by
  obtain ⟨n, en⟩ : ∃ n, n = ss.length := ⟨_, rfl⟩
  rw [← en]
  have HC := hid (And.intro hg (And.intro hc (And.intro hsz (And.intro en (en ▸ hcap)))))
  clear hg hc hsz en hcap
  go_enter Try.func41, Try.ntmps41
  go_wp2_with (first
    | (go_at_call 58; refine (start_any _).mono ?_; rintro e w1 ⟨rfl, hb1⟩; have HB1 := hid hb1; clear hb1)
    | refine wl_build_row rfl 86 _ rfl (.agg D0.toArray) (by kernel_rfl) ?_
    | refine wl_alloc_row rfl 86 rfl _ _ Try.info86 ?_
    | (refine wl_store_row rfl 86 _ _ rfl w1.heap.size 0 rfl 86 DZ D0 rfl (heap_alloc_last w1 _) 74 D0_len Try.size86 (by rw [DZ_len]; decide) (dg_one _ _ _ _) ?_; intro w2 h2 e2))
  obtain ⟨b, eb⟩ : ∃ b, b = w1.heap.size := ⟨_, rfl⟩
  have hd2 : Dig w2 b .start z64B 0 [] [] := by
    refine ⟨?_, z64B_len, by omega, by rw [hashB_short _ _ (by decide)], ⟨0, rfl⟩, rfl⟩
    have := h2.out
    rwa [splice_all _ _ (by rw [DZ_len, D0_len]), ← eb] at this
  have hbw : w.heap.size ≤ b := by rw [eb]; exact HB1.out.size
  have hl2 : Below w.heap.size w w2 := by
    rw [e2.out]
    exact Below.setRow (HB1.out.alloc HB1.out.size _) (by rw [← eb]; exact hbw) _
  rw [← eb]
  have H2 := hid (And.intro hd2 hl2)
  have HW := hid hbw
  clear hd2 hl2 h2 e2 HB1 eb hbw
  go_loopw [10] (fun i wr => ∃ (j : Nat) (S : St) (B : List UInt8) (k : Nat) (d : List UInt8), j ≤ n ∧ i = .int .i64 (j : Int) ∧ Dig wr b S B k d (joinB (ss.take j)) ∧ Below w.heap.size w wr)
    (fun i _ => ((n : Int) - intOf i).toNat)
  case atStart => exact ⟨0, .start, z64B, 0, [], by omega, rfl, H2.out.1, H2.out.2⟩
  case round =>
    obtain ⟨j, S, B, k, d, hj, rfl, hD, hbel⟩ := hrel
    have HD := hid (And.intro hD hbel)
    clear hD hbel H2
    by_cases hjn : j = n
    · have hj1 : ¬ ((j : Int) < (n : Int)) := by omega
      have et : joinB (ss.take j) = joinB ss := by rw [List.take_of_length_le (by rw [hjn]; exact Nat.le_of_eq HC.out.2.2.2.1.symm)]
      rw [et] at HD
      obtain ⟨m, em⟩ : ∃ m, m = joinB ss := ⟨_, rfl⟩
      rw [← em] at HD
      have c73 := cell_at HD.out.1.blk 73 _ (dg_total S B k m.length HD.out.1.len)
      have hsz : m.length < 1152921504606840000 := by rw [em]; exact HC.out.2.2.1
      have HZ := hid hsz
      have HE := hid em
      clear hsz em et hj hjn
      go_wp2_with (first
        | (go_at_call 60; refine (padding_any _ (by have := HZ.out; omega) _).mono ?_; rintro e w3 ⟨rfl, hb3⟩; have H3 := hid hb3; clear hb3)
        | (go_at_call 59; refine (add_any _ _ _ _ _ _ _ _ (Dig.keep HD.out.1 H3.out) (by rw [data_pad]; have := HZ.out; have := zerosN_lt m.length; omega)).mono ?_; rintro e w4 ⟨rfl, ⟨S4, B4, k4, d4, hD4⟩, hb4⟩; have H4 := hid (And.intro hD4 hb4); clear hD4 hb4)
        | refine wl_load_row rfl 81 _ rfl b 0 rfl (uC S4.list) _ Try.underlying81 rfl 8 (by rw [uC_len]; exact list_len S4) Try.size81 (fun j v hv => cell_at H4.out.1.blk _ _ (dg_state S4 B4 k4 _ j v hv)) ?_
        | (go_at_call 61; refine (stext_any _ _).mono ?_; rintro e w5 ⟨rfl, hb5⟩; have H5 := hid hb5; clear hb5))
      go_ret
      have hf := H4.out.1.final (pad_mod m)
      refine ⟨by rw [hf, ← HE.out]; rfl, ?_⟩
      have hlt3 : b < w3.heap.size := lt_of_blk (Dig.keep HD.out.1 H3.out).blk
      have hlt4 : b < w4.heap.size := lt_of_blk H4.out.1.blk
      exact ((HD.out.2.trans (H3.out.mono HD.out.2.size)).trans (H4.out.2.mono HW.out)).trans (H5.out.mono (by have := HW.out; omega))
    · have hj1 : (j : Int) < (n : Int) := by omega
      have hj0 : (0 : Int) ≤ (j : Int) := Int.natCast_nonneg _
      obtain ⟨s, es⟩ : ∃ s, ss[j]? = some s := ⟨_, List.getElem?_eq_getElem (by rw [← HC.out.2.2.2.1]; omega)⟩
      have cs : wr.cell? ⟨g, j, none⟩ = some (.string s) := (HD.out.2.cell (p := ⟨g, j, none⟩) HC.out.1).trans (HC.out.2.1 j s es)
      have ej := joinB_snoc ss j s es
      have hle := joinB_le ss (j + 1)
      rw [ej, List.length_append, data_len] at hle
      have hsz : (joinB (ss.take j)).length + s.size < 1152921504606846976 := by have := HC.out.2.2.1; omega
      have HS := hid (And.intro ej hsz)
      have hn63 : (n : Int) ≤ 9223372036854775807 := by have := HC.out.2.2.2.2; omega
      clear es ej hle hsz
      go_wp2_with (go_at_call 59; refine (add_any _ _ _ _ _ _ _ _ HD.out.1 HS.out.2).mono ?_; rintro e w4 ⟨rfl, ⟨S4, B4, k4, d4, hD4⟩, hb4⟩; have H4 := hid (And.intro hD4 hb4); clear hD4 hb4)
      go_roundw
      case rel => exact ⟨j + 1, S4, B4, k4, d4, by omega, rfl, by rw [HS.out.1]; exact H4.out.1, HD.out.2.trans (H4.out.2.mono HW.out)⟩
      case measure => simp [intOf]; omega
end Go.Proofs.Ytebhkifjommpjaa
