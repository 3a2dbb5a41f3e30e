/- Lists of nodes; the vector. -/
import Derived.Test.YtnlmjclloaholaaMaH
import Derived.Test.YtnlmjclloaholaaShR
import Derived.Laws.OwnMore
namespace Go.Proofs.Ytnlmjclloaholaa
open Go.RowKit

/-- The numbers zs lie at a. -/
def IntsIn (w : World) (a : Option Addr) (zs : List Int) : Prop :=
  zs = [] ∨ ∃ g off, a = some ⟨g, off, none⟩ ∧ g < w.heap.size ∧ ∀ j z, zs[j]? = some z → w.cell? ⟨g, off + j, none⟩ = some (.int .i64 z)
theorem IntsIn.keep {w w' : World} {a : Option Addr} {zs : List Int} {B : Nat} (h : IntsIn w a zs) (hb : Below B w w') (hB : w.heap.size ≤ B) : IntsIn w' a zs := by
  rcases h with h | ⟨g, off, ha, hg, hc⟩
  · exact .inl h
  · exact .inr ⟨g, off, ha, Nat.lt_of_lt_of_le hg hb.size, fun j s hs => (hb.cell (p := ⟨g, off + j, none⟩) (Nat.lt_of_lt_of_le hg hB)).trans (hc j s hs)⟩
theorem IntsIn.at {w : World} {a : Option Addr} {zs : List Int} (h : IntsIn w a zs) (j : Nat) (z : Int) (hj : zs[j]? = some z) : ∃ g off, a = some ⟨g, off, none⟩ ∧ g < w.heap.size ∧ w.cell? ⟨g, off + j, none⟩ = some (.int .i64 z) := by
  rcases h with h | ⟨g, off, ha, hg, hc⟩
  · rw [h] at hj; simp at hj
  · exact ⟨g, off, ha, hg, hc j z hj⟩
theorem StrsIn.at {w : World} {a : Option Addr} {ss : List ByteArray} (h : StrsIn w a ss) (j : Nat) (s : ByteArray) (hj : ss[j]? = some s) : ∃ g off, a = some ⟨g, off, none⟩ ∧ g < w.heap.size ∧ w.cell? ⟨g, off + j, none⟩ = some (.string s) := by
  rcases h with h | ⟨g, off, ha, hg, hc⟩
  · rw [h] at hj; simp at hj
  · exact ⟨g, off, ha, hg, hc j s hj⟩

theorem all_take (zs : List Int) (j : Nat) (z : Int) (h : zs[j]? = some z) (hall : (zs.take j).all nodeB = true) (hz : nodeB z = true) : (zs.take (j + 1)).all nodeB = true := by
  rw [List.take_add_one, h, List.all_append, hall]
  simp [hz]
theorem all_not (zs : List Int) (j : Nat) (z : Int) (h : zs[j]? = some z) (hz : nodeB z = false) : zs.all nodeB = false := by
  cases hh : zs.all nodeB with
  | false => rfl
  | true =>
    have := List.all_eq_true.1 hh z (List.mem_of_getElem? h)
    rw [hz] at this
    cases this

set_option maxRecDepth 100000 in
set_option maxHeartbeats 1600000 in
theorem areNodes_any (a : Option Addr) (n cap : Nat) (zs : List Int) (hn : zs.length = n) (hm : n ≤ maxLen) (w : World) (hZ : IntsIn w a zs) (c : Bool) (hc : zs.all nodeB = c) :
    Calls Try.prog 28 #[.slice a n cap] w fun e w' => e = .returned (.bool c) ∧ w' = w := by
  have hm2 : (n : Int) ≤ 9223372036854775807 := by unfold maxLen at hm; omega
  have HZ := hid (And.intro hZ (And.intro hn hc))
  clear hZ hn hm hc
  go_enter Try.func28, Try.ntmps28
  go_wp2
  go_loopw [7] (fun i wr => ∃ j : Nat, j ≤ n ∧ i = .int .i64 (j : Int) ∧ wr = w ∧ (zs.take j).all nodeB = true)
    (fun i _ => ((n : Int) - intOf i).toNat)
  case atStart => exact ⟨0, by omega, rfl, by first | rfl | trivial, rfl⟩
  case round =>
    obtain ⟨j, hj, rfl, rfl, hall⟩ := hrel
    have HA := hid hall
    clear hall
    by_cases hjn : j = n
    · have hj1 : ¬ ((j : Int) < (n : Int)) := by omega
      have ht : c = true := by
        have := HA.out
        rw [List.take_of_length_le (by rw [HZ.out.2.1, hjn]; exact Nat.le_refl _), HZ.out.2.2] at this
        exact this
      subst ht
      clear hj hjn
      go_wp2
      go_ret
      exact ⟨rfl, rfl⟩
    · have hj1 : (j : Int) < (n : Int) := by omega
      have hj0 : (0 : Int) ≤ (j : Int) := Int.natCast_nonneg _
      obtain ⟨z, ez⟩ : ∃ z, zs[j]? = some z := ⟨_, List.getElem?_eq_getElem (by rw [HZ.out.2.1]; omega)⟩
      obtain ⟨g, off, rfl, hg, hcell⟩ := HZ.out.1.at j z ez
      cases hb : nodeB z with
      | false =>
        have HB := hid hb
        have hf : c = false := by rw [← HZ.out.2.2]; exact all_not zs j z ez hb
        subst hf
        clear hb ez
        go_wp2_with (go_at_call 25; refine (isNode_at _ _ (by exact HB.out) _).mono ?_; rintro e wx ⟨rfl, rfl⟩)
        go_ret
        exact ⟨rfl, rfl⟩
      | true =>
        have HB := hid (And.intro hb ez)
        clear hb ez
        go_wp2_with (go_at_call 25; refine (isNode_at _ _ (by exact HB.out.1) _).mono ?_; rintro e wx ⟨rfl, rfl⟩)
        go_roundw
        case rel => exact ⟨j + 1, by omega, rfl, by first | rfl | trivial, all_take zs j z HB.out.2 HA.out HB.out.1⟩
        case measure => simp [intOf]; omega

theorem vector_arg (s t : ByteArray) (b : Int) (a : Option Addr) (n cap : Nat) (zs : List Int) (hn : zs.length = n) (hm : n ≤ maxLen) (h : (nodeB b && zs.all nodeB) = false) (w : World) (hZ : IntsIn w a zs) :
    Calls Try.prog 15 #[.string s, .int .i64 b, .slice a n cap, .string t] w fun e w' => e = .returned (.tuple #[.slice none 0 0, .int .i64 1]) ∧ w' = w := by
  cases hb : nodeB b with
  | false =>
    have HN := hid hb
    clear hb h
    go_enter Try.func15, Try.ntmps15
    go_wp2_with (go_at_call 25; refine (isNode_at _ false (by exact HN.out) _).mono ?_; rintro e wx ⟨rfl, rfl⟩)
    go_ret2
    exact ⟨rfl, rfl⟩
  | true =>
    have hall : zs.all nodeB = false := by simpa [hb] using h
    have HN := hid hb
    have HA : Hid (Calls Try.prog 28 #[.slice a n cap] w fun e w' => e = .returned (.bool false) ∧ w' = w) := hid (areNodes_any a n cap zs hn hm w hZ false hall)
    clear hb hall h hZ hn hm
    go_enter Try.func15, Try.ntmps15
    go_wp2_with (first
      | (go_at_call 25; refine (isNode_at _ true (by exact HN.out) _).mono ?_; rintro e wx ⟨rfl, rfl⟩)
      | (go_at_call 28; refine (HA.out).mono ?_; rintro e wx ⟨rfl, rfl⟩))
    go_ret2
    exact ⟨rfl, rfl⟩
theorem vector_long (s t : ByteArray) (b : Int) (a : Option Addr) (n cap : Nat) (zs : List Int) (hn : zs.length = n) (hm : n ≤ maxLen) (h : (nodeB b && zs.all nodeB) = true) (hl : 16 < n) (w : World) (hZ : IntsIn w a zs) :
    Calls Try.prog 15 #[.string s, .int .i64 b, .slice a n cap, .string t] w fun e w' => e = .returned (.tuple #[.slice none 0 0, .int .i64 3]) ∧ w' = w := by
  obtain ⟨h1, h2⟩ := Bool.and_eq_true_iff.1 h
  have HN := hid h1
  have HA : Hid (Calls Try.prog 28 #[.slice a n cap] w fun e w' => e = .returned (.bool true) ∧ w' = w) := hid (areNodes_any a n cap zs hn hm w hZ true h2)
  have hl2 : (16 : Int) < (n : Int) := by omega
  clear h1 h2 h hZ hn hm hl
  go_enter Try.func15, Try.ntmps15
  go_wp2_with (first
    | (go_at_call 25; refine (isNode_at _ true (by exact HN.out) _).mono ?_; rintro e wx ⟨rfl, rfl⟩)
    | (go_at_call 28; refine (HA.out).mono ?_; rintro e wx ⟨rfl, rfl⟩))
  go_ret2
  exact ⟨rfl, rfl⟩

/-- The tags of a list. -/
def tagS (s t : ByteArray) (b : Nat) (z : Int) : ByteArray := ⟨(tagB s.data.toList b z.toNat t.data.toList).toArray⟩
def tagsS (s t : ByteArray) (b : Nat) (zs : List Int) : List ByteArray := zs.map (tagS s t b)
theorem tagsS_len (s t : ByteArray) (b : Nat) (zs : List Int) : (tagsS s t b zs).length = zs.length := by simp [tagsS]
theorem tagsS_get (s t : ByteArray) (b : Nat) (zs : List Int) (j : Nat) (z : Int) (h : zs[j]? = some z) : (tagsS s t b zs)[j]? = some (tagS s t b z) := by simp [tagsS, h]
theorem tagS_size (s t : ByteArray) (b : Nat) (z : Int) : (tagS s t b z).size = 8 := by rw [← data_len, tagS, mk_data, tagB_len]
theorem node_of_all {zs : List Int} (h : zs.all nodeB = true) (j : Nat) (z : Int) (hj : zs[j]? = some z) : nodeB z = true := List.all_eq_true.1 h z (List.mem_of_getElem? hj)
/-- As far as k filled. -/
def upTo (l : List ByteArray) (n k : Nat) : List ByteArray := l.take k ++ List.replicate (n - k) ⟨#[]⟩
theorem upTo_len (l : List ByteArray) (n k : Nat) (h : l.length = n) (hk : k ≤ n) : (upTo l n k).length = n := by
  rw [upTo, List.length_append, List.length_take, List.length_replicate]; omega
theorem upTo_set (l : List ByteArray) (n k : Nat) (x : ByteArray) (h : l.length = n) (hk : k < n) (hx : l[k]? = some x) : (upTo l n k).set k x = upTo l n (k + 1) := by
  have e : (l.take k).length = k := by rw [List.length_take]; omega
  have e2 : n - k = (n - (k + 1)) + 1 := by omega
  unfold upTo
  rw [List.set_append_right _ _ (by rw [e]; exact Nat.le_refl _), e, Nat.sub_self, e2, List.replicate_succ, List.take_add_one, hx]
  simp
theorem upTo_all (l : List ByteArray) (n : Nat) (h : l.length = n) : upTo l n n = l := by
  rw [upTo, Nat.sub_self, List.replicate_zero, List.append_nil, List.take_of_length_le (by omega)]
theorem sC_set (l : List ByteArray) (j : Nat) (v : Value) (x : ByteArray) (hv : v = .string x) : (sC l).toArray.setIfInBounds j v = (sC (l.set j x)).toArray := by
  subst hv
  simp [sC, List.map_set]
theorem made_strs (l : List ByteArray) (n : Nat) : (madeCells #[.string ⟨#[]⟩] n).toList = sC (upTo l n 0) := by
  rw [toList_madeCells_one, upTo, List.take_zero, List.nil_append, sC, List.map_replicate]
  rfl

set_option maxRecDepth 100000 in
set_option maxHeartbeats 1600000 in
theorem vector_yes (s t : ByteArray) (hs : s.size ≤ 1000000) (ht : t.size ≤ 100000) (b : Nat) (hb : b < 200) (a : Option Addr) (n cap : Nat) (zs : List Int) (hn : zs.length = n) (hl : n ≤ 16) (h : zs.all nodeB = true) (w : World) (hZ : IntsIn w a zs) :
    Calls Try.prog 15 #[.string s, .int .i64 (b : Int), .slice a n cap, .string t] w fun e w' => e = .returned (.tuple #[.slice (some ⟨w.heap.size, 0, none⟩) n n, .int .i64 0]) ∧ OwnedS w.heap.size w w' (.slice (some ⟨w.heap.size, 0, none⟩) n n) (tagsS s t b zs) := by
  obtain ⟨i0, hi0, hz0, hz1, hz2⟩ := info_parts Try.info9
  have HMk : Hid (∀ u : World, (Instr.makeSlice 32 (.int .i64 (n : Int)) (.int .i64 (n : Int))).run Try.prog u = .ok (.slice (some ⟨u.heap.size, 0, none⟩) n n) (u.alloc (.cells (madeCells #[.string ⟨#[]⟩] n) 9))) := hid (fun u => by
    have h := run_make (P := Try.prog) u 32 9 i0 (.string ⟨#[]⟩) Try.underlying32 hi0 hz0 .i64 .i64 n n (by omega) (by omega) (by rw [hz2]; omega) (by omega)
    rw [hz1, Int.toNat_natCast, Nat.mul_one] at h
    exact h)
  obtain ⟨L, eL⟩ : ∃ L, L = tagsS s t b zs := ⟨_, rfl⟩
  rw [← eL]
  have HT : Hid (∀ (j : Nat) (z : Int), zs[j]? = some z → ∀ u : World, Calls Try.prog 29 #[.string s, .int .i64 (b : Int), .int .i64 z, .string t] u fun e w' => e = .returned (.string (tagS s t b z)) ∧ Below u.heap.size u w') := hid (fun j z hz u => by
    obtain ⟨c, rfl, hc⟩ := node_nat (node_of_all h j z hz)
    have := tagOf_any s hs b c hb hc t ht u
    rwa [tagS, Int.toNat_natCast])
  have HN := hid (nodeB_nat b hb)
  have HA : Hid (Calls Try.prog 28 #[.slice a n cap] w fun e w' => e = .returned (.bool true) ∧ w' = w) := hid (areNodes_any a n cap zs hn (by unfold maxLen; omega) w hZ true h)
  have hl2 : (n : Int) ≤ 16 := by omega
  have hl3 : ¬ ((16 : Int) < (n : Int)) := by omega
  have HZ := hid (And.intro hZ (And.intro hn (And.intro eL (show L.length = n by rw [eL, tagsS_len, hn]))))
  clear hZ hn hl h hs ht hb eL hi0 hz0 hz1 hz2
  go_enter Try.func15, Try.ntmps15
  go_wp2_with (first
    | (go_at_call 25; refine (isNode_at _ true (by exact HN.out) _).mono ?_; rintro e wx ⟨rfl, rfl⟩)
    | (go_at_call 28; refine (HA.out).mono ?_; rintro e wx ⟨rfl, rfl⟩)
    | rw [HMk.out])
  go_loopw [29] (fun i wr => ∃ j : Nat, j ≤ n ∧ i = .int .i64 (j : Int) ∧ wr.heap[wx.heap.size]? = some (.cells (sC (upTo L n j)).toArray 9 (0, 0)) ∧ Below wx.heap.size wx wr)
    (fun i _ => ((n : Int) - intOf i).toNat)
  case atStart => exact ⟨0, by omega, rfl, by rw [← made_strs L n]; exact heap_alloc_last wx _, (Below.refl _ _).alloc (Nat.le_refl _) _⟩
  case round =>
    obtain ⟨j, hj, rfl, hblk, hbel⟩ := hrel
    have HR := hid (And.intro hblk hbel)
    clear hblk hbel
    by_cases hjn : j = n
    · have hj1 : ¬ ((j : Int) < (n : Int)) := by omega
      have hB : wr.heap[wx.heap.size]? = some (.cells (sC L).toArray 9 (0, 0)) := by
        have := HR.out.1
        rwa [hjn, upTo_all L n HZ.out.2.2.2] at this
      have HB := hid hB
      clear hj hjn hB
      go_wp2
      go_ret2
      refine ⟨rfl, ⟨⟨by rw [sC_len, Nat.mul_one], .inr ⟨wx.heap.size, n, (sC L).toArray, by rw [HZ.out.2.2.2], Nat.le_refl _, HB.out, by rw [HZ.out.2.2.2]; exact Nat.le_refl _, by unfold maxLen; omega, by rw [List.size_toArray, sC_len, HZ.out.2.2.2, Nat.mul_one], by rw [Nat.mul_one, ← sC_len, List.take_of_length_le (Nat.le_refl _)]⟩⟩, HR.out.2, HR.out.2.size⟩⟩
    · have hj1 : (j : Int) < (n : Int) := by omega
      have hj0 : (0 : Int) ≤ (j : Int) := Int.natCast_nonneg _
      obtain ⟨z, ez⟩ : ∃ z, zs[j]? = some z := ⟨_, List.getElem?_eq_getElem (by rw [HZ.out.2.1]; omega)⟩
      obtain ⟨g, off, rfl, hg, hcell⟩ := HZ.out.1.at j z ez
      have cz : wr.cell? ⟨g, off + j, none⟩ = some (.int .i64 z) := (HR.out.2.cell (p := ⟨g, off + j, none⟩) hg).trans hcell
      have HE := hid ez
      clear ez hg hcell
      go_wp2_with (go_at_call 29; refine (HT.out j z (by exact HE.out) _).mono ?_; rintro e w4 ⟨rfl, hb4⟩
                   have H4 := hid (And.intro ((hb4.block _ (lt_of_blk HR.out.1)).trans HR.out.1) (HR.out.2.trans (hb4.mono HR.out.2.size)))
                   clear hb4
                   have c5 : ∃ v, w4.cell? ⟨wx.heap.size, j, none⟩ = some v := ⟨_, cell_at H4.out.1 j _ (sC_get _ j _ (List.getElem?_eq_getElem (by rw [upTo_len L n j HZ.out.2.2.2 (by omega)]; omega)))⟩
                   obtain ⟨v5, c5⟩ := c5
                   have f5 : w4.frozen? ⟨wx.heap.size, j, none⟩ = false := free_at H4.out.1 j)
      go_roundw
      case rel =>
        refine ⟨j + 1, by omega, rfl, ?_, ?_⟩
        · refine (blk_set H4.out.1 _ _).trans ?_
          rw [sC_set _ _ _ (tagS s t b z) rfl, upTo_set L n j (tagS s t b z) HZ.out.2.2.2 (by omega) (by rw [HZ.out.2.2.1]; exact tagsS_get s t b zs j z HE.out)]
        · exact H4.out.2.setCell (Nat.le_refl _) _
      case measure => simp [intOf]; omega
end Go.Proofs.Ytnlmjclloaholaa
