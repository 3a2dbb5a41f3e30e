/- The library's calls that the council makes: Contains, BinarySearch, Insert, Delete, at lists of numbers. -/
import Derived.Test.YtgnapfgiefdlaabCoI
import Derived.Shelf.Slices.SearchI
import Derived.Shelf.Slices.Delete
import Derived.Shelf.Spec.SlicesInsert
import Derived.Lib.RowBridge
namespace Go.Proofs.Ytgnapfgiefdlaab
open Go.RowKit

set_option maxRecDepth 100000 in
set_option maxHeartbeats 1600000 in
theorem index_any (a : Option Addr) (n cap : Nat) (l : List Int) (hn : l.length = n) (hm : n ≤ maxLen) (id : Int) (w : World) (hI : IntsIn w a l) :
    Calls Try.prog 31 #[.slice a n cap, .int .i64 id] w fun e w' => ∃ k : Int, e = .returned (.int .i64 k) ∧ decide (0 ≤ k) = hasM l id ∧ w' = w := by
  have hm2 : (n : Int) ≤ 9223372036854775807 := by unfold maxLen at hm; omega
  have HI := hid hI
  have HN := hid hn
  clear hI hm hn
  go_enter Try.func31, Try.ntmps31
  go_wp2
  go_loopw [8] (fun i wr => ∃ j : Nat, j ≤ n ∧ i = .int .i64 (j : Int) ∧ id ∉ l.take j ∧ wr = w)
    (fun i _ => ((n : Int) - intOf i).toNat)
  case atStart => exact ⟨0, by omega, rfl, by simp, rfl⟩
  case round =>
    obtain ⟨j, hj, rfl, hno, rfl⟩ := hrel
    by_cases hjn : j = n
    · have hj1 : ¬ ((j : Int) < (n : Int)) := by omega
      have HF : Hid (hasM l id = false) := hid (decide_eq_false (by rwa [List.take_of_length_le (by rw [HN.out]; omega)] at hno))
      clear hno hj hjn
      go_wp2
      go_ret
      exact ⟨-1, rfl, by rw [HF.out]; rfl, rfl⟩
    · have hj1 : (j : Int) < (n : Int) := by omega
      have hj0 : (0 : Int) ≤ (j : Int) := Int.natCast_nonneg _
      have hjl : j < l.length := by rw [HN.out]; omega
      obtain ⟨g, off, rfl, hg, cz⟩ := HI.out.at j _ (getD_some hjl)
      by_cases hx : l.getD j 0 = id
      · have HF : Hid (hasM l id = true) := hid (decide_eq_true (mem_of_get hx hjl))
        rw [hx] at cz
        clear hno hj hjn hx hjl hg
        go_wp2
        go_ret
        exact ⟨(j : Int), rfl, by rw [HF.out, decide_eq_true hj0], rfl⟩
      · have HF : Hid (id ∉ l.take (j + 1)) := hid (not_mem_snoc hno hx hjl)
        obtain ⟨x, ex⟩ : ∃ x, x = l.getD j 0 := ⟨_, rfl⟩
        rw [← ex] at cz hx
        have hx' : ¬ (id = x) := fun h => hx h.symm
        have HJ := hid (And.intro hj hjn)
        clear hno hj hjn hjl hg ex
        go_wp2
        go_roundw
        case rel => exact ⟨j + 1, by have := HJ.out; omega, by go_num, HF.out, by first | exact rfl | exact trivial⟩
        case measure => simp [intOf]; omega
theorem contains_any (a : Option Addr) (n cap : Nat) (l : List Int) (hn : l.length = n) (hm : n ≤ maxLen) (id : Int) (w : World) (hI : IntsIn w a l) :
    Calls Try.prog 24 #[.slice a n cap, .int .i64 id] w fun e w' => e = .returned (.bool (hasM l id)) ∧ w' = w := by
  have HC := hid (index_any a n cap l hn hm id w hI)
  clear hI hn hm
  go_enter Try.func24, Try.ntmps24
  go_wp2_with (go_at_call 31; refine (HC.out).mono ?_; rintro e wx ⟨k, rfl, hk, rfl⟩; have HK := hid hk; clear hk)
  go_ret
  exact ⟨by rw [← HK.out]; rfl, rfl⟩

def renL2n25 : Go.Shelf.Ren := ⟨fun | 25 => 21 | 31 => 28 | 32 => 29 | 37 => 42 | n => n, fun | 0 => 0 | 3 => 3 | 4 => 4 | 22 => 24 | 40 => 56 | n => n, fun | n => n⟩
theorem layL2n25 : Go.Proofs.Lays2.n25 Try.prog renL2n25 := {
  mixed := by kernel_rfl
  f25 := Try.func21.trans (congrArg some (by kernel_rfl))
  f31 := Try.func28.trans (congrArg some (by kernel_rfl))
  f32 := Try.func29.trans (congrArg some (by kernel_rfl))
  f37 := Try.func42.trans (congrArg some (by kernel_rfl))
  t0 := Try.underlying0
  a0 := Try.isAgg0
  z0 := Try.sizeOf0
  v0 := Try.zeroValue0
  t3 := Try.underlying3
  a3 := Try.isAgg3
  z3 := Try.sizeOf3
  v3 := Try.zeroValue3
  t4 := Try.underlying4
  a4 := Try.isAgg4
  z4 := Try.sizeOf4
  v4 := Try.zeroValue4
  t22 := Try.underlying24
  a22 := Try.isAgg24
  z22 := Try.sizeOf24
  v22 := Try.zeroValue24
  t40 := Try.underlying56
  a40 := Try.isAgg56
  z40 := Try.sizeOf56
  v40 := Try.zeroValue56 }

/-- How many of the members stand ahead of id. -/
def placeN (l : List Int) (id : Int) : Nat := l.countP (· < id)
theorem search_any (a : Option Addr) (n cap : Nat) (l : List Int) (hn : l.length = n) (hb : memB l = true) (id : Int) (w : World) (hI : IntsIn w a l) :
    Calls Try.prog 21 #[.slice a n cap, .int .i64 id] w fun e w' => e = .returned (.tuple #[.int .i64 (placeN l id : Int), .bool (hasM l id)]) ∧ Below w.heap.size w w' := by
  have hl := mem_len hb
  rcases hI with h | ⟨g, off, rfl, hg, hc⟩
  · rw [h] at hl; simp at hl
  · have h := Any.slices_BinarySearch_int layL2n25 g off n cap l id w (by omega) (by omega) (fun j hj => hc j _ (getD_some hj)) (by rw [← hn, List.take_length]; exact (mem_inc hb).imp (fun h => Int.le_of_lt h))
    refine h.mono ?_
    rintro e w' ⟨rfl, q, rfl⟩
    refine ⟨?_, ⟨rfl, rfl, rfl, Nat.le_refl _, fun _ _ => rfl⟩⟩
    rw [← hn, List.take_length, show l.contains id = hasM l id by rw [hasM, List.contains_eq_mem]]
    rfl
theorem place_cut (id : Int) : ∀ {l : List Int}, Inc l → (∀ x ∈ l.take (placeN l id), x < id) ∧ (∀ x ∈ l.drop (placeN l id), id ≤ x)
  | [], _ => by simp
  | y :: l, h => by
    obtain ⟨hy, hl⟩ := List.pairwise_cons.1 h
    by_cases e : y < id
    · have hp : placeN (y :: l) id = placeN l id + 1 := by rw [placeN, List.countP_cons_of_pos (by simpa using e)]; rfl
      obtain ⟨h1, h2⟩ := place_cut id hl
      rw [hp, List.take_succ_cons, List.drop_succ_cons]
      refine ⟨fun x hx => ?_, h2⟩
      rcases List.mem_cons.1 hx with rfl | hx
      · exact e
      · exact h1 x hx
    · have hp : placeN (y :: l) id = 0 := by
        rw [placeN, List.countP_eq_zero]
        intro x hx
        rcases List.mem_cons.1 hx with rfl | hx
        · simpa using e
        · have := hy x hx
          simp
          omega
      rw [hp]
      refine ⟨by simp, fun x hx => ?_⟩
      rcases List.mem_cons.1 (by simpa using hx) with rfl | hx
      · omega
      · have := hy x hx
        omega
theorem place_le (l : List Int) (id : Int) : placeN l id ≤ l.length := List.countP_le_length
/-- Who joins stands at his place. -/
theorem join_put {l : List Int} {id : Int} (hb : memB l = true) (h0 : 0 ≤ id ∧ id < 16) (hh : hasM l id = false) : joinTo l id 16 = l.take (placeN l id) ++ [id] ++ l.drop (placeN l id) := by
  have hi := mem_inc hb
  obtain ⟨h1, h2⟩ := place_cut id hi
  have hno := of_decide_eq_false hh
  refine inc_eq _ _ (joinTo_inc l id 16) ?_ (fun x => ?_)
  · rw [List.append_assoc]
    refine List.pairwise_append.2 ⟨hi.sublist (List.take_sublist _ _), List.pairwise_append.2 ⟨by simp, hi.sublist (List.drop_sublist _ _), fun x hx y hy => ?_⟩, fun x hx y hy => ?_⟩
    · obtain rfl := List.mem_singleton.1 hx
      have := h2 y hy
      have hne : y ≠ x := fun e => hno (e ▸ List.mem_of_mem_drop hy)
      omega
    · have h3 := h1 x hx
      rcases List.mem_append.1 hy with hy | hy
      · obtain rfl := List.mem_singleton.1 hy
        exact h3
      · have := h2 y hy
        omega
  · rw [join_mem hb h0 x]
    have hs : x ∈ l ↔ x ∈ l.take (placeN l id) ∨ x ∈ l.drop (placeN l id) := by rw [← List.mem_append, List.take_append_drop]
    rw [hs]
    simp only [List.mem_append, List.mem_singleton]
    constructor
    · rintro (h | h | h)
      · exact .inl (.inr h)
      · exact .inl (.inl h)
      · exact .inr h
    · rintro ((h | h) | h)
      · exact .inr (.inl h)
      · exact .inl h
      · exact .inr (.inr h)
theorem leave_cut (id : Int) : ∀ {l : List Int}, Inc l → id ∈ l → placeN l id < l.length ∧ leaveF l id = l.take (placeN l id) ++ l.drop (placeN l id + 1)
  | [], _, h => by simp at h
  | y :: l, h, hm => by
    obtain ⟨hy, hl⟩ := List.pairwise_cons.1 h
    by_cases e : y < id
    · have hp : placeN (y :: l) id = placeN l id + 1 := by rw [placeN, List.countP_cons_of_pos (by simpa using e)]; rfl
      have hm2 : id ∈ l := by
        rcases List.mem_cons.1 hm with rfl | h
        · omega
        · exact h
      obtain ⟨h1, h2⟩ := leave_cut id hl hm2
      rw [hp, List.take_succ_cons, List.drop_succ_cons]
      refine ⟨by simp; omega, ?_⟩
      rw [leaveF, List.filter_cons, if_pos (by simp; omega)]
      rw [leaveF] at h2
      rw [h2]
      rfl
    · have hye : y = id := by
        rcases List.mem_cons.1 hm with rfl | h
        · rfl
        · have := hy id h
          omega
      subst hye
      have hp : placeN (y :: l) y = 0 := by
        rw [placeN, List.countP_eq_zero]
        intro x hx
        rcases List.mem_cons.1 hx with rfl | hx
        · simp
        · have := hy x hx
          simp
          omega
      rw [hp]
      refine ⟨by simp, ?_⟩
      rw [leaveF, List.filter_cons, if_neg (by simp), List.filter_eq_self.2 (fun x hx => by have := hy x hx; simp; omega)]
      simp
theorem sets_blk {g : Nat} {t : TypeId} : ∀ (vs : List Value) (o : Nat) (w : World) (L : List Value), w.heap[g]? = some (.cells L.toArray t (0, 0)) → o + vs.length ≤ L.length → (w.setCells g o vs).heap[g]? = some (.cells (L.take o ++ vs ++ L.drop (o + vs.length)).toArray t (0, 0))
  | [], o, w, L, h, _ => by rw [List.append_nil, List.length_nil, Nat.add_zero, List.take_append_drop]; exact h
  | v :: vs, o, w, L, h, hl => by
    rw [List.length_cons] at hl
    have h1 := blk_set h o v
    rw [List.setIfInBounds_toArray] at h1
    have h2 := sets_blk vs (o + 1) (w.setCell ⟨g, o, none⟩ v) (L.set o v) h1 (by rw [List.length_set]; omega)
    refine h2.trans ?_
    congr 3
    have hlen : (L.take o).length = o := by rw [List.length_take]; omega
    have e1 : (L.set o v).take (o + 1) = L.take o ++ [v] := by
      rw [List.set_eq_take_append_cons_drop, if_pos (by omega), List.take_append, hlen, List.take_of_length_le (by omega), show o + 1 - o = 1 by omega]
      rfl
    have e2 : (L.set o v).drop (o + 1 + vs.length) = L.drop (o + (vs.length + 1)) := by
      rw [List.drop_set_of_lt (by omega), show o + 1 + vs.length = o + (vs.length + 1) by omega]
    rw [e1, e2, List.length_cons]
    simp
end Go.Proofs.Ytgnapfgiefdlaab
