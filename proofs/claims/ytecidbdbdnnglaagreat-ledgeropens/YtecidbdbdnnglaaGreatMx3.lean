/- Texts laid together: CoS CoT CoM CoU CoN CoV CoP CoQ CoR. -/
import Derived.Test.YtecidbdbdnnglaaGreatCx1
import Derived.Shelf.Slices.SearchI
import Derived.Shelf.Slices.Delete
import Derived.Shelf.Spec.SlicesInsert
import Derived.Lib.RowBridge
import Derived.Laws.CopyOwn
import Derived.Deep.QuietTactic
import Derived.Test.YtecidbdbdnnglaaGreatCoGM
import Derived.Test.YtecidbdbdnnglaaGreatCoHM
/- The library's calls that the council makes: Contains, BinarySearch, Insert, Delete, at lists of numbers. -/
namespace Go.Proofs.YtecidbdbdnnglaaGreat
open Go.RowKit

def renL2n21 : Go.Shelf.Ren := ⟨fun | 21 => 132 | 27 => 151 | 28 => 152 | 35 => 162 | 39 => 165 | n => n, fun | 0 => 0 | 3 => 3 | 4 => 4 | 22 => 22 | n => n, fun | n => n⟩
theorem layL2n21 : Go.Proofs.Lays2.n21 Tryz.prog renL2n21 := {
  mixed := by kernel_rfl
  f21 := Tryz.func132.trans (congrArg some (by kernel_rfl))
  f27 := Tryz.func151.trans (congrArg some (by kernel_rfl))
  f28 := Tryz.func152.trans (congrArg some (by kernel_rfl))
  f35 := Tryz.func162.trans (congrArg some (by kernel_rfl))
  f39 := Tryz.func165.trans (congrArg some (by kernel_rfl))
  t0 := Tryz.underlying0
  a0 := Tryz.isAgg0
  z0 := Tryz.sizeOf0
  v0 := Tryz.zeroValue0
  t3 := Tryz.underlying3
  a3 := Tryz.isAgg3
  z3 := Tryz.sizeOf3
  v3 := Tryz.zeroValue3
  t4 := Tryz.underlying4
  a4 := Tryz.isAgg4
  z4 := Tryz.sizeOf4
  v4 := Tryz.zeroValue4
  t22 := Tryz.underlying22
  a22 := Tryz.isAgg22
  z22 := Tryz.sizeOf22
  v22 := Tryz.zeroValue22
  i3 := by kernel_rfl }
def renL2n23 : Go.Shelf.Ren := ⟨fun | 23 => 134 | n => n, fun | 0 => 0 | 3 => 3 | 4 => 4 | 22 => 22 | n => n, fun | n => n⟩
theorem layL2n23 : Go.Proofs.Lays2.n23 Tryz.prog renL2n23 := {
  mixed := by kernel_rfl
  f23 := Tryz.func134.trans (congrArg some (by kernel_rfl))
  t0 := Tryz.underlying0
  a0 := Tryz.isAgg0
  z0 := Tryz.sizeOf0
  v0 := Tryz.zeroValue0
  t3 := Tryz.underlying3
  a3 := Tryz.isAgg3
  z3 := Tryz.sizeOf3
  v3 := Tryz.zeroValue3
  t4 := Tryz.underlying4
  a4 := Tryz.isAgg4
  z4 := Tryz.sizeOf4
  v4 := Tryz.zeroValue4
  t22 := Tryz.underlying22
  a22 := Tryz.isAgg22
  z22 := Tryz.sizeOf22
  v22 := Tryz.zeroValue22
  i3 := by kernel_rfl }
def renL2n25 : Go.Shelf.Ren := ⟨fun | 25 => 131 | 31 => 149 | 32 => 150 | 37 => 161 | n => n, fun | 0 => 0 | 3 => 3 | 4 => 4 | 22 => 22 | 40 => 146 | n => n, fun | n => n⟩
theorem layL2n25 : Go.Proofs.Lays2.n25 Tryz.prog renL2n25 := {
  mixed := by kernel_rfl
  f25 := Tryz.func131.trans (congrArg some (by kernel_rfl))
  f31 := Tryz.func149.trans (congrArg some (by kernel_rfl))
  f32 := Tryz.func150.trans (congrArg some (by kernel_rfl))
  f37 := Tryz.func161.trans (congrArg some (by kernel_rfl))
  t0 := Tryz.underlying0
  a0 := Tryz.isAgg0
  z0 := Tryz.sizeOf0
  v0 := Tryz.zeroValue0
  t3 := Tryz.underlying3
  a3 := Tryz.isAgg3
  z3 := Tryz.sizeOf3
  v3 := Tryz.zeroValue3
  t4 := Tryz.underlying4
  a4 := Tryz.isAgg4
  z4 := Tryz.sizeOf4
  v4 := Tryz.zeroValue4
  t22 := Tryz.underlying22
  a22 := Tryz.isAgg22
  z22 := Tryz.sizeOf22
  v22 := Tryz.zeroValue22
  t40 := Tryz.underlying146
  a40 := Tryz.isAgg146
  z40 := Tryz.sizeOf146
  v40 := Tryz.zeroValue146 }

/-- How many of the members stand ahead of id. -/
def placeN (l : List Int) (id : Int) : Nat := l.countP (· < id)
theorem search_any (a : Option Addr) (n cap : Nat) (l : List Int) (hn : l.length = n) (hb : memB l = true) (id : Int) (w : World) (hI : IntsIn w a l) :
    Calls Tryz.prog 131 #[.slice a n cap, .int .i64 id] w fun e w' => e = .returned (.tuple #[.int .i64 (placeN l id : Int), .bool (hasM l id)]) ∧ Below w.heap.size w w' := by
  have hl := mem_len hb
  rcases hI with h | ⟨g, off, rfl, hg, hc⟩
  · rw [h] at hl; simp at hl
  · have h := Any.slices_BinarySearch_int layL2n25 g off n cap l id w (by omega) (by omega) (fun j hj => hc j _ (getD_some hj)) (by rw [← hn, List.take_length]; exact (mem_inc hb).imp (fun h => Int.le_of_lt h))
    refine h.mono ?_
    rintro e w' ⟨rfl, q, rfl⟩
    refine ⟨?_, ⟨rfl, rfl, rfl, Nat.le_refl _, fun _ _ => rfl⟩⟩
    rw [← hn, List.take_length, show l.contains id = hasM l id by rw [hasM, List.contains_eq_mem]]
    rfl
theorem place_cut (id : Int) : ∀ {l : List Int}, Inc l → (∀ x ∈ l.take (placeN l id), x < id) ∧ (∀ x ∈ l.drop (placeN l id), id ≤ x)
  | [], _ => by simp
  | y :: l, h => by
    obtain ⟨hy, hl⟩ := List.pairwise_cons.1 h
    by_cases e : y < id
    · have hp : placeN (y :: l) id = placeN l id + 1 := by rw [placeN, List.countP_cons_of_pos (by simpa using e)]; rfl
      obtain ⟨h1, h2⟩ := place_cut id hl
      rw [hp, List.take_succ_cons, List.drop_succ_cons]
      refine ⟨fun x hx => ?_, h2⟩
      rcases List.mem_cons.1 hx with rfl | hx
      · exact e
      · exact h1 x hx
    · have hp : placeN (y :: l) id = 0 := by
        rw [placeN, List.countP_eq_zero]
        intro x hx
        rcases List.mem_cons.1 hx with rfl | hx
        · simpa using e
        · have := hy x hx
          simp
          omega
      rw [hp]
      refine ⟨by simp, fun x hx => ?_⟩
      rcases List.mem_cons.1 (by simpa using hx) with rfl | hx
      · omega
      · have := hy x hx
        omega
theorem place_le (l : List Int) (id : Int) : placeN l id ≤ l.length := List.countP_le_length
/-- Who joins stands at his place. -/
theorem join_put {l : List Int} {id : Int} (hb : memB l = true) (h0 : 0 ≤ id ∧ id < 16) (hh : hasM l id = false) : joinTo l id 16 = l.take (placeN l id) ++ [id] ++ l.drop (placeN l id) := by
  have hi := mem_inc hb
  obtain ⟨h1, h2⟩ := place_cut id hi
  have hno := of_decide_eq_false hh
  refine inc_eq _ _ (joinTo_inc l id 16) ?_ (fun x => ?_)
  · rw [List.append_assoc]
    refine List.pairwise_append.2 ⟨hi.sublist (List.take_sublist _ _), List.pairwise_append.2 ⟨by simp, hi.sublist (List.drop_sublist _ _), fun x hx y hy => ?_⟩, fun x hx y hy => ?_⟩
    · obtain rfl := List.mem_singleton.1 hx
      have := h2 y hy
      have hne : y ≠ x := fun e => hno (e ▸ List.mem_of_mem_drop hy)
      omega
    · have h3 := h1 x hx
      rcases List.mem_append.1 hy with hy | hy
      · obtain rfl := List.mem_singleton.1 hy
        exact h3
      · have := h2 y hy
        omega
  · rw [join_mem hb h0 x]
    have hs : x ∈ l ↔ x ∈ l.take (placeN l id) ∨ x ∈ l.drop (placeN l id) := by rw [← List.mem_append, List.take_append_drop]
    rw [hs]
    simp only [List.mem_append, List.mem_singleton]
    constructor
    · rintro (h | h | h)
      · exact .inl (.inr h)
      · exact .inl (.inl h)
      · exact .inr h
    · rintro ((h | h) | h)
      · exact .inr (.inl h)
      · exact .inl h
      · exact .inr (.inr h)
theorem leave_cut (id : Int) : ∀ {l : List Int}, Inc l → id ∈ l → placeN l id < l.length ∧ leaveF l id = l.take (placeN l id) ++ l.drop (placeN l id + 1)
  | [], _, h => by simp at h
  | y :: l, h, hm => by
    obtain ⟨hy, hl⟩ := List.pairwise_cons.1 h
    by_cases e : y < id
    · have hp : placeN (y :: l) id = placeN l id + 1 := by rw [placeN, List.countP_cons_of_pos (by simpa using e)]; rfl
      have hm2 : id ∈ l := by
        rcases List.mem_cons.1 hm with rfl | h
        · omega
        · exact h
      obtain ⟨h1, h2⟩ := leave_cut id hl hm2
      rw [hp, List.take_succ_cons, List.drop_succ_cons]
      refine ⟨by simp; omega, ?_⟩
      rw [leaveF, List.filter_cons, if_pos (by simp; omega)]
      rw [leaveF] at h2
      rw [h2]
      rfl
    · have hye : y = id := by
        rcases List.mem_cons.1 hm with rfl | h
        · rfl
        · have := hy id h
          omega
      subst hye
      have hp : placeN (y :: l) y = 0 := by
        rw [placeN, List.countP_eq_zero]
        intro x hx
        rcases List.mem_cons.1 hx with rfl | hx
        · simp
        · have := hy x hx
          simp
          omega
      rw [hp]
      refine ⟨by simp, ?_⟩
      rw [leaveF, List.filter_cons, if_neg (by simp), List.filter_eq_self.2 (fun x hx => by have := hy x hx; simp; omega)]
      simp
theorem sets_blk {g : Nat} {t : TypeId} : ∀ (vs : List Value) (o : Nat) (w : World) (L : List Value), w.heap[g]? = some (.cells L.toArray t (0, 0)) → o + vs.length ≤ L.length → (w.setCells g o vs).heap[g]? = some (.cells (L.take o ++ vs ++ L.drop (o + vs.length)).toArray t (0, 0))
  | [], o, w, L, h, _ => by rw [List.append_nil, List.length_nil, Nat.add_zero, List.take_append_drop]; exact h
  | v :: vs, o, w, L, h, hl => by
    rw [List.length_cons] at hl
    have h1 := blk_set h o v
    rw [List.setIfInBounds_toArray] at h1
    have h2 := sets_blk vs (o + 1) (w.setCell ⟨g, o, none⟩ v) (L.set o v) h1 (by rw [List.length_set]; omega)
    refine h2.trans ?_
    congr 3
    have hlen : (L.take o).length = o := by rw [List.length_take]; omega
    have e1 : (L.set o v).take (o + 1) = L.take o ++ [v] := by
      rw [List.set_eq_take_append_cons_drop, if_pos (by omega), List.take_append, hlen, List.take_of_length_le (by omega), show o + 1 - o = 1 by omega]
      rfl
    have e2 : (L.set o v).drop (o + 1 + vs.length) = L.drop (o + (vs.length + 1)) := by
      rw [List.drop_set_of_lt (by omega), show o + 1 + vs.length = o + (vs.length + 1) by omega]
    rw [e1, e2, List.length_cons]
    simp
end Go.Proofs.YtecidbdbdnnglaaGreat

/- The program's: members in new memory. -/
namespace Go.Proofs.YtecidbdbdnnglaaGreat
open Go.RowKit

/-- The row g, new since w0, holds the numbers l and room for one more. -/
structure Copied (w0 w : World) (g : Nat) (l : List Int) : Prop where
  blk : w.heap[g]? = some (.cells (iC (l ++ [0])).toArray 3 (0, 0))
  lo : w0.heap.size ≤ g
  bel : Below w0.heap.size w0 w
theorem OwnedI.low {B : Nat} {w0 w1 w : World} {v : Value} {zs : List Int} (h : OwnedI w1.heap.size w1 w v zs) (hb : Below B w0 w1) (hB : B ≤ w1.heap.size) : OwnedI B w0 w v zs := by
  refine ⟨⟨h.own.1, ?_⟩, hb.trans (h.bel.mono hB), Nat.le_trans hB h.le⟩
  rcases h.own.2 with hn | ⟨g, cap, cur, hv, hg, hr⟩
  · exact .inl hn
  · exact .inr ⟨g, cap, cur, hv, Nat.le_trans hB hg, hr⟩
theorem Tryz.size3 : (Tryz.prog.info? 3).map (·.size) = some 1 := by kernel_rfl
set_option maxRecDepth 100000 in
theorem run_makeI (n m : Nat) (hnm : n ≤ m) (hm : m ≤ 1000) (u : World) : (Instr.makeSlice 22 (.int .i64 (n : Int)) (.int .i64 (m : Int))).run Tryz.prog u = .ok (.slice (some ⟨u.heap.size, 0, none⟩) n m) (u.alloc (.cells (iC (List.replicate m 0)).toArray 3)) := by
  obtain ⟨i0, hi0, hz0, hz1, hz2⟩ := info_parts Tryz.info3
  have h := run_make (P := Tryz.prog) u 22 3 i0 (.int .i64 0) Tryz.underlying22 hi0 hz0 .i64 .i64 n m (by omega) (by omega) (by rw [hz2]; omega) (by omega)
  rw [hz1, Int.toNat_natCast, Int.toNat_natCast, Nat.mul_one] at h
  rw [h]
  congr 4
  apply Array.ext'
  have h2 : (Value.int .i64 0).cells = #[.int .i64 0] := rfl
  rw [h2, toList_madeCells_one]
  show _ = iC _
  rw [iC, List.map_replicate]
theorem splice_copied (l : List Int) : splice (iC (List.replicate (l.length + 1) 0)) 0 (iC l) = iC (l ++ [0]) := by
  rw [splice, iC_len, iC_app]
  simp [iC]
theorem src_ints {w : World} {a : Option Addr} {l : List Int} {X : List Value} (h : IntsIn w a l) (h0 : 0 < l.length) (hX : X = iC l) : ∃ ad, a = some ad ∧ ∀ j v, X[j]? = some v → w.cell? (ad.add j) = some v := by
  subst hX
  rcases h with h | ⟨g, off, rfl, hg, hc⟩
  · rw [h] at h0; simp at h0
  · refine ⟨_, rfl, fun j v hv => ?_⟩
    obtain ⟨z, hz, rfl⟩ := iC_back l j v hv
    rw [Addr.add_lit]
    exact hc j z hz
set_option maxRecDepth 100000 in
theorem ccopied_any (a : Option Addr) (n cap : Nat) (l : List Int) (hn : l.length = n) (hs : n ≤ 10) (w : World) (hI : IntsIn w a l) :
    Calls Tryz.prog 133 #[.slice a n cap] w fun e w' => ∃ g, e = .returned (.slice (some ⟨g, 0, none⟩) n (n + 1)) ∧ Copied w w' g l := by
  have h10 : (n : Int) ≤ 10 := by omega
  have HI := hid hI
  have HN := hid hn
  have HMk : Hid (∀ u : World, (Instr.makeSlice 22 (.int .i64 (n : Int)) (.int .i64 ((n : Int) + 1))).run Tryz.prog u = .ok (.slice (some ⟨u.heap.size, 0, none⟩) n (n + 1)) (u.alloc (.cells (iC (List.replicate (n + 1) 0)).toArray 3))) := hid (fun u => run_makeI n (n + 1) (by omega) (by omega) u)
  obtain ⟨L, eL⟩ : ∃ L, L = iC (List.replicate (n + 1) 0) := ⟨_, rfl⟩
  rw [← eL] at HMk
  obtain ⟨X, eX⟩ : ∃ X, X = iC l := ⟨_, rfl⟩
  have HX := hid (And.intro eL eX)
  clear hI hn eL eX
  go_enter Tryz.func133, Tryz.ntmps133
  go_wp2_with (first
    | rw [HMk.out]
    | (refine wpList_copy_splice rfl _ _ 22 22 rfl 3 Tryz.underlying22 Tryz.size3 _ _ _ _ _ _ rfl rfl w.heap.size 0 L 3 (heap_alloc_last w _) X (by rw [HX.out.2, iC_len, HN.out]; exact (Nat.min_self n).symm) (fun h => ⟨rfl, by rw [HX.out.2, iC_len] at h; exact src_ints ((HI.out.alloc _)) h HX.out.2⟩) (by rw [HX.out.1, HX.out.2, iC_len, iC_len, List.length_replicate, HN.out]; omega) (by rw [HX.out.2]; exact iC_one _) w.heap.size w ((Below.refl _ _).alloc (Nat.le_refl _) _) (Nat.le_refl _) ?_
       intro w2 h2 hb2
       have H2 := hid (And.intro h2.out hb2)
       clear h2 hb2))
  go_ret
  refine ⟨_, rfl, ⟨?_, Nat.le_refl _, H2.out.2⟩⟩
  rw [H2.out.1, HX.out.1, HX.out.2, ← HN.out, splice_copied]
theorem own_of_blk {B : Nat} {w0 w : World} {g cap n : Nat} {zs : List Int} {rest : List Value} (h : w.heap[g]? = some (.cells (iC zs ++ rest).toArray 3 (0, 0))) (hB : B ≤ g) (hc : zs.length + rest.length = cap) (hm : cap ≤ maxLen) (hn : n = zs.length) (hb : Below B w0 w) : OwnedI B w0 w (.slice (some ⟨g, 0, none⟩) n cap) zs := by
  subst hn
  refine ⟨⟨by rw [iC_len, Nat.mul_one], .inr ⟨g, cap, _, rfl, hB, h, by omega, hm, by simp [iC]; omega, ?_⟩⟩, hb, by have := lt_of_blk h; omega⟩
  rw [Nat.mul_one]
  simp [iC]
theorem below_drew (B : Nat) (w : World) : Below B w w.drew := ⟨rfl, rfl, rfl, Nat.le_refl _, fun _ _ => rfl⟩
theorem below_sets {B b : Nat} {a : World} (hb : B ≤ b) : ∀ (vs : List Value) (o : Nat) (w : World), Below B a w → Below B a (w.setCells b o vs)
  | [], _, _, h => h
  | v :: vs, o, _, h => below_sets hb vs (o + 1) _ (h.setCell (p := ⟨b, o, none⟩) hb v)
theorem shift_cells (A D : List Value) (z v : Value) (p : Nat) (hA : A.length = p) :
    (((A ++ (D ++ [z])).take (p + 1) ++ D ++ (A ++ (D ++ [z])).drop (p + 1 + D.length)).take p ++ [v] ++ ((A ++ (D ++ [z])).take (p + 1) ++ D ++ (A ++ (D ++ [z])).drop (p + 1 + D.length)).drop (p + 1)) = A ++ [v] ++ D := by
  have e1 : (A ++ (D ++ [z])).drop (p + 1 + D.length) = [] := List.drop_eq_nil_of_le (by simp; omega)
  have l1 : ((A ++ (D ++ [z])).take (p + 1)).length = p + 1 := by rw [List.length_take]; simp; omega
  rw [e1, List.append_nil, List.take_append_of_le_length (by omega), List.take_take, Nat.min_eq_left (by omega), List.take_left' hA, List.drop_left' l1]
theorem insert_any (w0 w : World) (g n p : Nat) (l : List Int) (id : Int) (hC : Copied w0 w g l) (hn : l.length = n) (hs : n ≤ 10) (hp : p ≤ n) :
    Calls Tryz.prog 132 #[.slice (some ⟨g, 0, none⟩) n (n + 1), .int .i64 (p : Int), .slice (some ⟨w.heap.size, 0, none⟩) 1 1] (w.alloc (.cells #[.int .i64 id] 3)) fun e w' => ∃ v, e = .returned v ∧ OwnedI w0.heap.size w0 w' v (l.take p ++ [id] ++ l.drop p) := by
  obtain ⟨W, eW⟩ : ∃ W, W = w.alloc (.cells #[.int .i64 id] 3) := ⟨_, rfl⟩
  have hgl := lt_of_blk hC.blk
  have hW : W.heap[g]? = some (.cells (iC (l ++ [0])).toArray 3 (0, 0)) := by rw [eW]; exact (Below.heap_alloc w _ g hgl).trans hC.blk
  have hV : W.heap[w.heap.size]? = some (.cells ([.int .i64 id] : List Value).toArray 3 (0, 0)) := by rw [eW]; exact heap_alloc_last w _
  have hB : Below w0.heap.size w0 W := by rw [eW]; exact hC.bel.alloc hC.bel.size _
  rw [← eW]
  have hcells : ∀ j v, (iC (l ++ [0]))[j]? = some v → W.cell? ⟨g, j, none⟩ = some v := fun j v hv => cell_at hW j v hv
  have hll : (iC (l ++ [0])).length = n + 1 := by rw [iC_len, List.length_append, hn]; rfl
  have hvs : ∀ j v, ([Value.int .i64 id] : List Value)[j]? = some v → W.cell? ⟨w.heap.size, 0 + j, none⟩ = some v := fun j v hv => by rw [Nat.zero_add]; exact cell_at hV j v hv
  have h1v : ∀ v ∈ ([Value.int .i64 id] : List Value), v.oneCell' = true := fun v hv => by rw [List.mem_singleton.1 hv]; rfl
  by_cases hpn : p = n
  · subst hpn
    refine (Any2.slices_Insert_int_end_room layL2n21 g 0 p (p + 1) w.heap.size 0 1 1 [.int .i64 id] W (by omega) (by omega) (by omega) rfl (fun j hj => ?_) (fun j _ => free_at hW _) hvs h1v).mono ?_
    · rw [hcells _ _ (List.getElem?_eq_getElem (show 0 + p + j < _ by rw [hll]; omega))]; rfl
    rintro e w' ⟨rfl, rfl⟩
    refine ⟨_, rfl, own_of_blk (rest := []) ((sets_blk [.int .i64 id] (0 + p) W _ hW (by rw [hll]; simp)).trans ?_) hC.lo (by simp; omega) (by unfold maxLen; omega) (by simp; omega) (below_sets hC.lo _ _ _ hB)⟩
    have e1 : (iC (l ++ [0])).take (0 + p) = iC l := by rw [iC_app, Nat.zero_add, List.take_left' (by rw [iC_len, hn])]
    have e2 : (iC (l ++ [0])).drop (0 + p + [Value.int .i64 id].length) = [] := List.drop_eq_nil_of_le (by rw [hll]; simp)
    rw [e1, e2, List.take_of_length_le (by omega), List.drop_eq_nil_of_le (by omega)]
    simp [iC]
  · refine (Any2.slices_Insert_int_shift layL2n21 g 0 n (n + 1) p w.heap.size 0 1 1 (iC l) [.int .i64 id] W (by omega) (by omega) (by omega) (by omega) (by omega) (by rw [iC_len, hn]) rfl (fun j v hv => ?_) (fun j hj => ?_) (fun j _ => free_at hW _) hvs (iC_one _) h1v 3 3 1 (n + 1) (by rw [World.shape?, hV]; rfl) (by rw [World.shape?, hW]; simp [hll]) (by omega) (free_at hV _) (free_at hV _)).mono ?_
    · rw [Nat.zero_add]
      refine hcells j v ?_
      rw [iC_app, List.getElem?_append_left (by have := (List.getElem?_eq_some_iff.1 hv).1; exact this)]
      exact hv
    · rw [Nat.zero_add, hcells _ _ (List.getElem?_eq_getElem (show j < _ by rw [hll]; omega))]; rfl
    rintro e w' ⟨rfl, rfl⟩
    have k1 := sets_blk ((iC l).drop p) (0 + (p + 1)) W.drew _ hW (by rw [hll, List.length_drop, iC_len]; omega)
    have k2 := sets_blk [.int .i64 id] (0 + p) _ _ k1 (by simp [iC_len]; omega)
    refine ⟨_, rfl, own_of_blk (rest := []) (k2.trans ?_) hC.lo (by simp; omega) (by unfold maxLen; omega) (by simp; omega) (below_sets hC.lo _ _ _ (below_sets hC.lo _ _ _ (hB.trans (below_drew _ _))))⟩
    have e0 : iC (l ++ [0]) = iC (l.take p) ++ (iC (l.drop p) ++ iC [0]) := by rw [← iC_app, ← iC_app, ← List.append_assoc, List.take_append_drop]
    have e1 : (iC l).drop p = iC (l.drop p) := by rw [iC, iC, List.map_drop]
    have lp : (iC (l.take p)).length = p := by rw [iC_len, List.length_take]; omega
    have ld : (iC (l.drop p)).length = n - p := by rw [iC_len, List.length_drop]; omega
    congr 2
    rw [e1, e0, Nat.zero_add, Nat.zero_add]
    have := shift_cells (iC (l.take p)) (iC (l.drop p)) (.int .i64 0) (.int .i64 id) p lp
    refine (congrArg List.toArray this).trans ?_
    rw [List.append_nil, iC_app, iC_app]
    rfl
theorem delete_any (w0 w : World) (g n p : Nat) (l : List Int) (hC : Copied w0 w g l) (hn : l.length = n) (hs : n ≤ 10) (hp : p < n) :
    Calls Tryz.prog 134 #[.slice (some ⟨g, 0, none⟩) n (n + 1), .int .i64 (p : Int), .int .i64 ((p : Int) + 1)] w fun e w' => ∃ v, e = .returned v ∧ OwnedI w0.heap.size w0 w' v (l.take p ++ l.drop (p + 1)) := by
  have hll : (iC (l ++ [0])).length = n + 1 := by rw [iC_len, List.length_append, hn]; rfl
  have hH : Sort.Holds (Value.int .i64) w g 0 l.toArray := fun j hj => by
    have hj' : j < l.length := by simpa using hj
    refine ⟨?_, free_at hC.blk _⟩
    rw [Nat.zero_add]
    refine cell_at hC.blk j _ ?_
    rw [iC_app, List.getElem?_append_left (by rw [iC_len]; exact hj'), iC_get l j _ (List.getElem?_eq_getElem hj')]
    simp [hj']
  have h := Any.slices_Delete_int layL2n23 g 0 (n + 1) p (p + 1) l w hH (by omega) (by omega) (by omega) (by omega)
  rw [hn] at h
  refine h.mono ?_
  rintro e w' ⟨rfl, q, rfl⟩
  have hnew : (l.take p ++ l.drop (p + 1) ++ List.replicate (p + 1 - p) 0).length = l.toArray.size := by simp; omega
  rw [Lib.putRow_eq_setCells (Value.int .i64) w g 0 l.toArray _ q hH hnew]
  have k1 := sets_blk ((l.take p ++ l.drop (p + 1) ++ List.replicate (p + 1 - p) 0).map (Value.int .i64)) 0 (w.drewN q) _ hC.blk (by rw [hll, List.length_map, hnew]; simp; omega)
  refine ⟨_, rfl, own_of_blk (rest := [.int .i64 0, .int .i64 0]) (k1.trans ?_) hC.lo (by simp; omega) (by unfold maxLen; omega) (by simp; omega) (below_sets hC.lo _ _ _ (hC.bel.trans ⟨rfl, rfl, rfl, Nat.le_refl _, fun _ _ => rfl⟩))⟩
  congr 2
  have e2 : (iC (l ++ [0])).drop (0 + ((l.take p ++ l.drop (p + 1) ++ List.replicate (p + 1 - p) 0).map (Value.int .i64)).length) = [.int .i64 0] := by
    rw [List.length_map, hnew, iC_app, Nat.zero_add]
    exact List.drop_left' (by rw [iC_len]; rfl)
  rw [e2, show p + 1 - p = 1 by omega]
  simp [iC]
end Go.Proofs.YtecidbdbdnnglaaGreat

/- The program's: who may be a member, which members are right. -/
namespace Go.Proofs.YtecidbdbdnnglaaGreat
open Go.RowKit

def isIdB (id : Int) : Bool := decide (0 ≤ id ∧ id < 16)
theorem cisID_any (id : Int) (w : World) : Calls Tryz.prog 102 #[.int .i64 id] w fun e w' => e = .returned (.bool (isIdB id)) ∧ w' = w := by
  by_cases h0 : 0 ≤ id
  · by_cases h1 : id < 16
    · have HF : Hid (isIdB id = true) := hid (decide_eq_true ⟨h0, h1⟩)
      rw [HF.out]
      go_enter Tryz.func102, Tryz.ntmps102
      go_wp2
      go_ret
      exact ⟨rfl, rfl⟩
    · have HF : Hid (isIdB id = false) := hid (decide_eq_false (fun h => h1 h.2))
      rw [HF.out]
      go_enter Tryz.func102, Tryz.ntmps102
      go_wp2
      go_ret
      exact ⟨rfl, rfl⟩
  · have HF : Hid (isIdB id = false) := hid (decide_eq_false (fun h => h0 h.1))
    rw [HF.out]
    go_enter Tryz.func102, Tryz.ntmps102
    go_wp2
    go_ret
    exact ⟨rfl, rfl⟩
set_option maxRecDepth 100000 in
set_option maxHeartbeats 3200000 in
theorem careRight_any (a : Option Addr) (n cap : Nat) (l : List Int) (hn : l.length = n) (hm : n ≤ maxLen) (w : World) (hI : IntsIn w a l) :
    Calls Tryz.prog 65 #[.slice a n cap] w fun e w' => e = .returned (.bool (memB l)) ∧ Below w.heap.size w w' := by
  have hm2 : (n : Int) ≤ 9223372036854775807 := by unfold maxLen at hm; omega
  have HI := hid hI
  have HN := hid hn
  clear hI hm hn
  by_cases h4 : n < 4
  · have k4 : (n : Int) < 4 := by omega
    have HF : Hid (memB l = false) := hid (by rw [memB, HN.out, decide_eq_false (fun h => by omega)]; simp)
    rw [HF.out]
    go_enter Tryz.func65, Tryz.ntmps65
    go_wp2
    go_ret
    exact ⟨rfl, Below.refl _ _⟩
  by_cases h10 : 10 < n
  · have k4 : ¬ ((n : Int) < 4) := by omega
    have k10 : (10 : Int) < (n : Int) := by omega
    have HF : Hid (memB l = false) := hid (by rw [memB, HN.out, decide_eq_false (fun h => by omega)]; simp)
    rw [HF.out]
    go_enter Tryz.func65, Tryz.ntmps65
    go_wp2
    go_ret
    exact ⟨rfl, Below.refl _ _⟩
  have k4 : ¬ ((n : Int) < 4) := by omega
  have k10 : ¬ ((10 : Int) < (n : Int)) := by omega
  have HQ := hid (And.intro h4 h10)
  clear h4 h10
  go_enter Tryz.func65, Tryz.ntmps65
  go_wp2
  go_loopw [15] (fun i wr => ∃ j : Nat, j ≤ n ∧ i = .int .i64 (j : Int) ∧ okTo l j = true ∧ wr = w)
    (fun i _ => ((n : Int) - intOf i).toNat)
  case atStart => exact ⟨0, by omega, rfl, rfl, rfl⟩
  case round =>
    obtain ⟨j, hj, rfl, hok, rfl⟩ := hrel
    by_cases hjn : j = n
    · have hj1 : ¬ ((j : Int) < (n : Int)) := by omega
      rw [hjn] at hok
      have HF : Hid (memB l = true) := hid (by have hq := HQ.out; rw [memB, HN.out, hok, decide_eq_true (And.intro (by omega) (by omega))]; rfl)
      clear hok hj hjn
      go_wp2
      go_ret
      exact ⟨by rw [HF.out]; rfl, Below.refl _ _⟩
    · have hj1 : (j : Int) < (n : Int) := by omega
      have hj0 : (0 : Int) ≤ (j : Int) := Int.natCast_nonneg _
      have hget : l[j]? = some (l.getD j 0) := by rw [List.getD_eq_getElem?_getD, List.getElem?_eq_getElem (by rw [HN.out]; omega)]; rfl
      obtain ⟨g, off, rfl, hg, hcell⟩ := HI.out.at j _ hget
      obtain ⟨x, ex⟩ : ∃ x, x = l.getD j 0 := ⟨_, rfl⟩
      rw [← ex] at hcell
      clear hget
      cases hx : isIdB x with
      | false =>
        have hx2 := of_decide_eq_false hx
        have HC : Hid (∀ u : World, Calls Tryz.prog 102 #[.int .i64 x] u fun e w' => e = .returned (.bool false) ∧ w' = u) := hid (fun u => by rw [← hx]; exact cisID_any x u)
        have HF : Hid (okTo l n = false) := hid (okTo_false l (j + 1) n (by rw [okTo_succ, okAt_no1 l j (by rw [← ex]; exact hx2)]; simp) (by omega))
        clear hok hj hjn ex hx hx2 hg
        go_wp2_with (go_at_call 102; refine (HC.out _).mono ?_; rintro e wx ⟨rfl, rfl⟩)
        go_ret
        exact ⟨by rw [memB, HN.out, HF.out]; rfl, Below.refl _ _⟩
      | true =>
        have hx2 := of_decide_eq_true hx
        have HC : Hid (∀ u : World, Calls Tryz.prog 102 #[.int .i64 x] u fun e w' => e = .returned (.bool true) ∧ w' = u) := hid (fun u => by rw [← hx]; exact cisID_any x u)
        by_cases hz : j = 0
        · have d4 : ¬ ((0 : Int) < (j : Int)) := by omega
          have HF : Hid (okTo l (j + 1) = true) := hid (by rw [okTo_succ, hok, show okAt l j = true by (have hx : l.getD 0 0 = x := by rw [ex, hz]); rw [hz]; exact okAt_yes0 l (by rw [hx]; exact hx2)]; rfl)
          have HJ := hid (And.intro hj hjn)
          clear hok hj hjn ex hz hx hx2 hg
          go_wp2_with (go_at_call 102; refine (HC.out _).mono ?_; rintro e wx ⟨rfl, rfl⟩)
          go_roundw
          case rel => exact ⟨j + 1, by have := HJ.out; omega, by go_num, HF.out, by first | exact rfl | exact trivial⟩
          case measure => simp [intOf]; omega
        · obtain ⟨i, rfl⟩ : ∃ i, j = i + 1 := ⟨j - 1, by omega⟩
          have hgetp : l[i]? = some (l.getD i 0) := by rw [List.getD_eq_getElem?_getD, List.getElem?_eq_getElem (by rw [HN.out]; omega)]; rfl
          obtain ⟨g', off', eg, hg', hcellp⟩ := HI.out.at i _ hgetp
          obtain ⟨rfl, rfl⟩ : g = g' ∧ off = off' := by simp at eg; exact eg
          obtain ⟨y, ey⟩ : ∃ y, y = l.getD i 0 := ⟨_, rfl⟩
          rw [← ey] at hcellp
          have hi0 : (0 : Int) < ((i + 1 : Nat) : Int) := by omega
          have hi1 : (i : Int) < (n : Int) := by omega
          have hi2 : (0 : Int) ≤ (i : Int) := by omega
          clear hgetp eg hz hg hg' hx
          by_cases hxy : x ≤ y
          · have HF : Hid (okTo l n = false) := hid (okTo_false l (i + 1 + 1) n (by rw [okTo_succ, okAt_no2 l (i + 1) (by omega) (by rw [← ex, show i + 1 - 1 = i from rfl, ← ey]; omega)]; simp) (by omega))
            clear hok hj hjn ex ey hx2
            go_wp2_with (go_at_call 102; refine (HC.out _).mono ?_; rintro e wx ⟨rfl, rfl⟩)
            go_ret
            exact ⟨by rw [memB, HN.out, HF.out]; rfl, Below.refl _ _⟩
          · have HF : Hid (okTo l (i + 1 + 1) = true) := hid (by rw [okTo_succ, hok, okAt_yes l (i + 1) (by rw [← ex]; exact hx2) (by rw [← ex, show i + 1 - 1 = i from rfl, ← ey]; omega)]; rfl)
            have HJ := hid (And.intro hj hjn)
            clear hok hj hjn ex ey hx2
            go_wp2_with (go_at_call 102; refine (HC.out _).mono ?_; rintro e wx ⟨rfl, rfl⟩)
            go_roundw
            case rel => exact ⟨i + 1 + 1, by have := HJ.out; omega, by go_num, HF.out, by first | exact rfl | exact trivial⟩
            case measure => simp [intOf]; omega
end Go.Proofs.YtecidbdbdnnglaaGreat

/- The program's: who joins, who leaves. -/
namespace Go.Proofs.YtecidbdbdnnglaaGreat
open Go.RowKit

set_option maxRecDepth 100000 in
set_option maxHeartbeats 3200000 in
theorem cjoin_any (a : Option Addr) (n cap : Nat) (l : List Int) (hn : l.length = n) (hm : n ≤ maxLen) (id : Int) (w : World) (hI : IntsIn w a l) :
    Calls Tryz.prog 120 #[.slice a n cap, .int .i64 id] w fun e w' => ∃ v, e = .returned (.tuple #[v, .int .i64 (joinE l id)]) ∧ OwnedI w.heap.size w w' v (joinR l id) := by
  have hMm := careRight_any a n cap l hn hm w hI
  have HI := hid hI
  cases hmb : memB l with
  | false =>
    rw [hmb] at hMm
    have HM := hid hMm
    have HE : Hid (joinE l id = 1) := hid (by rw [joinE, if_pos (fun h => by rw [hmb] at h; exact absurd h.1 (by decide))])
    have HRn : Hid (joinR l id = []) := hid (by rw [joinR, HE.out]; rfl)
    rw [HE.out, HRn.out]
    clear hmb hI hn hm hMm
    go_enter Tryz.func120, Tryz.ntmps120
    go_wp2_with (go_at_call 65; refine HM.out.mono ?_; rintro e w1 ⟨rfl, hb1⟩; have H1 := hid hb1; clear hb1)
    go_ret2
    exact ⟨_, rfl, OwnedI.nil H1.out H1.out.size⟩
  | true =>
    rw [hmb] at hMm
    have HM := hid hMm
    have hlen := mem_len hmb
    rw [hn] at hlen
    cases hid1 : isIdB id with
    | false =>
      have HD : Hid (∀ u : World, Calls Tryz.prog 102 #[.int .i64 id] u fun e w' => e = .returned (.bool false) ∧ w' = u) := hid (fun u => by rw [← hid1]; exact cisID_any id u)
      have HE : Hid (joinE l id = 1) := hid (by rw [joinE, if_pos (fun h => of_decide_eq_false hid1 h.2)])
      have HRn : Hid (joinR l id = []) := hid (by rw [joinR, HE.out]; rfl)
      rw [HE.out, HRn.out]
      clear hmb hI hn hm hMm hlen hid1
      go_enter Tryz.func120, Tryz.ntmps120
      go_wp2_with (first
        | (go_at_call 65; refine HM.out.mono ?_; rintro e w1 ⟨rfl, hb1⟩; have H1 := hid hb1; clear hb1)
        | (go_at_call 102; refine (HD.out _).mono ?_; rintro e wx ⟨rfl, rfl⟩))
      go_ret2
      exact ⟨_, rfl, OwnedI.nil H1.out H1.out.size⟩
    | true =>
      have HD : Hid (∀ u : World, Calls Tryz.prog 102 #[.int .i64 id] u fun e w' => e = .returned (.bool true) ∧ w' = u) := hid (fun u => by rw [← hid1]; exact cisID_any id u)
      have h16 := of_decide_eq_true hid1
      have hg : ¬ ¬ (memB l = true ∧ 0 ≤ id ∧ id < 16) := fun h => h ⟨hmb, h16.1, h16.2⟩
      have hS : ∀ (b : Bool), hasM l id = b → ∀ u : World, IntsIn u a l → Calls Tryz.prog 131 #[.slice a n cap, .int .i64 id] u fun e w' => e = .returned (.tuple #[.int .i64 (placeN l id : Int), .bool b]) ∧ Below u.heap.size u w' := fun b hb u hu => by rw [← hb]; exact search_any a n cap l hn hmb id u hu
      cases hh : hasM l id with
      | true =>
        have HS := hid (hS true hh)
        have HE : Hid (joinE l id = 7) := hid (by rw [joinE, if_neg hg, if_pos hh])
        have HRn : Hid (joinR l id = []) := hid (by rw [joinR, HE.out]; rfl)
        rw [HE.out, HRn.out]
        clear hmb hI hn hm hMm hlen hid1 hg hh hS h16
        go_enter Tryz.func120, Tryz.ntmps120
        go_wp2_with (first
          | (go_at_call 65; refine HM.out.mono ?_; rintro e w1 ⟨rfl, hb1⟩; have H1 := hid hb1; clear hb1)
          | (go_at_call 102; refine (HD.out _).mono ?_; rintro e wx ⟨rfl, rfl⟩)
          | (go_at_call 131; refine (HS.out _ (by exact HI.out.keep H1.out (Nat.le_refl _))).mono ?_; rintro e w2 ⟨rfl, hb2⟩; have H2 := hid (H1.out.trans (hb2.mono H1.out.size)); clear hb2))
        go_ret2
        exact ⟨_, rfl, OwnedI.nil H2.out H2.out.size⟩
      | false =>
        have HS := hid (hS false hh)
        have hhn : ¬ (hasM l id = true) := by rw [hh]; decide
        by_cases hb : 10 ≤ n
        · have hb1 : (n : Int) = 10 := by omega
          have HE : Hid (joinE l id = 10) := hid (by rw [joinE, if_neg hg, if_neg hhn, hn, if_pos hb])
          have HRn : Hid (joinR l id = []) := hid (by rw [joinR, HE.out]; rfl)
          rw [HE.out, HRn.out]
          clear hmb hI hn hm hMm hlen hid1 hg hh hS h16 hhn hb
          go_enter Tryz.func120, Tryz.ntmps120
          go_wp2_with (first
            | (go_at_call 65; refine HM.out.mono ?_; rintro e w1 ⟨rfl, hb1⟩; have H1 := hid hb1; clear hb1)
            | (go_at_call 102; refine (HD.out _).mono ?_; rintro e wx ⟨rfl, rfl⟩)
            | (go_at_call 131; refine (HS.out _ (by exact HI.out.keep H1.out (Nat.le_refl _))).mono ?_; rintro e w2 ⟨rfl, hb2⟩; have H2 := hid (H1.out.trans (hb2.mono H1.out.size)); clear hb2))
          go_ret2
          exact ⟨_, rfl, OwnedI.nil H2.out H2.out.size⟩
        · have hb1 : ¬ ((n : Int) = 10) := by omega
          have HE : Hid (joinE l id = 0) := hid (by rw [joinE, if_neg hg, if_neg hhn, hn, if_neg hb])
          have HRn : Hid (joinR l id = l.take (placeN l id) ++ [id] ++ l.drop (placeN l id)) := hid (by rw [joinR, HE.out, ← join_put hmb h16 hh]; rfl)
          rw [HE.out, HRn.out]
          have HP : Hid (placeN l id ≤ n) := hid (by rw [← hn]; exact place_le l id)
          have HCp : Hid (∀ u : World, IntsIn u a l → Calls Tryz.prog 133 #[.slice a n cap] u fun e w' => ∃ g, e = .returned (.slice (some ⟨g, 0, none⟩) n (n + 1)) ∧ Copied u w' g l) := hid (fun u hu => ccopied_any a n cap l hn (by omega) u hu)
          generalize placeN l id = p at HS HP HRn ⊢
          have HIn : Hid (∀ (u u' : World) (g : Nat), Copied u u' g l → Calls Tryz.prog 132 #[.slice (some ⟨g, 0, none⟩) n (n + 1), .int .i64 (p : Int), .slice (some ⟨u'.heap.size, 0, none⟩) 1 1] (u'.alloc (.cells #[.int .i64 id] 3)) fun e w' => ∃ v, e = .returned v ∧ OwnedI u.heap.size u w' v (l.take p ++ [id] ++ l.drop p)) := hid (fun u u' g hc => insert_any u u' g n p l id hc hn (by omega) HP.out)
          generalize l.take p ++ [id] ++ l.drop p = R at HIn HRn ⊢
          clear hmb hI hm hMm hid1 hg hh hS h16 hhn hb
          go_enter Tryz.func120, Tryz.ntmps120
          go_wp2_with (first
            | (go_at_call 65; refine HM.out.mono ?_; rintro e w1 ⟨rfl, hb1⟩; have H1 := hid hb1; clear hb1)
            | (go_at_call 102; refine (HD.out _).mono ?_; rintro e wx ⟨rfl, rfl⟩)
            | (go_at_call 131; refine (HS.out _ (by exact HI.out.keep H1.out (Nat.le_refl _))).mono ?_; rintro e w2 ⟨rfl, hb2⟩; have H2 := hid (H1.out.trans (hb2.mono H1.out.size)); clear hb2)
            | (go_at_call 133; refine (HCp.out _ (by exact HI.out.keep H2.out (Nat.le_refl _))).mono ?_; rintro e w3 ⟨g, rfl, hb3⟩; have H3 := hid hb3; clear hb3)
            | (go_at_call 132; refine (HIn.out _ _ _ (by exact H3.out)).mono ?_; rintro e w4 ⟨v4, rfl, hb4⟩; have H4 := hid hb4; clear hb4))
          go_ret2
          exact ⟨_, rfl, H4.out.low H2.out H2.out.size⟩
set_option maxRecDepth 100000 in
set_option maxHeartbeats 3200000 in
theorem cleave_any (a : Option Addr) (n cap : Nat) (l : List Int) (hn : l.length = n) (hm : n ≤ maxLen) (id : Int) (w : World) (hI : IntsIn w a l) :
    Calls Tryz.prog 121 #[.slice a n cap, .int .i64 id] w fun e w' => ∃ v, e = .returned (.tuple #[v, .int .i64 (leaveE l id)]) ∧ OwnedI w.heap.size w w' v (leaveR l id) := by
  have hMm := careRight_any a n cap l hn hm w hI
  have HI := hid hI
  cases hmb : memB l with
  | false =>
    rw [hmb] at hMm
    have HM := hid hMm
    have HE : Hid (leaveE l id = 1) := hid (by rw [leaveE, if_pos (fun h => by rw [hmb] at h; exact absurd h.1 (by decide))])
    have HRn : Hid (leaveR l id = []) := hid (by rw [leaveR, HE.out]; rfl)
    rw [HE.out, HRn.out]
    clear hmb hI hn hm hMm
    go_enter Tryz.func121, Tryz.ntmps121
    go_wp2_with (go_at_call 65; refine HM.out.mono ?_; rintro e w1 ⟨rfl, hb1⟩; have H1 := hid hb1; clear hb1)
    go_ret2
    exact ⟨_, rfl, OwnedI.nil H1.out H1.out.size⟩
  | true =>
    rw [hmb] at hMm
    have HM := hid hMm
    have hlen := mem_len hmb
    rw [hn] at hlen
    cases hid1 : isIdB id with
    | false =>
      have HD : Hid (∀ u : World, Calls Tryz.prog 102 #[.int .i64 id] u fun e w' => e = .returned (.bool false) ∧ w' = u) := hid (fun u => by rw [← hid1]; exact cisID_any id u)
      have HE : Hid (leaveE l id = 1) := hid (by rw [leaveE, if_pos (fun h => of_decide_eq_false hid1 h.2)])
      have HRn : Hid (leaveR l id = []) := hid (by rw [leaveR, HE.out]; rfl)
      rw [HE.out, HRn.out]
      clear hmb hI hn hm hMm hlen hid1
      go_enter Tryz.func121, Tryz.ntmps121
      go_wp2_with (first
        | (go_at_call 65; refine HM.out.mono ?_; rintro e w1 ⟨rfl, hb1⟩; have H1 := hid hb1; clear hb1)
        | (go_at_call 102; refine (HD.out _).mono ?_; rintro e wx ⟨rfl, rfl⟩))
      go_ret2
      exact ⟨_, rfl, OwnedI.nil H1.out H1.out.size⟩
    | true =>
      have HD : Hid (∀ u : World, Calls Tryz.prog 102 #[.int .i64 id] u fun e w' => e = .returned (.bool true) ∧ w' = u) := hid (fun u => by rw [← hid1]; exact cisID_any id u)
      have h16 := of_decide_eq_true hid1
      have hg : ¬ ¬ (memB l = true ∧ 0 ≤ id ∧ id < 16) := fun h => h ⟨hmb, h16.1, h16.2⟩
      have hS : ∀ (b : Bool), hasM l id = b → ∀ u : World, IntsIn u a l → Calls Tryz.prog 131 #[.slice a n cap, .int .i64 id] u fun e w' => e = .returned (.tuple #[.int .i64 (placeN l id : Int), .bool b]) ∧ Below u.heap.size u w' := fun b hb u hu => by rw [← hb]; exact search_any a n cap l hn hmb id u hu
      cases hh : hasM l id with
      | false =>
        have HS := hid (hS false hh)
        have HE : Hid (leaveE l id = 8) := hid (by rw [leaveE, if_neg hg, if_pos hh])
        have HRn : Hid (leaveR l id = []) := hid (by rw [leaveR, HE.out]; rfl)
        rw [HE.out, HRn.out]
        clear hmb hI hn hm hMm hlen hid1 hg hh hS h16
        go_enter Tryz.func121, Tryz.ntmps121
        go_wp2_with (first
          | (go_at_call 65; refine HM.out.mono ?_; rintro e w1 ⟨rfl, hb1⟩; have H1 := hid hb1; clear hb1)
          | (go_at_call 102; refine (HD.out _).mono ?_; rintro e wx ⟨rfl, rfl⟩)
          | (go_at_call 131; refine (HS.out _ (by exact HI.out.keep H1.out (Nat.le_refl _))).mono ?_; rintro e w2 ⟨rfl, hb2⟩; have H2 := hid (H1.out.trans (hb2.mono H1.out.size)); clear hb2))
        go_ret2
        exact ⟨_, rfl, OwnedI.nil H2.out H2.out.size⟩
      | true =>
        have HS := hid (hS true hh)
        have hhn : ¬ (hasM l id = false) := by rw [hh]; decide
        by_cases hb : n ≤ 4
        · have hb1 : (n : Int) = 4 := by omega
          have HE : Hid (leaveE l id = 9) := hid (by rw [leaveE, if_neg hg, if_neg hhn, hn, if_pos hb])
          have HRn : Hid (leaveR l id = []) := hid (by rw [leaveR, HE.out]; rfl)
          rw [HE.out, HRn.out]
          clear hmb hI hn hm hMm hlen hid1 hg hh hS h16 hhn hb
          go_enter Tryz.func121, Tryz.ntmps121
          go_wp2_with (first
            | (go_at_call 65; refine HM.out.mono ?_; rintro e w1 ⟨rfl, hb1⟩; have H1 := hid hb1; clear hb1)
            | (go_at_call 102; refine (HD.out _).mono ?_; rintro e wx ⟨rfl, rfl⟩)
            | (go_at_call 131; refine (HS.out _ (by exact HI.out.keep H1.out (Nat.le_refl _))).mono ?_; rintro e w2 ⟨rfl, hb2⟩; have H2 := hid (H1.out.trans (hb2.mono H1.out.size)); clear hb2))
          go_ret2
          exact ⟨_, rfl, OwnedI.nil H2.out H2.out.size⟩
        · have hb1 : ¬ ((n : Int) = 4) := by omega
          have HE : Hid (leaveE l id = 0) := hid (by rw [leaveE, if_neg hg, if_neg hhn, hn, if_neg hb])
          obtain ⟨hpl, hcut⟩ := leave_cut id (mem_inc hmb) (of_decide_eq_true hh)
          have HRn : Hid (leaveR l id = l.take (placeN l id) ++ l.drop (placeN l id + 1)) := hid (by rw [leaveR, HE.out, ← hcut]; rfl)
          rw [HE.out, HRn.out]
          have HP : Hid (placeN l id < n) := hid (by rw [← hn]; exact hpl)
          have HCp : Hid (∀ u : World, IntsIn u a l → Calls Tryz.prog 133 #[.slice a n cap] u fun e w' => ∃ g, e = .returned (.slice (some ⟨g, 0, none⟩) n (n + 1)) ∧ Copied u w' g l) := hid (fun u hu => ccopied_any a n cap l hn (by omega) u hu)
          generalize placeN l id = p at HS HP HRn hpl hcut ⊢
          have hp10 : (p : Int) ≤ 10 := by omega
          have HIn : Hid (∀ (u u' : World) (g : Nat), Copied u u' g l → Calls Tryz.prog 134 #[.slice (some ⟨g, 0, none⟩) n (n + 1), .int .i64 (p : Int), .int .i64 ((p : Int) + 1)] u' fun e w' => ∃ v, e = .returned v ∧ OwnedI u.heap.size u w' v (l.take p ++ l.drop (p + 1))) := hid (fun u u' g hc => delete_any u u' g n p l hc hn (by omega) HP.out)
          generalize l.take p ++ l.drop (p + 1) = R at HIn HRn ⊢
          clear hmb hI hm hMm hid1 hg hh hS h16 hhn hb hpl hcut
          go_enter Tryz.func121, Tryz.ntmps121
          go_wp2_with (first
            | (go_at_call 65; refine HM.out.mono ?_; rintro e w1 ⟨rfl, hb1⟩; have H1 := hid hb1; clear hb1)
            | (go_at_call 102; refine (HD.out _).mono ?_; rintro e wx ⟨rfl, rfl⟩)
            | (go_at_call 131; refine (HS.out _ (by exact HI.out.keep H1.out (Nat.le_refl _))).mono ?_; rintro e w2 ⟨rfl, hb2⟩; have H2 := hid (H1.out.trans (hb2.mono H1.out.size)); clear hb2)
            | (go_at_call 133; refine (HCp.out _ (by exact HI.out.keep H2.out (Nat.le_refl _))).mono ?_; rintro e w3 ⟨g, rfl, hb3⟩; have H3 := hid hb3; clear hb3)
            | (go_at_call 134; refine (HIn.out _ _ _ (by exact H3.out)).mono ?_; rintro e w4 ⟨v4, rfl, hb4⟩; have H4 := hid hb4; clear hb4))
          go_ret2
          exact ⟨_, rfl, H4.out.low H2.out H2.out.size⟩
end Go.Proofs.YtecidbdbdnnglaaGreat

/- The program's counts. -/
namespace Go.Proofs.YtecidbdbdnnglaaGreat
open Go.RowKit

end Go.Proofs.YtecidbdbdnnglaaGreat

/- The program's council: which configurations are right. -/
namespace Go.Proofs.YtecidbdbdnnglaaGreat
open Go.RowKit

set_option maxRecDepth 100000 in
set_option maxHeartbeats 1600000 in
theorem cright_any (ep : Int) (a : Option Addr) (n cap : Nat) (l : List Int) (hn : l.length = n) (hm : n ≤ maxLen) (w : World) (hI : IntsIn w a l) :
    Calls Tryz.prog 20 #[.agg #[.int .i64 ep, .slice a n cap]] w fun e w' => e = .returned (.bool (rightC ep l)) ∧ Below w.heap.size w w' := by
  by_cases h0 : 0 ≤ ep
  · by_cases h60 : ep ≤ 60
    · have HM : Hid (∀ u : World, IntsIn u a l → Calls Tryz.prog 65 #[.slice a n cap] u fun e w' => e = .returned (.bool (memB l)) ∧ Below u.heap.size u w') := hid (fun u hu => careRight_any a n cap l hn hm u hu)
      have HR : Hid (rightC ep l = memB l) := hid (by rw [rightC, decide_eq_true (And.intro h0 h60)]; rfl)
      have HI := hid hI
      rw [HR.out]
      generalize memB l = b at HM
      clear hI hn hm
      go_enter Tryz.func20, Tryz.ntmps20
      go_wp2_with (go_at_call 65; refine (HM.out _ (by exact HI.out.alloc _)).mono ?_; rintro e w1 ⟨rfl, hb1⟩; have H1 := hid (((Below.refl w.heap.size w).alloc (Nat.le_refl _) _).trans (hb1.mono (by simp))); clear hb1)
      go_ret
      exact ⟨rfl, H1.out⟩
    · have HR : Hid (rightC ep l = false) := hid (by rw [rightC, decide_eq_false (fun h => h60 h.2)]; rfl)
      rw [HR.out]
      clear hI hn hm
      go_enter Tryz.func20, Tryz.ntmps20
      go_wp2
      go_ret
      exact ⟨rfl, (Below.refl _ _).alloc (Nat.le_refl _) _⟩
  · have HR : Hid (rightC ep l = false) := hid (by rw [rightC, decide_eq_false (fun h => h0 h.1)]; rfl)
    rw [HR.out]
    clear hI hn hm
    go_enter Tryz.func20, Tryz.ntmps20
    go_wp2
    go_ret
    exact ⟨rfl, (Below.refl _ _).alloc (Nat.le_refl _) _⟩
end Go.Proofs.YtecidbdbdnnglaaGreat

/- The program's council: what each call answers. -/
namespace Go.Proofs.YtecidbdbdnnglaaGreat
open Go.RowKit

end Go.Proofs.YtecidbdbdnnglaaGreat

/- The program's bytes of a configuration. -/
namespace Go.Proofs.YtecidbdbdnnglaaGreat
open Go.RowKit

/-- The program's writer at block c, with room for lim, and l in it; nothing below c has turned since w0. -/
def CwAt (c lim : Nat) (w0 w : World) (l : List UInt8) : Prop := (∃ v, WrAt w c v (lim : Int) l 0) ∧ Below c w0 w
theorem wL_ok2 (lim : Nat) (l : List UInt8) (s n : Nat) (hn : n < 256 ^ s) (hl : l.length + s ≤ lim) : wL (lim : Int) l 0 s (n : Int) = l ++ be s n ∧ wE (lim : Int) l 0 s (n : Int) = 0 := by
  have h : adm (lim : Int) l.length 0 (inR s (n : Int)) s = 0 := by
    have hi : inR s (n : Int) = true := inR_yes s n hn
    rw [hi]
    unfold adm
    simp
    omega
  exact ⟨by rw [wL, if_pos h, Int.toNat_natCast], by rw [wE, h]⟩
theorem cbyte (c lim : Nat) (w0 w : World) (l : List UInt8) (n : Nat) (hn : n < 256) (hm : lim ≤ 100) (hl : l.length + 1 ≤ lim) (h : CwAt c lim w0 w l) :
    Calls Tryz.prog 55 #[.pointer (some ⟨c, 0, none⟩), .int .i64 (n : Int)] w fun e w' => e = .returned (.tuple #[]) ∧ CwAt c lim w0 w' (l ++ be 1 n) := by
  obtain ⟨⟨v, hv⟩, hb⟩ := h
  refine (wbyte_any c v lim l 0 n w hv (by omega) (by omega) (by omega) (by omega)).mono ?_
  rintro e w' ⟨rfl, v', h', hk, _⟩
  rw [(wL_ok2 lim l 1 n (by omega) hl).1, (wL_ok2 lim l 1 n (by omega) hl).2] at h'
  exact ⟨rfl, ⟨v', h'⟩, hb.trans (hk.below (Nat.le_of_lt hv.lt) (Nat.le_refl _) (fun g hg => by have := (hv.own.lt g hg).1; omega))⟩
theorem cword (c lim : Nat) (w0 w : World) (l : List UInt8) (n : Nat) (hn : n < 65536) (hm : lim ≤ 100) (hl : l.length + 2 ≤ lim) (h : CwAt c lim w0 w l) :
    Calls Tryz.prog 91 #[.pointer (some ⟨c, 0, none⟩), .int .i64 (n : Int)] w fun e w' => e = .returned (.tuple #[]) ∧ CwAt c lim w0 w' (l ++ be 2 n) := by
  obtain ⟨⟨v, hv⟩, hb⟩ := h
  refine (wword_any c v lim l 0 n w hv (by omega) (by omega) (by omega) (by omega)).mono ?_
  rintro e w' ⟨rfl, v', h', hk, _⟩
  rw [(wL_ok2 lim l 2 n (by omega) hl).1, (wL_ok2 lim l 2 n (by omega) hl).2] at h'
  exact ⟨rfl, ⟨v', h'⟩, hb.trans (hk.below (Nat.le_of_lt hv.lt) (Nat.le_refl _) (fun g hg => by have := (hv.own.lt g hg).1; omega))⟩
set_option maxRecDepth 100000 in
set_option maxHeartbeats 3200000 in
theorem ctext_any (ep : Int) (a : Option Addr) (n cap : Nat) (l : List Int) (hn : l.length = n) (hm : n ≤ maxLen) (w : World) (hI : IntsIn w a l) :
    Calls Tryz.prog 54 #[.agg #[.int .i64 ep, .slice a n cap]] w fun e w' => e = .returned (.tuple #[.string (textC ep l), .int .i64 (textE ep l)]) ∧ Below w.heap.size w w' := by
  have HR : Hid (∀ (b : Bool), rightC ep l = b → ∀ u : World, IntsIn u a l → Calls Tryz.prog 20 #[.agg #[.int .i64 ep, .slice a n cap]] u fun e w' => e = .returned (.bool b) ∧ Below u.heap.size u w') := hid (fun b hb u hu => by rw [← hb]; exact cright_any ep a n cap l hn hm u hu)
  have HI := hid hI
  have HN := hid hn
  clear hI hm hn
  cases hr : rightC ep l with
  | false =>
    rw [show textC ep l = ⟨#[]⟩ by rw [textC, hr]; rfl, show textE ep l = 1 by rw [textE, hr]; rfl]
    have HRb := hid (HR.out false hr)
    clear hr
    go_enter Tryz.func54, Tryz.ntmps54
    go_wp2_with (go_at_call 20; refine (HRb.out _ (by exact HI.out.alloc _)).mono ?_; rintro e w1 ⟨rfl, hb1⟩; have H1 := hid (((Below.refl w.heap.size w).alloc (Nat.le_refl _) _).trans (hb1.mono (by simp))); clear hb1)
    go_ret2
    exact ⟨rfl, H1.out⟩
  | true =>
    have HRb := hid (HR.out true hr)
    obtain ⟨⟨he0, he60⟩, hmb⟩ := right_mem hr
    have hml := mem_len hmb
    rw [HN.out] at hml
    obtain ⟨E, rfl⟩ : ∃ E : Nat, ep = (E : Int) := ⟨ep.toNat, by omega⟩
    rw [show textE (E : Int) l = 0 by rw [textE, hr]; rfl]
    obtain ⟨T, eT⟩ : ∃ T, T = textC (E : Int) l := ⟨_, rfl⟩
    have HT : Hid (T = ⟨(be 1 67 ++ be 2 E ++ be 1 n ++ memBytes l).toArray⟩) := hid (by rw [eT, textC, hr, if_pos rfl, confB, Int.toNat_natCast, HN.out])
    rw [← eT]
    have HM := hid hmb
    have hn1 : (n : Int) ≤ 10 := by omega
    have hE1 : (E : Int) ≤ 60 := by omega
    have HE := hid (And.intro hml (show E ≤ 60 by omega))
    obtain ⟨M, eM⟩ : ∃ M : Nat, M = 4 + n := ⟨_, rfl⟩
    have HMx : Hid (M = 4 + n ∧ max ((4 : Int) + (n : Int)) 0 = (M : Int)) := hid ⟨eM, by omega⟩
    clear hr he0 he60 hmb hml eT eM
    go_enter Tryz.func54, Tryz.ntmps54
    go_wp2_with (first
      | (go_at_call 20; refine (HRb.out _ (by exact HI.out.alloc _)).mono ?_; rintro e w1 ⟨rfl, hb1⟩
         have c0 : w1.cell? ⟨w.heap.size, 0, none⟩ = some (.int .i64 (E : Int)) := (hb1.cell (p := ⟨w.heap.size, 0, none⟩) (by simp)).trans (cell_at (conf_cells w _ _) 0 _ rfl)
         have c1 : w1.cell? ⟨w.heap.size, 1, none⟩ = some (.slice a n cap) := (hb1.cell (p := ⟨w.heap.size, 1, none⟩) (by simp)).trans (cell_at (conf_cells w _ _) 1 _ rfl)
         have hlt : w.heap.size < w1.heap.size := Nat.lt_of_lt_of_le (by simp) hb1.size
         have H1 := hid (And.intro hlt (And.intro (((Below.refl w.heap.size w).alloc (Nat.le_refl _) _).trans (hb1.mono (by simp))) (And.intro c0 c1)))
         clear hb1 hlt)
      | (go_at_call 53; refine (new_any _ _).mono ?_; rintro e w2 ⟨rfl, hw2⟩
         have H2 : Hid (CwAt w1.heap.size M w1 w2 []) := hid (by rw [hw2, HMx.out.2]; exact ⟨⟨_, ⟨heap_alloc_last w1 _, ⟨rfl, .inl ⟨rfl, rfl⟩⟩⟩⟩, (Below.refl _ _).alloc (Nat.le_refl _) _⟩)
         clear hw2)
      | (go_at_call 91; refine (cword _ M w1 _ (be 1 67) E (by have := HE.out.2; omega) (by have := HE.out.1; have := HMx.out.1; omega) (by rw [be_len]; have := HMx.out.1; have := HE.out.1; omega) (by exact H3.out)).mono ?_; rintro e w4 ⟨rfl, h4⟩; have H4 := hid h4; clear h4; have d1 : w4.cell? ⟨w.heap.size, 1, none⟩ = some (.slice a n cap) := (H4.out.2.cell (p := ⟨w.heap.size, 1, none⟩) H1.out.1).trans H1.out.2.2.2)
      | (go_at_call 55; have := H4; refine (cbyte _ M w1 _ (be 1 67 ++ be 2 E) n (by have := HE.out.1; omega) (by have := HE.out.1; have := HMx.out.1; omega) (by rw [List.length_append, be_len, be_len]; have := HMx.out.1; have := HE.out.1; omega) (by exact H4.out)).mono ?_; rintro e w5 ⟨rfl, h5⟩; have H5 := hid h5; clear h5; have d2 : w5.cell? ⟨w.heap.size, 1, none⟩ = some (.slice a n cap) := (H5.out.2.cell (p := ⟨w.heap.size, 1, none⟩) H1.out.1).trans H1.out.2.2.2)
      | (go_at_call 55; refine (cbyte _ M w1 _ [] 67 (by decide) (by have := HE.out.1; have := HMx.out.1; omega) (by have := HMx.out.1; have := HE.out.1; simp; omega) (by exact H2.out)).mono ?_; rintro e w3 ⟨rfl, h3⟩; have H3 := hid h3; clear h3; have d0 : w3.cell? ⟨w.heap.size, 0, none⟩ = some (.int .i64 (E : Int)) := (H3.out.2.cell (p := ⟨w.heap.size, 0, none⟩) H1.out.1).trans H1.out.2.2.1))
    obtain ⟨P, eP⟩ : ∃ P, P = be 1 67 ++ be 2 E ++ be 1 n := ⟨_, rfl⟩
    rw [← eP] at H5 HT
    have HP : Hid (P.length = 4) := hid (by rw [eP, List.length_append, List.length_append, be_len, be_len, be_len])
    clear eP this
    go_loopw [29] (fun i wr => ∃ j : Nat, j ≤ n ∧ i = .int .i64 (j : Int) ∧ CwAt w1.heap.size M w1 wr (P ++ memBytes (l.take j)))
      (fun i _ => ((n : Int) - intOf i).toNat)
    case atStart => exact ⟨0, by omega, rfl, by rw [List.take_zero, show memBytes [] = [] from rfl, List.append_nil]; exact H5.out⟩
    case round =>
      obtain ⟨j, hj, rfl, hO⟩ := hrel
      have HO := hid hO
      clear hO
      by_cases hjn : j = n
      · have hj1 : ¬ ((j : Int) < (n : Int)) := by omega
        have hO := HO.out
        rw [hjn, List.take_of_length_le (by rw [HN.out]; exact Nat.le_refl _)] at hO
        obtain ⟨⟨v, hv⟩, hb⟩ := hO
        have HV := hid hv
        have HB := hid hb
        clear hj hjn hv hb
        go_wp2_with (go_at_call 60; refine (done_ok _ _ _ _ _ (by exact HV.out)).mono ?_; rintro e wx ⟨rfl, rfl⟩)
        go_ret2
        exact ⟨by rw [HT.out]; rfl, H1.out.2.1.trans (HB.out.mono (Nat.le_of_lt H1.out.1))⟩
      · have hj1 : (j : Int) < (n : Int) := by omega
        have hj0 : (0 : Int) ≤ (j : Int) := Int.natCast_nonneg _
        have hjl : j < l.length := by rw [HN.out]; omega
        have hrg := mem_range HM.out j hjl
        have HS := hid (memBytes_snoc l j hjl)
        obtain ⟨g, off, rfl, hg, hcell⟩ := HI.out.at j _ (getD_some hjl)
        generalize l.getD j 0 = x at hrg HS hcell
        obtain ⟨X, rfl⟩ : ∃ X : Nat, x = (X : Int) := ⟨x.toNat, by omega⟩
        rw [Int.toNat_natCast] at HS
        have cz : wr.cell? ⟨g, off + j, none⟩ = some (.int .i64 (X : Int)) := (HO.out.2.cell (p := ⟨g, off + j, none⟩) (Nat.lt_of_lt_of_le hg H1.out.2.1.size)).trans ((H1.out.2.1.cell (p := ⟨g, off + j, none⟩) hg).trans hcell)
        have HX : Hid (X < 256 ∧ (P ++ memBytes (l.take j)).length + 1 ≤ M ∧ M ≤ 100) := hid ⟨by omega, by rw [List.length_append, HP.out, memBytes_len, List.length_take, HMx.out.1]; omega, by have := HMx.out.1; omega⟩
        have HJ := hid (And.intro hj hjn)
        clear hj hjn hjl hrg hg hcell
        go_wp2_with (go_at_call 55; refine (cbyte _ M w1 _ (P ++ memBytes (l.take j)) X (by exact HX.out.1) (by exact HX.out.2.2) (by exact HX.out.2.1) (by exact HO.out)).mono ?_; rintro e w6 ⟨rfl, h6⟩; have H6 := hid h6; clear h6)
        go_roundw
        case rel => exact ⟨j + 1, by have := HJ.out; omega, by go_num, by rw [HS.out, ← List.append_assoc]; exact H6.out⟩
        case measure => simp [intOf]; omega
end Go.Proofs.YtecidbdbdnnglaaGreat

/- What the program reads as a configuration. -/
namespace Go.Proofs.YtecidbdbdnnglaaGreat
open Go.RowKit

/-- The result's block is as laid, the program's reader stands at s; nothing else has turned since w0. -/
structure RpSt (w0 w : World) (s : ByteArray) (sh : Bool) : Prop where
  res : w.heap[w0.heap.size]? = some (.cells #[.int .i64 0, .slice none 0 0] 24 (0, 0))
  rd : RdAt w (w0.heap.size + 1) s sh
  bel : Below w0.heap.size w0 w
theorem RpSt.kept {w0 w w' : World} {s s' : ByteArray} {sh sh' : Bool} (h : RpSt w0 w s sh) (k : Kept (w0.heap.size + 1) none w w') (hr : RdAt w' (w0.heap.size + 1) s' sh') : RpSt w0 w' s' sh' :=
  ⟨(k.block _ (lt_of_blk h.res) (by omega) (by simp)).trans h.res, hr, h.bel.trans (k.below (Nat.le_of_lt (lt_of_blk h.res)) (by omega) (fun g hg => by cases hg))⟩
theorem RpSt.keep {w0 w w' : World} {s : ByteArray} {sh : Bool} (h : RpSt w0 w s sh) (hb : Below w.heap.size w w') : RpSt w0 w' s sh :=
  ⟨(hb.block _ (lt_of_blk h.res)).trans h.res, (hb.block _ (lt_of_blk h.rd)).trans h.rd, h.bel.trans (hb.mono h.bel.size)⟩
/-- .. and the numbers l lie in the row b. -/
structure RmSt (w0 w : World) (s : ByteArray) (sh : Bool) (b : Nat) (l : List Int) : Prop where
  st : RpSt w0 w s sh
  row : w.heap[b]? = some (.cells (iC l).toArray 3 (0, 0))
  hb : w0.heap.size + 2 ≤ b
theorem RmSt.kept {w0 w w' : World} {s s' : ByteArray} {sh sh' : Bool} {b : Nat} {l : List Int} (h : RmSt w0 w s sh b l) (k : Kept (w0.heap.size + 1) none w w') (hr : RdAt w' (w0.heap.size + 1) s' sh') : RmSt w0 w' s' sh' b l :=
  ⟨h.st.kept k hr, (k.block _ (lt_of_blk h.row) (by have := h.hb; omega) (by simp)).trans h.row, h.hb⟩
theorem RmSt.keep {w0 w w' : World} {s : ByteArray} {sh : Bool} {b : Nat} {l : List Int} (h : RmSt w0 w s sh b l) (hb : Below w.heap.size w w') : RmSt w0 w' s sh b l :=
  ⟨h.st.keep hb, (hb.block _ (lt_of_blk h.row)).trans h.row, h.hb⟩
theorem RmSt.put {w0 w : World} {s : ByteArray} {sh : Bool} {b : Nat} {l l2 : List Int} (h : RmSt w0 w s sh b l) (j : Nat) (y : Int) (hl : l.set j y = l2) : RmSt w0 (w.setCell ⟨b, j, none⟩ (.int .i64 y)) s sh b l2 := by
  have hb := h.hb
  refine ⟨⟨(Below.heap_setCell _ _ _ _ (show w0.heap.size ≠ b by omega)).trans h.st.res, (Below.heap_setCell _ _ _ _ (show w0.heap.size + 1 ≠ b by omega)).trans h.st.rd, h.st.bel.setCell (p := ⟨b, j, none⟩) (by show w0.heap.size ≤ b; omega) _⟩, (blk_set h.row j _).trans ?_, h.hb⟩
  subst hl
  rw [List.setIfInBounds_toArray]
  simp [iC, List.map_set]
/-- What is read so far, and room for the rest. -/
def rdP (s : ByteArray) (sh : Bool) (N j : Nat) : List Int := rdL s sh j ++ List.replicate (N - j) 0
theorem rdP_set (s : ByteArray) (sh : Bool) (N j : Nat) (hj : j < N) : (rdP s sh N j).set j (rN (rdS s sh j).1 (rdS s sh j).2 1 : Int) = rdP s sh N (j + 1) := by
  obtain ⟨m, hm⟩ : ∃ m, N - j = m + 1 := ⟨N - j - 1, by omega⟩
  rw [rdP, rdP, hm, show N - (j + 1) = m by omega, List.set_append_right _ _ (by rw [rdL_len]; omega), rdL_len, Nat.sub_self, List.replicate_succ, List.set_cons_zero, rdL, List.append_assoc]
  rfl
theorem rdP_all (s : ByteArray) (sh : Bool) (N : Nat) : rdP s sh N N = rdL s sh N := by rw [rdP, Nat.sub_self, List.replicate_zero, List.append_nil]
theorem rdP_len (s : ByteArray) (sh : Bool) (N j : Nat) (hj : j ≤ N) : (rdP s sh N j).length = N := by rw [rdP, List.length_append, rdL_len, List.length_replicate]; omega
set_option maxRecDepth 100000 in
set_option maxHeartbeats 3200000 in
theorem cread_any (t : ByteArray) (w : World) :
    Calls Tryz.prog 37 #[.string t] w fun e w' => ∃ v, e = .returned (.tuple #[.agg #[.int .i64 (readZ t), v], .int .i64 (readE t)]) ∧ OwnedI w.heap.size w w' v (readM t) := by
  have H0 : Hid (RpSt w ((w.alloc (.cells #[.int .i64 0, .slice none 0 0] 24)).alloc (.cells #[.string t, .bool false] 121)) t false) := hid
    ⟨(Below.heap_alloc _ _ _ (by simp)).trans (heap_alloc_last w _), snd_alloc w _ _, ((Below.refl _ _).alloc (Nat.le_refl _) _).alloc (by simp) _⟩
  have hN1 : cN t < 256 := by have := rN_lt (cS2 t).1 (cS2 t).2 1; simpa [cN] using this
  obtain ⟨N, eN⟩ : ∃ N, N = cN t := ⟨_, rfl⟩
  obtain ⟨E, eE⟩ : ∃ E, E = cE t := ⟨_, rfl⟩
  obtain ⟨H, eH⟩ : ∃ H, H = cH t := ⟨_, rfl⟩
  have hN2 : (N : Int) < 256 := by omega
  have HC := hid (And.intro eN (And.intro eE eH))
  have HA : Hid (∀ u : World, RpSt w u t false → Calls Tryz.prog 36 #[.pointer (some ⟨w.heap.size + 1, 0, none⟩)] u fun e w' => e = .returned (.int .i64 (H : Int)) ∧ RpSt w w' (cS1 t).1 (cS1 t).2) := hid (fun u hu => (rbyte_any _ _ _ u hu.rd).mono fun e w' ⟨he, hr, hk⟩ => ⟨by rw [he, eH]; rfl, hu.kept hk hr⟩)
  have HB : Hid (∀ u : World, RpSt w u (cS1 t).1 (cS1 t).2 → Calls Tryz.prog 82 #[.pointer (some ⟨w.heap.size + 1, 0, none⟩)] u fun e w' => e = .returned (.int .i64 (E : Int)) ∧ RpSt w w' (cS2 t).1 (cS2 t).2) := hid (fun u hu => (rword_any _ _ _ u hu.rd).mono fun e w' ⟨he, hr, hk⟩ => ⟨by rw [he, eE]; rfl, hu.kept hk hr⟩)
  have HD : Hid (∀ u : World, RpSt w u (cS2 t).1 (cS2 t).2 → Calls Tryz.prog 36 #[.pointer (some ⟨w.heap.size + 1, 0, none⟩)] u fun e w' => e = .returned (.int .i64 (N : Int)) ∧ RpSt w w' (cS3 t).1 (cS3 t).2) := hid (fun u hu => (rbyte_any _ _ _ u hu.rd).mono fun e w' ⟨he, hr, hk⟩ => ⟨by rw [he, eN]; rfl, hu.kept hk hr⟩)
  have HMk : Hid (∀ u : World, (Instr.makeSlice 22 (.int .i64 (N : Int)) (.int .i64 (N : Int))).run Tryz.prog u = .ok (.slice (some ⟨u.heap.size, 0, none⟩) N N) (u.alloc (.cells (iC (List.replicate N 0)).toArray 3))) := hid (fun u => run_makeI N N (by omega) (by omega) u)
  clear eN eE eH hN1
  go_enter Tryz.func37, Tryz.ntmps37
  go_wp2_with (first
    | (go_at_call 35; refine (read_any _ _).mono ?_; rintro e w1 ⟨rfl, rfl⟩)
    | (go_at_call 82; refine (HB.out _ (by exact H1.out)).mono ?_; rintro e w2 ⟨rfl, h2⟩; have H2 := hid h2; clear h2)
    | (go_at_call 36; have := H2; refine (HD.out _ (by exact H2.out)).mono ?_; rintro e w3 ⟨rfl, h3⟩; have H3 := hid h3; clear h3)
    | (go_at_call 36; refine (HA.out _ (by exact H0.out)).mono ?_; rintro e w1 ⟨rfl, h1⟩; have H1 := hid h1; clear h1)
    | rw [HMk.out])
  obtain ⟨b, eb⟩ : ∃ b, b = w3.heap.size := ⟨_, rfl⟩
  obtain ⟨S, eS⟩ : ∃ S, S = cS3 t := ⟨_, rfl⟩
  rw [← eS] at H3
  have H4 : Hid (RmSt w (w3.alloc (.cells (iC (List.replicate N 0)).toArray 3)) S.1 S.2 b (rdP S.1 S.2 N 0)) := hid ⟨H3.out.keep ((Below.refl _ _).alloc (Nat.le_refl _) _), by rw [eb]; exact heap_alloc_last w3 _, by rw [eb]; exact lt_of_blk H3.out.rd⟩
  rw [← eb]
  have HS := hid eS
  clear eb eS this H0 H1 H2
  go_loopw [21] (fun i wr => ∃ j : Nat, j ≤ N ∧ i = .int .i64 (j : Int) ∧ RmSt w wr (rdS S.1 S.2 j).1 (rdS S.1 S.2 j).2 b (rdP S.1 S.2 N j))
    (fun i _ => ((N : Int) - intOf i).toNat)
  case atStart => exact ⟨0, by omega, rfl, H4.out⟩
  case round =>
    obtain ⟨j, hj, rfl, hO⟩ := hrel
    have HO := hid hO
    clear hO H3
    by_cases hjn : j = N
    · have hj1 : ¬ ((j : Int) < (N : Int)) := by omega
      have hO := HO.out
      rw [hjn, rdP_all] at hO
      have HM : Hid (rdL S.1 S.2 N = cM t ∧ rdS S.1 S.2 N = cF t) := hid (by rw [HS.out, HC.out.1]; exact ⟨rfl, rfl⟩)
      rw [HM.out.1, HM.out.2] at hO
      have HF := hid hO
      clear hj hjn hO HO
      have HLN : Hid ((cM t).length = N) := hid (by rw [← HM.out.1, rdL_len])
      have HG : Hid (RmSt w (wr.alloc (.cells #[.int .i64 (E : Int), .slice (some ⟨b, 0, none⟩) N N] 24)) (cF t).1 (cF t).2 b (cM t)) := hid (HF.out.keep ((Below.refl _ _).alloc (Nat.le_refl _) _))
      have HK : Hid ((wr.alloc (.cells #[.int .i64 (E : Int), .slice (some ⟨b, 0, none⟩) N N] 24)).heap[wr.heap.size]? = some (.cells #[.int .i64 (E : Int), .slice (some ⟨b, 0, none⟩) N N] 24 (0, 0))) := hid (heap_alloc_last wr _)
      obtain ⟨wz, ewz⟩ : ∃ wz, wz = wr.alloc (.cells #[.int .i64 (E : Int), .slice (some ⟨b, 0, none⟩) N N] 24) := ⟨_, rfl⟩
      have r0 : wz.cell? ⟨w.heap.size, 0, none⟩ = some (.int .i64 0) := by rw [ewz]; exact cell_of_blk HG.out.st.res 0 (by simp)
      have r1 : wz.cell? ⟨w.heap.size, 1, none⟩ = some (.slice none 0 0) := by rw [ewz]; exact cell_of_blk HG.out.st.res 1 (by simp)
      have f0 : wz.frozen? ⟨w.heap.size, 0, none⟩ = false := by rw [ewz]; exact free_of_blk HG.out.st.res 0
      have f1 : wz.frozen? ⟨w.heap.size, 1, none⟩ = false := by rw [ewz]; exact free_of_blk HG.out.st.res 1
      have k0 : wz.cell? ⟨wr.heap.size, 0, none⟩ = some (.int .i64 (E : Int)) := by rw [ewz]; exact cell_of_blk HK.out 0 (by simp)
      have k1 : wz.cell? ⟨wr.heap.size, 1, none⟩ = some (.slice (some ⟨b, 0, none⟩) N N) := by rw [ewz]; exact cell_of_blk HK.out 1 (by simp)
      have HI : Hid (IntsIn wz (some ⟨b, 0, none⟩) (cM t)) := hid (by rw [ewz]; exact .inr ⟨b, 0, rfl, lt_of_blk HG.out.row, fun i z hz => heap_cells HG.out.row i _ (iC_get _ i z hz)⟩)
      rw [ewz] at r0 r1 f0 f1 k0 k1
      by_cases hH : H = 67
      · have hH1 : (H : Int) = 67 := by omega
        have hE := end_any (w.heap.size + 1) (cF t).1 (cF t).2 wz (by rw [ewz]; exact HG.out.st.rd)
        rw [ewz] at hE HI
        by_cases he : endOf (cF t).1 (cF t).2 = 0
        · rw [he] at hE
          have HEnd := hid hE
          have HRt : Hid (∀ (bb : Bool), rightC (E : Int) (cM t) = bb → ∀ u : World, IntsIn u (some ⟨b, 0, none⟩) (cM t) → Calls Tryz.prog 20 #[.agg #[.int .i64 (E : Int), .slice (some ⟨b, 0, none⟩) N N]] u fun e w' => e = .returned (.bool bb) ∧ Below u.heap.size u w') := hid (fun bb hbb u hu => by rw [← hbb]; exact cright_any (E : Int) _ N N (cM t) HLN.out (by unfold maxLen; omega) u hu)
          cases hr : rightC (E : Int) (cM t) with
          | true =>
            have HRb := hid (HRt.out true hr)
            have HB : Hid (readB t = true) := hid (by rw [readB, ← HC.out.2.2, ← HC.out.2.1, decide_eq_true hH, decide_eq_true he, hr]; rfl)
            clear hH he hr hE ewz
            go_wp2_with (first
              | (go_at_call 44; refine (HEnd.out).mono ?_; rintro e wx ⟨rfl, rfl⟩)
              | (go_at_call 20; refine (HRb.out _ (by exact HI.out)).mono ?_; rintro e w7 ⟨rfl, hb7⟩; have H7 := hid hb7; clear hb7
                 have HR7 := hid ((H7.out.block _ (lt_of_blk HG.out.st.res)).trans HG.out.st.res)
                 have HK7 := hid ((H7.out.block _ (lt_of_blk HK.out)).trans HK.out)
                 have HM7 := hid ((H7.out.block _ (lt_of_blk HG.out.row)).trans HG.out.row)
                 have q0 : w7.cell? ⟨wr.heap.size, 0, none⟩ = some (.int .i64 (E : Int)) := cell_of_blk HK7.out 0 (by simp)
                 have q1 : w7.cell? ⟨wr.heap.size, 1, none⟩ = some (.slice (some ⟨b, 0, none⟩) N N) := cell_of_blk HK7.out 1 (by simp)
                 have s0 : w7.cell? ⟨w.heap.size, 0, none⟩ = some (.int .i64 0) := cell_of_blk HR7.out 0 (by simp)
                 have s1 : w7.cell? ⟨w.heap.size, 1, none⟩ = some (.slice none 0 0) := cell_of_blk HR7.out 1 (by simp)
                 have g0 : w7.frozen? ⟨w.heap.size, 0, none⟩ = false := free_of_blk HR7.out 0
                 have g1 : w7.frozen? ⟨w.heap.size, 1, none⟩ = false := free_of_blk HR7.out 1))
            refine ret_cell2 (s := 2) (s2 := 3) (ad := ⟨w.heap.size, 0, none⟩) rfl rfl (load_conf _ _ (.int .i64 (E : Int)) (.slice (some ⟨b, 0, none⟩) N N) (cell_of_blk (res_set HR7.out) 0 (by simp)) (cell_of_blk (res_set HR7.out) 1 (by simp))) rfl rfl ?_
            have hb2 := HG.out.hb
            have hbl := ((HG.out.st.bel.trans (H7.out.mono HG.out.st.bel.size)).setCell (p := ⟨w.heap.size, 0, none⟩) (Nat.le_refl _) (.int .i64 (E : Int))).setCell (p := ⟨w.heap.size, 1, none⟩) (Nat.le_refl _) (.slice (some ⟨b, 0, none⟩) N N)
            rw [readZ, readM, readE, HB.out, ← HC.out.2.1]
            refine ⟨_, rfl, own_of_blk (zs := cM t) (rest := []) ?_ (by omega) (by rw [HLN.out]; rfl) (by unfold maxLen; omega) HLN.out.symm hbl⟩
            rw [List.append_nil]
            exact (Below.heap_setCell _ _ _ _ (show b ≠ w.heap.size by omega)).trans ((Below.heap_setCell _ _ _ _ (show b ≠ w.heap.size by omega)).trans HM7.out)
          | false =>
            have HRb := hid (HRt.out false hr)
            have HB : Hid (readB t = false) := hid (by rw [readB, ← HC.out.2.1, hr]; simp)
            clear hH he hr hE ewz
            go_wp2_with (first
              | (go_at_call 44; refine (HEnd.out).mono ?_; rintro e wx ⟨rfl, rfl⟩)
              | (go_at_call 20; refine (HRb.out _ (by exact HI.out)).mono ?_; rintro e w7 ⟨rfl, hb7⟩; have H7 := hid hb7; clear hb7
                 have HR7 := hid ((H7.out.block _ (lt_of_blk HG.out.st.res)).trans HG.out.st.res)
                 have s0 : w7.cell? ⟨w.heap.size, 0, none⟩ = some (.int .i64 0) := cell_of_blk HR7.out 0 (by simp)
                 have s1 : w7.cell? ⟨w.heap.size, 1, none⟩ = some (.slice none 0 0) := cell_of_blk HR7.out 1 (by simp)
                 have g0 : w7.frozen? ⟨w.heap.size, 0, none⟩ = false := free_of_blk HR7.out 0
                 have g1 : w7.frozen? ⟨w.heap.size, 1, none⟩ = false := free_of_blk HR7.out 1))
            refine ret_cell2 (s := 2) (s2 := 3) (ad := ⟨w.heap.size, 0, none⟩) rfl rfl (load_conf _ _ (.int .i64 0) (.slice none 0 0) (cell_of_blk (res_set HR7.out) 0 (by simp)) (cell_of_blk (res_set HR7.out) 1 (by simp))) rfl rfl ?_
            rw [readZ, readM, readE, HB.out]
            have hbl := ((HG.out.st.bel.trans (H7.out.mono HG.out.st.bel.size)).setCell (p := ⟨w.heap.size, 0, none⟩) (Nat.le_refl _) (.int .i64 0)).setCell (p := ⟨w.heap.size, 1, none⟩) (Nat.le_refl _) (.slice none 0 0)
            exact ⟨_, rfl, OwnedI.nil hbl hbl.size⟩
        · have HB : Hid (readB t = false) := hid (by rw [readB, decide_eq_false he]; simp)
          generalize endOf (cF t).1 (cF t).2 = er at hE he
          have HEnd := hid hE
          clear hH hE ewz
          go_wp2_with (go_at_call 44; refine (HEnd.out).mono ?_; rintro e wx ⟨rfl, rfl⟩)
          refine ret_cell2 (s := 2) (s2 := 3) (ad := ⟨w.heap.size, 0, none⟩) rfl rfl (load_conf _ _ (.int .i64 0) (.slice none 0 0) (cell_of_blk (res_set HG.out.st.res) 0 (by simp)) (cell_of_blk (res_set HG.out.st.res) 1 (by simp))) rfl rfl ?_
          rw [readZ, readM, readE, HB.out]
          have hbl := (HG.out.st.bel.setCell (p := ⟨w.heap.size, 0, none⟩) (Nat.le_refl _) (.int .i64 0)).setCell (p := ⟨w.heap.size, 1, none⟩) (Nat.le_refl _) (.slice none 0 0)
          exact ⟨_, rfl, OwnedI.nil hbl hbl.size⟩
      · have hH1 : ¬ ((H : Int) = 67) := by omega
        have HB : Hid (readB t = false) := hid (by rw [readB, ← HC.out.2.2, decide_eq_false hH]; rfl)
        clear hH ewz
        go_wp2
        refine ret_cell2 (s := 2) (s2 := 3) (ad := ⟨w.heap.size, 0, none⟩) rfl rfl (load_conf _ _ (.int .i64 0) (.slice none 0 0) (cell_of_blk (res_set HG.out.st.res) 0 (by simp)) (cell_of_blk (res_set HG.out.st.res) 1 (by simp))) rfl rfl ?_
        rw [readZ, readM, readE, HB.out]
        have hbl := (HG.out.st.bel.setCell (p := ⟨w.heap.size, 0, none⟩) (Nat.le_refl _) (.int .i64 0)).setCell (p := ⟨w.heap.size, 1, none⟩) (Nat.le_refl _) (.slice none 0 0)
        exact ⟨_, rfl, OwnedI.nil hbl hbl.size⟩
    · have hj1 : (j : Int) < (N : Int) := by omega
      have hj0 : (0 : Int) ≤ (j : Int) := Int.natCast_nonneg _
      obtain ⟨y, ey⟩ : ∃ y, y = rN (rdS S.1 S.2 j).1 (rdS S.1 S.2 j).2 1 := ⟨_, rfl⟩
      have HL : Hid ((rdP S.1 S.2 N j).set j (y : Int) = rdP S.1 S.2 N (j + 1)) := hid (by rw [ey]; exact rdP_set S.1 S.2 N j (by omega))
      have HK : Hid (∀ u : World, RmSt w u (rdS S.1 S.2 j).1 (rdS S.1 S.2 j).2 b (rdP S.1 S.2 N j) → Calls Tryz.prog 36 #[.pointer (some ⟨w.heap.size + 1, 0, none⟩)] u fun e w' => e = .returned (.int .i64 (y : Int)) ∧ RmSt w w' (rdS S.1 S.2 (j + 1)).1 (rdS S.1 S.2 (j + 1)).2 b (rdP S.1 S.2 N j)) := hid (fun u hu => (rbyte_any _ _ _ u hu.st.rd).mono fun e w' ⟨he, hr, hk⟩ => ⟨by rw [he, ey], hu.kept hk hr⟩)
      have HLn : Hid (j < (iC (rdP S.1 S.2 N j)).toArray.size) := hid (by show j < (iC (rdP S.1 S.2 N j)).length; rw [iC_len, rdP_len _ _ _ _ hj]; omega)
      have HJ := hid (And.intro hj hjn)
      clear ey hj hjn
      go_wp2_with (go_at_call 36; refine (HK.out _ (by exact HO.out)).mono ?_; rintro e w5 ⟨rfl, h5⟩; have H5 := hid h5; clear h5; have z5 := cell_of_blk H5.out.row j HLn.out; have f5 := free_of_blk H5.out.row j)
      go_roundw
      case rel => exact ⟨j + 1, by have := HJ.out; omega, by go_num, H5.out.put j _ HL.out⟩
      case measure => simp [intOf]; omega
end Go.Proofs.YtecidbdbdnnglaaGreat
