/- The program's: members in new memory. -/
import Derived.Test.YtfcbngdhbmifeaaCoS
import Derived.Laws.CopyOwn
namespace Go.Proofs.Ytfcbngdhbmifeaa
open Go.RowKit

/-- The row g, new since w0, holds the numbers l and room for one more. -/
structure Copied (w0 w : World) (g : Nat) (l : List Int) : Prop where
  blk : w.heap[g]? = some (.cells (iC (l ++ [0])).toArray 3 (0, 0))
  lo : w0.heap.size ≤ g
  bel : Below w0.heap.size w0 w
theorem OwnedI.low {B : Nat} {w0 w1 w : World} {v : Value} {zs : List Int} (h : OwnedI w1.heap.size w1 w v zs) (hb : Below B w0 w1) (hB : B ≤ w1.heap.size) : OwnedI B w0 w v zs := by
  refine ⟨⟨h.own.1, ?_⟩, hb.trans (h.bel.mono hB), Nat.le_trans hB h.le⟩
  rcases h.own.2 with hn | ⟨g, cap, cur, hv, hg, hr⟩
  · exact .inl hn
  · exact .inr ⟨g, cap, cur, hv, Nat.le_trans hB hg, hr⟩
theorem Try.size3 : (Try.prog.info? 3).map (·.size) = some 1 := by kernel_rfl
theorem run_makeI (n m : Nat) (hnm : n ≤ m) (hm : m ≤ 1000) (u : World) : (Instr.makeSlice 28 (.int .i64 (n : Int)) (.int .i64 (m : Int))).run Try.prog u = .ok (.slice (some ⟨u.heap.size, 0, none⟩) n m) (u.alloc (.cells (iC (List.replicate m 0)).toArray 3)) := by
  obtain ⟨i0, hi0, hz0, hz1, hz2⟩ := info_parts Try.info3
  have h := run_make (P := Try.prog) u 28 3 i0 (.int .i64 0) Try.underlying28 hi0 hz0 .i64 .i64 n m (by omega) (by omega) (by rw [hz2]; omega) (by omega)
  rw [hz1, Int.toNat_natCast, Int.toNat_natCast, Nat.mul_one] at h
  rw [h]
  congr 4
  apply Array.ext'
  have h2 : (Value.int .i64 0).cells = #[.int .i64 0] := rfl
  rw [h2, toList_madeCells_one]
  show _ = iC _
  rw [iC, List.map_replicate]
theorem splice_copied (l : List Int) : splice (iC (List.replicate (l.length + 1) 0)) 0 (iC l) = iC (l ++ [0]) := by
  rw [splice, iC_len, iC_app]
  simp [iC]
theorem src_ints {w : World} {a : Option Addr} {l : List Int} {X : List Value} (h : IntsIn w a l) (h0 : 0 < l.length) (hX : X = iC l) : ∃ ad, a = some ad ∧ ∀ j v, X[j]? = some v → w.cell? (ad.add j) = some v := by
  subst hX
  rcases h with h | ⟨g, off, rfl, hg, hc⟩
  · rw [h] at h0; simp at h0
  · refine ⟨_, rfl, fun j v hv => ?_⟩
    obtain ⟨z, hz, rfl⟩ := iC_back l j v hv
    rw [Addr.add_lit]
    exact hc j z hz
set_option maxRecDepth 100000 in
theorem ccopied_any (a : Option Addr) (n cap : Nat) (l : List Int) (hn : l.length = n) (hs : n ≤ 10) (w : World) (hI : IntsIn w a l) :
    Calls Try.prog 34 #[.slice a n cap] w fun e w' => ∃ g, e = .returned (.slice (some ⟨g, 0, none⟩) n (n + 1)) ∧ Copied w w' g l := by
  have h10 : (n : Int) ≤ 10 := by omega
  have HI := hid hI
  have HN := hid hn
  have HMk : Hid (∀ u : World, (Instr.makeSlice 28 (.int .i64 (n : Int)) (.int .i64 ((n : Int) + 1))).run Try.prog u = .ok (.slice (some ⟨u.heap.size, 0, none⟩) n (n + 1)) (u.alloc (.cells (iC (List.replicate (n + 1) 0)).toArray 3))) := hid (fun u => run_makeI n (n + 1) (by omega) (by omega) u)
  obtain ⟨L, eL⟩ : ∃ L, L = iC (List.replicate (n + 1) 0) := ⟨_, rfl⟩
  rw [← eL] at HMk
  obtain ⟨X, eX⟩ : ∃ X, X = iC l := ⟨_, rfl⟩
  have HX := hid (And.intro eL eX)
  clear hI hn eL eX
  go_enter Try.func34, Try.ntmps34
  go_wp2_with (first
    | rw [HMk.out]
    | (refine wpList_copy_splice rfl _ _ 28 28 rfl 3 Try.underlying28 Try.size3 _ _ _ _ _ _ rfl rfl w.heap.size 0 L 3 (heap_alloc_last w _) X (by rw [HX.out.2, iC_len, HN.out]; exact (Nat.min_self n).symm) (fun h => ⟨rfl, by rw [HX.out.2, iC_len] at h; exact src_ints ((HI.out.alloc _)) h HX.out.2⟩) (by rw [HX.out.1, HX.out.2, iC_len, iC_len, List.length_replicate, HN.out]; omega) (by rw [HX.out.2]; exact iC_one _) w.heap.size w ((Below.refl _ _).alloc (Nat.le_refl _) _) (Nat.le_refl _) ?_
       intro w2 h2 hb2
       have H2 := hid (And.intro h2.out hb2)
       clear h2 hb2))
  go_ret
  refine ⟨_, rfl, ⟨?_, Nat.le_refl _, H2.out.2⟩⟩
  rw [H2.out.1, HX.out.1, HX.out.2, ← HN.out, splice_copied]
theorem own_of_blk {B : Nat} {w0 w : World} {g cap n : Nat} {zs : List Int} {rest : List Value} (h : w.heap[g]? = some (.cells (iC zs ++ rest).toArray 3 (0, 0))) (hB : B ≤ g) (hc : zs.length + rest.length = cap) (hm : cap ≤ maxLen) (hn : n = zs.length) (hb : Below B w0 w) : OwnedI B w0 w (.slice (some ⟨g, 0, none⟩) n cap) zs := by
  subst hn
  refine ⟨⟨by rw [iC_len, Nat.mul_one], .inr ⟨g, cap, _, rfl, hB, h, by omega, hm, by simp [iC]; omega, ?_⟩⟩, hb, by have := lt_of_blk h; omega⟩
  rw [Nat.mul_one]
  simp [iC]
theorem below_drew (B : Nat) (w : World) : Below B w w.drew := ⟨rfl, rfl, rfl, Nat.le_refl _, fun _ _ => rfl⟩
theorem below_sets {B b : Nat} {a : World} (hb : B ≤ b) : ∀ (vs : List Value) (o : Nat) (w : World), Below B a w → Below B a (w.setCells b o vs)
  | [], _, _, h => h
  | v :: vs, o, _, h => below_sets hb vs (o + 1) _ (h.setCell (p := ⟨b, o, none⟩) hb v)
theorem shift_cells (A D : List Value) (z v : Value) (p : Nat) (hA : A.length = p) :
    (((A ++ (D ++ [z])).take (p + 1) ++ D ++ (A ++ (D ++ [z])).drop (p + 1 + D.length)).take p ++ [v] ++ ((A ++ (D ++ [z])).take (p + 1) ++ D ++ (A ++ (D ++ [z])).drop (p + 1 + D.length)).drop (p + 1)) = A ++ [v] ++ D := by
  have e1 : (A ++ (D ++ [z])).drop (p + 1 + D.length) = [] := List.drop_eq_nil_of_le (by simp; omega)
  have l1 : ((A ++ (D ++ [z])).take (p + 1)).length = p + 1 := by rw [List.length_take]; simp; omega
  rw [e1, List.append_nil, List.take_append_of_le_length (by omega), List.take_take, Nat.min_eq_left (by omega), List.take_left' hA, List.drop_left' l1]
theorem insert_any (w0 w : World) (g n p : Nat) (l : List Int) (id : Int) (hC : Copied w0 w g l) (hn : l.length = n) (hs : n ≤ 10) (hp : p ≤ n) :
    Calls Try.prog 33 #[.slice (some ⟨g, 0, none⟩) n (n + 1), .int .i64 (p : Int), .slice (some ⟨w.heap.size, 0, none⟩) 1 1] (w.alloc (.cells #[.int .i64 id] 3)) fun e w' => ∃ v, e = .returned v ∧ OwnedI w0.heap.size w0 w' v (l.take p ++ [id] ++ l.drop p) := by
  obtain ⟨W, eW⟩ : ∃ W, W = w.alloc (.cells #[.int .i64 id] 3) := ⟨_, rfl⟩
  have hgl := lt_of_blk hC.blk
  have hW : W.heap[g]? = some (.cells (iC (l ++ [0])).toArray 3 (0, 0)) := by rw [eW]; exact (Below.heap_alloc w _ g hgl).trans hC.blk
  have hV : W.heap[w.heap.size]? = some (.cells ([.int .i64 id] : List Value).toArray 3 (0, 0)) := by rw [eW]; exact heap_alloc_last w _
  have hB : Below w0.heap.size w0 W := by rw [eW]; exact hC.bel.alloc hC.bel.size _
  rw [← eW]
  have hcells : ∀ j v, (iC (l ++ [0]))[j]? = some v → W.cell? ⟨g, j, none⟩ = some v := fun j v hv => cell_at hW j v hv
  have hll : (iC (l ++ [0])).length = n + 1 := by rw [iC_len, List.length_append, hn]; rfl
  have hvs : ∀ j v, ([Value.int .i64 id] : List Value)[j]? = some v → W.cell? ⟨w.heap.size, 0 + j, none⟩ = some v := fun j v hv => by rw [Nat.zero_add]; exact cell_at hV j v hv
  have h1v : ∀ v ∈ ([Value.int .i64 id] : List Value), v.oneCell' = true := fun v hv => by rw [List.mem_singleton.1 hv]; rfl
  by_cases hpn : p = n
  · subst hpn
    refine (Any2.slices_Insert_int_end_room layL2n21 g 0 p (p + 1) w.heap.size 0 1 1 [.int .i64 id] W (by omega) (by omega) (by omega) rfl (fun j hj => ?_) (fun j _ => free_at hW _) hvs h1v).mono ?_
    · rw [hcells _ _ (List.getElem?_eq_getElem (show 0 + p + j < _ by rw [hll]; omega))]; rfl
    rintro e w' ⟨rfl, rfl⟩
    refine ⟨_, rfl, own_of_blk (rest := []) ((sets_blk [.int .i64 id] (0 + p) W _ hW (by rw [hll]; simp)).trans ?_) hC.lo (by simp; omega) (by unfold maxLen; omega) (by simp; omega) (below_sets hC.lo _ _ _ hB)⟩
    have e1 : (iC (l ++ [0])).take (0 + p) = iC l := by rw [iC_app, Nat.zero_add, List.take_left' (by rw [iC_len, hn])]
    have e2 : (iC (l ++ [0])).drop (0 + p + [Value.int .i64 id].length) = [] := List.drop_eq_nil_of_le (by rw [hll]; simp)
    rw [e1, e2, List.take_of_length_le (by omega), List.drop_eq_nil_of_le (by omega)]
    simp [iC]
  · refine (Any2.slices_Insert_int_shift layL2n21 g 0 n (n + 1) p w.heap.size 0 1 1 (iC l) [.int .i64 id] W (by omega) (by omega) (by omega) (by omega) (by omega) (by rw [iC_len, hn]) rfl (fun j v hv => ?_) (fun j hj => ?_) (fun j _ => free_at hW _) hvs (iC_one _) h1v 3 3 1 (n + 1) (by rw [World.shape?, hV]; rfl) (by rw [World.shape?, hW]; simp [hll]) (by omega) (free_at hV _) (free_at hV _)).mono ?_
    · rw [Nat.zero_add]
      refine hcells j v ?_
      rw [iC_app, List.getElem?_append_left (by have := (List.getElem?_eq_some_iff.1 hv).1; exact this)]
      exact hv
    · rw [Nat.zero_add, hcells _ _ (List.getElem?_eq_getElem (show j < _ by rw [hll]; omega))]; rfl
    rintro e w' ⟨rfl, rfl⟩
    have k1 := sets_blk ((iC l).drop p) (0 + (p + 1)) W.drew _ hW (by rw [hll, List.length_drop, iC_len]; omega)
    have k2 := sets_blk [.int .i64 id] (0 + p) _ _ k1 (by simp [iC_len]; omega)
    refine ⟨_, rfl, own_of_blk (rest := []) (k2.trans ?_) hC.lo (by simp; omega) (by unfold maxLen; omega) (by simp; omega) (below_sets hC.lo _ _ _ (below_sets hC.lo _ _ _ (hB.trans (below_drew _ _))))⟩
    have e0 : iC (l ++ [0]) = iC (l.take p) ++ (iC (l.drop p) ++ iC [0]) := by rw [← iC_app, ← iC_app, ← List.append_assoc, List.take_append_drop]
    have e1 : (iC l).drop p = iC (l.drop p) := by rw [iC, iC, List.map_drop]
    have lp : (iC (l.take p)).length = p := by rw [iC_len, List.length_take]; omega
    have ld : (iC (l.drop p)).length = n - p := by rw [iC_len, List.length_drop]; omega
    congr 2
    rw [e1, e0, Nat.zero_add, Nat.zero_add]
    have := shift_cells (iC (l.take p)) (iC (l.drop p)) (.int .i64 0) (.int .i64 id) p lp
    refine (congrArg List.toArray this).trans ?_
    rw [List.append_nil, iC_app, iC_app]
    rfl
theorem delete_any (w0 w : World) (g n p : Nat) (l : List Int) (hC : Copied w0 w g l) (hn : l.length = n) (hs : n ≤ 10) (hp : p < n) :
    Calls Try.prog 35 #[.slice (some ⟨g, 0, none⟩) n (n + 1), .int .i64 (p : Int), .int .i64 ((p : Int) + 1)] w fun e w' => ∃ v, e = .returned v ∧ OwnedI w0.heap.size w0 w' v (l.take p ++ l.drop (p + 1)) := by
  have hll : (iC (l ++ [0])).length = n + 1 := by rw [iC_len, List.length_append, hn]; rfl
  have hH : Sort.Holds (Value.int .i64) w g 0 l.toArray := fun j hj => by
    have hj' : j < l.length := by simpa using hj
    refine ⟨?_, free_at hC.blk _⟩
    rw [Nat.zero_add]
    refine cell_at hC.blk j _ ?_
    rw [iC_app, List.getElem?_append_left (by rw [iC_len]; exact hj'), iC_get l j _ (List.getElem?_eq_getElem hj')]
    simp [hj']
  have h := Any.slices_Delete_int layL2n23 g 0 (n + 1) p (p + 1) l w hH (by omega) (by omega) (by omega) (by omega)
  rw [hn] at h
  refine h.mono ?_
  rintro e w' ⟨rfl, q, rfl⟩
  have hnew : (l.take p ++ l.drop (p + 1) ++ List.replicate (p + 1 - p) 0).length = l.toArray.size := by simp; omega
  rw [Lib.putRow_eq_setCells (Value.int .i64) w g 0 l.toArray _ q hH hnew]
  have k1 := sets_blk ((l.take p ++ l.drop (p + 1) ++ List.replicate (p + 1 - p) 0).map (Value.int .i64)) 0 (w.drewN q) _ hC.blk (by rw [hll, List.length_map, hnew]; simp; omega)
  refine ⟨_, rfl, own_of_blk (rest := [.int .i64 0, .int .i64 0]) (k1.trans ?_) hC.lo (by simp; omega) (by unfold maxLen; omega) (by simp; omega) (below_sets hC.lo _ _ _ (hC.bel.trans ⟨rfl, rfl, rfl, Nat.le_refl _, fun _ _ => rfl⟩))⟩
  congr 2
  have e2 : (iC (l ++ [0])).drop (0 + ((l.take p ++ l.drop (p + 1) ++ List.replicate (p + 1 - p) 0).map (Value.int .i64)).length) = [.int .i64 0] := by
    rw [List.length_map, hnew, iC_app, Nat.zero_add]
    exact List.drop_left' (by rw [iC_len]; rfl)
  rw [e2, show p + 1 - p = 1 by omega]
  simp [iC]
end Go.Proofs.Ytfcbngdhbmifeaa
