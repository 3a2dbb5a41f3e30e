/- A paper of the first n numbers, whose groves grow from the seeds. -/
import Derived.Test.YtchlmcpnjpllnaaPaMM
import Derived.Test.YtchlmcpnjpllnaaGrIM
namespace Go.Proofs.Ytchlmcpnjpllnaa
open Go.RowKit

/-- The seed of the i-th grove. -/
def sdS (seed : ByteArray) (i : Nat) : ByteArray := seed ++ ⟨#[UInt8.ofNat i]⟩
theorem sdS_size (seed : ByteArray) (i : Nat) : (sdS seed i).size = seed.size + 1 := by rw [sdS, ByteArray.size_append]; rfl
/-- The seats of the first j. -/
def seatsG (seed : ByteArray) : Nat → List (Int × ByteArray)
  | 0 => []
  | j + 1 => seatsG seed j ++ [((j : Int), rootS (sdS seed j) 3)]
theorem seatsG_len (seed : ByteArray) : ∀ j, (seatsG seed j).length = j
  | 0 => rfl
  | j + 1 => by rw [seatsG, List.length_append, seatsG_len seed j]; rfl
/-- Pointers to the first j. -/
def gC (bs : Nat → Nat) (j : Nat) : List Value := (List.range j).map fun i => .pointer (some ⟨bs i, 0, none⟩)
theorem gC_len (bs : Nat → Nat) (j : Nat) : (gC bs j).length = j := by simp [gC]
theorem gC_get (bs : Nat → Nat) (n j : Nat) (h : j < n) : (gC bs n)[j]? = some (.pointer (some ⟨bs j, 0, none⟩)) := by simp [gC, h]
theorem gC_succ (bs : Nat → Nat) (j : Nat) : gC bs (j + 1) = gC bs j ++ [.pointer (some ⟨bs j, 0, none⟩)] := by simp [gC, List.range_succ]
theorem gC_congr {bs bs' : Nat → Nat} {j : Nat} (h : ∀ i, i < j → bs i = bs' i) : gC bs j = gC bs' j := by
  unfold gC
  refine List.map_congr_left (fun i hi => ?_)
  rw [h i (List.mem_range.1 hi)]
theorem own_type {w : World} {B : Nat} {e : TypeId} {z : Nat} {v : Value} {n : Nat} {xs : List Value} (h : w.ownsRow B e z v n xs) {k : Nat} (hk : v.ownBlock = some k) : ∃ cur, w.heap[k]? = some (.cells cur e (0, 0)) := by
  rcases h.2 with ⟨rfl, _⟩ | ⟨g, cap, cur, rfl, _, hh, _⟩
  · cases hk
  · cases hk
    exact ⟨cur, hh⟩
theorem own_far {w w' : World} {B : Nat} {e : TypeId} {z : Nat} {v : Value} {n : Nat} {xs : List Value} (h : w.ownsRow B e z v n xs) (hk : ∀ k, v.ownBlock = some k → w'.heap[k]? = w.heap[k]?) : w'.ownsRow B e z v n xs := by
  refine ⟨h.1, ?_⟩
  rcases h.2 with hn | ⟨g, cap, cur, hv, hB, hh, hx⟩
  · exact .inl hn
  · exact .inr ⟨g, cap, cur, hv, hB, (hk g (by rw [hv]; rfl)).trans hh, hx⟩
/-- The paper so far: js seats, jp signers. -/
structure PgSt (w0 w : World) (E : Int) (v : Value) (js : Nat) (u : Value) (bs : Nat → Nat) (jp : Nat) (seed : ByteArray) : Prop where
  res : w.heap[w0.heap.size]? = some (.cells #[.int .i64 0, .slice none 0 0] 24 (0, 0))
  pp : w.heap[w0.heap.size + 1]? = some (.cells #[.int .i64 E, v] 24 (0, 0))
  own : w.ownsRow (w0.heap.size + 2) 44 2 v js (pC (seatsG seed js))
  ptr : w.ownsRow (w0.heap.size + 2) 51 1 u jp (gC bs jp)
  sg : ∀ i, i < jp → SgAt w (bs i) (sdS seed i) 3 0 ∧ w0.heap.size + 2 ≤ bs i
  bel : Below w0.heap.size w0 w
theorem PgSt.keep {w0 w w' : World} {E : Int} {v u : Value} {js jp : Nat} {bs : Nat → Nat} {seed : ByteArray} (h : PgSt w0 w E v js u bs jp seed) (hb : Below w.heap.size w w') : PgSt w0 w' E v js u bs jp seed :=
  ⟨(hb.block _ (lt_of_blk h.res)).trans h.res, (hb.block _ (lt_of_blk h.pp)).trans h.pp, ownsRow_keep h.own hb, ownsRow_keep h.ptr hb, fun i hi => ⟨(h.sg i hi).1.keep hb, (h.sg i hi).2⟩, h.bel.trans (hb.mono h.bel.size)⟩
theorem PgSt.seat {w0 w w4 : World} {E : Int} {v v4 u : Value} {j : Nat} {bs : Nat → Nat} {seed : ByteArray} {o : Obj} {b : Nat} (h : PgSt w0 w E v j u bs j seed) (hs : SgAt w b (sdS seed j) 3 0)
    (h4 : w4.ownsRow (w0.heap.size + 2) 44 2 v4 (j + 1) (pC (seatsG seed j ++ [((j : Int), rootS (sdS seed j) 3)]))) (hg : (w.alloc o).grownBy w4 v.ownBlock) :
    PgSt w0 (w4.setCell ⟨w0.heap.size + 1, 1, none⟩ v4) E v4 (j + 1) u bs j seed ∧ SgAt (w4.setCell ⟨w0.heap.size + 1, 1, none⟩ v4) b (sdS seed j) 3 0 := by
  have hk : ∀ k, k < w.heap.size → some k ≠ v.ownBlock → w4.heap[k]? = w.heap[k]? := fun k hk hne => (hg.block k (by simp; omega) hne).trans (Below.heap_alloc w o k hk)
  have hT : ∀ k c T fr, w.heap[k]? = some (.cells c T fr) → T ≠ 44 → some k ≠ v.ownBlock := fun k c T fr hh hne e => by
    obtain ⟨cur, hc⟩ := own_type h.own e.symm
    rw [hh] at hc
    cases hc
    exact hne rfl
  have hoth : ∀ k, k ≠ w0.heap.size + 1 → (w4.setCell ⟨w0.heap.size + 1, 1, none⟩ v4).heap[k]? = w4.heap[k]? := fun k hk => Below.heap_setCell _ _ _ _ (by simpa using hk)
  have hpp := (hk _ (lt_of_blk h.pp) (hT _ _ _ _ h.pp (by decide))).trans h.pp
  have hsg : ∀ c sd, SgAt w c sd 3 0 → SgAt (w4.setCell ⟨w0.heap.size + 1, 1, none⟩ v4) c sd 3 0 := fun c sd hc => by
    have hne : c ≠ w0.heap.size + 1 := fun e => by have := h.pp; rw [← e, show w.heap[c]? = _ from hc] at this; cases this
    exact (hoth c hne).trans ((hk c hc.lt (hT _ _ _ _ hc (by decide))).trans hc)
  refine ⟨⟨?_, ?_, ?_, ?_, fun i hi => ⟨hsg _ _ (h.sg i hi).1, (h.sg i hi).2⟩, ?_⟩, hsg _ _ hs⟩
  · rw [hoth _ (by omega), hk _ (lt_of_blk h.res) (hT _ _ _ _ h.res (by decide))]
    exact h.res
  · exact (blk_set hpp 1 v4).trans (by simp)
  · exact own_put h4 _ _ _ (by omega)
  · refine own_put (own_far h.ptr (fun k hk2 => ?_)) _ _ _ (by omega)
    obtain ⟨cur, hc⟩ := own_type h.ptr hk2
    exact hk k (lt_of_blk hc) (hT _ _ _ _ hc (by decide))
  · exact ((h.bel.alloc h.bel.size o).grown hg (by have := h.bel.size; simp; omega) (fun k hk => by have := (h.own.lt k hk).1; omega)).setCell (p := ⟨w0.heap.size + 1, 1, none⟩) (show w0.heap.size ≤ w0.heap.size + 1 by omega) _
theorem PgSt.sign {w0 w w4 : World} {E : Int} {v u u4 : Value} {j : Nat} {bs : Nat → Nat} {seed : ByteArray} {o : Obj} {b : Nat} (h : PgSt w0 w E v (j + 1) u bs j seed) (hs : SgAt w b (sdS seed j) 3 0) (hb : w0.heap.size + 2 ≤ b)
    (h4 : w4.ownsRow (w0.heap.size + 2) 51 1 u4 (j + 1) (gC bs j ++ [.pointer (some ⟨b, 0, none⟩)])) (hg : (w.alloc o).grownBy w4 u.ownBlock) :
    PgSt w0 w4 E v (j + 1) u4 (fun i => if i = j then b else bs i) (j + 1) seed := by
  have hk : ∀ k, k < w.heap.size → some k ≠ u.ownBlock → w4.heap[k]? = w.heap[k]? := fun k hk hne => (hg.block k (by simp; omega) hne).trans (Below.heap_alloc w o k hk)
  have hT : ∀ k c T fr, w.heap[k]? = some (.cells c T fr) → T ≠ 51 → some k ≠ u.ownBlock := fun k c T fr hh hne e => by
    obtain ⟨cur, hc⟩ := own_type h.ptr e.symm
    rw [hh] at hc
    cases hc
    exact hne rfl
  have hsg : ∀ c sd, SgAt w c sd 3 0 → SgAt w4 c sd 3 0 := fun c sd hc => (hk c hc.lt (hT _ _ _ _ hc (by decide))).trans hc
  have hgc : gC (fun i => if i = j then b else bs i) (j + 1) = gC bs j ++ [.pointer (some ⟨b, 0, none⟩)] := by
    rw [gC_succ, if_pos rfl]
    congr 1
    exact gC_congr (fun i hi => if_neg (by omega))
  refine ⟨(hk _ (lt_of_blk h.res) (hT _ _ _ _ h.res (by decide))).trans h.res, (hk _ (lt_of_blk h.pp) (hT _ _ _ _ h.pp (by decide))).trans h.pp, own_far h.own (fun k hk2 => ?_), by rw [hgc]; exact h4, fun i hi => ?_, (h.bel.alloc h.bel.size o).grown hg (by have := h.bel.size; simp; omega) (fun k hk => by have := (h.ptr.lt k hk).1; omega)⟩
  · obtain ⟨cur, hc⟩ := own_type h.own hk2
    exact hk k (lt_of_blk hc) (hT _ _ _ _ hc (by decide))
  · by_cases e : i = j
    · subst e
      simp only [if_true]
      exact ⟨hsg _ _ hs, hb⟩
    · simp only [if_neg e]
      exact ⟨hsg _ _ (h.sg i (by omega)).1, (h.sg i (by omega)).2⟩
theorem Try.info51 : (Try.prog.info? 51).map (fun i => (i.zero, i.size, i.bytes)) = some (some (.pointer none), 1, 8) := by kernel_rfl
set_option maxRecDepth 100000 in
set_option maxHeartbeats 3200000 in
theorem paper_any (E n : Nat) (hn : n ≤ 10) (seed : ByteArray) (hs : seed.size ≤ 200) (w : World) :
    Calls Try.prog 22 #[.int .i64 (E : Int), .int .i64 (n : Int), .string seed] w fun e w' => ∃ v u, e = .returned (.tuple #[.agg #[.int .i64 (E : Int), v], u]) ∧ w'.ownsRow w.heap.size 44 2 v n (pC (seatsG seed n)) ∧ ∃ bs, w'.ownsRow w.heap.size 51 1 u n (gC bs n) ∧ (∀ i, i < n → SgAt w' (bs i) (sdS seed i) 3 0 ∧ w.heap.size ≤ bs i) ∧ Below w.heap.size w w' := by
  obtain ⟨i0, hi0, hz0, hz1, hz2⟩ := info_parts Try.info51
  have hn2 : (n : Int) ≤ 10 := by omega
  have H0 : Hid (PgSt w ((w.alloc (.cells #[.int .i64 0, .slice none 0 0] 24)).alloc (.cells #[.int .i64 (E : Int), .slice none 0 0] 24)) (E : Int) (.slice none 0 0) 0 (.slice none 0 0) (fun _ => 0) 0 seed) := hid
    ⟨(Below.heap_alloc _ _ _ (by simp)).trans (heap_alloc_last w _), snd_alloc w _ _, ⟨rfl, .inl ⟨rfl, rfl⟩⟩, ⟨rfl, .inl ⟨rfl, rfl⟩⟩, fun i hi => by omega, ((Below.refl _ _).alloc (Nat.le_refl _) _).alloc (by simp) _⟩
  have HS := hid hs
  go_enter Try.func22, Try.ntmps22
  go_wp2
  go_loopw [9, 10] (fun u i wr => ∃ (j : Nat) (v : Value) (bs : Nat → Nat), j ≤ n ∧ i = .int .i64 (j : Int) ∧ PgSt w wr (E : Int) v j u bs j seed)
    (fun _ i _ => ((n : Int) - intOf i).toNat)
  case atStart => exact ⟨0, .slice none 0 0, fun _ => 0, by omega, rfl, H0.out⟩
  case round =>
    obtain ⟨j, v, bs, hj, rfl, hO⟩ := hrel
    have HO := hid hO
    clear hO H0
    by_cases hjn : j = n
    · have hj1 : ¬ ((j : Int) < (n : Int)) := by omega
      have hO := HO.out
      rw [hjn] at hO
      have HQ := hid hO
      clear hj hjn hO HO
      obtain ⟨av, nv, cv, hv⟩ : ∃ a n c, v = .slice a n c := (by rcases HQ.out.own.2 with ⟨hv, _⟩ | ⟨g, cap, cur, hv, _⟩ <;> exact ⟨_, _, _, hv⟩)
      subst hv
      have r0 := (cell_two HQ.out.res).1
      have r1 := (cell_two HQ.out.res).2
      have f0 : wr.frozen? ⟨w.heap.size, 0, none⟩ = false := free_at HQ.out.res 0
      have f1 : wr.frozen? ⟨w.heap.size, 1, none⟩ = false := free_at HQ.out.res 1
      have p0 := (cell_two HQ.out.pp).1
      have p1 := (cell_two HQ.out.pp).2
      go_wp2
      refine ret_pair (s := 6) (s2 := 7) (ad := ⟨w.heap.size, 0, none⟩) rfl rfl (load_paper _ _ (.int .i64 (E : Int)) (.slice av nv cv) (cell_two (res_put HQ.out.res)).1 (cell_two (res_put HQ.out.res)).2) rfl rfl ?_
      have hsg : ∀ c sd, SgAt wr c sd 3 0 → SgAt ((wr.setCell ⟨w.heap.size, 0, none⟩ (.int .i64 (E : Int))).setCell ⟨w.heap.size, 1, none⟩ (.slice av nv cv)) c sd 3 0 := fun c sd hc => by
        have hne : c ≠ w.heap.size := fun e => by have := HQ.out.res; rw [← e, show wr.heap[c]? = _ from hc] at this; cases this
        exact (Below.heap_setCell _ _ _ _ hne).trans ((Below.heap_setCell _ _ _ _ hne).trans hc)
      exact ⟨_, _, rfl, (own_put (own_put HQ.out.own w.heap.size 0 _ (by omega)) w.heap.size 1 _ (by omega)).mono (by omega), bs, (own_put (own_put HQ.out.ptr w.heap.size 0 _ (by omega)) w.heap.size 1 _ (by omega)).mono (by omega), fun i hi => ⟨hsg _ _ (HQ.out.sg i hi).1, by have := (HQ.out.sg i hi).2; omega⟩, (HQ.out.bel.setCell (p := ⟨w.heap.size, 0, none⟩) (Nat.le_refl _) _).setCell (p := ⟨w.heap.size, 1, none⟩) (Nat.le_refl _) _⟩
    · have hj1 : (j : Int) < (n : Int) := by omega
      have hj0 : (0 : Int) ≤ (j : Int) := Int.natCast_nonneg _
      have w8 : IntKind.u8.wrap (j : Int) = (j : Int) := wrap8 _ (by omega) (by omega)
      have HU : Hid (j < 256) := hid (by omega)
      have HN : Hid (j + 1 ≤ 1000000) := hid (by omega)
      have HJ := hid (And.intro hj hjn)
      have HNw : Hid (∀ u : World, Calls Try.prog 51 #[.string (sdS seed j), .int .i64 3] u fun e w' => e = .returned (.tuple #[.pointer (some ⟨u.heap.size, 0, none⟩), .int .i64 0]) ∧ SgAt w' u.heap.size (sdS seed j) 3 0 ∧ Below u.heap.size u w') := hid (fun u => gnew_yes (sdS seed j) 3 (by decide) u)
      have HRt : Hid (∀ (u : World) (b : Nat), SgAt u b (sdS seed j) 3 0 → Calls Try.prog 52 #[.pointer (some ⟨b, 0, none⟩)] u fun e w' => e = .returned (.string (rootS (sdS seed j) 3)) ∧ Below u.heap.size u w') := hid (fun u b hu => sroot_le b (sdS seed j) (by rw [sdS_size]; have := HS.out; omega) 3 0 (by decide) u hu)
      have HSd : Hid (seed ++ ⟨#[UInt8.ofNat j]⟩ = sdS seed j) := hid rfl
      clear hj hjn
      go_wp2_with (first
        | rw [one_text j HU.out _ _ (show (wr.alloc (.cells #[.int .u8 (j : Int)] 5)).cell? _ = _ from (cell_at (L := [.int .u8 (j : Int)]) (t := 5) (fr := (0, 0)) (heap_alloc_last wr _) 0 _ rfl))]
        | (go_at_call 51; rw [HSd.out]; refine (HNw.out _).mono ?_; rintro e w1 ⟨rfl, hs1, hb1⟩; have H1 := hid (And.intro (HO.out.keep (((Below.refl _ _).alloc (Nat.le_refl _) _).trans (hb1.mono (by simp)))) hs1); clear hs1 hb1))
      obtain ⟨R, eR⟩ : ∃ R, R = rootS (sdS seed j) 3 := ⟨_, rfl⟩
      rw [← eR] at HRt
      obtain ⟨b, eb⟩ : ∃ b, b = wr.heap.size + 1 := ⟨_, rfl⟩
      have HB : Hid (w.heap.size + 2 ≤ b ∧ R = rootS (sdS seed j) 3) := hid ⟨by have := lt_of_blk HO.out.pp; omega, eR⟩
      have H2 : Hid (PgSt w w1 (E : Int) v j u9 bs j seed ∧ SgAt w1 b (sdS seed j) 3 0) := hid ⟨H1.out.1, by have h := H1.out.2; simp at h; rw [eb]; exact h⟩
      rw [← eb]
      clear eb eR H1 HO
      have p1 := (cell_two H2.out.1.pp).2
      have q1 : ∀ o : Obj, (w1.alloc o).cell? ⟨w.heap.size + 1, 1, none⟩ = some v := fun o => (cell_two ((Below.heap_alloc w1 o _ (lt_of_blk H2.out.1.pp)).trans H2.out.1.pp)).2
      apply by_key
      case m =>
        intro key
        go_region_law
          (first
            | (refine step_of rfl (owp_app_P _ _ rfl (w.heap.size + 2) v j (seatsG seed j) rfl (by exact H3.out.1.own.alloc _) w3.heap.size ((j : Int), R) rfl (by exact (cell_two (heap_alloc_last w3 (.cells #[.int .i64 (j : Int), .string R] 44))).1) (by exact (cell_two (heap_alloc_last w3 (.cells #[.int .i64 (j : Int), .string R] 44))).2) (by have := lt_of_blk H3.out.1.pp; simp; omega) HN.out ?_); intro v6 w6 h6 g6
               obtain ⟨ao6, n6, cp6, hv6⟩ : ∃ a n c, v6 = .slice a n c := (by rcases h6.out.2 with ⟨hv, _⟩ | ⟨g, cap, cur, hv, _⟩ <;> exact ⟨_, _, _, hv⟩)
               subst hv6
               have H6 := hid (H3.out.1.seat H3.out.2 (by have := h6.out; rwa [HB.out.2] at this) (by exact g6.out))
               have z1 : w6.cell? ⟨w.heap.size + 1, 1, none⟩ = some v := (g6.out.cell_far _ (by have := lt_of_blk H3.out.1.pp; simp; omega) (fun e => by have := (H3.out.1.own.lt (w.heap.size + 1) e.symm).1; omega)).trans (q3 _)
               have y1 : w6.frozen? ⟨w.heap.size + 1, 1, none⟩ = false := (g6.out.frozen_far _ (by have := lt_of_blk H3.out.1.pp; simp; omega) (fun e => by have := (H3.out.1.own.lt (w.heap.size + 1) e.symm).1; omega)).trans ((World.frozen?_of_block (Below.heap_alloc w3 _ _ (lt_of_blk H3.out.1.pp))).trans (free_at H3.out.1.pp 1))
               clear h6 g6)
            | (go_simp; go_at_call 52; refine (HRt.out _ b (by exact H2.out.2)).mono ?_; rintro e w3 ⟨rfl, hb3⟩; have H3 := hid (And.intro (H2.out.1.keep ((Below.refl _ _).drew.trans hb3)) (H2.out.2.keep ((Below.refl _ _).drew.trans hb3))); clear hb3; have p3 := (cell_two H3.out.1.pp).2; have q3 : ∀ o : Obj, (w3.alloc o).cell? ⟨w.heap.size + 1, 1, none⟩ = some v := (fun o => (cell_two ((Below.heap_alloc w3 o _ (lt_of_blk H3.out.1.pp)).trans H3.out.1.pp)).2)))
        all_goals
          obtain ⟨wz, ez⟩ : ∃ wz, wz = w6.setCell ⟨w.heap.size + 1, 1, none⟩ (.slice ao6 n6 cp6) := ⟨_, rfl⟩
          obtain ⟨g3, e3⟩ : ∃ g, g = w3.heap.size := ⟨_, rfl⟩
          rw [← ez] at H6
          rw [← ez, ← e3]
          clear ez e3 z1 y1 p3 q3 H3
          revert ao6 n6 cp6 g3 wz H6
          exact key.out
      case k =>
        intro ao n6 cp wz H7 g3
        clear p1 q1 H2
        go_wp2_with (at_builtin; refine wpList_append_own _ rfl _ _ 47 rfl (w.heap.size + 2) 51 i0 (.pointer none) 1 8 Try.underlying47 hi0 hz0 hz1 hz2 rfl (by decide) _ j (gC bs j) rfl (by exact H7.out.1.ptr.alloc _) ⟨_, 0, none⟩ 1 1 [.pointer (some ⟨b, 0, none⟩)] rfl rfl (World.news_of_block (t := 51) (fr := (0, 0)) (heap_alloc_last _ _)) (by simp [Value.oneCell']) (by have := HN.out; unfold maxLen; omega) (by have := HN.out; omega) (by have := lt_of_blk H7.out.1.pp; simp; omega) ?_; intro v8 w8' hown8 hgrow8 hnil8; have H8 := hid (H7.out.1.sign H7.out.2 HB.out.1 hown8 hgrow8); clear hown8 hgrow8 hnil8)
        go_roundw
        case rel => exact ⟨j + 1, _, _, by have := HJ.out; omega, by go_num, H8.out⟩
        case measure => simp [intOf]; omega
end Go.Proofs.Ytchlmcpnjpllnaa
