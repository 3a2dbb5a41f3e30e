/- The contracts of the document's writer (layer 1's reference). -/
import Derived.Test.YtecidbdbdnnglaaGreatMwAM
import Derived.Maps.AppendAt
namespace Go.Proofs.YtecidbdbdnnglaaGreat
open Go.RowKit

/-- The document's writer at block c. -/
structure MwAt (w : World) (c : Nat) (v : Value) (lim : Int) (l : List UInt8) (er : Int) : Prop where
  blk : w.heap[c]? = some (.cells #[v, .int .i64 lim, .int .i64 er] 143 (0, 0))
  own : w.ownsRow (c + 1) 5 1 v l.length (bC l)

section
variable {w : World} {c : Nat} {v : Value} {lim : Int} {l : List UInt8} {er : Int}
theorem MwAt.lt (h : MwAt w c v lim l er) : c < w.heap.size := lt_of_blk h.blk
theorem MwAt.c0 (h : MwAt w c v lim l er) : w.cell? ⟨c, 0, none⟩ = some v := cell_of_blk h.blk 0 (by simp)
theorem MwAt.c1 (h : MwAt w c v lim l er) : w.cell? ⟨c, 1, none⟩ = some (.int .i64 lim) := cell_of_blk h.blk 1 (by simp)
theorem MwAt.c2 (h : MwAt w c v lim l er) : w.cell? ⟨c, 2, none⟩ = some (.int .i64 er) := cell_of_blk h.blk 2 (by simp)
theorem MwAt.fr (h : MwAt w c v lim l er) (j : Nat) : w.frozen? ⟨c, j, none⟩ = false := free_of_blk h.blk j
theorem MwAt.alloc (h : MwAt w c v lim l er) (o : Obj) : MwAt (w.alloc o) c v lim l er := ⟨(Below.heap_alloc w o c h.lt).trans h.blk, h.own.alloc o⟩
theorem MwAt.drew (h : MwAt w c v lim l er) : MwAt w.drew c v lim l er := ⟨h.blk, ownsRow_of_heap rfl h.own⟩
theorem MwAt.err (h : MwAt w c v lim l er) (u : Int) : MwAt (w.setCell ⟨c, 2, none⟩ (.int .i64 u)) c v lim l u :=
  ⟨by have := h.blk; simp [World.setCell, Array.getElem?_modify, this], ownsRow_setCell_below h.own (by show c < c + 1; omega) _⟩
theorem MwAt.form (h : MwAt w c v lim l er) : ∃ a cap, v = .slice a l.length cap := by
  rcases h.own.2 with ⟨hv, h0⟩ | ⟨g, cap, cur, hv, _⟩
  · exact ⟨none, 0, by rw [hv, h0]⟩
  · exact ⟨_, _, hv⟩
/-- Below the writer and its row nothing else has turned. -/
theorem MwAt.above {w' : World} (h : MwAt w c v lim l er) (hb : Below w.heap.size w w') : MwAt w' c v lim l er := by
  refine ⟨by rw [hb.block c h.lt]; exact h.blk, h.own.1, ?_⟩
  rcases h.own.2 with h2 | ⟨g, cap, cur, hv, hg, hh, r⟩
  · exact .inl h2
  · exact .inr ⟨g, cap, cur, hv, hg, by rw [hb.block g (lt_of_blk hh)]; exact hh, r⟩
end

theorem mnew_any (n : Int) (w : World) :
    Calls Tryz.prog 72 #[.int .i64 n] w fun e w' => e = .returned (.pointer (some ⟨w.heap.size, 0, none⟩)) ∧ w' = w.alloc (.cells #[.slice none 0 0, .int .i64 (max n 0), .int .i64 0] 143) := by
  by_cases hn : n < 0
  · have e : max n 0 = 0 := by omega
    rw [e]
    clear e
    go_enter Tryz.func72, Tryz.ntmps72
    go_wp2
    go_ret
    exact ⟨rfl, rfl⟩
  · have e : max n 0 = n := by omega
    rw [e]
    clear e
    go_enter Tryz.func72, Tryz.ntmps72
    go_wp2
    go_ret
    exact ⟨rfl, rfl⟩

theorem mdone_ok (c : Nat) (v : Value) (lim : Int) (l : List UInt8) (w : World) (h : MwAt w c v lim l 0) :
    Calls Tryz.prog 78 #[.pointer (some ⟨c, 0, none⟩)] w fun e w' => e = .returned (.tuple #[.string ⟨l.toArray⟩, .int .i64 0]) ∧ w' = w := by
  have c0 := h.c0
  have c2 := h.c2
  rcases h.own.2 with ⟨rfl, h0⟩ | ⟨g, cap, cur, rfl, hg, hh, hnc, hcp, hcs, htake⟩
  · obtain rfl := List.eq_nil_of_length_eq_zero h0
    have hcv : ∀ w, (convert 124 9 (.slice none 0 0)).run Tryz.prog w = .ok (.string ⟨#[]⟩) w := fun w => by
      rw [run_convert_bytes_string w 124 9 5 none 0 0 Tryz.underlying124 Tryz.underlying5 Tryz.underlying9]; rfl
    clear h
    go_enter Tryz.func78, Tryz.ntmps78
    go_wp2
    go_ret2
    exact ⟨rfl, rfl⟩
  · have hcv := run_convert_bytes_back (P := Tryz.prog) w 124 9 5 ⟨g, 0, none⟩ cap l Tryz.underlying124 Tryz.underlying5 Tryz.underlying9 (fun j hj => h.own.cells (g := g) rfl j _ (by simp [bC, hj]))
    clear h
    go_enter Tryz.func78, Tryz.ntmps78
    go_wp2
    go_ret2
    exact ⟨rfl, rfl⟩

theorem mdone_err (c : Nat) (v : Value) (lim : Int) (l : List UInt8) (er : Int) (w : World) (h : MwAt w c v lim l er) (he : (er != 0) = true) :
    Calls Tryz.prog 78 #[.pointer (some ⟨c, 0, none⟩)] w fun e w' => e = .returned (.tuple #[.string ⟨#[]⟩, .int .i64 er]) ∧ w' = w.drew := by
  have c2 := h.c2
  clear h
  go_enter Tryz.func78, Tryz.ntmps78
  go_wp2
  go_region
  all_goals (try go_wp2)
  all_goals go_ret2
  exact ⟨rfl, rfl⟩

set_option maxHeartbeats 800000 in
theorem mput_bad (c : Nat) (v : Value) (lim : Int) (l : List UInt8) (er : Int) (size : Int) (w : World) (h : MwAt w c v lim l er) :
    Calls Tryz.prog 113 #[.pointer (some ⟨c, 0, none⟩), .slice none 0 0, .bool false] w fun e w' => e = .returned (.tuple #[]) ∧ MwAt w' c v lim l (adm lim l.length er false size) ∧ Kept c none w w' := by
  have c2 := h.c2
  have f2 := h.fr 2
  have HH := hid h
  clear h
  by_cases he : er = 0
  · subst he
    rw [adm_bad]
    go_enter Tryz.func113, Tryz.ntmps113
    go_wp2
    first | go_end0 | refine bodyPost_ret (results_none rfl _ _ _) rfl ?_
    exact ⟨rfl, HH.out.err 4, (Kept.refl _ _ _).setCell _ _⟩
  · have hne : (er != 0) = true := by simpa using he
    rw [adm_er _ _ _ _ _ he]
    clear he
    go_enter Tryz.func113, Tryz.ntmps113
    go_wp2
    first | go_end0 | refine bodyPost_ret (results_none rfl _ _ _) rfl ?_
    exact ⟨rfl, HH.out, Kept.refl _ _ _⟩

set_option maxHeartbeats 800000 in
theorem mput_er (c : Nat) (v : Value) (lim : Int) (l : List UInt8) (er : Int) (x : Value) (w : World) (h : MwAt w c v lim l er) (he : (er != 0) = true) :
    Calls Tryz.prog 113 #[.pointer (some ⟨c, 0, none⟩), x, .bool true] w fun e w' => e = .returned (.tuple #[]) ∧ w' = w := by
  have c2 := h.c2
  clear h
  go_enter Tryz.func113, Tryz.ntmps113
  go_wp2
  first | go_end0 | refine bodyPost_ret (results_none rfl _ _ _) rfl ?_
  exact ⟨rfl, rfl⟩

set_option maxHeartbeats 800000 in
theorem mput_long (c : Nat) (a : Option Addr) (n cap : Nat) (lim : Int) (g m cm : Nat) (w : World) (c0 : w.cell? ⟨c, 0, none⟩ = some (.slice a n cap)) (c1 : w.cell? ⟨c, 1, none⟩ = some (.int .i64 lim)) (c2 : w.cell? ⟨c, 2, none⟩ = some (.int .i64 0)) (f2 : w.frozen? ⟨c, 2, none⟩ = false)
    (h0 : 0 ≤ lim) (h1 : lim ≤ 9223372036854775807) (hl : n ≤ 140737488355328) (hs : lim - n < m) :
    Calls Tryz.prog 113 #[.pointer (some ⟨c, 0, none⟩), .slice (some ⟨g, 0, none⟩) m cm, .bool true] w fun e w' => e = .returned (.tuple #[]) ∧ w' = (w.setCell ⟨c, 2, none⟩ (.int .i64 3)).drew := by
  go_enter Tryz.func113, Tryz.ntmps113
  go_wp2
  go_region
  all_goals (try go_wp2)
  all_goals (first | go_end0 | refine bodyPost_ret (results_none rfl _ _ _) rfl ?_)
  exact ⟨rfl, rfl⟩

theorem MwAt.bytes {w : World} {c : Nat} {v : Value} {lim : Int} {er : Int} (h : w.heap[c]? = some (.cells #[v, .int .i64 lim, .int .i64 er] 143 (0, 0))) {v' : Value} {l' : List UInt8} (ho : w.ownsRow (c + 1) 5 1 v' l'.length (bC l')) :
    MwAt (w.setCell ⟨c, 0, none⟩ v') c v' lim l' er :=
  ⟨by simp [World.setCell, Array.getElem?_modify, h], ownsRow_setCell_below ho (by show c < c + 1; omega) _⟩

theorem mput_step {w1 w2 : World} {c : Nat} {v v' : Value} {lim : Int} {L C : List UInt8} {er : Int} (hR : MwAt w1 c v lim L er)
    (hown : w2.ownsRow (c + 1) 5 1 v' (L.length + C.length) (bC L ++ bC C)) (hgrow : w1.grownBy w2 v.ownBlock) (hat : v'.ownBlock = v.ownBlock ∨ v'.ownBlock = some w1.heap.size) :
    MwAt (w2.setCell ⟨c, 0, none⟩ v') c v' lim (L ++ C) er ∧ Kept c v.ownBlock w1 (w2.setCell ⟨c, 0, none⟩ v') ∧ Moved w1 v v' := by
  have hbv : some c ≠ v.ownBlock := fun e => by have := (hR.own.lt c e.symm).1; omega
  have hb1 : w2.heap[c]? = some (.cells #[v, .int .i64 lim, .int .i64 er] 143 (0, 0)) := by
    rw [hgrow.block c hR.lt hbv]
    exact hR.blk
  refine ⟨MwAt.bytes hb1 ?_, ?_, ?_⟩
  · rw [bC_app, List.length_append]; exact hown
  · exact ((Kept.refl c v.ownBlock w1).grown hgrow (.inl rfl)).setCell _ _
  · rcases hat with h | h
    · exact .inl h
    · exact .inr ⟨_, h, Nat.le_refl _⟩

set_option maxRecDepth 100000 in
set_option maxHeartbeats 1600000 in
theorem mput_ok (c : Nat) (v : Value) (lim : Int) (l : List UInt8) (g cm : Nat) (xs : List UInt8) (w : World) (h : MwAt w c v lim l 0)
    (h0 : 0 ≤ lim) (h1 : lim ≤ 9223372036854775807) (hl : l.length + xs.length ≤ 140737488355328) (hs : (xs.length : Int) ≤ lim - l.length)
    (hsrc : ∀ j u, (bC xs)[j]? = some u → w.cell? ⟨g, j, none⟩ = some u) :
    Calls Tryz.prog 113 #[.pointer (some ⟨c, 0, none⟩), .slice (some ⟨g, 0, none⟩) xs.length cm, .bool true] w fun e w' => e = .returned (.tuple #[]) ∧ ∃ v', MwAt w' c v' lim (l ++ xs) 0 ∧ Kept c v.ownBlock w w' ∧ Moved w v v' := by
  obtain ⟨i0, hi0, hz0, hz1, hz2⟩ := info_parts Tryz.info5
  obtain ⟨av, cap, rfl⟩ := h.form
  have c0 := h.c0
  have c1 := h.c1
  have c2 := h.c2
  have f0 := h.fr 0
  have hlt := h.lt
  have ho := h.own
  have HH := hid h
  have HS := hid hsrc
  clear h hsrc
  have hbv : some c ≠ (Value.slice av l.length cap).ownBlock := fun e => by have := (ho.lt c e.symm).1; omega
  go_enter Tryz.func113, Tryz.ntmps113
  go_wp2
  go_region
  go_wp2_with (at_builtin; refine wpList_append_own_at _ rfl _ _ 124 rfl (c + 1) 5 i0 (.int .u8 0) 1 1 Tryz.underlying124 hi0 hz0 hz1 hz2 rfl (by decide) _ l.length (bC l) rfl (ownsRow_of_heap rfl ho) ⟨g, 0, none⟩ xs.length cm (bC xs) rfl (by rw [bC_len, Nat.mul_one]) ?cells ?one (by unfold maxLen; omega) (by omega) (by exact hlt) ?_)
  case cells =>
    intro j u hj
    rw [Addr.add_lit, Nat.zero_add]
    exact HS.out j u hj
  case one =>
    intro u hu
    obtain ⟨_, _, rfl⟩ := List.mem_map.1 hu
    rfl
  · intro v3 w3 hown3 hgrow _ hat
    have HT := hid (mput_step HH.out.drew hown3 hgrow hat)
    have cz : w3.cell? ⟨c, 0, none⟩ = some (.slice av l.length cap) := (hgrow.cell_far ⟨c, 0, none⟩ hlt hbv).trans c0
    have fz : w3.frozen? ⟨c, 0, none⟩ = false := (hgrow.frozen_far ⟨c, 0, none⟩ hlt hbv).trans f0
    obtain ⟨a3, n3, cap3, hv3⟩ : ∃ a3 n3 cap3, v3 = .slice a3 n3 cap3 := by
      rcases hown3.2 with ⟨hv, _⟩ | ⟨g, cap, cur, hv, _⟩
      · exact ⟨_, _, _, hv⟩
      · exact ⟨_, _, _, hv⟩
    rw [hv3] at HT ⊢
    clear hown3 hgrow hat ho hv3
    go_wp2
    first | go_end0 | refine bodyPost_ret (results_none rfl _ _ _) rfl ?_
    exact ⟨rfl, _, HT.out.1, ⟨HT.out.2.1.os, HT.out.2.1.tape, HT.out.2.1.output, HT.out.2.1.size, HT.out.2.1.block⟩, HT.out.2.2⟩

theorem mput_any (c : Nat) (v : Value) (lim : Int) (l : List UInt8) (er : Int) (g cm : Nat) (xs : List UInt8) (w : World) (h : MwAt w c v lim l er)
    (h0 : 0 ≤ lim) (h1 : lim ≤ 9223372036854775807) (hl : l.length + xs.length ≤ 140737488355328)
    (hsrc : ∀ j u, (bC xs)[j]? = some u → w.cell? ⟨g, j, none⟩ = some u) :
    Calls Tryz.prog 113 #[.pointer (some ⟨c, 0, none⟩), .slice (some ⟨g, 0, none⟩) xs.length cm, .bool true] w fun e w' => e = .returned (.tuple #[]) ∧
      ∃ v', MwAt w' c v' lim (if adm lim l.length er true xs.length = 0 then l ++ xs else l) (adm lim l.length er true xs.length) ∧ Kept c v.ownBlock w w' ∧ Moved w v v' := by
  by_cases he : er = 0
  · subst he
    by_cases hs : lim - l.length < xs.length
    · rw [adm_long _ _ _ hs, if_neg (by decide)]
      obtain ⟨a, cap, hv⟩ := h.form
      exact (mput_long c a l.length cap lim g xs.length cm w (hv ▸ h.c0) h.c1 h.c2 (h.fr 2) h0 h1 (by omega) hs).mono fun e w' ⟨e1, e2⟩ => ⟨e1, v, by rw [e2]; exact (h.err 3).drew, by rw [e2]; exact ((Kept.refl _ _ _).setCell _ _).drew, Moved.refl _ _⟩
    · rw [adm_ok _ _ _ hs, if_pos rfl]
      exact mput_ok c v lim l g cm xs w h h0 h1 hl (by omega) hsrc
  · rw [adm_er _ _ _ _ _ he, if_neg he]
    exact (mput_er c v lim l er _ w h (by simpa using he)).mono fun e w' ⟨e1, e2⟩ => ⟨e1, v, by rw [e2]; exact h, by rw [e2]; exact Kept.refl _ _ _, Moved.refl _ _⟩

end Go.Proofs.YtecidbdbdnnglaaGreat
