/- The contracts of package pack's writers. -/
import Derived.Test.YtecidbdbdnnglaaGreatPk1
namespace Go.Proofs.YtecidbdbdnnglaaGreat
open Go.RowKit

/-- Nothing but draws. -/
structure Still (w w' : World) : Prop where
  os : w'.os = w.os
  tape : w'.tape = w.tape
  output : w'.output = w.output
  heap : w'.heap = w.heap
theorem Still.refl (w : World) : Still w w := ⟨rfl, rfl, rfl, rfl⟩
theorem Still.drew (w : World) : Still w w.drew := ⟨rfl, rfl, rfl, rfl⟩
theorem Still.kept {w w' : World} (h : Still w w') (b : Nat) (r : Option Nat) : Kept b r w w' := ⟨h.os, h.tape, h.output, by rw [h.heap]; exact Nat.le_refl _, fun k _ _ _ => by rw [h.heap]⟩
theorem ownsRow_of_heap {w w' : World} (e : w'.heap = w.heap) {base : Nat} {t : TypeId} {size : Nat} {v : Value} {n : Nat} {xs : List Value} (h : w.ownsRow base t size v n xs) : w'.ownsRow base t size v n xs := by
  unfold World.ownsRow at h ⊢
  rw [e]
  exact h
theorem Still.wr {w w' : World} (e : Still w w') {b : Nat} {v : Value} {lim : Int} {l : List UInt8} {er : Int} (h : WrAt w b v lim l er) : WrAt w' b v lim l er :=
  ⟨by rw [e.heap]; exact h.blk, ownsRow_of_heap e.heap h.own⟩

set_option maxHeartbeats 400000 in
theorem new_any (n : Int) (w : World) :
    Calls Tryz.prog 53 #[.int .i64 n] w fun e w' => e = .returned (.pointer (some ⟨w.heap.size, 0, none⟩)) ∧ w' = w.alloc (.cells #[.int .i64 (max n 0), .slice none 0 0, .int .i64 0] 130) := by
  by_cases hn : n < 0
  · have e : max n 0 = 0 := by omega
    rw [e]
    clear e
    go_enter Tryz.func53, Tryz.ntmps53
    go_wp2
    go_ret
    exact ⟨rfl, rfl⟩
  · have e : max n 0 = n := by omega
    rw [e]
    clear e
    go_enter Tryz.func53, Tryz.ntmps53
    go_wp2
    go_ret
    exact ⟨rfl, rfl⟩
theorem new_wr (n : Int) (w : World) : WrAt (w.alloc (.cells #[.int .i64 (max n 0), .slice none 0 0, .int .i64 0] 130)) w.heap.size (.slice none 0 0) (max n 0) [] 0 :=
  ⟨heap_alloc_new w _, World.ownsRow_nil _ _ _ _⟩

theorem done_nil (w : World) : Calls Tryz.prog 60 #[.pointer none] w fun e w' => e = .returned (.tuple #[.string ⟨#[]⟩, .int .i64 1]) ∧ w' = w := by
  go_enter Tryz.func60, Tryz.ntmps60
  go_wp2
  go_ret2
  exact ⟨rfl, rfl⟩

theorem done_ok (b : Nat) (v : Value) (lim : Int) (l : List UInt8) (w : World) (h : WrAt w b v lim l 0) :
    Calls Tryz.prog 60 #[.pointer (some ⟨b, 0, none⟩)] w fun e w' => e = .returned (.tuple #[.string ⟨l.toArray⟩, .int .i64 0]) ∧ w' = w := by
  have c1 := h.c1
  have c2 := h.c2
  rcases h.own.2 with ⟨rfl, h0⟩ | ⟨g, cap, cur, rfl, hg, hh, hnc, hcp, hcs, htake⟩
  · obtain rfl := List.eq_nil_of_length_eq_zero h0
    have hcv : ∀ w, (convert 124 9 (.slice none 0 0)).run Tryz.prog w = .ok (.string ⟨#[]⟩) w := fun w => by
      rw [run_convert_bytes_string w 124 9 5 none 0 0 Tryz.underlying124 Tryz.underlying5 Tryz.underlying9]; rfl
    go_enter Tryz.func60, Tryz.ntmps60
    go_wp2
    go_ret2
    exact ⟨rfl, rfl⟩
  · have hcv := run_convert_bytes_back (P := Tryz.prog) w 124 9 5 ⟨g, 0, none⟩ cap l Tryz.underlying124 Tryz.underlying5 Tryz.underlying9 (fun j hj => h.own.cells (g := g) rfl j _ (by simp [bC, hj]))
    go_enter Tryz.func60, Tryz.ntmps60
    go_wp2
    go_ret2
    exact ⟨rfl, rfl⟩

theorem done_err (b : Nat) (v : Value) (lim : Int) (l : List UInt8) (er : Int) (w : World) (h : WrAt w b v lim l er) (he : (er != 0) = true) :
    Calls Tryz.prog 60 #[.pointer (some ⟨b, 0, none⟩)] w fun e w' => e = .returned (.tuple #[.string ⟨#[]⟩, .int .i64 er]) ∧ w' = w.drew := by
  have c1 := h.c1
  have c2 := h.c2
  go_enter Tryz.func60, Tryz.ntmps60
  go_wp2
  go_region
  all_goals (try go_wp2)
  all_goals go_ret2
  exact ⟨rfl, rfl⟩

theorem done_any (b : Nat) (v : Value) (lim : Int) (l : List UInt8) (er : Int) (w : World) (h : WrAt w b v lim l er) :
    Calls Tryz.prog 60 #[.pointer (some ⟨b, 0, none⟩)] w fun e w' => e = .returned (.tuple #[.string (if er = 0 then ⟨l.toArray⟩ else ⟨#[]⟩), .int .i64 er]) ∧ Still w w' := by
  by_cases he : er = 0
  · subst he
    exact (done_ok b v lim l w h).mono fun e w' ⟨h1, h2⟩ => ⟨by simpa using h1, by rw [h2]; exact Still.refl _⟩
  · exact (done_err b v lim l er w h (by simpa using he)).mono fun e w' ⟨h1, h2⟩ => ⟨by simpa [he] using h1, by rw [h2]; exact Still.drew _⟩

theorem WrAt.err {w : World} {b : Nat} {v : Value} {lim : Int} {l : List UInt8} {er : Int} (h : WrAt w b v lim l er) (u : Int) : WrAt (w.setCell ⟨b, 2, none⟩ (.int .i64 u)) b v lim l u :=
  ⟨by have := h.blk; simp [World.setCell, Array.getElem?_modify, this], ownsRow_setCell_below h.own (by show b < b + 1; omega) _⟩

/-- The error behind a thing of that size: the first one stays. -/
def adm (lim : Int) (n : Nat) (er : Int) (inR : Bool) (size : Int) : Int := if er = 0 then (if inR then (if lim - n < size then 3 else 0) else 4) else er

theorem adm_bad (lim : Int) (n : Nat) (size : Int) : adm lim n 0 false size = 4 := by simp [adm]
theorem adm_er (lim : Int) (n : Nat) (er : Int) (inR : Bool) (size : Int) (he : er ≠ 0) : adm lim n er inR size = er := by simp [adm, he]
theorem adm_long (lim : Int) (n : Nat) (size : Int) (h : lim - n < size) : adm lim n 0 true size = 3 := by simp [adm, h]
theorem adm_ok (lim : Int) (n : Nat) (size : Int) (h : ¬ lim - n < size) : adm lim n 0 true size = 0 := by simp [adm, h]

set_option maxHeartbeats 400000 in
theorem admits_er (b : Nat) (v : Value) (lim : Int) (l : List UInt8) (er : Int) (inR : Bool) (size : Int) (w : World) (h : WrAt w b v lim l er) (he : (er != 0) = true) :
    Calls Tryz.prog 93 #[.pointer (some ⟨b, 0, none⟩), .bool inR, .int .i64 size] w fun e w' => e = .returned (.bool false) ∧ w' = w := by
  have c2 := h.c2
  clear h
  go_enter Tryz.func93, Tryz.ntmps93
  go_wp2
  go_ret
  exact ⟨rfl, rfl⟩

set_option maxHeartbeats 400000 in
theorem admits_bad (b : Nat) (v : Value) (lim : Int) (l : List UInt8) (size : Int) (w : World) (h : WrAt w b v lim l 0) :
    Calls Tryz.prog 93 #[.pointer (some ⟨b, 0, none⟩), .bool false, .int .i64 size] w fun e w' => e = .returned (.bool false) ∧ w' = w.setCell ⟨b, 2, none⟩ (.int .i64 4) := by
  have c2 := h.c2
  have f2 := h.fr 2
  clear h
  go_enter Tryz.func93, Tryz.ntmps93
  go_wp2
  go_ret
  exact ⟨rfl, rfl⟩

set_option maxHeartbeats 400000 in
theorem admits_long (b : Nat) (a : Option Addr) (n cap : Nat) (lim : Int) (size : Int) (w : World) (c0 : w.cell? ⟨b, 0, none⟩ = some (.int .i64 lim)) (c1 : w.cell? ⟨b, 1, none⟩ = some (.slice a n cap)) (c2 : w.cell? ⟨b, 2, none⟩ = some (.int .i64 0)) (f2 : w.frozen? ⟨b, 2, none⟩ = false)
    (h0 : 0 ≤ lim) (h1 : lim ≤ 9223372036854775807) (hl : n ≤ 140737488355328) (hs : lim - n < size) :
    Calls Tryz.prog 93 #[.pointer (some ⟨b, 0, none⟩), .bool true, .int .i64 size] w fun e w' => e = .returned (.bool false) ∧ w' = (w.setCell ⟨b, 2, none⟩ (.int .i64 3)).drew := by
  go_enter Tryz.func93, Tryz.ntmps93
  go_wp2
  go_region
  all_goals (try go_wp2)
  all_goals go_ret
  exact ⟨rfl, rfl⟩

set_option maxHeartbeats 400000 in
theorem admits_ok (b : Nat) (a : Option Addr) (n cap : Nat) (lim : Int) (size : Int) (w : World) (c0 : w.cell? ⟨b, 0, none⟩ = some (.int .i64 lim)) (c1 : w.cell? ⟨b, 1, none⟩ = some (.slice a n cap)) (c2 : w.cell? ⟨b, 2, none⟩ = some (.int .i64 0))
    (h0 : 0 ≤ lim) (h1 : lim ≤ 9223372036854775807) (hl : n ≤ 140737488355328) (hs : size ≤ lim - n) :
    Calls Tryz.prog 93 #[.pointer (some ⟨b, 0, none⟩), .bool true, .int .i64 size] w fun e w' => e = .returned (.bool true) ∧ w' = w.drew := by
  go_enter Tryz.func93, Tryz.ntmps93
  go_wp2
  go_region
  all_goals (try go_wp2)
  all_goals go_ret
  exact ⟨rfl, rfl⟩

theorem admits_any (b : Nat) (v : Value) (lim : Int) (l : List UInt8) (er : Int) (inR : Bool) (size : Int) (w : World) (h : WrAt w b v lim l er)
    (h0 : 0 ≤ lim) (h1 : lim ≤ 9223372036854775807) (hl : l.length ≤ 140737488355328) :
    Calls Tryz.prog 93 #[.pointer (some ⟨b, 0, none⟩), .bool inR, .int .i64 size] w fun e w' => e = .returned (.bool (decide (adm lim l.length er inR size = 0))) ∧ WrAt w' b v lim l (adm lim l.length er inR size) ∧ Kept b none w w' := by
  by_cases he : er = 0
  · subst he
    cases inR with
    | false =>
      rw [adm_bad]
      exact (admits_bad b v lim l size w h).mono fun e w' ⟨h1, h2⟩ => ⟨by simpa using h1, by rw [h2]; exact h.err 4, by rw [h2]; exact (Kept.refl _ _ _).setCell _ _⟩
    | true =>
      obtain ⟨a, cap, rfl⟩ : ∃ a cap, v = .slice a l.length cap := by
        rcases h.own.2 with ⟨hv, h0⟩ | ⟨g, cap, cur, hv, _⟩
        · exact ⟨none, 0, by rw [hv, h0]⟩
        · exact ⟨_, _, hv⟩
      by_cases hs : lim - l.length < size
      · rw [adm_long _ _ _ hs]
        exact (admits_long b a l.length cap lim size w h.c0 h.c1 h.c2 (h.fr 2) h0 h1 hl hs).mono fun e w' ⟨h1, h2⟩ => ⟨by simpa using h1, by rw [h2]; exact (Still.drew _).wr (h.err 3), by rw [h2]; exact ((Kept.refl _ _ _).setCell _ _).drew⟩
      · rw [adm_ok _ _ _ hs]
        exact (admits_ok b a l.length cap lim size w h.c0 h.c1 h.c2 h0 h1 hl (by omega)).mono fun e w' ⟨h1, h2⟩ => ⟨by simpa using h1, by rw [h2]; exact (Still.drew _).wr h, by rw [h2]; exact (Kept.refl _ _ _).drew⟩
  · rw [adm_er _ _ _ _ _ he]
    exact (admits_er b v lim l er inR size w h (by simpa using he)).mono fun e w' ⟨h1, h2⟩ => ⟨by simpa [he] using h1, by rw [h2]; exact h, by rw [h2]; exact Kept.refl _ _ _⟩

theorem admits_nil (inR : Bool) (size : Int) (w : World) : Calls Tryz.prog 93 #[.pointer none, .bool inR, .int .i64 size] w fun e w' => e = .returned (.bool false) ∧ w' = w := by
  go_enter Tryz.func93, Tryz.ntmps93
  go_wp2
  go_ret
  exact ⟨rfl, rfl⟩

end Go.Proofs.YtecidbdbdnnglaaGreat
