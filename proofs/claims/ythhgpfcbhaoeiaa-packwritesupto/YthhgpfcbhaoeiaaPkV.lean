/- What the statements' 'write' makes of one item. -/
import Derived.Test.YthhgpfcbhaoeiaaPkB
import Derived.Test.YthhgpfcbhaoeiaaPkO
namespace Go.Proofs.Ythhgpfcbhaoeiaa
open Go.RowKit

theorem WrAt.alloc {w : World} {b : Nat} {v : Value} {lim : Int} {l : List UInt8} {er : Int} (h : WrAt w b v lim l er) (o : Obj) : WrAt (w.alloc o) b v lim l er :=
  ⟨(Below.heap_alloc w o b h.lt).trans h.blk, h.own.alloc o⟩

/-- The error behind an item; the bytes. -/
def iE (lim : Int) (l : List UInt8) (er : Int) (i : It) : Int := if i.kd = 0 then wE lim l er 1 i.n else if i.kd = 1 then wE lim l er 2 i.n else if i.kd = 2 then wE lim l er 4 i.n else if i.kd = 3 then bE lim l er else xE lim l er i.s
def iL (lim : Int) (l : List UInt8) (er : Int) (i : It) : List UInt8 := if i.kd = 0 then wL lim l er 1 i.n else if i.kd = 1 then wL lim l er 2 i.n else if i.kd = 2 then wL lim l er 4 i.n else if i.kd = 3 then bL lim l er i.q else xL lim l er i.s

set_option maxRecDepth 100000 in
set_option maxHeartbeats 1600000 in
theorem write0 (b : Nat) (v : Value) (lim : Int) (l : List UInt8) (er : Int) (i : It) (w : World) (h : WrAt w b v lim l er) (hf : i.fits)
    (h0 : 0 ≤ lim) (h1 : lim ≤ 9223372036854775807) (hl : l.length + (i.s.size + 10) ≤ 140737488355328) (hk : i.kd = 0) :
    Calls Try.prog 12 #[.pointer (some ⟨b, 0, none⟩), i.v] w fun e w' => e = .returned (.tuple #[]) ∧ ∃ v', WrAt w' b v' lim (wL lim l er 1 i.n) (wE lim l er 1 i.n) ∧ Kept b v.ownBlock w w' ∧ Moved w v v' := by
  have HH := hid h
  have HF := hid hf
  have HC := hid (fun w => kind_any i w)
  rw [hk] at HC
  unfold It.v at HC ⊢
  clear h hf hk
  go_enter Try.func12, Try.ntmps12
  go_wp2_with fail
  refine (HC.out _).mono ?_
  rintro e w1 ⟨rfl, hw1⟩
  have hr1 : WrAt w1 b v lim l er := by rw [hw1]; exact (HH.out.alloc _).alloc _
  have hk1 : Kept b v.ownBlock w w1 := by rw [hw1]; exact ((Kept.refl _ _ _).alloc _).alloc _
  have c0 : w1.cell? ⟨w.heap.size, 0, none⟩ = some (.int .i64 i.k) := by rw [hw1]; simp [go_sem]
  have c1 : w1.cell? ⟨w.heap.size, 1, none⟩ = some (.int .i64 i.n) := by rw [hw1]; simp [go_sem]
  have c2 : w1.cell? ⟨w.heap.size, 2, none⟩ = some (.int .u64 (i.q : Int)) := by rw [hw1]; simp [go_sem]
  have c3 : w1.cell? ⟨w.heap.size, 3, none⟩ = some (.string i.s) := by rw [hw1]; simp [go_sem]
  have H1 := hid (And.intro hr1 hk1)
  clear hw1 hr1 hk1
  go_wp2_with fail
  refine (wbyte_any b v lim l er i.n w1 H1.out.1 h0 h1 (by omega) HF.out.2.1).mono ?_
  rintro e w2 ⟨rfl, v2, hx2, hk2, hm2⟩
  have H2 := hid (And.intro hx2 (And.intro (H1.out.2.trans hk2 (.inl rfl)) ((Moved.refl w v).trans hm2 H1.out.2.size)))
  clear hx2 hk2 hm2
  go_wp2
  go_end0
  exact ⟨rfl, v2, H2.out⟩

set_option maxRecDepth 100000 in
set_option maxHeartbeats 1600000 in
theorem write1 (b : Nat) (v : Value) (lim : Int) (l : List UInt8) (er : Int) (i : It) (w : World) (h : WrAt w b v lim l er) (hf : i.fits)
    (h0 : 0 ≤ lim) (h1 : lim ≤ 9223372036854775807) (hl : l.length + (i.s.size + 10) ≤ 140737488355328) (hk : i.kd = 1) :
    Calls Try.prog 12 #[.pointer (some ⟨b, 0, none⟩), i.v] w fun e w' => e = .returned (.tuple #[]) ∧ ∃ v', WrAt w' b v' lim (wL lim l er 2 i.n) (wE lim l er 2 i.n) ∧ Kept b v.ownBlock w w' ∧ Moved w v v' := by
  have HH := hid h
  have HF := hid hf
  have HC := hid (fun w => kind_any i w)
  rw [hk] at HC
  unfold It.v at HC ⊢
  clear h hf hk
  go_enter Try.func12, Try.ntmps12
  go_wp2_with fail
  refine (HC.out _).mono ?_
  rintro e w1 ⟨rfl, hw1⟩
  have hr1 : WrAt w1 b v lim l er := by rw [hw1]; exact (HH.out.alloc _).alloc _
  have hk1 : Kept b v.ownBlock w w1 := by rw [hw1]; exact ((Kept.refl _ _ _).alloc _).alloc _
  have c0 : w1.cell? ⟨w.heap.size, 0, none⟩ = some (.int .i64 i.k) := by rw [hw1]; simp [go_sem]
  have c1 : w1.cell? ⟨w.heap.size, 1, none⟩ = some (.int .i64 i.n) := by rw [hw1]; simp [go_sem]
  have c2 : w1.cell? ⟨w.heap.size, 2, none⟩ = some (.int .u64 (i.q : Int)) := by rw [hw1]; simp [go_sem]
  have c3 : w1.cell? ⟨w.heap.size, 3, none⟩ = some (.string i.s) := by rw [hw1]; simp [go_sem]
  have H1 := hid (And.intro hr1 hk1)
  clear hw1 hr1 hk1
  go_wp2_with fail
  refine (wword_any b v lim l er i.n w1 H1.out.1 h0 h1 (by omega) HF.out.2.1).mono ?_
  rintro e w2 ⟨rfl, v2, hx2, hk2, hm2⟩
  have H2 := hid (And.intro hx2 (And.intro (H1.out.2.trans hk2 (.inl rfl)) ((Moved.refl w v).trans hm2 H1.out.2.size)))
  clear hx2 hk2 hm2
  go_wp2
  go_end0
  exact ⟨rfl, v2, H2.out⟩

set_option maxRecDepth 100000 in
set_option maxHeartbeats 1600000 in
theorem write2 (b : Nat) (v : Value) (lim : Int) (l : List UInt8) (er : Int) (i : It) (w : World) (h : WrAt w b v lim l er) (hf : i.fits)
    (h0 : 0 ≤ lim) (h1 : lim ≤ 9223372036854775807) (hl : l.length + (i.s.size + 10) ≤ 140737488355328) (hk : i.kd = 2) :
    Calls Try.prog 12 #[.pointer (some ⟨b, 0, none⟩), i.v] w fun e w' => e = .returned (.tuple #[]) ∧ ∃ v', WrAt w' b v' lim (wL lim l er 4 i.n) (wE lim l er 4 i.n) ∧ Kept b v.ownBlock w w' ∧ Moved w v v' := by
  have HH := hid h
  have HF := hid hf
  have HC := hid (fun w => kind_any i w)
  rw [hk] at HC
  unfold It.v at HC ⊢
  clear h hf hk
  go_enter Try.func12, Try.ntmps12
  go_wp2_with fail
  refine (HC.out _).mono ?_
  rintro e w1 ⟨rfl, hw1⟩
  have hr1 : WrAt w1 b v lim l er := by rw [hw1]; exact (HH.out.alloc _).alloc _
  have hk1 : Kept b v.ownBlock w w1 := by rw [hw1]; exact ((Kept.refl _ _ _).alloc _).alloc _
  have c0 : w1.cell? ⟨w.heap.size, 0, none⟩ = some (.int .i64 i.k) := by rw [hw1]; simp [go_sem]
  have c1 : w1.cell? ⟨w.heap.size, 1, none⟩ = some (.int .i64 i.n) := by rw [hw1]; simp [go_sem]
  have c2 : w1.cell? ⟨w.heap.size, 2, none⟩ = some (.int .u64 (i.q : Int)) := by rw [hw1]; simp [go_sem]
  have c3 : w1.cell? ⟨w.heap.size, 3, none⟩ = some (.string i.s) := by rw [hw1]; simp [go_sem]
  have H1 := hid (And.intro hr1 hk1)
  clear hw1 hr1 hk1
  go_wp2_with fail
  refine (wlong_any b v lim l er i.n w1 H1.out.1 h0 h1 (by omega) HF.out.2.1).mono ?_
  rintro e w2 ⟨rfl, v2, hx2, hk2, hm2⟩
  have H2 := hid (And.intro hx2 (And.intro (H1.out.2.trans hk2 (.inl rfl)) ((Moved.refl w v).trans hm2 H1.out.2.size)))
  clear hx2 hk2 hm2
  go_wp2
  go_end0
  exact ⟨rfl, v2, H2.out⟩

set_option maxRecDepth 100000 in
set_option maxHeartbeats 1600000 in
theorem write3 (b : Nat) (v : Value) (lim : Int) (l : List UInt8) (er : Int) (i : It) (w : World) (h : WrAt w b v lim l er) (hf : i.fits)
    (h0 : 0 ≤ lim) (h1 : lim ≤ 9223372036854775807) (hl : l.length + (i.s.size + 10) ≤ 140737488355328) (hk : i.kd = 3) :
    Calls Try.prog 12 #[.pointer (some ⟨b, 0, none⟩), i.v] w fun e w' => e = .returned (.tuple #[]) ∧ ∃ v', WrAt w' b v' lim (bL lim l er i.q) (bE lim l er) ∧ Kept b v.ownBlock w w' ∧ Moved w v v' := by
  have HH := hid h
  have HF := hid hf
  have HC := hid (fun w => kind_any i w)
  rw [hk] at HC
  unfold It.v at HC ⊢
  clear h hf hk
  go_enter Try.func12, Try.ntmps12
  go_wp2_with fail
  refine (HC.out _).mono ?_
  rintro e w1 ⟨rfl, hw1⟩
  have hr1 : WrAt w1 b v lim l er := by rw [hw1]; exact (HH.out.alloc _).alloc _
  have hk1 : Kept b v.ownBlock w w1 := by rw [hw1]; exact ((Kept.refl _ _ _).alloc _).alloc _
  have c0 : w1.cell? ⟨w.heap.size, 0, none⟩ = some (.int .i64 i.k) := by rw [hw1]; simp [go_sem]
  have c1 : w1.cell? ⟨w.heap.size, 1, none⟩ = some (.int .i64 i.n) := by rw [hw1]; simp [go_sem]
  have c2 : w1.cell? ⟨w.heap.size, 2, none⟩ = some (.int .u64 (i.q : Int)) := by rw [hw1]; simp [go_sem]
  have c3 : w1.cell? ⟨w.heap.size, 3, none⟩ = some (.string i.s) := by rw [hw1]; simp [go_sem]
  have H1 := hid (And.intro hr1 hk1)
  clear hw1 hr1 hk1
  go_wp2_with fail
  refine (wbits_any b v lim l er i.q w1 H1.out.1 h0 h1 (by omega) HF.out.2.2.1).mono ?_
  rintro e w2 ⟨rfl, v2, hx2, hk2, hm2⟩
  have H2 := hid (And.intro hx2 (And.intro (H1.out.2.trans hk2 (.inl rfl)) ((Moved.refl w v).trans hm2 H1.out.2.size)))
  clear hx2 hk2 hm2
  go_wp2
  go_end0
  exact ⟨rfl, v2, H2.out⟩

set_option maxRecDepth 100000 in
set_option maxHeartbeats 1600000 in
theorem write4 (b : Nat) (v : Value) (lim : Int) (l : List UInt8) (er : Int) (i : It) (w : World) (h : WrAt w b v lim l er) (hf : i.fits)
    (h0 : 0 ≤ lim) (h1 : lim ≤ 9223372036854775807) (hl : l.length + (i.s.size + 10) ≤ 140737488355328) (hk : i.kd = 4) :
    Calls Try.prog 12 #[.pointer (some ⟨b, 0, none⟩), i.v] w fun e w' => e = .returned (.tuple #[]) ∧ ∃ v', WrAt w' b v' lim (xL lim l er i.s) (xE lim l er i.s) ∧ Kept b v.ownBlock w w' ∧ Moved w v v' := by
  have HH := hid h
  have HF := hid hf
  have HC := hid (fun w => kind_any i w)
  rw [hk] at HC
  unfold It.v at HC ⊢
  clear h hf hk
  go_enter Try.func12, Try.ntmps12
  go_wp2_with fail
  refine (HC.out _).mono ?_
  rintro e w1 ⟨rfl, hw1⟩
  have hr1 : WrAt w1 b v lim l er := by rw [hw1]; exact (HH.out.alloc _).alloc _
  have hk1 : Kept b v.ownBlock w w1 := by rw [hw1]; exact ((Kept.refl _ _ _).alloc _).alloc _
  have c0 : w1.cell? ⟨w.heap.size, 0, none⟩ = some (.int .i64 i.k) := by rw [hw1]; simp [go_sem]
  have c1 : w1.cell? ⟨w.heap.size, 1, none⟩ = some (.int .i64 i.n) := by rw [hw1]; simp [go_sem]
  have c2 : w1.cell? ⟨w.heap.size, 2, none⟩ = some (.int .u64 (i.q : Int)) := by rw [hw1]; simp [go_sem]
  have c3 : w1.cell? ⟨w.heap.size, 3, none⟩ = some (.string i.s) := by rw [hw1]; simp [go_sem]
  have H1 := hid (And.intro hr1 hk1)
  clear hw1 hr1 hk1
  go_wp2_with fail
  refine (wtext_any b v lim l er i.s w1 H1.out.1 h0 h1 (by omega) (by omega) (fun _ => by omega)).mono ?_
  rintro e w2 ⟨rfl, v2, hx2, hk2, hm2⟩
  have H2 := hid (And.intro hx2 (And.intro (H1.out.2.trans hk2 (.inl rfl)) ((Moved.refl w v).trans hm2 H1.out.2.size)))
  clear hx2 hk2 hm2
  go_wp2
  go_end0
  exact ⟨rfl, v2, H2.out⟩

theorem write_any (b : Nat) (v : Value) (lim : Int) (l : List UInt8) (er : Int) (i : It) (w : World) (h : WrAt w b v lim l er) (hf : i.fits)
    (h0 : 0 ≤ lim) (h1 : lim ≤ 9223372036854775807) (hl : l.length + (i.s.size + 10) ≤ 140737488355328) :
    Calls Try.prog 12 #[.pointer (some ⟨b, 0, none⟩), i.v] w fun e w' => e = .returned (.tuple #[]) ∧ ∃ v', WrAt w' b v' lim (iL lim l er i) (iE lim l er i) ∧ Kept b v.ownBlock w w' ∧ Moved w v v' := by
  unfold iL iE
  rcases i.kd_bd with hk | hk | hk | hk | hk
  · rw [hk]; exact write0 b v lim l er i w h hf h0 h1 hl hk
  · rw [hk]; exact write1 b v lim l er i w h hf h0 h1 hl hk
  · rw [hk]; exact write2 b v lim l er i w h hf h0 h1 hl hk
  · rw [hk]; exact write3 b v lim l er i w h hf h0 h1 hl hk
  · rw [hk]; exact write4 b v lim l er i w h hf h0 h1 hl hk

theorem iL_len (lim : Int) (l : List UInt8) (er : Int) (i : It) : (iL lim l er i).length ≤ l.length + (i.s.size + 8) := by
  have hw : ∀ s n, s ≤ 8 → (wL lim l er s n).length ≤ l.length + (i.s.size + 8) := fun s n hs => by
    unfold wL
    split
    · rw [List.length_append, be_len]; omega
    · omega
  have hb : (bL lim l er i.q).length ≤ l.length + (i.s.size + 8) := by
    unfold bL
    split
    · rw [List.length_append, be_len]; omega
    · omega
  have hx : (xL lim l er i.s).length ≤ l.length + (i.s.size + 8) := by
    unfold xL
    split
    · have hd : i.s.data.toList.length = i.s.size := by rw [Array.length_toList]; rfl
      rw [List.length_append, List.length_append, be_len, hd]; omega
    · omega
  unfold iL
  rcases i.kd_bd with hk | hk | hk | hk | hk <;> rw [hk]
  · exact hw 1 _ (by omega)
  · exact hw 2 _ (by omega)
  · exact hw 4 _ (by omega)
  · exact hb
  · exact hx

/-- What a writer has behind a list of items. -/
def wst (lim : Int) : List It → List UInt8 × Int → List UInt8 × Int
  | [], p => p
  | i :: r, p => wst lim r (iL lim p.1 p.2 i, iE lim p.1 p.2 i)
theorem wst_snoc (lim : Int) (its : List It) (i : It) : ∀ p, wst lim (its ++ [i]) p = (iL lim (wst lim its p).1 (wst lim its p).2 i, iE lim (wst lim its p).1 (wst lim its p).2 i) := by
  induction its with
  | nil => intro p; rfl
  | cons j r ih => intro p; rw [List.cons_append, wst, ih, wst]
def wt (its : List It) : Nat := (its.map fun i => i.s.size + 8).sum
theorem wst_len (lim : Int) (its : List It) : ∀ p, (wst lim its p).1.length ≤ p.1.length + wt its := by
  induction its with
  | nil => intro p; simp [wst, wt]
  | cons j r ih =>
    intro p
    have h1 := ih (iL lim p.1 p.2 j, iE lim p.1 p.2 j)
    have h2 := iL_len lim p.1 p.2 j
    rw [wst]
    simp only [wt, List.map_cons, List.sum_cons] at h1 ⊢
    omega
theorem wt_take (its : List It) (k : Nat) (i : It) (h : its[k]? = some i) : wt (its.take k) + (i.s.size + 8) ≤ wt its := by
  induction its generalizing k with
  | nil => simp at h
  | cons j r ih =>
    cases k with
    | zero =>
      simp at h
      subst h
      simp [wt]
    | succ k =>
      have := ih k (by simpa using h)
      simp only [wt, List.take_succ_cons, List.map_cons, List.sum_cons] at this ⊢
      omega
theorem wt_bulk (its : List It) : wt its ≤ 2 * (its.map fun i => i.s.size + 5).sum := by
  induction its with
  | nil => simp [wt]
  | cons j r ih => simp only [wt, List.map_cons, List.sum_cons] at ih ⊢; omega
theorem take_snoc_it (its : List It) (k : Nat) (i : It) (h : its[k]? = some i) : its.take (k + 1) = its.take k ++ [i] := by
  have hk := (List.getElem?_eq_some_iff.1 h).1
  rw [List.take_succ_eq_append_getElem hk, (List.getElem?_eq_some_iff.1 h).2]

end Go.Proofs.Ythhgpfcbhaoeiaa
