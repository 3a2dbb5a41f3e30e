/- The contracts of the document's writer: texts, items. -/
import Derived.Test.YthhgpfcbhaoeiaaMwC
namespace Go.Proofs.Ythhgpfcbhaoeiaa
open Go.RowKit

set_option maxRecDepth 100000 in
set_option maxHeartbeats 1600000 in
theorem mtext_in (c : Nat) (v : Value) (lim : Int) (l : List UInt8) (er : Int) (s : ByteArray) (w : World) (h : MwAt w c v lim l er)
    (h0 : 0 ≤ lim) (h1 : lim ≤ 9223372036854775807) (hl : l.length + (s.size + 10) ≤ 140737488355328) (hs : s.size ≤ 65535) (E : Int) (hE : adm lim l.length er true (2 + s.size : Nat) = E) (L : List UInt8) (hL : (if E = 0 then l ++ (be 2 s.size ++ s.data.toList) else l) = L) :
    Calls Try.prog 37 #[.pointer (some ⟨c, 0, none⟩), .string s] w fun e w' => e = .returned (.tuple #[]) ∧ ∃ v', MwAt w' c v' lim L E ∧ Kept c v.ownBlock w w' ∧ Moved w v v' := by
  obtain ⟨i0, hi0, hz0, hz1, hz2⟩ := info_parts Try.info5
  have HH := hid h
  have HC := hid (big_any s.size 2 w (by omega) (by omega))
  have HL := hid hL
  have HE := hid hE
  have hsi : (s.size : Int) ≤ 65535 := by omega
  have hd : s.data.toList.length = s.size := by rw [Array.length_toList]; rfl
  have HD := hid hd
  clear h hL hE hd hs
  go_enter Try.func37, Try.ntmps37
  go_wp2_with fail
  refine HC.out.mono ?_
  rintro e w1 ⟨rfl, hb1, hbel⟩
  have ho : w1.ownsRow w.heap.size 5 1 (.slice (some ⟨w.heap.size, 0, none⟩) 2 2) 2 (bC (be 2 s.size)) :=
    ⟨by rw [bC_len, be_len], .inr ⟨w.heap.size, 2, _, rfl, Nat.le_refl _, hb1, Nat.le_refl _, by decide, by simp [bC_len, be_len], by rw [List.toList_toArray, List.take_of_length_le (by rw [bC_len, be_len]; decide)]⟩⟩
  have HB := hid hbel
  have hz := hbel.size
  clear hb1 hbel
  go_wp2_with (at_builtin; refine wpList_append_str _ rfl _ _ rfl w.heap.size i0 hi0 hz0 hz1 hz2 _ 2 (bC (be 2 s.size)) rfl ho s rfl (by omega) hz ?_)
  intro v2 w2 hown2 hgrow hat
  obtain ⟨g, cap, hv2, hg2, -⟩ := hown2.form (by omega)
  have hbel2 : Below w.heap.size w w2 := HB.out.grown hgrow hz (fun k hk => by simp [Value.ownBlock] at hk; omega)
  have hsrc : ∀ j u, (bC (be 2 s.size ++ s.data.toList))[j]? = some u → w2.cell? ⟨g, j, none⟩ = some u := by
    intro j u hj
    rw [bC_app] at hj
    have := hown2.cells (g := g) (by rw [hv2]; rfl) j u hj
    rwa [Addr.add_lit, Nat.zero_add] at this
  have HP := hid (mput_len c v lim l er g cap (be 2 s.size ++ s.data.toList) (2 + s.size) (by rw [List.length_append, be_len, HD.out]) w2 (HH.out.above hbel2) h0 h1 (by omega) hsrc)
  rw [HE.out, HL.out] at HP
  have HK := hid (show Kept c v.ownBlock w w2 from ⟨hbel2.os, hbel2.tape, hbel2.output, hbel2.size, fun j hj _ _ => hbel2.block j hj⟩)
  rw [hv2]
  clear hown2 hgrow hat hbel2 hsrc hv2 ho
  go_wp2_with fail
  refine HP.out.mono ?_
  rintro e w3 ⟨rfl, v3, hx3, hk3, hm3⟩
  have H3 := hid (And.intro hx3 (And.intro (HK.out.trans hk3 (.inl rfl)) ((Moved.refl w v).trans hm3 HK.out.size)))
  clear hx3 hk3 hm3
  go_wp2
  go_end0
  exact ⟨rfl, v3, H3.out⟩

set_option maxHeartbeats 800000 in
theorem mtext_out (c : Nat) (v : Value) (lim : Int) (l : List UInt8) (er : Int) (s : ByteArray) (w : World) (h : MwAt w c v lim l er) (hs : (65535 : Int) < s.size) (E : Int) (hE : adm lim l.length er false (2 + s.size) = E) :
    Calls Try.prog 37 #[.pointer (some ⟨c, 0, none⟩), .string s] w fun e w' => e = .returned (.tuple #[]) ∧ ∃ v', MwAt w' c v' lim l E ∧ Kept c v.ownBlock w w' ∧ Moved w v v' := by
  have HC := hid (mput_bad c v lim l er (2 + s.size) w h)
  rw [hE] at HC
  clear h hE
  go_enter Try.func37, Try.ntmps37
  go_wp2_with fail
  refine HC.out.mono ?_
  rintro e w1 ⟨rfl, hx1, hk1⟩
  have H1 := hid (And.intro hx1 (kept_none (r := v.ownBlock) hk1))
  clear hx1 hk1
  go_wp2
  first | go_end0 | refine bodyPost_ret (results_none rfl _ _ _) rfl ?_
  exact ⟨rfl, v, H1.out.1, H1.out.2, Moved.refl _ _⟩

theorem mtext_w (c : Nat) (v : Value) (lim : Int) (l : List UInt8) (er : Int) (s : ByteArray) (w : World) (h : MwAt w c v lim l er)
    (h0 : 0 ≤ lim) (h1 : lim ≤ 9223372036854775807) (hl : l.length + (s.size + 10) ≤ 140737488355328) :
    Calls Try.prog 37 #[.pointer (some ⟨c, 0, none⟩), .string s] w fun e w' => e = .returned (.tuple #[]) ∧ ∃ v', MwAt w' c v' lim (xL lim l er s) (xE lim l er s) ∧ Kept c v.ownBlock w w' ∧ Moved w v v' := by
  by_cases hs : s.size ≤ 65535
  · have e : xE lim l er s = adm lim l.length er true (2 + s.size : Nat) := by simp [xE, hs]
    exact mtext_in c v lim l er s w h h0 h1 hl hs _ e.symm _ rfl
  · have e : xE lim l er s = adm lim l.length er false (2 + s.size) := by simp [xE, hs]
    have hd : ¬ xE lim l er s = 0 := by rw [e]; unfold adm; split <;> simp_all
    rw [xL, if_neg hd]
    exact mtext_out c v lim l er s w h (by omega) _ e.symm

set_option maxRecDepth 100000 in
set_option maxHeartbeats 1600000 in
theorem model0 (c : Nat) (v : Value) (lim : Int) (l : List UInt8) (er : Int) (i : It) (w : World) (h : MwAt w c v lim l er) (hf : i.fits)
    (h0 : 0 ≤ lim) (h1 : lim ≤ 9223372036854775807) (hl : l.length + (i.s.size + 10) ≤ 140737488355328) (hk : i.kd = 0) :
    Calls Try.prog 13 #[.pointer (some ⟨c, 0, none⟩), i.v] w fun e w' => e = .returned (.tuple #[]) ∧ ∃ v', MwAt w' c v' lim (wL lim l er 1 i.n) (wE lim l er 1 i.n) ∧ Kept c v.ownBlock w w' ∧ Moved w v v' := by
  have HH := hid h
  have HF := hid hf
  have HC := hid (fun w => kind_any i w)
  rw [hk] at HC
  unfold It.v at HC ⊢
  clear h hf hk
  go_enter Try.func13, Try.ntmps13
  go_wp2_with fail
  refine (HC.out _).mono ?_
  rintro e w1 ⟨rfl, hw1⟩
  have hr1 : MwAt w1 c v lim l er := by rw [hw1]; exact (HH.out.alloc _).alloc _
  have hk1 : Kept c v.ownBlock w w1 := by rw [hw1]; exact ((Kept.refl _ _ _).alloc _).alloc _
  have c0 : w1.cell? ⟨w.heap.size, 0, none⟩ = some (.int .i64 i.k) := by rw [hw1]; simp [go_sem]
  have c1 : w1.cell? ⟨w.heap.size, 1, none⟩ = some (.int .i64 i.n) := by rw [hw1]; simp [go_sem]
  have c2 : w1.cell? ⟨w.heap.size, 2, none⟩ = some (.int .u64 (i.q : Int)) := by rw [hw1]; simp [go_sem]
  have c3 : w1.cell? ⟨w.heap.size, 3, none⟩ = some (.string i.s) := by rw [hw1]; simp [go_sem]
  have hcall : Calls Try.prog 35 #[.pointer (some ⟨c, 0, none⟩), .int .i64 i.n, .int .i64 1] w1 fun e w' => e = .returned (.tuple #[]) ∧ ∃ v', MwAt w' c v' lim (wL lim l er 1 i.n) (wE lim l er 1 i.n) ∧ Kept c v.ownBlock w1 w' ∧ Moved w1 v v' := mnum_w c v lim l er i.n 1 (by decide) w1 hr1 h0 h1 (by omega)
  have HX := hid hcall
  have H1 := hid hk1
  clear hw1 hr1 hk1 hcall
  go_wp2_with fail
  refine HX.out.mono ?_
  rintro e w2 ⟨rfl, v2, hx2, hk2, hm2⟩
  have H2 := hid (And.intro hx2 (And.intro (H1.out.trans hk2 (.inl rfl)) ((Moved.refl w v).trans hm2 H1.out.size)))
  clear hx2 hk2 hm2
  go_wp2
  go_end0
  exact ⟨rfl, v2, H2.out⟩

set_option maxRecDepth 100000 in
set_option maxHeartbeats 1600000 in
theorem model1 (c : Nat) (v : Value) (lim : Int) (l : List UInt8) (er : Int) (i : It) (w : World) (h : MwAt w c v lim l er) (hf : i.fits)
    (h0 : 0 ≤ lim) (h1 : lim ≤ 9223372036854775807) (hl : l.length + (i.s.size + 10) ≤ 140737488355328) (hk : i.kd = 1) :
    Calls Try.prog 13 #[.pointer (some ⟨c, 0, none⟩), i.v] w fun e w' => e = .returned (.tuple #[]) ∧ ∃ v', MwAt w' c v' lim (wL lim l er 2 i.n) (wE lim l er 2 i.n) ∧ Kept c v.ownBlock w w' ∧ Moved w v v' := by
  have HH := hid h
  have HF := hid hf
  have HC := hid (fun w => kind_any i w)
  rw [hk] at HC
  unfold It.v at HC ⊢
  clear h hf hk
  go_enter Try.func13, Try.ntmps13
  go_wp2_with fail
  refine (HC.out _).mono ?_
  rintro e w1 ⟨rfl, hw1⟩
  have hr1 : MwAt w1 c v lim l er := by rw [hw1]; exact (HH.out.alloc _).alloc _
  have hk1 : Kept c v.ownBlock w w1 := by rw [hw1]; exact ((Kept.refl _ _ _).alloc _).alloc _
  have c0 : w1.cell? ⟨w.heap.size, 0, none⟩ = some (.int .i64 i.k) := by rw [hw1]; simp [go_sem]
  have c1 : w1.cell? ⟨w.heap.size, 1, none⟩ = some (.int .i64 i.n) := by rw [hw1]; simp [go_sem]
  have c2 : w1.cell? ⟨w.heap.size, 2, none⟩ = some (.int .u64 (i.q : Int)) := by rw [hw1]; simp [go_sem]
  have c3 : w1.cell? ⟨w.heap.size, 3, none⟩ = some (.string i.s) := by rw [hw1]; simp [go_sem]
  have hcall : Calls Try.prog 35 #[.pointer (some ⟨c, 0, none⟩), .int .i64 i.n, .int .i64 2] w1 fun e w' => e = .returned (.tuple #[]) ∧ ∃ v', MwAt w' c v' lim (wL lim l er 2 i.n) (wE lim l er 2 i.n) ∧ Kept c v.ownBlock w1 w' ∧ Moved w1 v v' := mnum_w c v lim l er i.n 2 (by decide) w1 hr1 h0 h1 (by omega)
  have HX := hid hcall
  have H1 := hid hk1
  clear hw1 hr1 hk1 hcall
  go_wp2_with fail
  refine HX.out.mono ?_
  rintro e w2 ⟨rfl, v2, hx2, hk2, hm2⟩
  have H2 := hid (And.intro hx2 (And.intro (H1.out.trans hk2 (.inl rfl)) ((Moved.refl w v).trans hm2 H1.out.size)))
  clear hx2 hk2 hm2
  go_wp2
  go_end0
  exact ⟨rfl, v2, H2.out⟩

set_option maxRecDepth 100000 in
set_option maxHeartbeats 1600000 in
theorem model2 (c : Nat) (v : Value) (lim : Int) (l : List UInt8) (er : Int) (i : It) (w : World) (h : MwAt w c v lim l er) (hf : i.fits)
    (h0 : 0 ≤ lim) (h1 : lim ≤ 9223372036854775807) (hl : l.length + (i.s.size + 10) ≤ 140737488355328) (hk : i.kd = 2) :
    Calls Try.prog 13 #[.pointer (some ⟨c, 0, none⟩), i.v] w fun e w' => e = .returned (.tuple #[]) ∧ ∃ v', MwAt w' c v' lim (wL lim l er 4 i.n) (wE lim l er 4 i.n) ∧ Kept c v.ownBlock w w' ∧ Moved w v v' := by
  have HH := hid h
  have HF := hid hf
  have HC := hid (fun w => kind_any i w)
  rw [hk] at HC
  unfold It.v at HC ⊢
  clear h hf hk
  go_enter Try.func13, Try.ntmps13
  go_wp2_with fail
  refine (HC.out _).mono ?_
  rintro e w1 ⟨rfl, hw1⟩
  have hr1 : MwAt w1 c v lim l er := by rw [hw1]; exact (HH.out.alloc _).alloc _
  have hk1 : Kept c v.ownBlock w w1 := by rw [hw1]; exact ((Kept.refl _ _ _).alloc _).alloc _
  have c0 : w1.cell? ⟨w.heap.size, 0, none⟩ = some (.int .i64 i.k) := by rw [hw1]; simp [go_sem]
  have c1 : w1.cell? ⟨w.heap.size, 1, none⟩ = some (.int .i64 i.n) := by rw [hw1]; simp [go_sem]
  have c2 : w1.cell? ⟨w.heap.size, 2, none⟩ = some (.int .u64 (i.q : Int)) := by rw [hw1]; simp [go_sem]
  have c3 : w1.cell? ⟨w.heap.size, 3, none⟩ = some (.string i.s) := by rw [hw1]; simp [go_sem]
  have hcall : Calls Try.prog 35 #[.pointer (some ⟨c, 0, none⟩), .int .i64 i.n, .int .i64 4] w1 fun e w' => e = .returned (.tuple #[]) ∧ ∃ v', MwAt w' c v' lim (wL lim l er 4 i.n) (wE lim l er 4 i.n) ∧ Kept c v.ownBlock w1 w' ∧ Moved w1 v v' := mnum_w c v lim l er i.n 4 (by decide) w1 hr1 h0 h1 (by omega)
  have HX := hid hcall
  have H1 := hid hk1
  clear hw1 hr1 hk1 hcall
  go_wp2_with fail
  refine HX.out.mono ?_
  rintro e w2 ⟨rfl, v2, hx2, hk2, hm2⟩
  have H2 := hid (And.intro hx2 (And.intro (H1.out.trans hk2 (.inl rfl)) ((Moved.refl w v).trans hm2 H1.out.size)))
  clear hx2 hk2 hm2
  go_wp2
  go_end0
  exact ⟨rfl, v2, H2.out⟩

set_option maxRecDepth 100000 in
set_option maxHeartbeats 1600000 in
theorem model3 (c : Nat) (v : Value) (lim : Int) (l : List UInt8) (er : Int) (i : It) (w : World) (h : MwAt w c v lim l er) (hf : i.fits)
    (h0 : 0 ≤ lim) (h1 : lim ≤ 9223372036854775807) (hl : l.length + (i.s.size + 10) ≤ 140737488355328) (hk : i.kd = 3) :
    Calls Try.prog 13 #[.pointer (some ⟨c, 0, none⟩), i.v] w fun e w' => e = .returned (.tuple #[]) ∧ ∃ v', MwAt w' c v' lim (bL lim l er i.q) (bE lim l er) ∧ Kept c v.ownBlock w w' ∧ Moved w v v' := by
  have HH := hid h
  have HF := hid hf
  have HC := hid (fun w => kind_any i w)
  rw [hk] at HC
  unfold It.v at HC ⊢
  clear h hf hk
  go_enter Try.func13, Try.ntmps13
  go_wp2_with fail
  refine (HC.out _).mono ?_
  rintro e w1 ⟨rfl, hw1⟩
  have hr1 : MwAt w1 c v lim l er := by rw [hw1]; exact (HH.out.alloc _).alloc _
  have hk1 : Kept c v.ownBlock w w1 := by rw [hw1]; exact ((Kept.refl _ _ _).alloc _).alloc _
  have c0 : w1.cell? ⟨w.heap.size, 0, none⟩ = some (.int .i64 i.k) := by rw [hw1]; simp [go_sem]
  have c1 : w1.cell? ⟨w.heap.size, 1, none⟩ = some (.int .i64 i.n) := by rw [hw1]; simp [go_sem]
  have c2 : w1.cell? ⟨w.heap.size, 2, none⟩ = some (.int .u64 (i.q : Int)) := by rw [hw1]; simp [go_sem]
  have c3 : w1.cell? ⟨w.heap.size, 3, none⟩ = some (.string i.s) := by rw [hw1]; simp [go_sem]
  have hcall : Calls Try.prog 36 #[.pointer (some ⟨c, 0, none⟩), .int .u64 i.q] w1 fun e w' => e = .returned (.tuple #[]) ∧ ∃ v', MwAt w' c v' lim (bL lim l er i.q) (bE lim l er) ∧ Kept c v.ownBlock w1 w' ∧ Moved w1 v v' := mbits_w c v lim l er i.q w1 hr1 h0 h1 (by omega) HF.out.2.2.1
  have HX := hid hcall
  have H1 := hid hk1
  clear hw1 hr1 hk1 hcall
  go_wp2_with fail
  refine HX.out.mono ?_
  rintro e w2 ⟨rfl, v2, hx2, hk2, hm2⟩
  have H2 := hid (And.intro hx2 (And.intro (H1.out.trans hk2 (.inl rfl)) ((Moved.refl w v).trans hm2 H1.out.size)))
  clear hx2 hk2 hm2
  go_wp2
  go_end0
  exact ⟨rfl, v2, H2.out⟩

set_option maxRecDepth 100000 in
set_option maxHeartbeats 1600000 in
theorem model4 (c : Nat) (v : Value) (lim : Int) (l : List UInt8) (er : Int) (i : It) (w : World) (h : MwAt w c v lim l er) (hf : i.fits)
    (h0 : 0 ≤ lim) (h1 : lim ≤ 9223372036854775807) (hl : l.length + (i.s.size + 10) ≤ 140737488355328) (hk : i.kd = 4) :
    Calls Try.prog 13 #[.pointer (some ⟨c, 0, none⟩), i.v] w fun e w' => e = .returned (.tuple #[]) ∧ ∃ v', MwAt w' c v' lim (xL lim l er i.s) (xE lim l er i.s) ∧ Kept c v.ownBlock w w' ∧ Moved w v v' := by
  have HH := hid h
  have HF := hid hf
  have HC := hid (fun w => kind_any i w)
  rw [hk] at HC
  unfold It.v at HC ⊢
  clear h hf hk
  go_enter Try.func13, Try.ntmps13
  go_wp2_with fail
  refine (HC.out _).mono ?_
  rintro e w1 ⟨rfl, hw1⟩
  have hr1 : MwAt w1 c v lim l er := by rw [hw1]; exact (HH.out.alloc _).alloc _
  have hk1 : Kept c v.ownBlock w w1 := by rw [hw1]; exact ((Kept.refl _ _ _).alloc _).alloc _
  have c0 : w1.cell? ⟨w.heap.size, 0, none⟩ = some (.int .i64 i.k) := by rw [hw1]; simp [go_sem]
  have c1 : w1.cell? ⟨w.heap.size, 1, none⟩ = some (.int .i64 i.n) := by rw [hw1]; simp [go_sem]
  have c2 : w1.cell? ⟨w.heap.size, 2, none⟩ = some (.int .u64 (i.q : Int)) := by rw [hw1]; simp [go_sem]
  have c3 : w1.cell? ⟨w.heap.size, 3, none⟩ = some (.string i.s) := by rw [hw1]; simp [go_sem]
  have hcall : Calls Try.prog 37 #[.pointer (some ⟨c, 0, none⟩), .string i.s] w1 fun e w' => e = .returned (.tuple #[]) ∧ ∃ v', MwAt w' c v' lim (xL lim l er i.s) (xE lim l er i.s) ∧ Kept c v.ownBlock w1 w' ∧ Moved w1 v v' := mtext_w c v lim l er i.s w1 hr1 h0 h1 hl
  have HX := hid hcall
  have H1 := hid hk1
  clear hw1 hr1 hk1 hcall
  go_wp2_with fail
  refine HX.out.mono ?_
  rintro e w2 ⟨rfl, v2, hx2, hk2, hm2⟩
  have H2 := hid (And.intro hx2 (And.intro (H1.out.trans hk2 (.inl rfl)) ((Moved.refl w v).trans hm2 H1.out.size)))
  clear hx2 hk2 hm2
  go_wp2
  go_end0
  exact ⟨rfl, v2, H2.out⟩

theorem model_any (c : Nat) (v : Value) (lim : Int) (l : List UInt8) (er : Int) (i : It) (w : World) (h : MwAt w c v lim l er) (hf : i.fits)
    (h0 : 0 ≤ lim) (h1 : lim ≤ 9223372036854775807) (hl : l.length + (i.s.size + 10) ≤ 140737488355328) :
    Calls Try.prog 13 #[.pointer (some ⟨c, 0, none⟩), i.v] w fun e w' => e = .returned (.tuple #[]) ∧ ∃ v', MwAt w' c v' lim (iL lim l er i) (iE lim l er i) ∧ Kept c v.ownBlock w w' ∧ Moved w v v' := by
  unfold iL iE
  rcases i.kd_bd with hk | hk | hk | hk | hk
  · rw [hk]; exact model0 c v lim l er i w h hf h0 h1 hl hk
  · rw [hk]; exact model1 c v lim l er i w h hf h0 h1 hl hk
  · rw [hk]; exact model2 c v lim l er i w h hf h0 h1 hl hk
  · rw [hk]; exact model3 c v lim l er i w h hf h0 h1 hl hk
  · rw [hk]; exact model4 c v lim l er i w h hf h0 h1 hl hk

end Go.Proofs.Ythhgpfcbhaoeiaa
