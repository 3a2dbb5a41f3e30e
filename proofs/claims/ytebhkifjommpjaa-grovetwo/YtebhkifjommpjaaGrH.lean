/- The program's signers: what lies in memory; New, Root, Left. -/
import Derived.Test.YtebhkifjommpjaaGrG
namespace Go.Proofs.Ytebhkifjommpjaa
open Go.RowKit

/-- All blocks but b are as they were; the streams too. -/
structure But (b : Nat) (w w' : World) : Prop where
  os : w'.os = w.os
  tape : w'.tape = w.tape
  output : w'.output = w.output
  size : w.heap.size ≤ w'.heap.size
  block : ∀ k, k < w.heap.size → k ≠ b → w'.heap[k]? = w.heap[k]?
theorem But.refl (b : Nat) (w : World) : But b w w := ⟨rfl, rfl, rfl, Nat.le_refl _, fun _ _ _ => rfl⟩
theorem But.trans {b : Nat} {x y z : World} (h : But b x y) (k : But b y z) : But b x z :=
  ⟨k.os.trans h.os, k.tape.trans h.tape, k.output.trans h.output, Nat.le_trans h.size k.size, fun i hi hb => (k.block i (Nat.lt_of_lt_of_le hi h.size) hb).trans (h.block i hi hb)⟩
theorem But.of {b : Nat} {x y : World} (h : Below x.heap.size x y) : But b x y := ⟨h.os, h.tape, h.output, h.size, fun k hk _ => h.block k hk⟩
theorem But.setCell {b : Nat} {x y : World} (h : But b x y) (o : Nat) (u : Value) : But b x (y.setCell ⟨b, o, none⟩ u) :=
  ⟨h.os, h.tape, h.output, by have := h.size; simpa [World.setCell] using this, fun i hi hb => by rw [Below.heap_setCell _ _ _ _ hb, h.block i hi hb]⟩
theorem But.below {b B : Nat} {x y : World} (h : But b x y) (hB : B ≤ x.heap.size) (hb : B ≤ b) : Below B x y := ⟨h.os, h.tape, h.output, h.size, fun k hk => h.block k (by omega) (by omega)⟩
theorem But.cell {b : Nat} {x y : World} (h : But b x y) (g o : Nat) (hg : g < x.heap.size) (hne : g ≠ b) : y.cell? ⟨g, o, none⟩ = x.cell? ⟨g, o, none⟩ := by
  simp only [World.cell?, h.block g hg hne]
theorem But.strs {b : Nat} {x y : World} {a : Option Addr} {ss : List ByteArray} (h : But b x y) (hS : StrsIn x a ss) (hne : ∀ ad, a = some ad → ad.block ≠ b) : StrsIn y a ss := by
  rcases hS with k | ⟨g, off, ha, hg, hc⟩
  · exact .inl k
  · exact .inr ⟨g, off, ha, Nat.lt_of_lt_of_le hg h.size, fun j s hs => (h.cell g _ hg (hne _ ha)).trans (hc j s hs)⟩

/-- The signer in block b has used u leaves. -/
def SgAt (w : World) (b : Nat) (seed : ByteArray) (h u : Nat) : Prop := w.heap[b]? = some (.cells #[.string seed, .int .i64 (h : Int), .int .i64 (u : Int)] 51 (0, 0))
theorem SgAt.lt {w : World} {b : Nat} {seed : ByteArray} {h u : Nat} (hS : SgAt w b seed h u) : b < w.heap.size := lt_of_blk hS
theorem SgAt.c0 {w : World} {b : Nat} {seed : ByteArray} {h u : Nat} (hS : SgAt w b seed h u) : w.cell? ⟨b, 0, none⟩ = some (.string seed) := cell_at (L := [.string seed, .int .i64 (h : Int), .int .i64 (u : Int)]) hS 0 _ rfl
theorem SgAt.c1 {w : World} {b : Nat} {seed : ByteArray} {h u : Nat} (hS : SgAt w b seed h u) : w.cell? ⟨b, 1, none⟩ = some (.int .i64 (h : Int)) := cell_at (L := [.string seed, .int .i64 (h : Int), .int .i64 (u : Int)]) hS 1 _ rfl
theorem SgAt.c2 {w : World} {b : Nat} {seed : ByteArray} {h u : Nat} (hS : SgAt w b seed h u) : w.cell? ⟨b, 2, none⟩ = some (.int .i64 (u : Int)) := cell_at (L := [.string seed, .int .i64 (h : Int), .int .i64 (u : Int)]) hS 2 _ rfl
theorem SgAt.fr {w : World} {b : Nat} {seed : ByteArray} {h u : Nat} (hS : SgAt w b seed h u) (j : Nat) : w.frozen? ⟨b, j, none⟩ = false := free_at hS j
theorem SgAt.keep {w w' : World} {b : Nat} {seed : ByteArray} {h u : Nat} (hS : SgAt w b seed h u) (hb : Below w.heap.size w w') : SgAt w' b seed h u := (hb.block b hS.lt).trans hS
theorem SgAt.but {w w' : World} {b c : Nat} {seed : ByteArray} {h u : Nat} (hS : SgAt w b seed h u) (hb : But c w w') (hne : b ≠ c) : SgAt w' b seed h u := (hb.block b hS.lt hne).trans hS
theorem SgAt.next {w : World} {b : Nat} {seed : ByteArray} {h u : Nat} (hS : SgAt w b seed h u) : SgAt (w.setCell ⟨b, 2, none⟩ (.int .i64 ((u : Int) + 1))) b seed h (u + 1) :=
  (blk_set hS 2 _).trans rfl

theorem gnew_no (seed : ByteArray) (h : Int) (hn : rightB h = false) (w : World) :
    Calls Try.prog 12 #[.string seed, .int .i64 h] w fun e w' => e = .returned (.tuple #[.pointer none, .int .i64 1]) ∧ w' = w := by
  have HB := hid hn
  clear hn
  go_enter Try.func12, Try.ntmps12
  go_wp2_with (go_at_call 23; refine (isHeight_at _ _ (by exact HB.out) _).mono ?_; rintro e wx ⟨rfl, rfl⟩)
  go_ret2
  exact ⟨rfl, rfl⟩
set_option maxRecDepth 100000 in
theorem gnew_yes (seed : ByteArray) (h : Nat) (hh : h ≤ 5) (w : World) :
    Calls Try.prog 12 #[.string seed, .int .i64 (h : Int)] w fun e w' => e = .returned (.tuple #[.pointer (some ⟨w.heap.size, 0, none⟩), .int .i64 0]) ∧ SgAt w' w.heap.size seed h 0 ∧ Below w.heap.size w w' := by
  have HB := hid (rightB_yes (h := (h : Int)) (by omega) (by omega))
  clear hh
  go_enter Try.func12, Try.ntmps12
  go_wp2_with (go_at_call 23; refine (isHeight_at _ _ (by exact HB.out) _).mono ?_; rintro e wx ⟨rfl, rfl⟩)
  go_ret2
  exact ⟨rfl, heap_alloc_last _ _, (Below.refl _ _).alloc (Nat.le_refl _) _⟩
theorem groot_no (seed : ByteArray) (h : Int) (hn : rightB h = false) (w : World) :
    Calls Try.prog 11 #[.string seed, .int .i64 h] w fun e w' => e = .returned (.tuple #[.string ⟨#[]⟩, .int .i64 1]) ∧ w' = w := by
  have HB := hid hn
  clear hn
  go_enter Try.func11, Try.ntmps11
  go_wp2_with (go_at_call 23; refine (isHeight_at _ _ (by exact HB.out) _).mono ?_; rintro e wx ⟨rfl, rfl⟩)
  go_ret2
  exact ⟨rfl, rfl⟩
theorem node_root (seed : ByteArray) (hs : seed.size ≤ 1000000) (h : Nat) (hh : h ≤ 5) (w : World) : Calls Try.prog 24 #[.string seed, .int .i64 (h : Int), .int .i64 0] w fun e w' => e = .returned (.string (rootS seed h)) ∧ Below w.heap.size w w' := by
  rw [← nodeP_root]
  exact gnode_le seed hs h 0 hh (by have := pow_le5 h hh; omega) w
theorem groot_yes (seed : ByteArray) (hs : seed.size ≤ 1000000) (h : Nat) (hh : h ≤ 5) (w : World) :
    Calls Try.prog 11 #[.string seed, .int .i64 (h : Int)] w fun e w' => e = .returned (.tuple #[.string (rootS seed h), .int .i64 0]) ∧ Below w.heap.size w w' := by
  have HB := hid (rightB_yes (h := (h : Int)) (by omega) (by omega))
  have HN := hid (node_root seed hs h hh)
  obtain ⟨T, eT⟩ : ∃ T, T = rootS seed h := ⟨_, rfl⟩
  rw [← eT] at HN ⊢
  clear hh hs eT
  go_enter Try.func11, Try.ntmps11
  go_wp2_with (first
    | (go_at_call 23; refine (isHeight_at _ _ (by exact HB.out) _).mono ?_; rintro e wx ⟨rfl, rfl⟩)
    | (go_at_call 24; refine (HN.out _).mono ?_; rintro e w1 ⟨rfl, hb1⟩; have H1 := hid hb1; clear hb1))
  go_ret2
  exact ⟨rfl, H1.out⟩

theorem sroot_nil (w : World) : Calls Try.prog 16 #[.pointer none] w fun e w' => e = .returned (.string ⟨#[]⟩) ∧ w' = w := by
  go_enter Try.func16, Try.ntmps16
  go_wp2
  go_ret
  exact ⟨rfl, rfl⟩
theorem sleft_nil (w : World) : Calls Try.prog 17 #[.pointer none] w fun e w' => e = .returned (.int .i64 0) ∧ w' = w := by
  go_enter Try.func17, Try.ntmps17
  go_wp2
  go_ret
  exact ⟨rfl, rfl⟩
theorem ssign_nil (t : ByteArray) (w : World) : Calls Try.prog 18 #[.pointer none, .string t] w fun e w' => e = .returned (.tuple #[.string ⟨#[]⟩, .int .i64 1]) ∧ w' = w := by
  go_enter Try.func18, Try.ntmps18
  go_wp2
  go_ret2
  exact ⟨rfl, rfl⟩
set_option maxRecDepth 100000 in
set_option maxHeartbeats 1600000 in
theorem sroot_le (b : Nat) (seed : ByteArray) (hs : seed.size ≤ 1000000) (h u : Nat) (hh : h ≤ 5) (w : World) (hS : SgAt w b seed h u) :
    Calls Try.prog 16 #[.pointer (some ⟨b, 0, none⟩)] w fun e w' => e = .returned (.string (rootS seed h)) ∧ Below w.heap.size w w' := by
  have HN := hid (node_root seed hs h hh)
  obtain ⟨T, eT⟩ : ∃ T, T = rootS seed h := ⟨_, rfl⟩
  rw [← eT] at HN ⊢
  have c0 : ∀ x : Cls w, x.1.cell? ⟨b, 0, none⟩ = some (.string seed) := fun x => (hS.keep x.2).c0
  have c1 : ∀ x : Cls w, x.1.cell? ⟨b, 1, none⟩ = some (.int .i64 (h : Int)) := fun x => (hS.keep x.2).c1
  clear hh hs eT hS
  go_enter Try.func16, Try.ntmps16
  go_wp2
  haveI := Cls.ne w
  refine wp_region_cls w (by kernel_rfl) (by kernel_rfl) ?_
  repeat (go_big_quiet_step ((go_at_call 24; exact Cls.of _ (fun u _ => HN.out u))))
  refine wpQuiet_nil ?_
  rintro _ ⟨x, rfl⟩
  go_wp2
  go_ret
  exact ⟨rfl, x.2⟩
set_option maxRecDepth 100000 in
set_option maxHeartbeats 1600000 in
theorem sleft_le (b : Nat) (seed : ByteArray) (h u n : Nat) (hh : h ≤ 5) (hu : u + n = 2 ^ h) (w : World) (hS : SgAt w b seed h u) :
    Calls Try.prog 17 #[.pointer (some ⟨b, 0, none⟩)] w fun e w' => e = .returned (.int .i64 (n : Int)) ∧ Below w.heap.size w w' := by
  obtain ⟨N, eN⟩ : ∃ N, N = 2 ^ h := ⟨_, rfl⟩
  have h32 := pow_le5 h hh
  have HL : Hid (∀ v : World, Calls Try.prog 28 #[.int .i64 (h : Int)] v fun e w' => e = .returned (.int .i64 (N : Int)) ∧ w' = v) := hid (fun v => by rw [eN]; exact gleaves_le h hh v)
  rw [← eN] at hu h32
  have e1 : IntKind.i64.wrap ((N : Int) - (u : Int)) = (n : Int) := by rw [wrap_small _ (by omega) (by omega)]; omega
  have c1 : ∀ x : Cls w, x.1.cell? ⟨b, 1, none⟩ = some (.int .i64 (h : Int)) := fun x => (hS.keep x.2).c1
  have c2 : ∀ x : Cls w, x.1.cell? ⟨b, 2, none⟩ = some (.int .i64 (u : Int)) := fun x => (hS.keep x.2).c2
  clear hh h32 hu eN hS
  go_enter Try.func17, Try.ntmps17
  go_wp2
  haveI := Cls.ne w
  refine wp_region_cls w (by kernel_rfl) (by kernel_rfl) ?_
  repeat (go_big_quiet_step ((go_at_call 28; exact Cls.of _ (fun u _ => of_same HL.out u))))
  refine wpQuiet_nil ?_
  rintro _ ⟨x, rfl⟩
  go_wp2
  go_ret
  exact ⟨rfl, x.2⟩
end Go.Proofs.Ytebhkifjommpjaa
