/- A strings.Builder of one's own: written, and told. -/
import Derived.Test.YtebhkifjommpjaaGnA
import Derived.Lib.Builder
import Derived.Lib.AppendStr
import Derived.Shelf.Strings.Builder1
namespace Go.Proofs.Ytebhkifjommpjaa
open Go.RowKit
open Go.Shelf

def ren169 : Go.Shelf.Ren := ⟨fun | 169 => 48 | n => n, fun | 70 => 65 | 9 => 9 | 0 => 0 | 72 => 67 | 37 => 55 | 127 => 89 | 3 => 3 | 5 => 5 | n => n, fun | n => n⟩
theorem lays169 : Go.Proofs.Lays.n169 Try.prog ren169 := {
  mixed := by kernel_rfl
  f169 := Try.func48.trans (congrArg some (by kernel_rfl))
  t0 := Try.underlying0
  a0 := Try.isAgg0
  z0 := Try.sizeOf0
  v0 := Try.zeroValue0
  t3 := Try.underlying3
  a3 := Try.isAgg3
  z3 := Try.sizeOf3
  v3 := Try.zeroValue3
  t9 := Try.underlying9
  a9 := Try.isAgg9
  z9 := Try.sizeOf9
  v9 := Try.zeroValue9
  t37 := Try.underlying55
  a37 := Try.isAgg55
  z37 := Try.sizeOf55
  v37 := Try.zeroValue55
  t70 := Try.underlying65
  a70 := Try.isAgg65
  z70 := Try.sizeOf65
  v70 := Try.zeroValue65
  t72 := Try.underlying67
  a72 := Try.isAgg67
  z72 := Try.sizeOf67
  v72 := Try.zeroValue67
  t127 := Try.underlying89
  a127 := Try.isAgg89
  z127 := Try.sizeOf89
  v127 := Try.zeroValue89 }
theorem extra169 : Builder.Extra Try.prog ren169 := {
  sizeBuilder := by kernel_rfl
  liesBuilder := by kernel_rfl
  t5 := Try.underlying5
  a5 := Try.isAgg5
  z5 := Try.sizeOf5
  v5 := Try.zeroValue5
  infoByte := by kernel_rfl
  cellsByte := by kernel_rfl
  sizeByte := by kernel_rfl
  neB5 := by decide }
theorem Try.lies67 : liesAt Try.prog Try.prog.depth 67 (2 / Try.prog.cellsOf 67) 0 67 1 = true := by kernel_rfl
theorem Try.size67 : (Try.prog.info? 67).map (·.size) = some 2 := by kernel_rfl
theorem bC_str (s : ByteArray) : Lib.strCells s = bC s.data.toList := rfl
theorem bC_bytes (l : List UInt8) : Lib.byteCells l = bC l := rfl

/-- The builder in block b, one of those from B on, holds the bytes l; nothing below B has turned since w0. -/
structure Bld (B : Nat) (w0 w : World) (b : Nat) (l : List UInt8) : Prop where
  is : Lib.IsBuilder 67 5 B b (bC l) w
  bel : Below B w0 w
  le : B ≤ w.heap.size
theorem at_keep {B b : Nat} {p : Value} {bs : List Value} {w w' : World} (h : Lib.BuilderAt 67 5 B b p bs w) (hb : Below w.heap.size w w') : Lib.BuilderAt 67 5 B b p bs w' := by
  obtain ⟨hB, v, hbk, hown, hne⟩ := h
  exact ⟨hB, v, (hb.block b (lt_of_blk hbk)).trans hbk, ownsRow_keep hown hb, hne⟩
theorem Bld.keep {B : Nat} {w0 w w' : World} {b : Nat} {l : List UInt8} (h : Bld B w0 w b l) (hb : Below w.heap.size w w') : Bld B w0 w' b l :=
  ⟨h.is.elim (fun k => .inl (at_keep k hb)) (fun k => .inr (at_keep k hb)), h.bel.trans (hb.mono h.le), Nat.le_trans h.le hb.size⟩
theorem Bld.new (w : World) (b : Nat) (hb : b = w.heap.size) : Bld w.heap.size w (w.alloc (.cells #[.pointer none, .slice none 0 0] 67)) b [] := by
  subst hb
  exact ⟨Lib.fresh_isBuilder _ _ w, (Below.refl _ _).alloc (Nat.le_refl _) _, by simp⟩

set_option maxHeartbeats 1000000 in
set_option maxRecDepth 100000 in
theorem check_used (b : Nat) (w : World) (h0 : w.cell? ⟨b, 0, none⟩ = some (.pointer (some ⟨b, 0, none⟩))) :
    Calls Try.prog 63 #[.pointer (some ⟨b, 0, none⟩)] w fun e w' => e = .returned (.tuple #[]) ∧ w' = w := by
  obtain ⟨j, hj, _⟩ := Option.map_eq_some_iff.1 Try.size67
  go_enter Try.func63, Try.ntmps63
  go_wp2
  rw [Lib.run_neq_ptr_same w _ Try.underlying65 hj]
  go_wp2
  go_end0
  exact ⟨rfl, rfl⟩

set_option maxHeartbeats 1000000 in
set_option maxRecDepth 100000 in
theorem check_fresh (b : Nat) (w : World) (h0 : w.cell? ⟨b, 0, none⟩ = some (.pointer none)) (hsh : w.shape? b = some (67, 2)) (hfz : w.frozen? ⟨b, 0, none⟩ = false) :
    Calls Try.prog 63 #[.pointer (some ⟨b, 0, none⟩)] w fun e w' => e = .returned (.tuple #[]) ∧ w' = w.setCell ⟨b, 0, none⟩ (.pointer (some ⟨b, 0, none⟩)) := by
  obtain ⟨j, hj, hjs⟩ := Option.map_eq_some_iff.1 Try.size67
  go_enter Try.func63, Try.ntmps63
  go_wp2
  rw [Lib.run_to_unsafe w ⟨b, 0, none⟩ Try.underlying65 Try.underlying94 hj (by rw [hjs]; decide) hsh (Nat.zero_lt_succ 1)]
  simp only [Result.andThen]
  rw [Oper.upon_value]
  go_wp2
  rw [run_callFunc_extern Try.func66 (by kernel_rfl) (by kernel_rfl) (by kernel_rfl) (e := Extern.AbiNoEscape.same) (by kernel_rfl)]
  rw [Lib.run_noEscape]
  simp only [Result.andThen]
  rw [Oper.upon_value]
  go_wp2
  rw [Lib.run_from_unsafe w ⟨b, 0, none⟩ Try.underlying94 Try.underlying65 hj hsh Try.lies67]
  simp only [Result.andThen]
  rw [Oper.upon_value]
  go_wp2
  go_end0
  exact ⟨rfl, rfl⟩

theorem check_any (B b : Nat) (bs : List Value) (w : World) (h : Lib.IsBuilder 67 5 B b bs w) :
    Calls Try.prog 63 #[.pointer (some ⟨b, 0, none⟩)] w fun e w' => e = .returned (.tuple #[]) ∧ Lib.BuilderAt 67 5 B b (.pointer (some ⟨b, 0, none⟩)) bs w' ∧ Below B w w' := by
  rcases h with h | h
  · refine (check_fresh b w h.cell0 h.shape h.frozen0).mono ?_
    rintro e w' ⟨rfl, rfl⟩
    exact ⟨rfl, h.used _, (Below.refl B w).setCell (p := ⟨b, 0, none⟩) h.1 _⟩
  · refine (check_used b w h.cell0).mono ?_
    rintro e w' ⟨rfl, rfl⟩
    exact ⟨rfl, h, Below.refl B _⟩

set_option maxHeartbeats 2000000 in
set_option maxRecDepth 100000 in
/-- What is written stands behind what stood there. -/
theorem bwrite_any (B : Nat) (w0 : World) (b : Nat) (l : List UInt8) (s : ByteArray) (w : World) (h : Bld B w0 w b l) (hlen : l.length + s.size ≤ 140737488355328) :
    Calls Try.prog 46 #[.pointer (some ⟨b, 0, none⟩), .string s] w fun e w' => (∃ n : Int, e = .returned (.tuple #[.int .i64 n, .nilIface])) ∧ Bld B w0 w' b (l ++ s.data.toList) := by
  obtain ⟨i0, hi, hz0, hz1, hz2⟩ := info_parts Try.info5
  have HB := hid h
  have HL := hid hlen
  clear h hlen
  go_enter Try.func46, Try.ntmps46
  go_wp2_with (first
    | (go_at_call 63; refine (check_any B b (bC l) _ HB.out.is).mono ?_; rintro e w1 ⟨rfl, h1, hb1⟩; obtain ⟨hB, v, hbk, hown, hne⟩ := h1; have c1 : w1.cell? ⟨b, 1, none⟩ = some v := (by rw [Lib.cell_of_heap hbk]; rfl); have HK := hid (And.intro hB (And.intro hbk (And.intro hown (And.intro hne hb1)))); clear hB hbk hown hne hb1)
    | (at_builtin; refine Lib.wpList_append_own_string _ rfl _ _ 55 9 rfl B 5 i0 Try.underlying55 Try.underlying9 hi hz0 hz1 hz2 _ _ _ rfl HK.out.2.2.1 s rfl (by have := HL.out; rw [bC_len]; unfold maxLen; omega) (by have := HL.out; rw [bC_len]; omega) (by have := HK.out.2.2.2.2.size; have := HB.out.le; omega) ?_; intro v' w2 hown' hgrow hnil; have HG := hid (And.intro hown' hgrow); clear hown' hgrow hnil; have hb2 : w2.heap[b]? = some (.cells #[.pointer (some ⟨b, 0, none⟩), v] 67 (0, 0)) := (by rw [HG.out.2.block b (lt_of_blk HK.out.2.1) (fun e => HK.out.2.2.2.1 e.symm)]; exact HK.out.2.1); have d1 : w2.cell? ⟨b, 1, none⟩ = some v := (by rw [Lib.cell_of_heap hb2]; rfl); have f1 : w2.frozen? ⟨b, 1, none⟩ = false := Lib.frozen_of_heap hb2 1; have HB2 := hid hb2; clear hb2; obtain ⟨ao, n', cap, rfl⟩ : ∃ ao n' cap, v' = .slice ao n' cap := (by rcases HG.out.1.2 with ⟨hv, _⟩ | ⟨g, cap, cur, hv, _⟩ <;> exact ⟨_, _, _, hv⟩)))
  go_ret2
  refine ⟨⟨_, rfl⟩, ?_⟩
  have hle : B ≤ w1.heap.size := by have := HK.out.2.2.2.2.size; have := HB.out.le; omega
  have hown2 := HG.out.1
  rw [bC_str, ← bC_app, show (bC l).length + s.size = (bC (l ++ s.data.toList)).length by rw [bC_len, bC_len, List.length_append, data_len]] at hown2
  have hbel := (HK.out.2.2.2.2.grown HG.out.2 hle (fun k hk => (HK.out.2.2.1.lt k hk).1)).setCell (p := ⟨b, 1, none⟩) HK.out.1 (.slice ao n' cap)
  refine ⟨.inr (Lib.BuilderAt.put HK.out.1 HB2.out hown2 (by decide)), HB.out.bel.trans hbel, ?_⟩
  have := hbel.size
  have := HB.out.le
  omega
/-- What was written is told. -/
theorem bstring_any (B : Nat) (w0 : World) (b : Nat) (l : List UInt8) (w : World) (h : Bld B w0 w b l) :
    Calls Try.prog 48 #[.pointer (some ⟨b, 0, none⟩)] w fun e w' => e = .returned (.string ⟨l.toArray⟩) ∧ Below B w0 w' := by
  refine (Any.Builder_String_any lays169 extra169 B b l w h.is h.le).mono ?_
  rintro e w' ⟨rfl, hb⟩
  exact ⟨rfl, h.bel.trans hb⟩
end Go.Proofs.Ytebhkifjommpjaa
