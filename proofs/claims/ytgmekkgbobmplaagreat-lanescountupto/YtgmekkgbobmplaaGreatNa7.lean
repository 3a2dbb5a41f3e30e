/- Texts laid together: TmB BaO TmC ApA TeC LiA DeB LiB LiC LiD LiE SiA LiF LiG SiB LiH TrA CoS. -/
import Derived.Test.YtgmekkgbobmplaaGreatNa6
import Derived.Test.YtgmekkgbobmplaaGreatNa5
import Derived.Deep.QuietTactic
import Derived.BigQuiet
import Derived.Deep.RegionHeld3
import Derived.Test.YtgmekkgbobmplaaGreatNa2
import Derived.Test.YtgmekkgbobmplaaGreatNa4
import Derived.Maps.AppendAt
import Derived.Test.YtgmekkgbobmplaaGreatNa3
import Derived.Deep.RegionLaw
import Derived.Shelf.Slices.SearchI
import Derived.Shelf.Slices.Delete
import Derived.Shelf.Spec.SlicesInsert
import Derived.Lib.RowBridge
/- The program's book: a struct with a map keyed by signatures, made when something is noted. -/
namespace Go.Proofs.YtgmekkgbobmplaaGreat
open Go.RowKit Go.Maps

section
variable {P : Program} {ops : Array Oper} {o : Oper} {a : Act} {w : World} {Q : Exit → Act → World → Prop} {K : Act → World → Prop}
theorem wpOp_h {i : Nat} (hi : ops[i]? = some o) (hw : Region.wanted o (yielded ops a.tmps) = true) (h : ∀ K' : Act → World → Prop, (∀ a w, K a w → K' a w) → o.wp P a w K' Q) : wpOp P ops Q i K a w := by
  unfold Go.wpOp
  simp only [hi, hw, if_true]
  exact .inl (h _ (fun _ _ h => h))
end
theorem map_type : Tryz.prog.underlying 105 = some (.map 87 117) := by kernel_rfl
theorem unit_zero (w : World) : (zeroValue 117).run Tryz.prog w = .ok (.agg #[]) w := by kernel_rfl
/-- The book at v: F its blocks, L what stands in it. -/
structure BkAt (F : List Nat) (w : World) (v : Value) (L : List (Int × ByteArray)) : Prop where
  bk : ∃ g, v = .pointer (some ⟨g, 0, none⟩) ∧ ((F = [g] ∧ w.heap[g]? = some (.cells #[.map none] 107 (0, 0)) ∧ L = []) ∨
    ∃ m D, F = [g, m] ∧ g ≠ m ∧ w.heap[g]? = some (.cells #[.map (some m)] 107 (0, 0)) ∧ w.ownsMap Tryz.prog 87 unitElem m L.length D ∧ Holds D (.agg []) (.agg []) L)
theorem BkAt.form {F : List Nat} {w : World} {v : Value} {L : List (Int × ByteArray)} (h : BkAt F w v L) : ∃ g, v = .pointer (some ⟨g, 0, none⟩) := by
  obtain ⟨g, h1, _⟩ := h.bk
  exact ⟨g, h1⟩
theorem BkAt.lt {F : List Nat} {w : World} {v : Value} {L : List (Int × ByteArray)} (h : BkAt F w v L) : ∀ b, b ∈ F → b < w.heap.size := by
  obtain ⟨g, _, ⟨rfl, hg, _⟩ | ⟨m, D, rfl, _, hg, hm, _⟩⟩ := h.bk
  · intro b hb
    rw [List.mem_singleton.1 hb]
    exact lt_of_blk hg
  · intro b hb
    simp at hb
    rcases hb with rfl | rfl
    · exact lt_of_blk hg
    · exact hm.lt
theorem BkAt.nodup {F : List Nat} {w : World} {v : Value} {L : List (Int × ByteArray)} (h : BkAt F w v L) : L.Nodup := by
  obtain ⟨g, _, ⟨_, _, rfl⟩ | ⟨m, D, _, _, _, _, hH⟩⟩ := h.bk
  · exact List.nodup_nil
  · exact hH.nodup
theorem BkAt.keep {F : List Nat} {w w' : World} {v : Value} {L : List (Int × ByteArray)} (h : BkAt F w v L) (_ : w.heap.size ≤ w'.heap.size) (hb : ∀ b, b ∈ F → w'.heap[b]? = w.heap[b]?) : BkAt F w' v L := by
  obtain ⟨g, h1, ⟨rfl, hg, h0⟩ | ⟨m, D, rfl, hne, hg, hm, hH⟩⟩ := h.bk
  · exact ⟨g, h1, .inl ⟨rfl, (hb g (by simp)).trans hg, h0⟩⟩
  · refine ⟨g, h1, .inr ⟨m, D, rfl, hne, (hb g (by simp)).trans hg, ?_, hH⟩⟩
    obtain ⟨es, clock, hb2, r⟩ := hm
    exact ⟨es, clock, (hb m (by simp)).trans hb2, r⟩
theorem BkAt.of_below {F : List Nat} {w w' : World} {v : Value} {L : List (Int × ByteArray)} (h : BkAt F w v L) (hb : Below w.heap.size w w') : BkAt F w' v L :=
  h.keep hb.size (fun b hF => hb.block b (h.lt b hF))
/-- The book's one field, and what a look-up in it answers. -/
theorem BkAt.look {F : List Nat} {w : World} {g : Nat} {L : List (Int × ByteArray)} (h : BkAt F w (.pointer (some ⟨g, 0, none⟩)) L) : ∃ mo, w.cell? ⟨g, 0, none⟩ = some (.map mo) ∧
    (∀ p, fitP p → (Instr.lookup 105 (.map mo) (.agg #[.int .i64 p.1, .string p.2]) true).run Tryz.prog w = .ok (.tuple #[.agg #[], .bool (stands L p)]) w) := by
  obtain ⟨g', h1, ⟨_, hg, rfl⟩ | ⟨m, D, _, _, hg, hm, hH⟩⟩ := h.bk
  · cases h1
    refine ⟨none, cell_at (L := [.map none]) hg 0 _ rfl, fun p hp => ?_⟩
    exact Maps.look_nil true sig_keyed map_type (unit_zero w) (sig_key p hp)
  · cases h1
    refine ⟨some m, cell_at (L := [.map (some m)]) hg 0 _ rfl, fun p hp => ?_⟩
    obtain ⟨v, ps, hrun, hR⟩ := hm.look_ok sig_keyed map_type (unit_zero w) unitElem_mk (sig_key p hp)
    obtain ⟨rfl, _⟩ := unitElem_inv hR
    rw [hrun, hH.has_ p hp]
set_option maxHeartbeats 1600000 in
theorem tnew_any (w : World) : Calls Tryz.prog 31 #[] w fun e w' => ∃ v F, e = .returned v ∧ BkAt F w' v [] ∧ (∀ b, b ∈ F → w.heap.size ≤ b) ∧ Below w.heap.size w w' := by
  go_enter Tryz.func31, Tryz.ntmps31
  go_wp2
  go_ret
  refine ⟨_, [w.heap.size], rfl, ⟨w.heap.size, rfl, .inl ⟨rfl, heap_alloc_last w _, rfl⟩⟩, fun b hb => ?_, (Below.refl _ _).alloc (Nat.le_refl _) _⟩
  rw [List.mem_singleton.1 hb]
  exact Nat.le_refl _
set_option maxRecDepth 100000 in
set_option maxHeartbeats 1600000 in
theorem thas_any (F : List Nat) (v : Value) (L : List (Int × ByteArray)) (x : Int) (t : ByteArray) (hf : fitP (x, t)) (w : World) (hB : BkAt F w v L) :
    Calls Tryz.prog 71 #[v, .agg #[.int .i64 x, .string t]] w fun e w' => e = .returned (.bool (stands L (x, t))) ∧ Below w.heap.size w w' := by
  obtain ⟨g, rfl⟩ := hB.form
  obtain ⟨wz, ez⟩ : ∃ wz, wz = w.alloc (.cells #[.int .i64 x, .string t] 87) := ⟨_, rfl⟩
  have hBz : BkAt F wz (.pointer (some ⟨g, 0, none⟩)) L := hB.of_below (by rw [ez]; exact (Below.refl _ _).alloc (Nat.le_refl _) _)
  have hb0 : wz.heap[w.heap.size]? = some (.cells #[.int .i64 x, .string t] 87 (0, 0)) := by rw [ez]; exact heap_alloc_last w _
  obtain ⟨mo, hmo, _⟩ := hBz.look
  have hgl : g < wz.heap.size := (by obtain ⟨g', h1, ⟨_, hg, _⟩ | ⟨m, D, _, _, hg, _⟩⟩ := hBz.bk <;> (cases h1; exact lt_of_blk hg))
  have HS : Hid (∀ ww : World, Below wz.heap.size wz ww → ww.cell? ⟨g, 0, none⟩ = some (.map mo) ∧ ww.cell? ⟨w.heap.size, 0, none⟩ = some (.int .i64 x) ∧ ww.cell? ⟨w.heap.size, 1, none⟩ = some (.string t) ∧ (Instr.lookup 105 (.map mo) (.agg #[.int .i64 x, .string t]) true).run Tryz.prog ww = .ok (.tuple #[.agg #[], .bool (stands L (x, t))]) ww) := hid (fun ww hw => by
    have hc := (hw.cell (p := ⟨g, 0, none⟩) hgl).trans hmo
    obtain ⟨mo2, hmo2, hl⟩ := (hBz.of_below hw).look
    rw [hc] at hmo2
    cases hmo2
    exact ⟨hc, (cell_two ((hw.block _ (lt_of_blk hb0)).trans hb0)).1, (cell_two ((hw.block _ (lt_of_blk hb0)).trans hb0)).2, hl (x, t) hf⟩)
  generalize stands L (x, t) = B at HS ⊢
  have HE := hid ez
  have HB := hid (show Below w.heap.size w wz by rw [ez]; exact (Below.refl _ _).alloc (Nat.le_refl _) _)
  clear hmo hgl hBz hb0 hf hB ez
  go_enter Tryz.func71, Tryz.ntmps71
  go_wp2
  rw [← HE.out]
  refine wp_region_held (S := fun ww => Below wz.heap.size wz ww) (by kernel_rfl) ?_
  try (change wpAnyH _ _ _ _ _ _ _ _ (World.drew _))
  refine wpAnyH_take (i := 0) (v := ?v1) rfl (by kernel_rfl) (by kernel_rfl) (by kernel_rfl) (fun _ _ _ h => h) (Or.inl ⟨by rfl, ?hy1⟩) (Below.refl _ _).drew ?rest1
  case hy1 => (intro ww _; go_simp; try with_reducible rfl)
  go_simp
  refine wpAnyH_take (i := 1) (v := ?v2) rfl (by kernel_rfl) (by kernel_rfl) (by kernel_rfl) (fun _ _ _ h => h) (Or.inl ⟨by rfl, ?hy2⟩) (Below.refl _ _).drew ?rest2
  case hy2 => (intro ww _; go_simp; try with_reducible rfl)
  go_simp
  refine wpAnyH_take (i := 2) (v := ?v3) rfl (by kernel_rfl) (by kernel_rfl) (by kernel_rfl) (fun _ _ _ h => h) (Or.inl ⟨by rfl, ?hy3⟩) (Below.refl _ _).drew ?rest3
  case hy3 => (intro ww _; go_simp; try with_reducible rfl)
  go_simp
  refine wpAnyH_take (i := 3) (v := ?v4) rfl (by kernel_rfl) (by kernel_rfl) (by kernel_rfl) (fun _ _ _ h => h) (Or.inl ⟨by rfl, ?hy4⟩) (Below.refl _ _).drew ?rest4
  case hy4 => (intro ww hS; obtain ⟨y0, y1, y2, y3⟩ := HS.out ww hS; go_simp; try with_reducible rfl)
  go_simp
  refine wpAnyH_take (i := 4) (v := ?v5) rfl (by kernel_rfl) (by kernel_rfl) (by kernel_rfl) (fun _ _ _ h => h) (Or.inl ⟨by rfl, ?hy5⟩) (Below.refl _ _).drew ?rest5
  case hy5 => (intro ww hS; obtain ⟨y0, y1, y2, y3⟩ := HS.out ww hS; go_simp; try with_reducible rfl)
  go_simp
  refine wpAnyH_take (i := 5) (v := ?v6) rfl (by kernel_rfl) (by kernel_rfl) (by kernel_rfl) (fun _ _ _ h => h) (Or.inl ⟨by rfl, ?hy6⟩) (Below.refl _ _).drew ?rest6
  case hy6 => (intro ww hS; obtain ⟨y0, y1, y2, y3⟩ := HS.out ww hS; go_simp; try with_reducible rfl)
  go_simp
  refine wpAnyH_take (i := 6) (v := ?v7) rfl (by kernel_rfl) (by kernel_rfl) (by kernel_rfl) (fun _ _ _ h => h) (Or.inl ⟨by rfl, ?hy7⟩) (Below.refl _ _).drew ?rest7
  case hy7 => (intro ww _; go_simp; try with_reducible rfl)
  go_simp
  refine wpAnyH_take (i := 7) (v := ?v8) rfl (by kernel_rfl) (by kernel_rfl) (by kernel_rfl) (fun _ _ _ h => h) (Or.inl ⟨by rfl, ?hy8⟩) (Below.refl _ _).drew ?rest8
  case hy8 => (intro ww _; go_simp; try with_reducible rfl)
  go_simp
  refine wpAnyH_take (i := 8) (v := ?v9) rfl (by kernel_rfl) (by kernel_rfl) (by kernel_rfl) (fun _ _ _ h => h) (Or.inl ⟨by rfl, ?hy9⟩) (Below.refl _ _).drew ?rest9
  case hy9 => (intro ww _; go_simp; try with_reducible rfl)
  go_simp
  refine wpAnyH_all (rs := [9]) (by kernel_rfl) (by simp) ?_
  intro i hi
  obtain rfl := List.mem_singleton.1 hi
  clear hi
  refine wpOp_h rfl (by rfl) (fun K hK => ?_)
  go_simp
  refine hK _ _ ⟨((Below.refl _ _).drew).alloc (Nat.le_refl _) _, ?_⟩
  clear hK K
  go_simp
  refine wpAnyH_all (rs := [10]) (by kernel_rfl) (by simp) ?_
  intro i hi
  obtain rfl := List.mem_singleton.1 hi
  clear hi
  refine wpOp_h rfl (by rfl) (fun K hK => ?_)
  go_simp
  refine hK _ _ ⟨((Below.refl _ _).drew).alloc (Nat.le_refl _) _, ?_⟩
  clear hK K
  go_simp
  refine wpAnyH_all (rs := [11]) (by kernel_rfl) (by simp) ?_
  intro i hi
  obtain rfl := List.mem_singleton.1 hi
  clear hi
  refine wpOp_h rfl (by rfl) (fun K hK => ?_)
  go_simp
  refine hK _ _ ⟨((Below.refl _ _).drew).alloc (Nat.le_refl _) _, ?_⟩
  clear hK K
  go_simp
  refine wpAnyH_done (by kernel_rfl) ?_ _
  go_simp
  go_wp2
  go_ret
  exact ⟨rfl, HB.out.trans ((((Below.refl _ _).drew).alloc (Nat.le_refl _) _).mono HB.out.size)⟩
end Go.Proofs.YtgmekkgbobmplaaGreat

/- What all families of texts share: all blocks but a few stay. -/
namespace Go.Proofs.YtgmekkgbobmplaaGreat
open Go.RowKit

/-- All blocks but those named stay. -/
structure Out (F : List Nat) (w w' : World) : Prop where
  os : w'.os = w.os
  tape : w'.tape = w.tape
  output : w'.output = w.output
  size : w.heap.size ≤ w'.heap.size
  block : ∀ k, k < w.heap.size → k ∉ F → w'.heap[k]? = w.heap[k]?
theorem Out.refl (F : List Nat) (w : World) : Out F w w := ⟨rfl, rfl, rfl, Nat.le_refl _, fun _ _ _ => rfl⟩
theorem Out.then {F : List Nat} {w w1 w2 : World} {m : Nat} (h : Out F w w1) (hg : w1.grownBy w2 (some m)) (hm : m ∈ F ∨ w.heap.size ≤ m) : Out F w w2 :=
  ⟨hg.os.trans h.os, hg.tape.trans h.tape, hg.output.trans h.output, Nat.le_trans h.size hg.size, fun k hk hF => (hg.block k (Nat.lt_of_lt_of_le hk h.size) (fun e => by
    cases e
    rcases hm with hm | hm
    · exact hF hm
    · omega)).trans (h.block k hk hF)⟩
theorem Out.alloc {F : List Nat} {w w1 : World} (h : Out F w w1) (o : Obj) : Out F w (w1.alloc o) :=
  ⟨h.os, h.tape, h.output, by have := h.size; simp; omega, fun k hk hF => (Below.heap_alloc _ _ _ (Nat.lt_of_lt_of_le hk h.size)).trans (h.block k hk hF)⟩
theorem Out.drew {F : List Nat} {w w1 : World} (h : Out F w w1) : Out F w w1.drew := ⟨h.os, h.tape, h.output, h.size, h.block⟩
theorem Out.setCell {F : List Nat} {w w1 : World} (h : Out F w w1) (g o : Nat) (v : Value) (hg : g ∈ F) : Out F w (w1.setCell ⟨g, o, none⟩ v) :=
  ⟨h.os, h.tape, h.output, by have := h.size; simpa using this, fun k hk hF => (Below.heap_setCell _ _ _ _ (show k ≠ g from fun e => hF (by rw [e]; exact hg))).trans (h.block k hk hF)⟩
theorem Out.below {F : List Nat} {w w' : World} {B : Nat} (h : Out F w w') (hB : B ≤ w.heap.size) (hF : ∀ b, b ∈ F → B ≤ b) : Below B w w' :=
  ⟨h.os, h.tape, h.output, h.size, fun k hk => h.block k (by omega) (fun hm => by have := hF k hm; omega)⟩
theorem Out.trans {F G : List Nat} {w w1 w2 : World} (h : Out F w w1) (k : Out G w1 w2) (hG : ∀ b, b ∈ G → b ∈ F ∨ w.heap.size ≤ b) : Out F w w2 :=
  ⟨k.os.trans h.os, k.tape.trans h.tape, k.output.trans h.output, Nat.le_trans h.size k.size, fun b hb hF => (k.block b (Nat.lt_of_lt_of_le hb h.size) (fun hm => by
    rcases hG b hm with h1 | h1
    · exact hF h1
    · omega)).trans (h.block b hb hF)⟩
theorem Out.of_below {F : List Nat} {w w' : World} (h : Below w.heap.size w w') : Out F w w' := ⟨h.os, h.tape, h.output, h.size, fun k hk _ => h.block k hk⟩
theorem Out.more {F : List Nat} {w w1 w2 : World} (h : Out F w w1) (k : Below w1.heap.size w1 w2) : Out F w w2 :=
  ⟨k.os.trans h.os, k.tape.trans h.tape, k.output.trans h.output, Nat.le_trans h.size k.size, fun b hb hF => (k.block b (Nat.lt_of_lt_of_le hb h.size)).trans (h.block b hb hF)⟩
theorem Out.low {F : List Nat} {B : Nat} {w0 w w' : World} (h : Below B w0 w) (k : Out F w w') (hB : B ≤ w0.heap.size) (hF : ∀ b, b ∈ F → B ≤ b) : Below B w0 w' :=
  h.trans (k.below (Nat.le_trans hB h.size) hF)
end Go.Proofs.YtgmekkgbobmplaaGreat

/- The program's book: Note. -/
namespace Go.Proofs.YtgmekkgbobmplaaGreat
open Go.RowKit Go.Maps

/-- One more is noted. -/
theorem BkAt.more {g m : Nat} {w w2 : World} {L : List (Int × ByteArray)} {D : DataW Unit} (p : Int × ByteArray) (hp : fitP p) (hne : g ≠ m) (hg : w.heap[g]? = some (.cells #[.map (some m)] 107 (0, 0))) (hH : Holds D (.agg []) (.agg []) L)
    (h2 : w2.ownsMap Tryz.prog 87 unitElem m (Maps.size (D.put (kL p) (.agg []))) (D.put (kL p) (.agg []))) (hgr : w.grownBy w2 (some m)) : BkAt [g, m] w2 (.pointer (some ⟨g, 0, none⟩)) (noted L [p]) := by
  have hP := hH.put p hp
  rw [hP.size] at h2
  exact ⟨g, rfl, .inr ⟨m, _, rfl, hne, (hgr.block g (lt_of_blk hg) (fun e => hne (by cases e; rfl))).trans hg, h2, hP⟩⟩
theorem map_nil (w : World) : (binOp .eql 105 (.map none) (.map none)).run Tryz.prog w = .ok (.bool true) w := by kernel_rfl
theorem map_some (m : Nat) (w : World) : (binOp .eql 105 (.map (some m)) (.map none)).run Tryz.prog w = .ok (.bool false) w := by kernel_rfl
theorem BkAt.two {g m : Nat} {w : World} {L : List (Int × ByteArray)} (h : BkAt [g, m] w (.pointer (some ⟨g, 0, none⟩)) L) : ∃ D, g ≠ m ∧ w.heap[g]? = some (.cells #[.map (some m)] 107 (0, 0)) ∧ w.ownsMap Tryz.prog 87 unitElem m L.length D ∧ Holds D (.agg []) (.agg []) L := by
  obtain ⟨g', h1, ⟨h2, _⟩ | ⟨m', D, h2, h3⟩⟩ := h.bk
  · simp at h2
  · simp at h2
    obtain ⟨rfl, rfl⟩ := h2
    exact ⟨D, h3⟩
set_option maxRecDepth 100000 in
set_option maxHeartbeats 3200000 in
theorem tnote_map (g m : Nat) (L : List (Int × ByteArray)) (a : Option Addr) (n cap : Nat) (ss : List (Int × ByteArray)) (hn : ss.length = n) (hm : (L.length + n) * 24 ≤ 140737488355328) (hf : ∀ p, p ∈ ss → fitP p) (w : World) (hB : BkAt [g, m] w (.pointer (some ⟨g, 0, none⟩)) L) (hP : PairsIn w a ss) (hne : ∀ ad, a = some ad → ss ≠ [] → ad.block ∉ [g, m]) :
    Calls Tryz.prog 33 #[.pointer (some ⟨g, 0, none⟩), .slice a n cap] w fun e w' => e = .returned (.tuple #[]) ∧ ∃ F', BkAt F' w' (.pointer (some ⟨g, 0, none⟩)) (noted L ss) ∧ (∀ b, b ∈ F' → b ∈ [g, m] ∨ w.heap.size ≤ b) ∧ Out [g, m] w w' := by
  have hm2 : (n : Int) ≤ 9223372036854775807 := by omega
  obtain ⟨D, hgm, hg, hx⟩ := hB.two
  have c0 : w.cell? ⟨g, 0, none⟩ = some (.map (some m)) := cell_at (L := [.map (some m)]) hg 0 _ rfl
  have HX := hid (And.intro hP (And.intro hn (And.intro hm (And.intro hf hne))))
  have HG := hid hgm
  have H0 := hid hB
  have HF : Hid (∀ b, b ∈ [g, m] → b ∈ [g, m] ∨ w.heap.size ≤ b) := hid (fun b hb => .inl hb)
  clear hP hn hm hf hne hB hg hgm hx D
  have hms := map_some m
  go_enter Tryz.func33, Tryz.ntmps33
  go_wp2
  clear hms c0
  go_loopw [19] (fun i wr => ∃ j : Nat, j ≤ n ∧ i = .int .i64 (j : Int) ∧ BkAt [g, m] wr (.pointer (some ⟨g, 0, none⟩)) (noted L (ss.take j)) ∧ Out [g, m] w wr)
    (fun i _ => ((n : Int) - intOf i).toNat)
  case atStart => exact ⟨0, by omega, rfl, by rw [List.take_zero]; exact H0.out, Out.refl _ _⟩
  case round =>
    obtain ⟨j, hj, rfl, hBk, hOut⟩ := hrel
    have hj0 : (0 : Int) ≤ (j : Int) := Int.natCast_nonneg _
    have HB := hid hBk
    have HO := hid hOut
    clear hBk hOut H0
    by_cases hjn : j = n
    · have hj1 : ¬ ((j : Int) < (n : Int)) := by omega
      have HE : Hid (BkAt [g, m] wr (.pointer (some ⟨g, 0, none⟩)) (noted L ss)) := hid (by
        have := HB.out
        rw [List.take_of_length_le (by rw [HX.out.2.1]; omega)] at this
        exact this)
      clear hj hjn
      go_wp2
      go_end0
      exact ⟨rfl, [g, m], HE.out, fun b hb => by simpa using HF.out b hb, HO.out⟩
    · have hj1 : (j : Int) < (n : Int) := by omega
      have hjl : j < ss.length := by rw [HX.out.2.1]; omega
      obtain ⟨gs, off, rfl, hgs, hc1, hc2⟩ := HX.out.1.at j _ (getP_some hjl)
      have hnf := HX.out.2.2.2.2 _ rfl (by intro e; rw [e] at hjl; simp at hjl)
      have hblk : wr.heap[gs]? = w.heap[gs]? := HO.out.block gs hgs hnf
      have k1 : wr.cell? ⟨gs, off + j * 2, none⟩ = some (.int .i64 (idOf ss j)) := (World.cell?_of_block hblk).trans hc1
      have k2 : wr.cell? ⟨gs, off + j * 2 + 1, none⟩ = some (.string (rtOf ss j)) := (World.cell?_of_block hblk).trans hc2
      have hfit : fitP (idOf ss j, rtOf ss j) := HX.out.2.2.2.1 _ (List.mem_of_getElem? (getP_some hjl))
      have HN : Hid (noted L (ss.take (j + 1)) = noted (noted L (ss.take j)) [(idOf ss j, rtOf ss j)]) := hid (by rw [List.take_add_one, getP_some hjl, noted_app]; rfl)
      have hlen : (noted L (ss.take j)).length < maxLen := by
        have h1 := noted_len (ss.take j) L
        have h2 := HX.out.2.2.1
        rw [List.length_take] at h1
        unfold maxLen
        omega
      obtain ⟨L1, eL1⟩ : ∃ L1, L1 = noted L (ss.take j) := ⟨_, rfl⟩
      rw [← eL1] at HB HN hlen
      generalize idOf ss j = x at k1 hfit HN
      generalize rtOf ss j = r at k2 hfit HN
      obtain ⟨D, _, hg, hmm, hH⟩ := HB.out.two
      have HJ := hid (And.intro hj hjn)
      have HFt := hid (And.intro hfit hlen)
      have HA : Hid ((wr.alloc (.cells #[.int .i64 x, .string r] 87)).drew.heap[g]? = some (.cells #[.map (some m)] 107 (0, 0)) ∧ (wr.alloc (.cells #[.int .i64 x, .string r] 87)).drew.ownsMap Tryz.prog 87 unitElem m L1.length D ∧ Holds D (.agg []) (.agg []) L1 ∧ Out [g, m] w (wr.alloc (.cells #[.int .i64 x, .string r] 87)).drew) := hid ⟨(Below.heap_alloc _ _ _ (lt_of_blk hg)).trans hg, (hmm.alloc _).drew, hH, (HO.out.alloc _).drew⟩
      have HS : Hid ((wr.alloc (.cells #[.int .i64 x, .string r] 87)).drew.cell? ⟨g, 0, none⟩ = some (.map (some m)) ∧ (wr.alloc (.cells #[.int .i64 x, .string r] 87)).drew.cell? ⟨wr.heap.size, 0, none⟩ = some (.int .i64 x) ∧ (wr.alloc (.cells #[.int .i64 x, .string r] 87)).drew.cell? ⟨wr.heap.size, 1, none⟩ = some (.string r)) := hid ⟨cell_at (L := [.map (some m)]) HA.out.1 0 _ rfl, (cell_two (T := 87) (fr := (0, 0)) (heap_alloc_last wr _)).1, (cell_two (T := 87) (fr := (0, 0)) (heap_alloc_last wr _)).2⟩
      clear hj hjn hjl hgs hc1 hc2 hnf hblk hfit hlen hg hmm hH eL1
      go_wp2
      clear k1 k2
      refine wp_region_held (S := fun ww => ww.cell? ⟨g, 0, none⟩ = some (.map (some m)) ∧ ww.cell? ⟨wr.heap.size, 0, none⟩ = some (.int .i64 x) ∧ ww.cell? ⟨wr.heap.size, 1, none⟩ = some (.string r)) (by kernel_rfl) ?_
      try (change wpAnyH _ _ _ _ _ _ _ _ (World.drew _))
      refine wpAnyH_take (i := 0) (v := ?v1) rfl (by kernel_rfl) (by kernel_rfl) (by kernel_rfl) (fun _ _ _ h => h) (Or.inl ⟨by rfl, ?hy1⟩) HS.out ?rest1
      case hy1 => (intro ww _; go_simp; try with_reducible rfl)
      go_simp
      refine wpAnyH_take (i := 1) (v := ?v2) rfl (by kernel_rfl) (by kernel_rfl) (by kernel_rfl) (fun _ _ _ h => h) (Or.inl ⟨by rfl, ?hy2⟩) HS.out ?rest2
      case hy2 => (intro ww _; go_simp; try with_reducible rfl)
      go_simp
      refine wpAnyH_take (i := 2) (v := ?v3) rfl (by kernel_rfl) (by kernel_rfl) (by kernel_rfl) (fun _ _ _ h => h) (Or.inl ⟨by rfl, ?hy3⟩) HS.out ?rest3
      case hy3 => (intro ww _; go_simp; try with_reducible rfl)
      go_simp
      refine wpAnyH_take (i := 3) (v := ?v4) rfl (by kernel_rfl) (by kernel_rfl) (by kernel_rfl) (fun _ _ _ h => h) (Or.inl ⟨by rfl, ?hy4⟩) HS.out ?rest4
      case hy4 => (intro ww hS; obtain ⟨y0, y1, y2⟩ := hS; go_simp; try with_reducible rfl)
      go_simp
      refine wpAnyH_take (i := 4) (v := ?v5) rfl (by kernel_rfl) (by kernel_rfl) (by kernel_rfl) (fun _ _ _ h => h) (Or.inl ⟨by rfl, ?hy5⟩) HS.out ?rest5
      case hy5 => (intro ww hS; obtain ⟨y0, y1, y2⟩ := hS; go_simp; try with_reducible rfl)
      go_simp
      refine wpAnyH_take (i := 5) (v := ?v6) rfl (by kernel_rfl) (by kernel_rfl) (by kernel_rfl) (fun _ _ _ h => h) (Or.inl ⟨by rfl, ?hy6⟩) HS.out ?rest6
      case hy6 => (intro ww _; go_simp; try with_reducible rfl)
      go_simp
      refine wpAnyH_all (rs := [6]) (by kernel_rfl) (by simp) ?_
      intro i hi
      obtain rfl := List.mem_singleton.1 hi
      clear hi
      refine wpOp_h rfl (by rfl) (fun K hK => ?_)
      refine owp_put_sig _ _ _ 105 117 rfl map_type _ m L1.length D (by rfl) HA.out.2.1 HFt.out.2 (x, r) HFt.out.1 (.agg #[]) (by rfl) (by rfl) (.agg []) unitElem_mk ?_
      intro w7 H7
      have H8 := hid (And.intro (BkAt.more (x, r) HFt.out.1 HG.out HA.out.1 HA.out.2.2.1 H7.out.1 H7.out.2) (HA.out.2.2.2.then H7.out.2 (.inl (by simp))))
      refine hK _ _ ⟨?_, ?_⟩
      · have hgl := lt_of_blk HA.out.1
        have hml := HB.out.lt m (by simp)
        have hG := HG.out
        exact ⟨(H7.out.2.cell_far ⟨g, 0, none⟩ hgl (by simpa using hG)).trans HS.out.1, (H7.out.2.cell_far ⟨wr.heap.size, 0, none⟩ (by simp) (by simp; omega)).trans HS.out.2.1, (H7.out.2.cell_far ⟨wr.heap.size, 1, none⟩ (by simp) (by simp; omega)).trans HS.out.2.2⟩
      clear hK K
      go_simp
      refine wpAnyH_done (by kernel_rfl) ?_ _
      go_simp
      go_wp2
      go_roundw
      case rel => exact ⟨j + 1, by have := HJ.out; omega, by go_num, by rw [HN.out]; exact H8.out.1, H8.out.2⟩
      case measure => simp [intOf]; omega
set_option maxRecDepth 100000 in
set_option maxHeartbeats 3200000 in
theorem tnote_none (g : Nat) (a : Option Addr) (n cap : Nat) (ss : List (Int × ByteArray)) (hn : ss.length = n) (hm : n * 24 ≤ 140737488355328) (hf : ∀ p, p ∈ ss → fitP p) (w : World) (hB : w.heap[g]? = some (.cells #[.map none] 107 (0, 0))) (hP : PairsIn w a ss) (hne : ∀ ad, a = some ad → ss ≠ [] → ad.block ∉ [g]) :
    Calls Tryz.prog 33 #[.pointer (some ⟨g, 0, none⟩), .slice a n cap] w fun e w' => e = .returned (.tuple #[]) ∧ ∃ F', BkAt F' w' (.pointer (some ⟨g, 0, none⟩)) (noted [] ss) ∧ (∀ b, b ∈ F' → b ∈ [g] ∨ w.heap.size ≤ b) ∧ Out [g] w w' := by
  have hm2 : (n : Int) ≤ 9223372036854775807 := by omega
  have c0 : w.cell? ⟨g, 0, none⟩ = some (.map none) := cell_at (L := [.map none]) hB 0 _ rfl
  have hgl := lt_of_blk hB
  obtain ⟨m, em⟩ : ∃ m, m = w.heap.size := ⟨_, rfl⟩
  have hgm : g ≠ m := by omega
  obtain ⟨L, eL⟩ : ∃ L : List (Int × ByteArray), L = [] := ⟨_, rfl⟩
  have hbA : (w.alloc (.map #[] 0)).heap[g]? = some (.cells #[.map none] 107 (0, 0)) := (Below.heap_alloc _ _ _ hgl).trans hB
  have fz : (w.alloc (.map #[] 0)).frozen? ⟨g, 0, none⟩ = false := free_at hbA _
  have c1 : (w.alloc (.map #[] 0)).cell? ⟨g, 0, none⟩ = some (.map none) := cell_at (L := [.map none]) hbA 0 _ rfl
  have H0 : Hid (BkAt [g, m] ((w.alloc (.map #[] 0)).setCell ⟨g, 0, none⟩ (.map (some w.heap.size))) (.pointer (some ⟨g, 0, none⟩)) L ∧ Out [g] w ((w.alloc (.map #[] 0)).setCell ⟨g, 0, none⟩ (.map (some w.heap.size)))) := hid ⟨⟨g, rfl, .inr ⟨m, .map [], rfl, hgm, by
      rw [em]
      exact blk_set hbA 0 _, by
      rw [eL, em]
      exact (World.ownsMap_made w Tryz.prog _ _).setCell (a := ⟨g, 0, none⟩) (show w.heap.size ≠ g by omega) _, by rw [eL]; exact Holds.empty _ _⟩⟩, ((Out.refl [g] w).alloc _).setCell g 0 _ (by simp)⟩
  have HX : Hid (PairsIn w a ss ∧ ss.length = n ∧ (L.length + n) * 24 ≤ 140737488355328 ∧ (∀ p, p ∈ ss → fitP p) ∧ ∀ ad, a = some ad → ss ≠ [] → ad.block ∉ [g]) := hid ⟨hP, hn, by rw [eL, List.length_nil, Nat.zero_add]; exact hm, hf, hne⟩
  have HG := hid hgm
  have HM : Hid (w.heap.size ≤ m) := hid (by omega)
  have HF : Hid (∀ b, b ∈ [g, m] → b ∈ [g] ∨ w.heap.size ≤ b) := hid (fun b hb => by
    simp at hb
    rcases hb with rfl | rfl
    · exact .inl (by simp)
    · exact .inr (by omega))
  rw [← eL]
  clear hP hn hm hf hne hB hgm em eL hbA hgl
  have hmm := @run_makeMap Tryz.prog
  have hmn := map_nil
  go_enter Tryz.func33, Tryz.ntmps33
  go_wp2
  clear hmm hmn fz c0 c1
  go_loopw [19] (fun i wr => ∃ j : Nat, j ≤ n ∧ i = .int .i64 (j : Int) ∧ BkAt [g, m] wr (.pointer (some ⟨g, 0, none⟩)) (noted L (ss.take j)) ∧ Out [g] w wr)
    (fun i _ => ((n : Int) - intOf i).toNat)
  case atStart => exact ⟨0, by omega, rfl, by rw [List.take_zero]; exact H0.out.1, H0.out.2⟩
  case round =>
    obtain ⟨j, hj, rfl, hBk, hOut⟩ := hrel
    have hj0 : (0 : Int) ≤ (j : Int) := Int.natCast_nonneg _
    have HB := hid hBk
    have HO := hid hOut
    clear hBk hOut H0
    by_cases hjn : j = n
    · have hj1 : ¬ ((j : Int) < (n : Int)) := by omega
      have HE : Hid (BkAt [g, m] wr (.pointer (some ⟨g, 0, none⟩)) (noted L ss)) := hid (by
        have := HB.out
        rw [List.take_of_length_le (by rw [HX.out.2.1]; omega)] at this
        exact this)
      clear hj hjn
      go_wp2
      go_end0
      exact ⟨rfl, [g, m], HE.out, fun b hb => by simpa using HF.out b hb, HO.out⟩
    · have hj1 : (j : Int) < (n : Int) := by omega
      have hjl : j < ss.length := by rw [HX.out.2.1]; omega
      obtain ⟨gs, off, rfl, hgs, hc1, hc2⟩ := HX.out.1.at j _ (getP_some hjl)
      have hnf := HX.out.2.2.2.2 _ rfl (by intro e; rw [e] at hjl; simp at hjl)
      have hblk : wr.heap[gs]? = w.heap[gs]? := HO.out.block gs hgs hnf
      have k1 : wr.cell? ⟨gs, off + j * 2, none⟩ = some (.int .i64 (idOf ss j)) := (World.cell?_of_block hblk).trans hc1
      have k2 : wr.cell? ⟨gs, off + j * 2 + 1, none⟩ = some (.string (rtOf ss j)) := (World.cell?_of_block hblk).trans hc2
      have hfit : fitP (idOf ss j, rtOf ss j) := HX.out.2.2.2.1 _ (List.mem_of_getElem? (getP_some hjl))
      have HN : Hid (noted L (ss.take (j + 1)) = noted (noted L (ss.take j)) [(idOf ss j, rtOf ss j)]) := hid (by rw [List.take_add_one, getP_some hjl, noted_app]; rfl)
      have hlen : (noted L (ss.take j)).length < maxLen := by
        have h1 := noted_len (ss.take j) L
        have h2 := HX.out.2.2.1
        rw [List.length_take] at h1
        unfold maxLen
        omega
      obtain ⟨L1, eL1⟩ : ∃ L1, L1 = noted L (ss.take j) := ⟨_, rfl⟩
      rw [← eL1] at HB HN hlen
      generalize idOf ss j = x at k1 hfit HN
      generalize rtOf ss j = r at k2 hfit HN
      obtain ⟨D, _, hg, hmm, hH⟩ := HB.out.two
      have HJ := hid (And.intro hj hjn)
      have HFt := hid (And.intro hfit hlen)
      have HA : Hid ((wr.alloc (.cells #[.int .i64 x, .string r] 87)).drew.heap[g]? = some (.cells #[.map (some m)] 107 (0, 0)) ∧ (wr.alloc (.cells #[.int .i64 x, .string r] 87)).drew.ownsMap Tryz.prog 87 unitElem m L1.length D ∧ Holds D (.agg []) (.agg []) L1 ∧ Out [g] w (wr.alloc (.cells #[.int .i64 x, .string r] 87)).drew) := hid ⟨(Below.heap_alloc _ _ _ (lt_of_blk hg)).trans hg, (hmm.alloc _).drew, hH, (HO.out.alloc _).drew⟩
      have HS : Hid ((wr.alloc (.cells #[.int .i64 x, .string r] 87)).drew.cell? ⟨g, 0, none⟩ = some (.map (some m)) ∧ (wr.alloc (.cells #[.int .i64 x, .string r] 87)).drew.cell? ⟨wr.heap.size, 0, none⟩ = some (.int .i64 x) ∧ (wr.alloc (.cells #[.int .i64 x, .string r] 87)).drew.cell? ⟨wr.heap.size, 1, none⟩ = some (.string r)) := hid ⟨cell_at (L := [.map (some m)]) HA.out.1 0 _ rfl, (cell_two (T := 87) (fr := (0, 0)) (heap_alloc_last wr _)).1, (cell_two (T := 87) (fr := (0, 0)) (heap_alloc_last wr _)).2⟩
      clear hj hjn hjl hgs hc1 hc2 hnf hblk hfit hlen hg hmm hH eL1
      go_wp2
      clear k1 k2
      refine wp_region_held (S := fun ww => ww.cell? ⟨g, 0, none⟩ = some (.map (some m)) ∧ ww.cell? ⟨wr.heap.size, 0, none⟩ = some (.int .i64 x) ∧ ww.cell? ⟨wr.heap.size, 1, none⟩ = some (.string r)) (by kernel_rfl) ?_
      try (change wpAnyH _ _ _ _ _ _ _ _ (World.drew _))
      refine wpAnyH_take (i := 0) (v := ?v1) rfl (by kernel_rfl) (by kernel_rfl) (by kernel_rfl) (fun _ _ _ h => h) (Or.inl ⟨by rfl, ?hy1⟩) HS.out ?rest1
      case hy1 => (intro ww _; go_simp; try with_reducible rfl)
      go_simp
      refine wpAnyH_take (i := 1) (v := ?v2) rfl (by kernel_rfl) (by kernel_rfl) (by kernel_rfl) (fun _ _ _ h => h) (Or.inl ⟨by rfl, ?hy2⟩) HS.out ?rest2
      case hy2 => (intro ww _; go_simp; try with_reducible rfl)
      go_simp
      refine wpAnyH_take (i := 2) (v := ?v3) rfl (by kernel_rfl) (by kernel_rfl) (by kernel_rfl) (fun _ _ _ h => h) (Or.inl ⟨by rfl, ?hy3⟩) HS.out ?rest3
      case hy3 => (intro ww _; go_simp; try with_reducible rfl)
      go_simp
      refine wpAnyH_take (i := 3) (v := ?v4) rfl (by kernel_rfl) (by kernel_rfl) (by kernel_rfl) (fun _ _ _ h => h) (Or.inl ⟨by rfl, ?hy4⟩) HS.out ?rest4
      case hy4 => (intro ww hS; obtain ⟨y0, y1, y2⟩ := hS; go_simp; try with_reducible rfl)
      go_simp
      refine wpAnyH_take (i := 4) (v := ?v5) rfl (by kernel_rfl) (by kernel_rfl) (by kernel_rfl) (fun _ _ _ h => h) (Or.inl ⟨by rfl, ?hy5⟩) HS.out ?rest5
      case hy5 => (intro ww hS; obtain ⟨y0, y1, y2⟩ := hS; go_simp; try with_reducible rfl)
      go_simp
      refine wpAnyH_take (i := 5) (v := ?v6) rfl (by kernel_rfl) (by kernel_rfl) (by kernel_rfl) (fun _ _ _ h => h) (Or.inl ⟨by rfl, ?hy6⟩) HS.out ?rest6
      case hy6 => (intro ww _; go_simp; try with_reducible rfl)
      go_simp
      refine wpAnyH_all (rs := [6]) (by kernel_rfl) (by simp) ?_
      intro i hi
      obtain rfl := List.mem_singleton.1 hi
      clear hi
      refine wpOp_h rfl (by rfl) (fun K hK => ?_)
      refine owp_put_sig _ _ _ 105 117 rfl map_type _ m L1.length D (by rfl) HA.out.2.1 HFt.out.2 (x, r) HFt.out.1 (.agg #[]) (by rfl) (by rfl) (.agg []) unitElem_mk ?_
      intro w7 H7
      have H8 := hid (And.intro (BkAt.more (x, r) HFt.out.1 HG.out HA.out.1 HA.out.2.2.1 H7.out.1 H7.out.2) (HA.out.2.2.2.then H7.out.2 (.inr HM.out)))
      refine hK _ _ ⟨?_, ?_⟩
      · have hgl := lt_of_blk HA.out.1
        have hml := HB.out.lt m (by simp)
        have hG := HG.out
        exact ⟨(H7.out.2.cell_far ⟨g, 0, none⟩ hgl (by simpa using hG)).trans HS.out.1, (H7.out.2.cell_far ⟨wr.heap.size, 0, none⟩ (by simp) (by simp; omega)).trans HS.out.2.1, (H7.out.2.cell_far ⟨wr.heap.size, 1, none⟩ (by simp) (by simp; omega)).trans HS.out.2.2⟩
      clear hK K
      go_simp
      refine wpAnyH_done (by kernel_rfl) ?_ _
      go_simp
      go_wp2
      go_roundw
      case rel => exact ⟨j + 1, by have := HJ.out; omega, by go_num, by rw [HN.out]; exact H8.out.1, H8.out.2⟩
      case measure => simp [intOf]; omega
theorem tnote_any (F : List Nat) (v : Value) (L : List (Int × ByteArray)) (a : Option Addr) (n cap : Nat) (ss : List (Int × ByteArray)) (hn : ss.length = n) (hm : (L.length + n) * 24 ≤ 140737488355328) (hf : ∀ p, p ∈ ss → fitP p) (w : World) (hB : BkAt F w v L) (hP : PairsIn w a ss) (hne : ∀ ad, a = some ad → ss ≠ [] → ad.block ∉ F) :
    Calls Tryz.prog 33 #[v, .slice a n cap] w fun e w' => e = .returned (.tuple #[]) ∧ ∃ F', BkAt F' w' v (noted L ss) ∧ (∀ b, b ∈ F' → b ∈ F ∨ w.heap.size ≤ b) ∧ Out F w w' := by
  obtain ⟨g, rfl, ⟨rfl, hg, rfl⟩ | ⟨m, D, rfl, _⟩⟩ := hB.bk
  · exact tnote_none g a n cap ss hn (by simpa using hm) hf w hg hP hne
  · exact tnote_map g m L a n cap ss hn hm hf w hB hP hne
end Go.Proofs.YtgmekkgbobmplaaGreat

/- One thing more in a row of one's own, by an append in a region; a store of a slice. -/
namespace Go.Proofs.YtgmekkgbobmplaaGreat
open Go.RowKit

section
variable {o : Oper} {a : Act} {w : World} {K : Act → World → Prop} {Q : Exit → Act → World → Prop} {ops : Array Oper} {rest : List Oper}
theorem owp_storeV (T : TypeId) (p x : Operand) (ho : o.op = .store T p x) (b off : Nat) (hp : a.eval p = .pointer (some ⟨b, off, none⟩)) (u : Value) (hx : a.eval x = u) (hc : u.cells = #[u]) (h1 : u.oneCell' = true) (L : List Value) (TB : TypeId) (hL : w.heap[b]? = some (.cells L.toArray TB (0, 0))) (hn : off < L.length)
    (hi : (Tryz.prog.info? T).map (·.size) = some 1) (h : ∀ w', Hid (w'.heap[b]? = some (.cells (L.set off u).toArray TB (0, 0)) ∧ One b w w') → K (a.put o.dst undef) w') : o.wp Tryz.prog a w K Q := by
  have hcl : w.cell? ⟨b, off, none⟩ = some L[off] := cell_at hL off _ (List.getElem?_eq_getElem hn)
  have hf : w.frozen? ⟨b, off, none⟩ = false := free_at hL _
  have hb : (w.setCell ⟨b, off, none⟩ u).heap[b]? = some (.cells (L.set off u).toArray TB (0, 0)) := by have := blk_set hL off u; simpa using this
  refine owp_skip (w' := w.setCell ⟨b, off, none⟩ u) ?_ (h _ ⟨hb, one_cells b [u] off w⟩)
  have hr := run_store Tryz.prog w ⟨b, off, none⟩ u .plain h1
  rw [hcl] at hr
  simp only [hf] at hr
  cases hq : Tryz.prog.info? T with
  | none => simp [hq] at hi
  | some i =>
    have hs : i.size = 1 := by simp [hq] at hi; omega
    simp [execOp, ho, Instr.storeAt, Instr.sureAddr, hp, hx, storeVar, sizeOf, typeInfo, hq, hs, hc, storeCells, Addr.add, hr, Result.andThen]
theorem owp_append_at (s x : Operand) (t : TypeId) (ho : o.op = .call { callee := .builtin .append, args := #[s, x], argTypes := #[t, t] })
    (base : Nat) (e : TypeId) (i : TypeInfo) (z : Value) (size bytes : Nat) (ht : Tryz.prog.underlying t = some (.slice e)) (hi : Tryz.prog.info? e = some i) (hz : i.zero = some z)
    (hsize : i.size = size) (hby : i.bytes = bytes) (hzs : z.cells.size = size) (hsz : 0 < size)
    (v : Value) (n : Nat) (xs : List Value) (hs : a.eval s = v) (hown : w.ownsRow base e size v n xs)
    (ad : Addr) (m c : Nat) (news : List Value) (hx : a.eval x = .slice (some ad) m c) (hl : news.length = m * size) (hnews : ∀ j u, news[j]? = some u → w.cell? (ad.add j) = some u) (h1 : ∀ u ∈ news, u.oneCell' = true)
    (h63 : n + m ≤ maxLen) (hbytes : (n + m) * bytes ≤ 140737488355328) (hbase : base ≤ w.heap.size)
    (h : ∀ v' w', w'.ownsRow base e size v' (n + m) (xs ++ news) → w.grownBy w' v.ownBlock → (v'.ownBlock = v.ownBlock ∨ v'.ownBlock = some w.heap.size) → K (a.put o.dst v') w') : o.wp Tryz.prog a w K Q := by
  obtain ⟨v', w', hr, h2, h3, h4, h5⟩ := run_append_own_at (P := Tryz.prog) w base t o.type e i z size bytes ht hi hz hsize hby hzs hsz v n xs hown ad m c news hl hnews h1 h63 hbytes hbase
  unfold Oper.wp execOp
  simp only [ho, resolve, invoke, builtin, Sem.run_bind, Sem.run_pure, Result.andThen_ok, List.map_toArray, List.map_cons, List.map_nil, hs, hx, hr]
  exact h v' w' h2 h3 h5
end
end Go.Proofs.YtgmekkgbobmplaaGreat

/- The document's proofs. -/
namespace Go.Proofs.YtgmekkgbobmplaaGreat
open Go.RowKit

/-- The i-th signature is of this text, by a member, behind the one ahead of it. -/
def okT (l : List Int) (t : ByteArray) (ss : List (Int × ByteArray)) (i : Nat) : Bool := decide ((rtOf ss i).data.toList = t.data.toList) && (hasM l (idOf ss i) && (decide (i = 0) || decide (idOf ss (i - 1) < idOf ss i)))
def okTTo (l : List Int) (t : ByteArray) (ss : List (Int × ByteArray)) : Nat → Bool
  | 0 => true
  | j + 1 => okTTo l t ss j && okT l t ss j
theorem okTTo_succ (l : List Int) (t : ByteArray) (ss : List (Int × ByteArray)) (j : Nat) : okTTo l t ss (j + 1) = (okTTo l t ss j && okT l t ss j) := rfl
theorem okTTo_false (l : List Int) (t : ByteArray) (ss : List (Int × ByteArray)) (j n : Nat) (h : okTTo l t ss j = false) (hn : j ≤ n) : okTTo l t ss n = false := by
  induction n with
  | zero =>
    obtain rfl : j = 0 := by omega
    exact h
  | succ n ih =>
    by_cases e : j = n + 1
    · rw [← e]; exact h
    · rw [okTTo_succ, ih (by omega)]; rfl
def provesB (ep : Int) (l : List Int) (t : ByteArray) (ss : List (Int × ByteArray)) : Bool := okTTo l t ss ss.length && (rightC ep l && (decide (quoZ (l.length : Int) ≤ (ss.length : Int)) && decide (ss.length ≤ 16)))
end Go.Proofs.YtgmekkgbobmplaaGreat

/- The document's lineage: which link is good behind which configuration. -/
namespace Go.Proofs.YtgmekkgbobmplaaGreat
open Go.RowKit

/-- Which link is good behind which configuration. -/
def validE (ep : Int) (l : List Int) (e2 : Int) (l2 : List Int) (ss : List (Int × ByteArray)) : Int :=
  if rightC ep l = false then 1 else if rightC e2 l2 = false then 1 else if e2 ≠ ep + 1 then 12 else if provesB ep l (textC e2 l2) ss = false then 15 else 0
/-- A link at block b. -/
def LnAt (w : World) (b : Nat) (e : Int) (vm vs : Value) : Prop := w.heap[b]? = some (.cells [.int .i64 e, vm, vs].toArray 96 (0, 0))
theorem LnAt.lt {w : World} {b : Nat} {e : Int} {vm vs : Value} (h : LnAt w b e vm vs) : b < w.heap.size := lt_of_blk h
theorem LnAt.keep {w w' : World} {b : Nat} {e : Int} {vm vs : Value} (h : LnAt w b e vm vs) (hb : Below w.heap.size w w') : LnAt w' b e vm vs := (hb.block b h.lt).trans h
theorem LnAt.cells {w : World} {b : Nat} {e : Int} {vm vs : Value} (h : LnAt w b e vm vs) : w.cell? ⟨b, 0, none⟩ = some (.int .i64 e) ∧ w.cell? ⟨b, 1, none⟩ = some vm ∧ w.cell? ⟨b, 2, none⟩ = some vs :=
  ⟨cell_at h 0 _ rfl, cell_at h 1 _ rfl, cell_at h 2 _ rfl⟩
/-- While a link is looked at: the old configuration, the link. -/
structure VaSt (w0 : World) (ep : Int) (vo : Value) (e2 : Int) (vm vs : Value) (w : World) : Prop where
  old : w.heap[w0.heap.size]? = some (.cells #[.int .i64 ep, vo] 94 (0, 0))
  ln : LnAt w (w0.heap.size + 1) e2 vm vs
  bel : Below w0.heap.size w0 w
theorem VaSt.keep {w0 : World} {ep : Int} {vo : Value} {e2 : Int} {vm vs : Value} {w w' : World} (h : VaSt w0 ep vo e2 vm vs w) (hb : Below w.heap.size w w') : VaSt w0 ep vo e2 vm vs w' :=
  ⟨(hb.block _ (lt_of_blk h.old)).trans h.old, h.ln.keep hb, h.bel.trans (hb.mono h.bel.size)⟩
end Go.Proofs.YtgmekkgbobmplaaGreat

/- Rows of one's own whose elements lead to data of any depth elsewhere. No walk here. -/
namespace Go.Proofs.YtgmekkgbobmplaaGreat
open Go.RowKit

/-- The slice v holds the elements es in a row of its own (from block B on); what they lead to is read through blocks of F, and the row is none of them. -/
structure OwnD (T : TypeId) (sz B : Nat) (F : Nat → Prop) (w : World) (v : Value) (es : List (List Dat)) : Prop where
  own : ∃ cs : List Value, w.ownsRow B T sz v es.length cs ∧ ∀ (j : Nat) (e : List Dat), es[j]? = some e → e.length = sz ∧ ∀ (q : Nat) (d : Dat), e[q]? = some d → ∃ u, cs[j * sz + q]? = some u ∧ Reads F w u d
  sep : ∀ g, v.ownBlock = some g → ¬ F g
theorem OwnD.nil (T : TypeId) (sz B : Nat) (F : Nat → Prop) (w : World) : OwnD T sz B F w (.slice none 0 0) [] :=
  ⟨⟨[], ⟨by simp, .inl ⟨rfl, rfl⟩⟩, fun j e h => by simp at h⟩, fun g h => by simp [Value.ownBlock] at h⟩
theorem OwnD.form {T : TypeId} {sz B : Nat} {F : Nat → Prop} {w : World} {v : Value} {es : List (List Dat)} (h : OwnD T sz B F w v es) : ∃ ad cap, v = .slice ad es.length cap := by
  obtain ⟨cs, ho, _⟩ := h.own
  rcases ho.2 with ⟨hv, h0⟩ | ⟨g, cap, cur, hv, _⟩
  · exact ⟨none, 0, by rw [hv, h0]⟩
  · exact ⟨_, cap, hv⟩
theorem OwnD.lt {T : TypeId} {sz B : Nat} {F : Nat → Prop} {w : World} {v : Value} {es : List (List Dat)} (h : OwnD T sz B F w v es) : ∀ g, v.ownBlock = some g → B ≤ g ∧ g < w.heap.size := fun g hg => by
  obtain ⟨cs, ho, _⟩ := h.own
  exact ho.lt g hg
/-- It stays while the row and what it leads to stay. -/
theorem OwnD.keep {T : TypeId} {sz B : Nat} {F : Nat → Prop} {w w' : World} {v : Value} {es : List (List Dat)} (h : OwnD T sz B F w v es) (hs : w.heap.size ≤ w'.heap.size) (hF : ∀ k, k < w.heap.size → F k → w'.heap[k]? = w.heap[k]?) (hr : ∀ g, v.ownBlock = some g → w'.heap[g]? = w.heap[g]?) : OwnD T sz B F w' v es := by
  obtain ⟨cs, ho, hc⟩ := h.own
  refine ⟨⟨cs, ⟨ho.1, ?_⟩, fun j e he => ⟨(hc j e he).1, fun q d hd => ?_⟩⟩, h.sep⟩
  · rcases ho.2 with hx | ⟨g, cap, cur, hv, hg, hh, hr2⟩
    · exact .inl hx
    · exact .inr ⟨g, cap, cur, hv, hg, (hr g (by rw [hv]; rfl)).trans hh, hr2⟩
  · obtain ⟨u, h1, h2⟩ := (hc j e he).2 q d hd
    exact ⟨u, h1, h2.keep hs hF⟩
theorem OwnD.under {T : TypeId} {sz B C : Nat} {F : Nat → Prop} {w w' : World} {v : Value} {es : List (List Dat)} (h : OwnD T sz B F w v es) (hb : Below C w w') (hC : w.heap.size ≤ C) : OwnD T sz B F w' v es :=
  h.keep hb.size (fun k hk _ => hb.block k (Nat.lt_of_lt_of_le hk hC)) (fun g hg => hb.block g (Nat.lt_of_lt_of_le (h.lt g hg).2 hC))
theorem ownsRow_one {w : World} {B sz n : Nat} {T : TypeId} {v : Value} {cs cs' : List Value} (h : w.ownsRow B T sz v n cs) (h' : w.ownsRow B T sz v n cs') : cs = cs' := by
  rcases h.2 with ⟨_, h0⟩ | ⟨g, cap, cur, hv, _, hh, _, _, _, ht⟩
  · have h1 := h.1
    have h2 := h'.1
    rw [h0, Nat.zero_mul] at h1 h2
    rw [List.eq_nil_of_length_eq_zero h1, List.eq_nil_of_length_eq_zero h2]
  · rcases h'.2 with ⟨hv', _⟩ | ⟨g', cap', cur', hv', _, hh', _, _, _, ht'⟩
    · rw [hv] at hv'; cases hv'
    · rw [hv] at hv'
      cases hv'
      rw [hh] at hh'
      cases hh'
      rw [← ht, ← ht']
/-- One more element behind the others. -/
theorem OwnD.grow {T : TypeId} {sz B : Nat} {F F' : Nat → Prop} {w w2 : World} {v v2 : Value} {es : List (List Dat)} {e : List Dat} {cs news : List Value} (h : OwnD T sz B F w v es) (ho : w.ownsRow B T sz v es.length cs)
    (he : e.length = sz) (hnew : ∀ (q : Nat) (d : Dat), e[q]? = some d → ∃ u, news[q]? = some u ∧ Reads F' w2 u d)
    (h2 : w2.ownsRow B T sz v2 (es.length + 1) (cs ++ news)) (hg : w.grownBy w2 v.ownBlock) (hF : ∀ k, k < w.heap.size → F k → F' k) (hsep : ∀ g, v2.ownBlock = some g → ¬ F' g) : OwnD T sz B F' w2 v2 (es ++ [e]) := by
  obtain ⟨cs', ho', hc⟩ := h.own
  obtain rfl := ownsRow_one ho ho'
  refine ⟨⟨cs ++ news, by rw [List.length_append]; exact h2, fun j x hx => ?_⟩, hsep⟩
  have hl : cs.length = es.length * sz := ho'.1
  by_cases hj : j < es.length
  · rw [List.getElem?_append_left hj] at hx
    obtain ⟨h1, h3⟩ := hc j x hx
    refine ⟨h1, fun q d hd => ?_⟩
    obtain ⟨u, h4, h5⟩ := h3 q d hd
    exact ⟨u, by rw [List.getElem?_append_left (List.getElem?_eq_some_iff.1 h4).1]; exact h4, h5.move hg.size (fun k hk hFk => ⟨hg.block k hk (fun e => h.sep k e.symm hFk), hF k hk hFk⟩)⟩
  · have hj2 : j = es.length := by
      have := (List.getElem?_eq_some_iff.1 hx).1
      simp at this
      omega
    subst hj2
    simp at hx
    subst hx
    refine ⟨he, fun q d hd => ?_⟩
    obtain ⟨u, h4, h5⟩ := hnew q d hd
    refine ⟨u, ?_, h5⟩
    rw [List.getElem?_append_right (by omega), hl, Nat.add_sub_cancel_left]
    exact h4
/-- What such a slice reads as. -/
theorem OwnD.reads {T : TypeId} {sz B : Nat} {F : Nat → Prop} {w : World} {v : Value} {es : List (List Dat)} (h : OwnD T sz B F w v es) : Reads (fun k => F k ∨ v.ownBlock = some k) w v (.l sz es) := by
  obtain ⟨cs, ho, hc⟩ := h.own
  cases es with
  | nil =>
    obtain ⟨ad, cap, hv⟩ := h.form
    rw [hv]
    exact .nil ad cap sz
  | cons e0 es =>
    rcases ho.2 with ⟨_, h0⟩ | ⟨g, cap, cur, hv, hB, hh, hnc, hcp, hcs, ht⟩
    · simp at h0
    · subst hv
      refine .l g 0 cap sz (e0 :: es) (fun j q => cs.getD (j * sz + q) undef) (.inr rfl) (lt_of_blk hh) (fun j e he => (hc j e he).1) (fun j e q d he hd => ?_) (fun j e q d he hd => ?_)
      · obtain ⟨u, h1, _⟩ := (hc j e he).2 q d hd
        have := ho.cells (g := g) rfl _ _ h1
        rw [Addr.add_lit] at this
        rw [List.getD_eq_getElem?_getD, h1, Nat.add_assoc]
        exact this
      · obtain ⟨u, h1, h2⟩ := (hc j e he).2 q d hd
        rw [List.getD_eq_getElem?_getD, h1]
        exact h2.mono (fun k _ hk => .inl hk)
end Go.Proofs.YtgmekkgbobmplaaGreat

/- The document's lineage: a link copied into memory of its own. -/
namespace Go.Proofs.YtgmekkgbobmplaaGreat
open Go.RowKit

section
variable {P : Program} {ops : Array Oper} {o : Oper} {a : Act} {w : World} {Q : Exit → Act → World → Prop} {K : Act → World → Prop}
theorem wpOp_k {i : Nat} (hi : ops[i]? = some o) (hw : Region.wanted o (yielded ops a.tmps) = true) (h : ∀ K' : Act → World → Prop, (∀ a w, K a w → K' a w) → o.wp P a w K' Q) : wpOp P ops Q i K a w := by
  unfold Go.wpOp
  simp only [hi, hw, if_true]
  exact .inl (h _ (fun _ _ h => h))
end
section
variable {o : Oper} {a : Act} {w : World} {Q : Exit → Act → World → Prop} {K : Act → World → Prop}
/-- A copy of one's own. -/
theorem owp_ownI (x y : Operand) (ho : o.op = .call { callee := .builtin .append, args := #[x, y], argTypes := #[22, 22] })
    (hx : a.eval x = .slice none 0 0) (ad : Option Addr) (n cap : Nat) (zs : List Int) (hy : a.eval y = .slice ad n cap) (hn : zs.length = n) (hS : IntsIn w ad zs) (hl : n ≤ 17592186043904)
    (h : ∀ v' w', Hid (OwnedI w.heap.size w w' v' zs) → K (a.put o.dst v') w') : o.wp Tryz.prog a w K Q := by
  obtain ⟨i0, hi0, hz0, hz1, hz2⟩ := info_parts Tryz.info3
  cases ad with
  | none =>
    obtain rfl : zs = [] := by rcases hS with h | ⟨g, off, ha, _⟩; exact h; cases ha
    obtain rfl : 0 = n := hn
    refine owp_value (v := .slice none 0 0) (w' := w) ?_ (h _ _ (OwnedI.nil (Below.refl _ _) (Nat.le_refl _)))
    simp [execOp, ho, resolve, invoke, builtin, hx, hy, Builtin.append_, run_underlying Tryz.underlying22, sizeOf, typeInfo, hi0, Builtin.lenOf, Builtin.firstCells, Result.andThen]
  | some ad =>
    refine wp_append_own w x y 22 ho w.heap.size 3 i0 (.int .i64 0) 1 8 Tryz.underlying22 hi0 hz0 hz1 hz2 rfl (by decide) (.slice none 0 0) 0 [] hx ⟨rfl, .inl ⟨rfl, rfl⟩⟩ ad n cap (iC zs) hy (by rw [iC_len, hn, Nat.mul_one]) (fun j v hv => ?_) (iC_one _) (by unfold maxLen; omega) (by omega) (Nat.le_refl _) (fun v' w' hown hgrow _ => ?_)
    · obtain ⟨s, hs, rfl⟩ := iC_back zs j v hv
      rcases hS with h | ⟨g, off, ha, hg, hc⟩
      · rw [h] at hs; simp at hs
      · cases ha
        rw [Addr.add_lit]
        exact hc j s hs
    · exact h v' w' ((OwnedI.nil (Below.refl w.heap.size w) (Nat.le_refl _)).grow (xs := zs) hn hown hgrow)
end
theorem OwnedT.slice {B : Nat} {w0 w : World} {v : Value} {ps : List (Int × ByteArray)} (h : OwnedT B w0 w v ps) : ∃ ad cap, v = .slice ad ps.length cap ∧ PairsIn w ad ps ∧ ∀ x, ad = some x → B ≤ x.block ∧ x.block < w.heap.size := by
  obtain ⟨ad, cap, hv, hp⟩ := own_pairsT h.own
  refine ⟨ad, cap, hv, hp, fun x hx => ?_⟩
  rcases h.own.2 with ⟨hv2, _⟩ | ⟨g, c, cur, hv2, hb, hh, _⟩
  · rw [hv, hx] at hv2; cases hv2
  · rw [hv, hx] at hv2; cases hv2; exact ⟨hb, lt_of_blk hh⟩
theorem ints_far {w w' : World} {ad : Option Addr} {l : List Int} (h : IntsIn w ad l) (hs : w.heap.size ≤ w'.heap.size) (hb : ∀ x, ad = some x → w'.heap[x.block]? = w.heap[x.block]?) : IntsIn w' ad l := by
  rcases h with h | ⟨g, off, rfl, hg, hc⟩
  · exact .inl h
  · exact .inr ⟨g, off, rfl, Nat.lt_of_lt_of_le hg hs, fun j z hz => (World.cell?_of_block (a := ⟨g, off + j, none⟩) (hb ⟨g, off, none⟩ rfl)).trans (hc j z hz)⟩
theorem pairs_far {w w' : World} {ad : Option Addr} {ps : List (Int × ByteArray)} (h : PairsIn w ad ps) (hs : w.heap.size ≤ w'.heap.size) (hb : ∀ x, ad = some x → w'.heap[x.block]? = w.heap[x.block]?) : PairsIn w' ad ps := by
  rcases h with h | ⟨g, off, rfl, hg, hc⟩
  · exact .inl h
  · exact .inr ⟨g, off, rfl, Nat.lt_of_lt_of_le hg hs, fun j p hp => ⟨(World.cell?_of_block (a := ⟨g, off + j * 2, none⟩) (hb ⟨g, off, none⟩ rfl)).trans (hc j p hp).1, (World.cell?_of_block (a := ⟨g, off + j * 2 + 1, none⟩) (hb ⟨g, off, none⟩ rfl)).trans (hc j p hp).2⟩⟩
/-- While a link is copied: the link's block, the result's block. -/
structure CpSt (w0 w : World) (e : Int) (vm vs : Value) : Prop where
  ln : LnAt w w0.heap.size e vm vs
  res : w.heap[w0.heap.size + 1]? = some (.cells #[.int .i64 0, .slice none 0 0, .slice none 0 0] 96 (0, 0))
  bel : Below w0.heap.size w0 w
theorem CpSt.keep {w0 w w' : World} {e : Int} {vm vs : Value} (h : CpSt w0 w e vm vs) (hb : Below w.heap.size w w') : CpSt w0 w' e vm vs :=
  ⟨h.ln.keep hb, (hb.block _ (lt_of_blk h.res)).trans h.res, h.bel.trans (hb.mono h.bel.size)⟩
theorem cell_three {w : World} {b : Nat} {x0 x1 x2 : Value} {T : TypeId} {fr : Nat × Nat} (h : w.heap[b]? = some (.cells #[x0, x1, x2] T fr)) : w.cell? ⟨b, 0, none⟩ = some x0 ∧ w.cell? ⟨b, 1, none⟩ = some x1 ∧ w.cell? ⟨b, 2, none⟩ = some x2 :=
  ⟨cell_at (L := [x0, x1, x2]) h 0 _ rfl, cell_at (L := [x0, x1, x2]) h 1 _ rfl, cell_at (L := [x0, x1, x2]) h 2 _ rfl⟩
theorem res_put3 {w : World} {b : Nat} {p q r x0 x1 x2 : Value} {T : TypeId} (h : w.heap[b]? = some (.cells #[p, q, r] T (0, 0))) : (((w.setCell ⟨b, 0, none⟩ x0).setCell ⟨b, 1, none⟩ x1).setCell ⟨b, 2, none⟩ x2).heap[b]? = some (.cells #[x0, x1, x2] T (0, 0)) := by
  have h1 : (w.setCell ⟨b, 0, none⟩ x0).heap[b]? = some (.cells #[x0, q, r] T (0, 0)) := (blk_set h 0 x0).trans (by simp)
  have h2 : ((w.setCell ⟨b, 0, none⟩ x0).setCell ⟨b, 1, none⟩ x1).heap[b]? = some (.cells #[x0, x1, r] T (0, 0)) := (blk_set h1 1 x1).trans (by simp)
  exact (blk_set h2 2 x2).trans (by simp)
theorem load_link (w : World) (b : Nat) (x0 x1 x2 : Value) (c0 : w.cell? ⟨b, 0, none⟩ = some x0) (c1 : w.cell? ⟨b, 1, none⟩ = some x1) (c2 : w.cell? ⟨b, 2, none⟩ = some x2) : (loadVar 96 ⟨b, 0, none⟩).run Tryz.prog w = .ok (.agg #[x0, x1, x2]) w := by
  go_simp
theorem ret_one {f : Func} {a : Act} {w : World} {Q : Ending → World → Prop} {s : Nat} {t : TypeId} {ad : Addr} {v : Value} (hr : f.results = #[.cell s t]) (hs : a.tmps.getD s undef = .pointer (some ad)) (hl : (loadVar t ad).run Tryz.prog w = .ok v w) (hd : a.defers = [])
    (h : Q (.returned v) w) : bodyPost Tryz.prog f Q .ret a w := by
  refine bodyPost_ret (v := v) ?_ hd h
  have h1 : a.tmps.getD s undef = .pointer (some ad) := hs
  simp [results, hr, -Array.getD_eq_getD_getElem?, h1, asAddr, hl]
end Go.Proofs.YtgmekkgbobmplaaGreat

/- The document's tracker: in memory; At. -/
namespace Go.Proofs.YtgmekkgbobmplaaGreat
open Go.RowKit

abbrev Lk := Int × (List Int × List (Int × ByteArray))
def dLk (k : Lk) : List Dat := [.i k.1, dInts k.2.1, dPairs k.2.2]
def dLks (ls : List Lk) : List (List Dat) := ls.map dLk
theorem dLks_len (ls : List Lk) : (dLks ls).length = ls.length := List.length_map ..
theorem dLks_at {ls : List Lk} {j : Nat} {k : Lk} (h : ls[j]? = some k) : (dLks ls)[j]? = some (dLk k) := by rw [dLks, List.getElem?_map, h]; rfl
/-- What At answers. -/
def atZ (ep : Int) (ls : List Lk) (e : Int) : Int := if e = 0 then ep else if 1 ≤ e ∧ e ≤ ls.length then (ls.getD (e - 1).toNat (0, [], [])).1 else 0
def atM (fm : List Int) (ls : List Lk) (e : Int) : List Int := if e = 0 then fm else if 1 ≤ e ∧ e ≤ ls.length then (ls.getD (e - 1).toNat (0, [], [])).2.1 else []
def atB (ls : List Lk) (e : Int) : Bool := decide (0 ≤ e ∧ e ≤ ls.length)
theorem ints_put {w : World} {ad : Option Addr} {l : List Int} (h : IntsIn w ad l) (r o : Nat) (x : Value) (hne : ∀ y, ad = some y → l ≠ [] → y.block ≠ r) : IntsIn (w.setCell ⟨r, o, none⟩ x) ad l := by
  rcases h with h | ⟨g, off, rfl, hg, hc⟩
  · exact .inl h
  · cases l with
    | nil => exact .inl rfl
    | cons z l => exact .inr ⟨g, off, rfl, by simpa [World.setCell] using hg, fun j s hs => (World.cell?_of_block (a := ⟨g, off + j, none⟩) (Below.heap_setCell _ _ _ _ (hne _ rfl (by simp)))).trans (hc j s hs)⟩
theorem ints_lt {w : World} {ad : Option Addr} {l : List Int} (h : IntsIn w ad l) : ∀ x, ad = some x → l ≠ [] → x.block < w.heap.size := fun x hx hne => by
  rcases h with h | ⟨g, off, ha, hg, _⟩
  · exact absurd h hne
  · rw [hx] at ha; cases ha; exact hg
end Go.Proofs.YtgmekkgbobmplaaGreat

/- The document's tracker: Add. -/
namespace Go.Proofs.YtgmekkgbobmplaaGreat
open Go.RowKit

theorem Tryz.info96 : (Tryz.prog.info? 96).map (fun i => (i.zero, i.size, i.bytes)) = some (some (.agg #[.int .i64 0, .slice none 0 0, .slice none 0 0]), 3, 56) := by kernel_rfl
section
variable {o : Oper} {a : Act} {w : World} {Q : Exit → Act → World → Prop} {K : Act → World → Prop}
/-- One more link behind one's own. -/
theorem owp_add_link (s x : Operand) (ho : o.op = .call { callee := .builtin .append, args := #[s, x], argTypes := #[46, 46] }) (B : Nat) (F F' : Nat → Prop) (v : Value) (ls : List Lk) (hs : a.eval s = v) (hO : OwnD 96 3 B F w v (dLks ls)) (hB : B ≤ w.heap.size)
    (g : Nat) (hx : a.eval x = .slice (some ⟨g, 0, none⟩) 1 1) (k : Lk) (u1 u2 : Value) (c0 : w.cell? ⟨g, 0, none⟩ = some (.int .i64 k.1)) (c1 : w.cell? ⟨g, 1, none⟩ = some u1) (c2 : w.cell? ⟨g, 2, none⟩ = some u2) (o1 : u1.oneCell' = true) (o2 : u2.oneCell' = true)
    (hu1 : Reads F' w u1 (dInts k.2.1)) (hu2 : Reads F' w u2 (dPairs k.2.2)) (hF : ∀ j, j < w.heap.size → F j → F' j) (hrow : ∀ j, v.ownBlock = some j → ¬ F' j) (hnew : ∀ j, F' j → j < w.heap.size) (hl : ls.length + 1 ≤ 1000)
    (h : ∀ v' w', Hid (OwnD 96 3 B F' w' v' (dLks (ls ++ [k])) ∧ w.grownBy w' v.ownBlock ∧ (v'.ownBlock = v.ownBlock ∨ v'.ownBlock = some w.heap.size)) → K (a.put o.dst v') w') : o.wp Tryz.prog a w K Q := by
  obtain ⟨i0, hi0, hz0, hz1, hz2⟩ := info_parts Tryz.info96
  obtain ⟨cs, hown, _⟩ := hO.own
  obtain ⟨v', w', hr, h2, h3, h4, h5⟩ := run_append_own_at (P := Tryz.prog) w B 46 o.type 96 i0 (.agg #[.int .i64 0, .slice none 0 0, .slice none 0 0]) 3 56 Tryz.underlying46 hi0 hz0 hz1 hz2 rfl (by decide) v _ cs hown ⟨g, 0, none⟩ 1 1 [.int .i64 k.1, u1, u2] rfl (fun j u hj => by
    match j, hj with
    | 0, hj => simp at hj; subst hj; simpa [Addr.add] using c0
    | 1, hj => simp at hj; subst hj; simpa [Addr.add] using c1
    | 2, hj => simp at hj; subst hj; simpa [Addr.add] using c2) (by intro u hu; simp at hu; rcases hu with rfl | rfl | rfl; rfl; exact o1; exact o2) (by rw [dLks_len]; unfold maxLen; omega) (by rw [dLks_len]; omega) hB
  have hkeep : ∀ {u : Value} {d : Dat}, Reads F' w u d → Reads F' w' u d := fun hu => hu.keep h3.size (fun j hj hFj => h3.block j hj (fun e => hrow j e.symm hFj))
  refine owp_value (v := v') (w' := w') ?_ (h v' w' ⟨?_, h3, h5⟩)
  · simp [execOp, ho, resolve, invoke, builtin, hs, hx, hr, Result.andThen]
  · have := hO.grow (F' := F') (e := dLk k) hown rfl (fun q d hd => by
      match q, hd with
      | 0, hd => cases hd; exact ⟨_, rfl, .i _⟩
      | 1, hd => cases hd; exact ⟨_, rfl, hkeep hu1⟩
      | 2, hd => cases hd; exact ⟨_, rfl, hkeep hu2⟩) h2 h3 hF (fun j hj hFj => by
      rcases h5 with e | e
      · exact hrow j (e ▸ hj) hFj
      · rw [e] at hj
        cases hj
        exact absurd (hnew _ hFj) (by omega))
    rw [dLks, List.map_append]
    exact this
end
theorem pairs_lt {w : World} {ad : Option Addr} {l : List (Int × ByteArray)} (h : PairsIn w ad l) : ∀ x, ad = some x → l ≠ [] → x.block < w.heap.size := fun x hx hne => by
  rcases h with h | ⟨g, off, ha, hg, _⟩
  · exact absurd h hne
  · rw [hx] at ha; cases ha; exact hg
/-- The document's tracker while a link is put to it. -/
def lastZ (ep : Int) (ls : List Lk) : Int := atZ ep ls (ls.length : Int)
def lastM (fm : List Int) (ls : List Lk) : List Int := atM fm ls (ls.length : Int)
theorem lastM_len (fm : List Int) (ls : List Lk) (h0 : fm.length ≤ maxLen) (h : ∀ k, k ∈ ls → k.2.1.length ≤ maxLen) : (lastM fm ls).length ≤ maxLen := by
  unfold lastM atM
  split
  · exact h0
  · split
    · next h1 =>
      have hj : ((ls.length : Int) - 1).toNat < ls.length := by omega
      rw [List.getD_eq_getElem?_getD, List.getElem?_eq_getElem hj]
      exact h _ (List.getElem_mem hj)
    · exact Nat.zero_le _
end Go.Proofs.YtgmekkgbobmplaaGreat

/- The document's tracker: New. -/
namespace Go.Proofs.YtgmekkgbobmplaaGreat
open Go.RowKit

/-- The blocks of a first configuration. -/
def confF (a : Option Addr) (l : List Int) : Nat → Prop := fun k => ∃ x, a = some x ∧ l ≠ [] ∧ k = x.block
theorem confF_lt {w : World} {a : Option Addr} {l : List Int} (h : IntsIn w a l) (k : Nat) (hk : confF a l k) : k < w.heap.size := by
  obtain ⟨x, hx, hl, rfl⟩ := hk
  exact ints_lt h x hx hl
end Go.Proofs.YtgmekkgbobmplaaGreat

/- The document's SameInts, of any two lists. -/
namespace Go.Proofs.YtgmekkgbobmplaaGreat
open Go.RowKit

theorem take_grow {α : Type} {l1 l2 : List α} {j : Nat} {s : α} (h : l1.take j = l2.take j) (h1 : l1[j]? = some s) (h2 : l2[j]? = some s) : l1.take (j + 1) = l2.take (j + 1) := by
  obtain ⟨hj1, e1⟩ := List.getElem?_eq_some_iff.1 h1
  obtain ⟨hj2, e2⟩ := List.getElem?_eq_some_iff.1 h2
  rw [List.take_succ_eq_append_getElem hj1, List.take_succ_eq_append_getElem hj2, h, e1, e2]
theorem ne_of_at {α : Type} {l1 l2 : List α} {j : Nat} {s t : α} (h1 : l1[j]? = some s) (h2 : l2[j]? = some t) (h : s ≠ t) : l1 ≠ l2 := fun e => by
  rw [e, h2] at h1
  cases h1
  exact h rfl
set_option maxRecDepth 100000 in
set_option maxHeartbeats 3200000 in
theorem sameInts_dec (a1 a2 : Option Addr) (n1 n2 c1 c2 : Nat) (l1 l2 : List Int) (hn1 : l1.length = n1) (hn2 : l2.length = n2) (hm1 : n1 ≤ maxLen) (hm2 : n2 ≤ maxLen) (w : World) (h1 : IntsIn w a1 l1) (h2 : IntsIn w a2 l2) :
    Calls Tryz.prog 83 #[.slice a1 n1 c1, .slice a2 n2 c2] w fun e w' => e = .returned (.bool (decide (l1 = l2))) ∧ Below w.heap.size w w' := by
  by_cases hne : n1 = n2
  · subst hne
    have hm3 : (n1 : Int) ≤ 9223372036854775807 := by unfold maxLen at hm1; omega
    have HZ := hid (And.intro h1 (And.intro h2 (And.intro hn1 hn2)))
    clear h1 h2 hn1 hn2 hm1 hm2
    go_enter Tryz.func83, Tryz.ntmps83
    go_wp2
    go_loopw [5] (fun i wr => ∃ j : Nat, j ≤ n1 ∧ i = .int .i64 (j : Int) ∧ Below w.heap.size w wr ∧ l1.take j = l2.take j)
      (fun i _ => ((n1 : Int) - intOf i).toNat)
    case atStart => exact ⟨0, by omega, rfl, Below.refl _ _, rfl⟩
    case round =>
      obtain ⟨j, hj, rfl, hbel, htk⟩ := hrel
      have HB := hid (And.intro hbel htk)
      clear hbel htk
      by_cases hjn : j = n1
      · have hj1 : ¬ ((j : Int) < (n1 : Int)) := by omega
        have HE : Hid (l1 = l2) := hid (by
          have := HB.out.2
          rw [List.take_of_length_le (by have := HZ.out.2.2.1; omega), List.take_of_length_le (by have := HZ.out.2.2.2; omega)] at this
          exact this)
        clear hj hjn
        go_wp2
        go_ret
        exact ⟨(congrArg (fun b => Ending.returned (.bool b)) (decide_eq_true HE.out)).symm, HB.out.1⟩
      · have hj1 : (j : Int) < (n1 : Int) := by omega
        have hj0 : (0 : Int) ≤ (j : Int) := Int.natCast_nonneg _
        obtain ⟨s, es⟩ : ∃ s, l1[j]? = some s := ⟨_, List.getElem?_eq_getElem (by rw [HZ.out.2.2.1]; omega)⟩
        obtain ⟨t, et⟩ : ∃ t, l2[j]? = some t := ⟨_, List.getElem?_eq_getElem (by rw [HZ.out.2.2.2]; omega)⟩
        obtain ⟨g1, off1, rfl, hg1, hcell1⟩ := HZ.out.1.at j s es
        obtain ⟨g2, off2, rfl, hg2, hcell2⟩ := HZ.out.2.1.at j t et
        have cz1 : wr.cell? ⟨g1, off1 + j, none⟩ = some (.int .i64 s) := (HB.out.1.cell (p := ⟨g1, off1 + j, none⟩) hg1).trans hcell1
        have cz2 : wr.cell? ⟨g2, off2 + j, none⟩ = some (.int .i64 t) := (HB.out.1.cell (p := ⟨g2, off2 + j, none⟩) hg2).trans hcell2
        have HS := hid (And.intro es et)
        clear es et hg1 hg2 hcell1 hcell2
        by_cases hst : s = t
        · subst hst
          go_wp2
          go_quiet (fail)
          go_wp2
          go_roundw
          case rel => exact ⟨j + 1, by omega, rfl, ⟨HB.out.1.os, HB.out.1.tape, HB.out.1.output, HB.out.1.size, HB.out.1.block⟩, take_grow HB.out.2 HS.out.1 HS.out.2⟩
          case measure => simp [intOf]; omega
        · have hstb : (s != t) = true := by simpa using hst
          have HN : Hid (l1 ≠ l2) := hid (ne_of_at HS.out.1 HS.out.2 hst)
          go_wp2
          go_quiet (fail)
          go_wp2
          go_ret
          exact ⟨(congrArg (fun b => Ending.returned (.bool b)) (decide_eq_false HN.out)).symm, ⟨HB.out.1.os, HB.out.1.tape, HB.out.1.output, HB.out.1.size, HB.out.1.block⟩⟩
  · have hz : ¬ ((n1 : Int) = (n2 : Int)) := by omega
    have HN : Hid (l1 ≠ l2) := hid (fun e => hne (by rw [← hn1, ← hn2, e]))
    clear hne hn1 hn2 h1 h2 hm1 hm2
    go_enter Tryz.func83, Tryz.ntmps83
    go_wp2
    go_ret
    exact ⟨(congrArg (fun b => Ending.returned (.bool b)) (decide_eq_false HN.out)).symm, Below.refl _ _⟩
end Go.Proofs.YtgmekkgbobmplaaGreat

/- The document's tracker: Take. -/
namespace Go.Proofs.YtgmekkgbobmplaaGreat
open Go.RowKit

/-- The j-th link of a chain in memory. -/
theorem lks_at {G : Nat → Prop} {w : World} {v : Value} {cs : List Lk} (h : Reads G w v (.l 3 (dLks cs))) (j : Nat) (k : Lk) (hj : cs[j]? = some k) :
    ∃ g off cap a1 c1 a2 c2, v = .slice (some ⟨g, off, none⟩) cs.length cap ∧ g < w.heap.size ∧ w.cell? ⟨g, off + j * 3, none⟩ = some (.int .i64 k.1) ∧ w.cell? ⟨g, off + j * 3 + 1, none⟩ = some (.slice a1 k.2.1.length c1) ∧ w.cell? ⟨g, off + j * 3 + 2, none⟩ = some (.slice a2 k.2.2.length c2) ∧ IntsIn w a1 k.2.1 ∧ PairsIn w a2 k.2.2 := by
  obtain ⟨g, off, cap, hv, _, hg, _, hc⟩ := h.at j (dLk k) (dLks_at hj)
  obtain ⟨u0, h0, r0⟩ := hc 0 (.i k.1) rfl
  obtain ⟨u1, h1, r1⟩ := hc 1 (dInts k.2.1) rfl
  obtain ⟨u2, h2, r2⟩ := hc 2 (dPairs k.2.2) rfl
  obtain ⟨a1, c1, e1, i1, _⟩ := reads_ints r1
  obtain ⟨a2, c2, e2, i2, _⟩ := reads_pairs r2
  rw [dLks_len] at hv
  exact ⟨g, off, cap, a1, c1, a2, c2, hv, hg, by rw [r0.int] at h0; exact h0, by rw [h1, e1], by rw [h2, e2], i1, i2⟩
theorem lks_form {G : Nat → Prop} {w : World} {v : Value} {cs : List Lk} (h : Reads G w v (.l 3 (dLks cs))) : ∃ ad cap, v = .slice ad cs.length cap := by
  obtain ⟨ad, cap, hv⟩ := h.form
  rw [dLks_len] at hv
  exact ⟨ad, cap, hv⟩

/-- What Add says of a link behind those. -/
def addE (ep : Int) (fm : List Int) (ls : List Lk) (k : Lk) : Int := validE (lastZ ep ls) (lastM fm ls) k.1 k.2.1 k.2.2
/-- The first error of a chain. -/
def chainE (ep : Int) (fm : List Int) : List Lk → List Lk → Int
  | _, [] => 0
  | pre, k :: cs => if addE ep fm pre k = 0 then chainE ep fm (pre ++ [k]) cs else addE ep fm pre k
/-- Do two chains tell other members of an epoch that both know? -/
def otherTo (ls cs : List Lk) (n : Nat) : Bool := (List.range n).any fun i => decide (i < cs.length ∧ i < ls.length) && !decide ((cs.getD i (0, [], [])).2.1 = (ls.getD i (0, [], [])).2.1)
/-- What Take says. -/
def takeE (ep : Int) (fm : List Int) (ls cs : List Lk) : Int :=
  if 64 < cs.length then 3 else if chainE ep fm [] cs ≠ 0 then chainE ep fm [] cs else if otherTo ls cs cs.length = true then 22 else if cs.length ≤ ls.length then 17 else 0
theorem chainE_step (ep : Int) (fm : List Int) (cs : List Lk) (j : Nat) (k : Lk) (h : cs[j]? = some k) (h0 : addE ep fm (cs.take j) k = 0) : chainE ep fm (cs.take (j + 1)) (cs.drop (j + 1)) = chainE ep fm (cs.take j) (cs.drop j) := by
  obtain ⟨hj, rfl⟩ := List.getElem?_eq_some_iff.1 h
  rw [List.drop_eq_getElem_cons hj, chainE, if_pos h0, List.take_succ_eq_append_getElem hj]
theorem chainE_stop (ep : Int) (fm : List Int) (cs : List Lk) (j : Nat) (k : Lk) (h : cs[j]? = some k) (h0 : addE ep fm (cs.take j) k ≠ 0) : chainE ep fm (cs.take j) (cs.drop j) = addE ep fm (cs.take j) k := by
  obtain ⟨hj, rfl⟩ := List.getElem?_eq_some_iff.1 h
  rw [List.drop_eq_getElem_cons hj, chainE, if_neg h0]
end Go.Proofs.YtgmekkgbobmplaaGreat

/- The document's tracker: Take, walked. -/
namespace Go.Proofs.YtgmekkgbobmplaaGreat
open Go.RowKit

theorem kept_of_below {b : Nat} {r : Option Nat} {w w' : World} (h : Below w.heap.size w w') : Kept b r w w' := ⟨h.os, h.tape, h.output, h.size, fun k hk _ _ => h.block k hk⟩
theorem otherTo_step {ls cs : List Lk} {p : Nat} {k1 k2 : Lk} (h1 : cs[p]? = some k1) (h2 : ls[p]? = some k2) : otherTo ls cs (p + 1) = (otherTo ls cs p || !decide (k1.2.1 = k2.2.1)) := by
  obtain ⟨hp1, e1⟩ := List.getElem?_eq_some_iff.1 h1
  obtain ⟨hp2, e2⟩ := List.getElem?_eq_some_iff.1 h2
  rw [otherTo, List.range_succ, List.any_append]
  simp [otherTo, List.getD_eq_getElem?_getD, hp1, hp2, e1, e2]
theorem otherTo_all {ls cs : List Lk} {p : Nat} (h : cs.length ≤ p ∨ ls.length ≤ p) (h0 : otherTo ls cs p = false) : otherTo ls cs cs.length = false := by
  rw [otherTo, List.any_eq_false] at h0 ⊢
  intro i hi hq
  rw [Bool.and_eq_true_iff] at hq
  have h3 := of_decide_eq_true hq.1
  exact h0 i (List.mem_range.2 (by omega)) (by rw [Bool.and_eq_true_iff]; exact hq)
theorem otherTo_up {ls cs : List Lk} {p : Nat} (hp : p ≤ cs.length) (h : otherTo ls cs p = true) : otherTo ls cs cs.length = true := by
  rw [otherTo, List.any_eq_true] at h ⊢
  obtain ⟨i, hi, hq⟩ := h
  exact ⟨i, List.mem_range.2 (by have := List.mem_range.1 hi; omega), hq⟩
theorem own_some {B : Nat} {F : Nat → Prop} {w : World} {v : Value} {ls : List Lk} {P : Prop} (h : OwnD 96 3 B F w v (dLks ls)) (ho : v.ownBlock = none) (hl : 0 < ls.length) : P := by
  obtain ⟨k, hk⟩ : ∃ k, ls[0]? = some k := ⟨_, List.getElem?_eq_getElem hl⟩
  obtain ⟨g, off, cap, hv, _⟩ := h.reads.at 0 (dLk k) (dLks_at hk)
  subst hv
  cases ho
end Go.Proofs.YtgmekkgbobmplaaGreat

/- The document's Same of configurations, of its own (so that it hangs on little). -/
namespace Go.Proofs.YtgmekkgbobmplaaGreat
open Go.RowKit

set_option maxRecDepth 100000 in
set_option maxHeartbeats 1600000 in
theorem vsame_eq (ep : Int) (a1 a2 : Option Addr) (n c1 c2 : Nat) (l : List Int) (hn : l.length = n) (hm : n ≤ maxLen) (w : World) (h1 : IntsIn w a1 l) (h2 : IntsIn w a2 l) :
    Calls Tryz.prog 79 #[.agg #[.int .i64 ep, .slice a1 n c1], .agg #[.int .i64 ep, .slice a2 n c2]] w fun e w' => e = .returned (.bool true) ∧ Below w.heap.size w w' := by
  have HC : Hid (∀ u : World, IntsIn u a1 l → IntsIn u a2 l → Calls Tryz.prog 83 #[.slice a1 n c1, .slice a2 n c2] u fun e w' => e = .returned (.bool true) ∧ Below u.heap.size u w') := hid (fun u k1 k2 => sameInts_any a1 a2 n c1 c2 l hn hm u k1 k2)
  have HI := hid (And.intro h1 h2)
  clear h1 h2 hn hm
  go_enter Tryz.func79, Tryz.ntmps79
  go_wp2_with (go_at_call 83; refine (HC.out _ (by exact (HI.out.1.alloc _).alloc _) (by exact (HI.out.2.alloc _).alloc _)).mono ?_; rintro e w1 ⟨rfl, hb1⟩; have H1 := hid ((((Below.refl w.heap.size w).alloc (Nat.le_refl _) _).alloc (by simp) _).trans (hb1.mono (by simp; omega))); clear hb1)
  go_ret
  exact ⟨rfl, H1.out⟩
end Go.Proofs.YtgmekkgbobmplaaGreat

/- The document's tracker: the same chains. -/
namespace Go.Proofs.YtgmekkgbobmplaaGreat
open Go.RowKit

end Go.Proofs.YtgmekkgbobmplaaGreat

/- A tracker of the program in memory, as the walks of the laws see it (trial: the contracts are told). -/
namespace Go.Proofs.YtgmekkgbobmplaaGreat
open Go.RowKit

/-- All blocks but those of O stay. -/
structure Outs (O : Nat → Prop) (w w' : World) : Prop where
  os : w'.os = w.os
  tape : w'.tape = w.tape
  output : w'.output = w.output
  size : w.heap.size ≤ w'.heap.size
  block : ∀ k, k < w.heap.size → ¬ O k → w'.heap[k]? = w.heap[k]?
theorem Outs.refl (O : Nat → Prop) (w : World) : Outs O w w := ⟨rfl, rfl, rfl, Nat.le_refl _, fun _ _ _ => rfl⟩
theorem Outs.trans {O O' : Nat → Prop} {x y z : World} (h : Outs O x y) (k : Outs O' y z) (hO : ∀ j, j < x.heap.size → O' j → O j) : Outs O x z :=
  ⟨k.os.trans h.os, k.tape.trans h.tape, k.output.trans h.output, Nat.le_trans h.size k.size, fun j hj hn => (k.block j (Nat.lt_of_lt_of_le hj h.size) (fun hq => hn (hO j hj hq))).trans (h.block j hj hn)⟩
theorem outs_of {O : Nat → Prop} {w w' : World} (h : Below w.heap.size w w') : Outs O w w' := ⟨h.os, h.tape, h.output, h.size, fun k hk _ => h.block k hk⟩
theorem Outs.below {O : Nat → Prop} {w w' : World} {B : Nat} (h : Outs O w w') (hB : B ≤ w.heap.size) (hO : ∀ k, O k → B ≤ k) : Below B w w' :=
  ⟨h.os, h.tape, h.output, h.size, fun k hk => h.block k (Nat.lt_of_lt_of_le hk hB) (fun hq => Nat.lt_irrefl _ (Nat.lt_of_lt_of_le hk (hO k hq)))⟩
/-- A list whose row lies in a block of its own, apart from what its items point to. -/
structure RowAt (sz : Nat) (F : Nat → Prop) (w : World) (v : Value) (es : List (List Dat)) : Prop where
  form : ∃ ad cap, v = .slice ad es.length cap
  item : ∀ (j : Nat) (e : List Dat), es[j]? = some e → ∃ g off cap, v = .slice (some ⟨g, off, none⟩) es.length cap ∧ ¬ F g ∧ g < w.heap.size ∧ e.length = sz ∧ ∀ (q : Nat) (d : Dat), e[q]? = some d → ∃ u, w.cell? ⟨g, off + j * sz + q, none⟩ = some u ∧ Reads F w u d
/-- The block of a list's row. -/
def rowOf : Value → Option Nat
  | .slice (some a) _ _ => some a.block
  | _ => none
theorem RowAt.keep {sz : Nat} {F : Nat → Prop} {w w' : World} {v : Value} {es : List (List Dat)} (h : RowAt sz F w v es) (hs : w.heap.size ≤ w'.heap.size) (hF : ∀ k, k < w.heap.size → F k → w'.heap[k]? = w.heap[k]?) (hr : ∀ g, g < w.heap.size → rowOf v = some g → w'.heap[g]? = w.heap[g]?) : RowAt sz F w' v es :=
  ⟨h.form, fun j e he => by
    obtain ⟨g, off, cap, hv, hg, hlt, hl, hc⟩ := h.item j e he
    refine ⟨g, off, cap, hv, hg, Nat.lt_of_lt_of_le hlt hs, hl, fun q d hd => ?_⟩
    obtain ⟨u, hu, hR⟩ := hc q d hd
    exact ⟨u, (World.cell?_of_block (a := ⟨g, _, none⟩) (hr g hlt (by rw [hv]; rfl))).trans hu, hR.keep hs hF⟩⟩
/-- One's own rows are such. -/
theorem OwnD.row {T : TypeId} {sz B : Nat} {F : Nat → Prop} {w : World} {v : Value} {es : List (List Dat)} (h : OwnD T sz B F w v es) : RowAt sz F w v es := by
  refine ⟨h.form, fun j e he => ?_⟩
  obtain ⟨cs, ho, hc⟩ := h.own
  rcases ho.2 with ⟨_, h0⟩ | ⟨g, cap, cur, hv, hB, hh, hnc, hcp, hcs, ht⟩
  · rw [List.length_eq_zero_iff.1 h0] at he
    cases he
  · subst hv
    refine ⟨g, 0, cap, rfl, h.sep g rfl, lt_of_blk hh, (hc j e he).1, fun q d hd => ?_⟩
    obtain ⟨u, h1, h2⟩ := (hc j e he).2 q d hd
    have := ho.cells (g := g) rfl _ _ h1
    rw [Addr.add_lit] at this
    rw [Nat.add_assoc]
    exact ⟨u, this, h2⟩
end Go.Proofs.YtgmekkgbobmplaaGreat

/- The library's calls that the council makes: Contains, BinarySearch, Insert, Delete, at lists of numbers. -/
namespace Go.Proofs.YtgmekkgbobmplaaGreat
open Go.RowKit

set_option maxRecDepth 100000 in
set_option maxHeartbeats 1600000 in
theorem index_any (a : Option Addr) (n cap : Nat) (l : List Int) (hn : l.length = n) (hm : n ≤ maxLen) (id : Int) (w : World) (hI : IntsIn w a l) :
    Calls Tryz.prog 63 #[.slice a n cap, .int .i64 id] w fun e w' => ∃ k : Int, e = .returned (.int .i64 k) ∧ decide (0 ≤ k) = hasM l id ∧ w' = w := by
  have hm2 : (n : Int) ≤ 9223372036854775807 := by unfold maxLen at hm; omega
  have HI := hid hI
  have HN := hid hn
  clear hI hm hn
  go_enter Tryz.func63, Tryz.ntmps63
  go_wp2
  go_loopw [8] (fun i wr => ∃ j : Nat, j ≤ n ∧ i = .int .i64 (j : Int) ∧ id ∉ l.take j ∧ wr = w)
    (fun i _ => ((n : Int) - intOf i).toNat)
  case atStart => exact ⟨0, by omega, rfl, by simp, rfl⟩
  case round =>
    obtain ⟨j, hj, rfl, hno, rfl⟩ := hrel
    by_cases hjn : j = n
    · have hj1 : ¬ ((j : Int) < (n : Int)) := by omega
      have HF : Hid (hasM l id = false) := hid (decide_eq_false (by rwa [List.take_of_length_le (by rw [HN.out]; omega)] at hno))
      clear hno hj hjn
      go_wp2
      go_ret
      exact ⟨-1, rfl, by rw [HF.out]; rfl, rfl⟩
    · have hj1 : (j : Int) < (n : Int) := by omega
      have hj0 : (0 : Int) ≤ (j : Int) := Int.natCast_nonneg _
      have hjl : j < l.length := by rw [HN.out]; omega
      obtain ⟨g, off, rfl, hg, cz⟩ := HI.out.at j _ (getD_some hjl)
      by_cases hx : l.getD j 0 = id
      · have HF : Hid (hasM l id = true) := hid (decide_eq_true (mem_of_get hx hjl))
        rw [hx] at cz
        clear hno hj hjn hx hjl hg
        go_wp2
        go_ret
        exact ⟨(j : Int), rfl, by rw [HF.out, decide_eq_true hj0], rfl⟩
      · have HF : Hid (id ∉ l.take (j + 1)) := hid (not_mem_snoc hno hx hjl)
        obtain ⟨x, ex⟩ : ∃ x, x = l.getD j 0 := ⟨_, rfl⟩
        rw [← ex] at cz hx
        have hx' : ¬ (id = x) := fun h => hx h.symm
        have HJ := hid (And.intro hj hjn)
        clear hno hj hjn hjl hg ex
        go_wp2
        go_roundw
        case rel => exact ⟨j + 1, by have := HJ.out; omega, by go_num, HF.out, by first | exact rfl | exact trivial⟩
        case measure => simp [intOf]; omega
theorem contains_any (a : Option Addr) (n cap : Nat) (l : List Int) (hn : l.length = n) (hm : n ≤ maxLen) (id : Int) (w : World) (hI : IntsIn w a l) :
    Calls Tryz.prog 36 #[.slice a n cap, .int .i64 id] w fun e w' => e = .returned (.bool (hasM l id)) ∧ w' = w := by
  have HC := hid (index_any a n cap l hn hm id w hI)
  clear hI hn hm
  go_enter Tryz.func36, Tryz.ntmps36
  go_wp2_with (go_at_call 63; refine (HC.out).mono ?_; rintro e wx ⟨k, rfl, hk, rfl⟩; have HK := hid hk; clear hk)
  go_ret
  exact ⟨by rw [← HK.out]; rfl, rfl⟩

def renL2n25 : Go.Shelf.Ren := ⟨fun | 25 => 123 | 31 => 152 | 32 => 153 | 37 => 168 | n => n, fun | 0 => 0 | 3 => 3 | 4 => 4 | 22 => 22 | 40 => 64 | n => n, fun | n => n⟩
theorem layL2n25 : Go.Proofs.Lays2.n25 Tryz.prog renL2n25 := {
  mixed := by kernel_rfl
  f25 := Tryz.func123.trans (congrArg some (by kernel_rfl))
  f31 := Tryz.func152.trans (congrArg some (by kernel_rfl))
  f32 := Tryz.func153.trans (congrArg some (by kernel_rfl))
  f37 := Tryz.func168.trans (congrArg some (by kernel_rfl))
  t0 := Tryz.underlying0
  a0 := Tryz.isAgg0
  z0 := Tryz.sizeOf0
  v0 := Tryz.zeroValue0
  t3 := Tryz.underlying3
  a3 := Tryz.isAgg3
  z3 := Tryz.sizeOf3
  v3 := Tryz.zeroValue3
  t4 := Tryz.underlying4
  a4 := Tryz.isAgg4
  z4 := Tryz.sizeOf4
  v4 := Tryz.zeroValue4
  t22 := Tryz.underlying22
  a22 := Tryz.isAgg22
  z22 := Tryz.sizeOf22
  v22 := Tryz.zeroValue22
  t40 := Tryz.underlying64
  a40 := Tryz.isAgg64
  z40 := Tryz.sizeOf64
  v40 := Tryz.zeroValue64 }

/-- How many of the members stand ahead of id. -/
def placeN (l : List Int) (id : Int) : Nat := l.countP (· < id)
theorem search_any (a : Option Addr) (n cap : Nat) (l : List Int) (hn : l.length = n) (hb : memB l = true) (id : Int) (w : World) (hI : IntsIn w a l) :
    Calls Tryz.prog 123 #[.slice a n cap, .int .i64 id] w fun e w' => e = .returned (.tuple #[.int .i64 (placeN l id : Int), .bool (hasM l id)]) ∧ Below w.heap.size w w' := by
  have hl := mem_len hb
  rcases hI with h | ⟨g, off, rfl, hg, hc⟩
  · rw [h] at hl; simp at hl
  · have h := Any.slices_BinarySearch_int layL2n25 g off n cap l id w (by omega) (by omega) (fun j hj => hc j _ (getD_some hj)) (by rw [← hn, List.take_length]; exact (mem_inc hb).imp (fun h => Int.le_of_lt h))
    refine h.mono ?_
    rintro e w' ⟨rfl, q, rfl⟩
    refine ⟨?_, ⟨rfl, rfl, rfl, Nat.le_refl _, fun _ _ => rfl⟩⟩
    rw [← hn, List.take_length, show l.contains id = hasM l id by rw [hasM, List.contains_eq_mem]]
    rfl
theorem place_cut (id : Int) : ∀ {l : List Int}, Inc l → (∀ x ∈ l.take (placeN l id), x < id) ∧ (∀ x ∈ l.drop (placeN l id), id ≤ x)
  | [], _ => by simp
  | y :: l, h => by
    obtain ⟨hy, hl⟩ := List.pairwise_cons.1 h
    by_cases e : y < id
    · have hp : placeN (y :: l) id = placeN l id + 1 := by rw [placeN, List.countP_cons_of_pos (by simpa using e)]; rfl
      obtain ⟨h1, h2⟩ := place_cut id hl
      rw [hp, List.take_succ_cons, List.drop_succ_cons]
      refine ⟨fun x hx => ?_, h2⟩
      rcases List.mem_cons.1 hx with rfl | hx
      · exact e
      · exact h1 x hx
    · have hp : placeN (y :: l) id = 0 := by
        rw [placeN, List.countP_eq_zero]
        intro x hx
        rcases List.mem_cons.1 hx with rfl | hx
        · simpa using e
        · have := hy x hx
          simp
          omega
      rw [hp]
      refine ⟨by simp, fun x hx => ?_⟩
      rcases List.mem_cons.1 (by simpa using hx) with rfl | hx
      · omega
      · have := hy x hx
        omega
theorem place_le (l : List Int) (id : Int) : placeN l id ≤ l.length := List.countP_le_length
/-- Who joins stands at his place. -/
theorem join_put {l : List Int} {id : Int} (hb : memB l = true) (h0 : 0 ≤ id ∧ id < 16) (hh : hasM l id = false) : joinTo l id 16 = l.take (placeN l id) ++ [id] ++ l.drop (placeN l id) := by
  have hi := mem_inc hb
  obtain ⟨h1, h2⟩ := place_cut id hi
  have hno := of_decide_eq_false hh
  refine inc_eq _ _ (joinTo_inc l id 16) ?_ (fun x => ?_)
  · rw [List.append_assoc]
    refine List.pairwise_append.2 ⟨hi.sublist (List.take_sublist _ _), List.pairwise_append.2 ⟨by simp, hi.sublist (List.drop_sublist _ _), fun x hx y hy => ?_⟩, fun x hx y hy => ?_⟩
    · obtain rfl := List.mem_singleton.1 hx
      have := h2 y hy
      have hne : y ≠ x := fun e => hno (e ▸ List.mem_of_mem_drop hy)
      omega
    · have h3 := h1 x hx
      rcases List.mem_append.1 hy with hy | hy
      · obtain rfl := List.mem_singleton.1 hy
        exact h3
      · have := h2 y hy
        omega
  · rw [join_mem hb h0 x]
    have hs : x ∈ l ↔ x ∈ l.take (placeN l id) ∨ x ∈ l.drop (placeN l id) := by rw [← List.mem_append, List.take_append_drop]
    rw [hs]
    simp only [List.mem_append, List.mem_singleton]
    constructor
    · rintro (h | h | h)
      · exact .inl (.inr h)
      · exact .inl (.inl h)
      · exact .inr h
    · rintro ((h | h) | h)
      · exact .inr (.inl h)
      · exact .inl h
      · exact .inr (.inr h)
theorem leave_cut (id : Int) : ∀ {l : List Int}, Inc l → id ∈ l → placeN l id < l.length ∧ leaveF l id = l.take (placeN l id) ++ l.drop (placeN l id + 1)
  | [], _, h => by simp at h
  | y :: l, h, hm => by
    obtain ⟨hy, hl⟩ := List.pairwise_cons.1 h
    by_cases e : y < id
    · have hp : placeN (y :: l) id = placeN l id + 1 := by rw [placeN, List.countP_cons_of_pos (by simpa using e)]; rfl
      have hm2 : id ∈ l := by
        rcases List.mem_cons.1 hm with rfl | h
        · omega
        · exact h
      obtain ⟨h1, h2⟩ := leave_cut id hl hm2
      rw [hp, List.take_succ_cons, List.drop_succ_cons]
      refine ⟨by simp; omega, ?_⟩
      rw [leaveF, List.filter_cons, if_pos (by simp; omega)]
      rw [leaveF] at h2
      rw [h2]
      rfl
    · have hye : y = id := by
        rcases List.mem_cons.1 hm with rfl | h
        · rfl
        · have := hy id h
          omega
      subst hye
      have hp : placeN (y :: l) y = 0 := by
        rw [placeN, List.countP_eq_zero]
        intro x hx
        rcases List.mem_cons.1 hx with rfl | hx
        · simp
        · have := hy x hx
          simp
          omega
      rw [hp]
      refine ⟨by simp, ?_⟩
      rw [leaveF, List.filter_cons, if_neg (by simp), List.filter_eq_self.2 (fun x hx => by have := hy x hx; simp; omega)]
      simp
theorem sets_blk {g : Nat} {t : TypeId} : ∀ (vs : List Value) (o : Nat) (w : World) (L : List Value), w.heap[g]? = some (.cells L.toArray t (0, 0)) → o + vs.length ≤ L.length → (w.setCells g o vs).heap[g]? = some (.cells (L.take o ++ vs ++ L.drop (o + vs.length)).toArray t (0, 0))
  | [], o, w, L, h, _ => by rw [List.append_nil, List.length_nil, Nat.add_zero, List.take_append_drop]; exact h
  | v :: vs, o, w, L, h, hl => by
    rw [List.length_cons] at hl
    have h1 := blk_set h o v
    rw [List.setIfInBounds_toArray] at h1
    have h2 := sets_blk vs (o + 1) (w.setCell ⟨g, o, none⟩ v) (L.set o v) h1 (by rw [List.length_set]; omega)
    refine h2.trans ?_
    congr 3
    have hlen : (L.take o).length = o := by rw [List.length_take]; omega
    have e1 : (L.set o v).take (o + 1) = L.take o ++ [v] := by
      rw [List.set_eq_take_append_cons_drop, if_pos (by omega), List.take_append, hlen, List.take_of_length_le (by omega), show o + 1 - o = 1 by omega]
      rfl
    have e2 : (L.set o v).drop (o + 1 + vs.length) = L.drop (o + (vs.length + 1)) := by
      rw [List.drop_set_of_lt (by omega), show o + 1 + vs.length = o + (vs.length + 1) by omega]
    rw [e1, e2, List.length_cons]
    simp
end Go.Proofs.YtgmekkgbobmplaaGreat
