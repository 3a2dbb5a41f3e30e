/- Texts laid together: LrA LrB LrC. -/
import Derived.Test.YtecidbdbdnnglaaGreatMy2
import Derived.Test.YtecidbdbdnnglaaGreatMy1
import Derived.Test.YtecidbdbdnnglaaGreatMx1
import Derived.Test.YtecidbdbdnnglaaGreatClI
import Derived.Deep.MidRow
import Derived.Sort.Walk0
import Derived.Test.YtecidbdbdnnglaaGreatMx2
import Derived.Deep.RegionHeld3
/- The document's ledger in memory. -/
namespace Go.Proofs.YtecidbdbdnnglaaGreat
open Go.RowKit

def kbC (L : List Kb) : List Value := L.flatMap fun y => [.string y.1, .int .u64 (y.2 : Int)]
theorem kbC_cons (y : Kb) (L : List Kb) : kbC (y :: L) = .string y.1 :: .int .u64 (y.2 : Int) :: kbC L := rfl
theorem kbC_len (L : List Kb) : (kbC L).length = 2 * L.length := by
  induction L with
  | nil => rfl
  | cons d l ih =>
    show (kbC l).length + 1 + 1 = _
    rw [ih, List.length_cons]
    omega
theorem kbC_app (L M : List Kb) : kbC (L ++ M) = kbC L ++ kbC M := by rw [kbC, List.flatMap_append]; rfl
theorem kbC_at : ∀ (l : List Kb) (c : Nat) (d : Kb), l[c]? = some d → (kbC l)[c * 2]? = some (.string d.1) ∧ (kbC l)[c * 2 + 1]? = some (.int .u64 (d.2 : Int))
  | [], _, _, h => by simp at h
  | x :: l, 0, d, h => by
    obtain rfl : x = d := by simpa using h
    exact ⟨rfl, rfl⟩
  | x :: l, c + 1, d, h => by
    obtain ⟨h1, h2⟩ := kbC_at l c d (by simpa using h)
    rw [kbC_cons, show (c + 1) * 2 = c * 2 + 1 + 1 by omega, show c * 2 + 1 + 1 + 1 = (c * 2 + 1) + 1 + 1 by omega]
    simp only [List.getElem?_cons_succ]
    exact ⟨h1, h2⟩
/-- The keys L lie at a. -/
def KbIn (w : World) (a : Option Addr) (L : List Kb) : Prop :=
  L = [] ∨ ∃ g off, a = some ⟨g, off, none⟩ ∧ g < w.heap.size ∧ ∀ j y, L[j]? = some y → w.cell? ⟨g, off + j * 2, none⟩ = some (.string y.1) ∧ w.cell? ⟨g, off + j * 2 + 1, none⟩ = some (.int .u64 (y.2 : Int))
theorem KbIn.stay {w w' : World} {a : Option Addr} {L : List Kb} (h : KbIn w a L) (hs : w.heap.size ≤ w'.heap.size) (hb : ∀ x, a = some x → w'.heap[x.block]? = w.heap[x.block]?) : KbIn w' a L := by
  rcases h with h | ⟨g, off, ha, hg, hc⟩
  · exact .inl h
  · have hg' : w'.heap[g]? = w.heap[g]? := hb _ ha
    exact .inr ⟨g, off, ha, Nat.lt_of_lt_of_le hg hs, fun j z hz => ⟨(World.cell?_of_block (a := ⟨g, off + j * 2, none⟩) hg').trans (hc j z hz).1, (World.cell?_of_block (a := ⟨g, off + j * 2 + 1, none⟩) hg').trans (hc j z hz).2⟩⟩
theorem KbIn.keep {w w' : World} {a : Option Addr} {L : List Kb} (h : KbIn w a L) (hb : Below w.heap.size w w') (ha : ∀ x, a = some x → x.block < w.heap.size) : KbIn w' a L := h.stay hb.size (fun x hx => hb.block _ (ha x hx))
theorem KbIn.at {w : World} {a : Option Addr} {L : List Kb} (h : KbIn w a L) (j : Nat) (y : Kb) (hj : L[j]? = some y) : ∃ g off, a = some ⟨g, off, none⟩ ∧ w.cell? ⟨g, off + j * 2, none⟩ = some (.string y.1) ∧ w.cell? ⟨g, off + j * 2 + 1, none⟩ = some (.int .u64 (y.2 : Int)) := by
  rcases h with h | ⟨g, off, ha, hg, hc⟩
  · rw [h] at hj; simp at hj
  · exact ⟨g, off, ha, hc j y hj⟩
theorem Tryz.info79 : (Tryz.prog.info? 79).map (fun i => (i.zero, i.size, i.bytes)) = some (some (.agg #[.string ⟨#[]⟩, .int .u64 0]), 2, 24) := by kernel_rfl
/-- The slice v holds the keys L, in a row of its own; nothing below B has turned since w0. -/
structure OwnedK (B : Nat) (w0 w : World) (v : Value) (L : List Kb) : Prop where
  own : w.ownsRow B 79 2 v L.length (kbC L)
  bel : Below B w0 w
  le : B ≤ w.heap.size
theorem OwnedK.nil {B : Nat} {w0 w : World} (h : Below B w0 w) (hB : B ≤ w.heap.size) : OwnedK B w0 w (.slice none 0 0) [] := ⟨⟨rfl, .inl ⟨rfl, rfl⟩⟩, h, hB⟩
theorem OwnedK.alloc {B : Nat} {w0 w : World} {v : Value} {L : List Kb} (h : OwnedK B w0 w v L) (o : Obj) : OwnedK B w0 (w.alloc o) v L :=
  ⟨h.own.alloc o, h.bel.alloc h.le o, by have := h.le; simp; omega⟩
theorem OwnedK.grow {B : Nat} {w0 w w2 : World} {v v2 : Value} {L : List Kb} {y : Kb} (h : OwnedK B w0 w v L) (h2 : w2.ownsRow B 79 2 v2 (L.length + 1) (kbC L ++ [.string y.1, .int .u64 (y.2 : Int)])) (hg : w.grownBy w2 v.ownBlock) : OwnedK B w0 w2 v2 (L ++ [y]) :=
  ⟨by rw [List.length_append, kbC_app]; exact h2, h.bel.grown hg h.le (fun k hk => (h.own.lt k hk).1), Nat.le_trans h.le hg.size⟩
theorem kbC_one (l : List Kb) : ∀ v, v ∈ kbC l → v.oneCell' = true := by
  intro v hv
  obtain ⟨d, _, hd⟩ := List.mem_flatMap.1 hv
  simp at hd
  rcases hd with rfl | rfl <;> rfl
theorem OwnedK.slice {B : Nat} {w0 w : World} {v : Value} {L : List Kb} (h : OwnedK B w0 w v L) : ∃ ad cap, v = .slice ad L.length cap ∧ KbIn w ad L ∧ ∀ x, ad = some x → B ≤ x.block ∧ x.block < w.heap.size := by
  rcases h.own.2 with ⟨hv, h0⟩ | ⟨g, cap, cur, hv, hb, hh, hr⟩
  · exact ⟨none, 0, by rw [hv, h0], .inl (List.eq_nil_of_length_eq_zero h0), fun x hx => by cases hx⟩
  · refine ⟨_, cap, hv, .inr ⟨g, 0, rfl, lt_of_blk hh, fun j y hj => ?_⟩, fun x hx => by cases hx; exact ⟨hb, lt_of_blk hh⟩⟩
    subst hv
    obtain ⟨k1, k2⟩ := kbC_at L j y hj
    have c1 := h.own.cells (g := g) rfl _ _ k1
    have c2 := h.own.cells (g := g) rfl _ _ k2
    rw [Addr.add_lit] at c1 c2
    exact ⟨c1, by rw [Nat.add_assoc]; exact c2⟩
theorem kb_new (w : World) (k : ByteArray) (b : Nat) (T : TypeId) : ∀ j u, ([.string k, .int .u64 (b : Int)] : List Value)[j]? = some u → (w.alloc (.cells #[.string k, .int .u64 (b : Int)] T)).cell? ((⟨w.heap.size, 0, none⟩ : Addr).add j) = some u := fun j u hj => by
  rw [Addr.add_lit, Nat.zero_add]
  exact cell_at (L := [.string k, .int .u64 (b : Int)]) (heap_alloc_last w _) j u hj
theorem kb_grow {B : Nat} {w0 w w2 : World} {v v2 : Value} {L : List Kb} {k : ByteArray} {b : Nat} {o : Obj} (h : OwnedK B w0 w v L) (h2 : w2.ownsRow B 79 2 v2 (L.length + 1) (kbC L ++ [.string k, .int .u64 (b : Int)])) (hg : (w.alloc o).grownBy w2 v.ownBlock) : OwnedK B w0 w2 v2 (L ++ [(k, b)]) := (h.alloc o).grow (y := (k, b)) h2 hg
/-- Results as cells. -/
def rsC2 (l : List (Int × Nat)) : List Value := l.flatMap fun y => [.int .i64 y.1, .float .f64 y.2]
theorem rsC2_cons (y : Int × Nat) (L : List (Int × Nat)) : rsC2 (y :: L) = .int .i64 y.1 :: .float .f64 y.2 :: rsC2 L := rfl
theorem rsC2_at : ∀ (l : List (Int × Nat)) (c : Nat) (d : Int × Nat), l[c]? = some d → (rsC2 l)[c * 2]? = some (.int .i64 d.1) ∧ (rsC2 l)[c * 2 + 1]? = some (.float .f64 d.2)
  | [], _, _, h => by simp at h
  | x :: l, 0, d, h => by
    obtain rfl : x = d := by simpa using h
    exact ⟨rfl, rfl⟩
  | x :: l, c + 1, d, h => by
    obtain ⟨h1, h2⟩ := rsC2_at l c d (by simpa using h)
    rw [rsC2_cons, show (c + 1) * 2 = c * 2 + 1 + 1 by omega, show c * 2 + 1 + 1 + 1 = (c * 2 + 1) + 1 + 1 by omega]
    simp only [List.getElem?_cons_succ]
    exact ⟨h1, h2⟩
theorem rsC2_set : ∀ (l : List (Int × Nat)) (c : Nat) (d : Int × Nat), c < l.length → ((rsC2 l).set (c * 2) (.int .i64 d.1)).set (c * 2 + 1) (.float .f64 d.2) = rsC2 (l.set c d)
  | [], _, _, h => by simp at h
  | x :: l, 0, d, _ => rfl
  | x :: l, c + 1, d, h => by
    have ih := rsC2_set l c d (by simpa using h)
    rw [rsC2_cons, show (c + 1) * 2 = c * 2 + 1 + 1 by omega, show c * 2 + 1 + 1 + 1 = (c * 2 + 1) + 1 + 1 by omega]
    simp only [List.set_cons_succ]
    rw [ih]
    rfl
def stL (l : List De) : List Int := 0 :: l.map fun d => (d.1 : Int)
def reL (l : List De) : List (Int × Nat) := (0, 0) :: l.map fun d => d.2
theorem ints_stayR {w w' : World} {a : Option Addr} {l : List Int} (h : IntsIn w a l) (hs : w.heap.size ≤ w'.heap.size) (hb : ∀ x, a = some x → w'.heap[x.block]? = w.heap[x.block]?) : IntsIn w' a l := by
  rcases h with h | ⟨g, off, ha, hg, hc⟩
  · exact .inl h
  · exact .inr ⟨g, off, ha, Nat.lt_of_lt_of_le hg hs, fun j z hz => (World.cell?_of_block (a := ⟨g, off + j, none⟩) (show w'.heap[g]? = w.heap[g]? from hb _ ha)).trans (hc j z hz)⟩
/-- The document's ledger at block g: its stamps at gs, its results at gr. -/
structure LrA (w : World) (g gs gr : Nat) (am an ai : Option Addr) (cm cn ci : Nat) (s : Ls) : Prop where
  blk : w.heap[g]? = some (.cells [.int .i64 (s.ep : Int), .slice am s.mem.length cm, .slice an s.nxt.length cn, .int .i64 (s.dn : Int), .slice ai s.its.length ci, .slice (some ⟨gs, 0, none⟩) 9 9, .slice (some ⟨gr, 0, none⟩) 9 9].toArray 61 (0, 0))
  im : IntsIn w am s.mem
  ix : IntsIn w an s.nxt
  it : KbIn w ai s.its
  st : w.heap[gs]? = some (.cells (iC (stL s.lst)).toArray 3 (0, 0))
  rs : w.heap[gr]? = some (.cells (rsC2 (reL s.lst)).toArray 50 (0, 0))
  ne : g ≠ gs ∧ g ≠ gr ∧ gs ≠ gr
  ma : ∀ x, am = some x → (x.block ≠ g ∧ x.block ≠ gs ∧ x.block ≠ gr) ∧ x.block < w.heap.size
  na : ∀ x, an = some x → (x.block ≠ g ∧ x.block ≠ gs ∧ x.block ≠ gr) ∧ x.block < w.heap.size
  ia : ∀ x, ai = some x → (x.block ≠ g ∧ x.block ≠ gs ∧ x.block ≠ gr) ∧ x.block < w.heap.size
  len : s.lst.length = 8
def blkR (a : Option Addr) : List Nat := match a with | some x => [x.block] | none => []
def fpR (g gs gr : Nat) (am an ai : Option Addr) : List Nat := g :: gs :: gr :: (blkR am ++ (blkR an ++ blkR ai))
theorem mem_blkR {a : Option Addr} {b : Nat} : b ∈ blkR a ↔ ∃ x, a = some x ∧ b = x.block := by
  cases a with
  | none => simp [blkR]
  | some x => simp [blkR]
theorem mem_fpR {g gs gr : Nat} {am an ai : Option Addr} {b : Nat} : b ∈ fpR g gs gr am an ai ↔ b = g ∨ b = gs ∨ b = gr ∨ (∃ x, am = some x ∧ b = x.block) ∨ (∃ x, an = some x ∧ b = x.block) ∨ (∃ x, ai = some x ∧ b = x.block) := by
  rw [fpR, List.mem_cons, List.mem_cons, List.mem_cons, List.mem_append, List.mem_append, mem_blkR, mem_blkR, mem_blkR]
def LmAt (F : List Nat) (w : World) (v : Value) (s : Ls) : Prop := ∃ g gs gr am an ai cm cn ci, v = .pointer (some ⟨g, 0, none⟩) ∧ F = fpR g gs gr am an ai ∧ LrA w g gs gr am an ai cm cn ci s
theorem LrA.stay {w w' : World} {g gs gr : Nat} {am an ai : Option Addr} {cm cn ci : Nat} {s : Ls} (h : LrA w g gs gr am an ai cm cn ci s) (hs : w.heap.size ≤ w'.heap.size) (hb : ∀ b, b ∈ fpR g gs gr am an ai → w'.heap[b]? = w.heap[b]?) : LrA w' g gs gr am an ai cm cn ci s :=
  ⟨(hb g (mem_fpR.2 (.inl rfl))).trans h.blk, ints_stayR h.im hs (fun x hx => hb _ (mem_fpR.2 (.inr (.inr (.inr (.inl ⟨x, hx, rfl⟩)))))), ints_stayR h.ix hs (fun x hx => hb _ (mem_fpR.2 (.inr (.inr (.inr (.inr (.inl ⟨x, hx, rfl⟩))))))), h.it.stay hs (fun x hx => hb _ (mem_fpR.2 (.inr (.inr (.inr (.inr (.inr ⟨x, hx, rfl⟩))))))),
   (hb gs (mem_fpR.2 (.inr (.inl rfl)))).trans h.st, (hb gr (mem_fpR.2 (.inr (.inr (.inl rfl))))).trans h.rs, h.ne, fun x hx => ⟨(h.ma x hx).1, Nat.lt_of_lt_of_le (h.ma x hx).2 hs⟩, fun x hx => ⟨(h.na x hx).1, Nat.lt_of_lt_of_le (h.na x hx).2 hs⟩, fun x hx => ⟨(h.ia x hx).1, Nat.lt_of_lt_of_le (h.ia x hx).2 hs⟩, h.len⟩
theorem LrA.lt {w : World} {g gs gr : Nat} {am an ai : Option Addr} {cm cn ci : Nat} {s : Ls} (h : LrA w g gs gr am an ai cm cn ci s) : ∀ b, b ∈ fpR g gs gr am an ai → b < w.heap.size := fun b hb => by
  rcases mem_fpR.1 hb with rfl | rfl | rfl | ⟨x, hx, rfl⟩ | ⟨x, hx, rfl⟩ | ⟨x, hx, rfl⟩
  · exact lt_of_blk h.blk
  · exact lt_of_blk h.st
  · exact lt_of_blk h.rs
  · exact (h.ma x hx).2
  · exact (h.na x hx).2
  · exact (h.ia x hx).2
theorem LrA.keep {w w' : World} {g gs gr : Nat} {am an ai : Option Addr} {cm cn ci : Nat} {s : Ls} (h : LrA w g gs gr am an ai cm cn ci s) (hb : Below w.heap.size w w') : LrA w' g gs gr am an ai cm cn ci s := h.stay hb.size (fun b hF => hb.block b (h.lt b hF))
theorem LmAt.lt {F : List Nat} {w : World} {v : Value} {s : Ls} (h : LmAt F w v s) : ∀ b, b ∈ F → b < w.heap.size := by
  obtain ⟨g, gs, gr, am, an, ai, cm, cn, ci, _, rfl, h⟩ := h
  exact h.lt
theorem LmAt.stay {F : List Nat} {w w' : World} {v : Value} {s : Ls} (h : LmAt F w v s) (hs : w.heap.size ≤ w'.heap.size) (hb : ∀ b, b ∈ F → w'.heap[b]? = w.heap[b]?) : LmAt F w' v s := by
  obtain ⟨g, gs, gr, am, an, ai, cm, cn, ci, hv, rfl, h⟩ := h
  exact ⟨g, gs, gr, am, an, ai, cm, cn, ci, hv, rfl, h.stay hs hb⟩
theorem LmAt.keep {F : List Nat} {w w' : World} {v : Value} {s : Ls} (h : LmAt F w v s) (hb : Below w.heap.size w w') : LmAt F w' v s := h.stay hb.size (fun b hF => hb.block b (h.lt b hF))
theorem LmAt.out {F G : List Nat} {w w' : World} {v : Value} {s : Ls} (h : LmAt F w v s) (ho : Out G w w') (hF : ∀ b, b ∈ F → b ∉ G) : LmAt F w' v s := h.stay ho.size (fun k hk => ho.block k (h.lt k hk) (hF k hk))
theorem LmAt.ptr {F : List Nat} {w : World} {v : Value} {s : Ls} (h : LmAt F w v s) : ∃ g, v = .pointer (some ⟨g, 0, none⟩) := by
  obtain ⟨g, gs, gr, am, an, ai, cm, cn, ci, hv, _, _⟩ := h
  exact ⟨g, hv⟩
theorem LrA.at {w : World} {g gs gr : Nat} {am an ai : Option Addr} {cm cn ci : Nat} {s : Ls} (h : LrA w g gs gr am an ai cm cn ci s) : LmAt (fpR g gs gr am an ai) w (.pointer (some ⟨g, 0, none⟩)) s := ⟨g, gs, gr, am, an, ai, cm, cn, ci, rfl, rfl, h⟩
def LmTo (F : List Nat) (w w' : World) (v : Value) (s : Ls) : Prop := ∃ F', LmAt F' w' v s ∧ (∀ b, b ∈ F' → b ∈ F ∨ w.heap.size ≤ b) ∧ Out F w w'
section
variable {w : World} {g gs gr : Nat} {am an ai : Option Addr} {cm cn ci : Nat} {s : Ls}
theorem LrA.c0 (h : LrA w g gs gr am an ai cm cn ci s) : w.cell? ⟨g, 0, none⟩ = some (.int .i64 (s.ep : Int)) := cell_at h.blk 0 _ rfl
theorem LrA.c1 (h : LrA w g gs gr am an ai cm cn ci s) : w.cell? ⟨g, 1, none⟩ = some (.slice am s.mem.length cm) := cell_at h.blk 1 _ rfl
theorem LrA.c2 (h : LrA w g gs gr am an ai cm cn ci s) : w.cell? ⟨g, 2, none⟩ = some (.slice an s.nxt.length cn) := cell_at h.blk 2 _ rfl
theorem LrA.c3 (h : LrA w g gs gr am an ai cm cn ci s) : w.cell? ⟨g, 3, none⟩ = some (.int .i64 (s.dn : Int)) := cell_at h.blk 3 _ rfl
theorem LrA.c4 (h : LrA w g gs gr am an ai cm cn ci s) : w.cell? ⟨g, 4, none⟩ = some (.slice ai s.its.length ci) := cell_at h.blk 4 _ rfl
theorem LrA.c5 (h : LrA w g gs gr am an ai cm cn ci s) : w.cell? ⟨g, 5, none⟩ = some (.slice (some ⟨gs, 0, none⟩) 9 9) := cell_at h.blk 5 _ rfl
theorem LrA.c6 (h : LrA w g gs gr am an ai cm cn ci s) : w.cell? ⟨g, 6, none⟩ = some (.slice (some ⟨gr, 0, none⟩) 9 9) := cell_at h.blk 6 _ rfl
theorem stL_at {l : List De} {c : Nat} {d : De} (h : l[c]? = some d) : (stL l)[c + 1]? = some (d.1 : Int) := by rw [stL, List.getElem?_cons_succ, List.getElem?_map, h]; rfl
theorem reL_at {l : List De} {c : Nat} {d : De} (h : l[c]? = some d) : (reL l)[c + 1]? = some d.2 := by rw [reL, List.getElem?_cons_succ, List.getElem?_map, h]; rfl
theorem at_get {s : Ls} (hl : s.lst.length = 8) {c : Nat} (hc : c < 8) : s.lst[c]? = some (s.at c) := by
  rw [Ls.at, List.getD_eq_getElem?_getD, List.getElem?_eq_getElem (by omega)]
  rfl
theorem LrA.cs (h : LrA w g gs gr am an ai cm cn ci s) (c : Nat) (hc : c < 8) : w.cell? ⟨gs, c + 1, none⟩ = some (.int .i64 ((s.at c).1 : Int)) := cell_at h.st _ _ (iC_get _ _ _ (stL_at (at_get h.len hc)))
theorem LrA.cr (h : LrA w g gs gr am an ai cm cn ci s) (c : Nat) (hc : c < 8) : w.cell? ⟨gr, (c + 1) * 2, none⟩ = some (.int .i64 (s.at c).2.1) ∧ w.cell? ⟨gr, (c + 1) * 2 + 1, none⟩ = some (.float .f64 (s.at c).2.2) := by
  obtain ⟨k1, k2⟩ := rsC2_at _ _ _ (reL_at (at_get h.len hc))
  exact ⟨cell_at h.rs _ _ k1, cell_at h.rs _ _ k2⟩
theorem fpR_g : g ∈ fpR g gs gr am an ai ∧ gs ∈ fpR g gs gr am an ai ∧ gr ∈ fpR g gs gr am an ai := ⟨mem_fpR.2 (.inl rfl), mem_fpR.2 (.inr (.inl rfl)), mem_fpR.2 (.inr (.inr (.inl rfl)))⟩
end
end Go.Proofs.YtecidbdbdnnglaaGreat

/- The document's ledger: Full, at, put, cut. -/
namespace Go.Proofs.YtecidbdbdnnglaaGreat
open Go.RowKit

theorem LrA.setg {w w' : World} {g gs gr : Nat} {am an ai : Option Addr} {cm cn ci : Nat} {s : Ls} (h : LrA w g gs gr am an ai cm cn ci s) (ho : One g w w') {am' an' ai' : Option Addr} {cm' cn' ci' : Nat} {s' : Ls}
    (hb : w'.heap[g]? = some (.cells [.int .i64 (s'.ep : Int), .slice am' s'.mem.length cm', .slice an' s'.nxt.length cn', .int .i64 (s'.dn : Int), .slice ai' s'.its.length ci', .slice (some ⟨gs, 0, none⟩) 9 9, .slice (some ⟨gr, 0, none⟩) 9 9].toArray 61 (0, 0)))
    (him : IntsIn w am' s'.mem) (hix : IntsIn w an' s'.nxt) (hit : KbIn w ai' s'.its) (hma : ∀ x, am' = some x → (x.block ≠ g ∧ x.block ≠ gs ∧ x.block ≠ gr) ∧ x.block < w.heap.size) (hna : ∀ x, an' = some x → (x.block ≠ g ∧ x.block ≠ gs ∧ x.block ≠ gr) ∧ x.block < w.heap.size) (hia : ∀ x, ai' = some x → (x.block ≠ g ∧ x.block ≠ gs ∧ x.block ≠ gr) ∧ x.block < w.heap.size) (hl : s'.lst = s.lst) : LrA w' g gs gr am' an' ai' cm' cn' ci' s' :=
  ⟨hb, ints_stayR him (Nat.le_of_eq ho.size.symm) (fun x hx => ho.block _ (hma x hx).1.1), ints_stayR hix (Nat.le_of_eq ho.size.symm) (fun x hx => ho.block _ (hna x hx).1.1), hit.stay (Nat.le_of_eq ho.size.symm) (fun x hx => ho.block _ (hia x hx).1.1),
   by rw [hl]; exact (ho.block gs h.ne.1.symm).trans h.st, by rw [hl]; exact (ho.block gr h.ne.2.1.symm).trans h.rs, h.ne, fun x hx => ⟨(hma x hx).1, by rw [ho.size]; exact (hma x hx).2⟩, fun x hx => ⟨(hna x hx).1, by rw [ho.size]; exact (hna x hx).2⟩, fun x hx => ⟨(hia x hx).1, by rw [ho.size]; exact (hia x hx).2⟩, by rw [hl]; exact h.len⟩
theorem LrA.fr {w : World} {g gs gr : Nat} {am an ai : Option Addr} {cm cn ci : Nat} {s : Ls} (h : LrA w g gs gr am an ai cm cn ci s) (j : Nat) : w.frozen? ⟨g, j, none⟩ = false := free_at h.blk j
theorem one_cellR (w : World) (g o : Nat) (v : Value) : One g w (w.setCell ⟨g, o, none⟩ v) := one_cells g [v] o w
theorem far_newR {w : World} {g gs gr : Nat} {am an ai : Option Addr} {cm cn ci : Nat} {s : Ls} (h : LrA w g gs gr am an ai cm cn ci s) {x : Addr} (hx : w.heap.size ≤ x.block) : x.block ≠ g ∧ x.block ≠ gs ∧ x.block ≠ gr :=
  ⟨fun e => by have := h.lt g fpR_g.1; omega, fun e => by have := h.lt gs fpR_g.2.1; omega, fun e => by have := h.lt gr fpR_g.2.2; omega⟩
/-- Other keys lie there. -/
theorem LrA.items {w w1 : World} {g gs gr : Nat} {am an ai : Option Addr} {cm cn ci : Nat} {s : Ls} (h : LrA w g gs gr am an ai cm cn ci s) (hb : Below w.heap.size w w1) {ad : Option Addr} {L : List Kb} (cap : Nat) (hk : KbIn w1 ad L) (hfar : ∀ x, ad = some x → w.heap.size ≤ x.block ∧ x.block < w1.heap.size) :
    LrA (w1.setCell ⟨g, 4, none⟩ (.slice ad L.length cap)) g gs gr am an ad cm cn cap { s with its := L } := by
  have h1 := h.keep hb
  exact h1.setg (one_cellR w1 g 4 _) ((blk_set h1.blk 4 _).trans (by simp)) h1.im h1.ix hk h1.ma h1.na (fun x hx => ⟨far_newR h (hfar x hx).1, (hfar x hx).2⟩) rfl
theorem one_outR {g : Nat} {w0 w w' : World} {F : List Nat} (h : One g w w') (ho : Out F w0 w) (hg : g ∈ F ∨ w0.heap.size ≤ g) : Out F w0 w' := ⟨h.os.trans ho.os, h.tape.trans ho.tape, h.output.trans ho.output, Nat.le_trans ho.size (Nat.le_of_eq h.size.symm), fun k hk hF => (h.block k (fun e => by
  rcases hg with hg | hg
  · exact hF (e ▸ hg)
  · omega)).trans (ho.block k hk hF)⟩
set_option maxRecDepth 100000 in
set_option maxHeartbeats 1600000 in
theorem wfull_any {w : World} {g gs gr : Nat} {am an ai : Option Addr} {cm cn ci : Nat} {s : Ls} (h : LrA w g gs gr am an ai cm cn ci s) (he : s.ep ≤ 1000) :
    Calls Tryz.prog 30 #[.pointer (some ⟨g, 0, none⟩)] w fun e w' => e = .returned (.bool (fullS s)) ∧ Below w.heap.size w w' := by
  have H := hid h
  have he2 : ((s.dn : Int) == 4 * ((s.ep : Int) + 1)) = fullS s := by
    unfold fullS
    by_cases e : s.dn = 4 * (s.ep + 1)
    · rw [decide_eq_true e]; simp; omega
    · rw [decide_eq_false e]; simp; omega
  have H2 := hid he2
  have h2 : IntKind.i64.wrap ((s.ep : Int) + 1) = (s.ep : Int) + 1 := by simp [IntKind.wrap, IntKind.bits, IntKind.signed]; omega
  have h3 : IntKind.i64.wrap (4 * ((s.ep : Int) + 1)) = 4 * ((s.ep : Int) + 1) := by simp [IntKind.wrap, IntKind.bits, IntKind.signed]; omega
  clear h he2 he
  go_enter Tryz.func30, Tryz.ntmps30
  go_wp2
  haveI := Cls.ne w
  have q3 : ∀ u : Cls w, u.1.cell? ⟨g, 3, none⟩ = some (.int .i64 (s.dn : Int)) := fun u => (H.out.keep u.2).c3
  have q0 : ∀ u : Cls w, u.1.cell? ⟨g, 0, none⟩ = some (.int .i64 (s.ep : Int)) := fun u => (H.out.keep u.2).c0
  refine wp_region_cls w (by kernel_rfl) (by kernel_rfl) ?_
  repeat (go_big_quiet_step (fail))
  rintro w1 ⟨u, hu⟩
  have hw : Below w.heap.size w w1 := by first | exact hu ▸ u.2 | (rw [hu]; exact u.2) | (rw [← hu]; exact u.2)
  clear q3 q0 hu u
  go_wp2
  go_ret
  refine ⟨?_, hw⟩
  first | exact ret_bool H2.out | (rw [← H2.out]; rfl) | (rw [← H2.out]; simp [h2, h3])
theorem pos_first {k : ByteArray} : ∀ {L : List Kb} {j : Nat} {y : Kb}, (∀ i z, i < j → L[i]? = some z → z.1 ≠ k) → L[j]? = some y → y.1 = k → posK k L = j ∧ getK k L = some y.2
  | [], _, _, _, h, _ => by simp at h
  | x :: r, 0, y, _, h, hy => by
    obtain rfl : x = y := by simpa using h
    rw [posK, getK, if_pos hy, if_pos hy]
    exact ⟨rfl, rfl⟩
  | x :: r, j + 1, y, hn, h, hy => by
    have hx := hn 0 x (by omega) rfl
    obtain ⟨h1, h2⟩ := pos_first (L := r) (j := j) (fun i z hi hz => hn (i + 1) z (by omega) (by simpa using hz)) (by simpa using h) hy
    rw [posK, getK, if_neg hx, if_neg hx, h1]
    exact ⟨rfl, h2⟩
theorem none_all {k : ByteArray} {L : List Kb} (h : ∀ i z, i < L.length → L[i]? = some z → z.1 ≠ k) : getK k L = none := get_none.2 (fun y hy => by
  obtain ⟨i, hi, rfl⟩ := List.getElem_of_mem hy
  exact h i _ hi (List.getElem?_eq_getElem hi))
theorem getK_atR {L : List Kb} {i : Nat} (h : i < L.length) : L[i]? = some (L.getD i (kEm, 0)) := by simp [h]
theorem key_eq (x y : ByteArray) : (x.toList == y.toList) = decide (x = y) := by
  rw [ByteArray.toList_eq, ByteArray.toList_eq]
  by_cases h : x = y
  · subst h; simp
  · rw [decide_eq_false h]
    simp only [beq_eq_false_iff_ne]
    exact fun e => h (key_ext e)
set_option maxRecDepth 100000 in
set_option maxHeartbeats 3200000 in
theorem wat_any {w : World} {g gs gr : Nat} {am an ai : Option Addr} {cm cn ci : Nat} {s : Ls} (h : LrA w g gs gr am an ai cm cn ci s) (hf : s.its.length ≤ 1000) (k : ByteArray) :
    Calls Tryz.prog 107 #[.pointer (some ⟨g, 0, none⟩), .string k] w fun e w' => e = .returned (.int .i64 (posZ k s.its)) ∧ w' = w := by
  have c4 := h.c4
  have H := hid h
  obtain ⟨n, en⟩ : ∃ n, n = s.its.length := ⟨_, rfl⟩
  rw [← en] at c4 hf
  have HN := hid en
  have hn2 : (n : Int) ≤ 1000 := by omega
  obtain ⟨Z, eZ⟩ : ∃ Z, Z = posZ k s.its := ⟨_, rfl⟩
  rw [← eZ]
  have HZ := hid eZ
  clear h en eZ
  go_enter Tryz.func107, Tryz.ntmps107
  go_wp2
  go_loopw [5] (fun i wr => ∃ j : Nat, j ≤ n ∧ i = .int .i64 (j : Int) ∧ wr = w ∧ ∀ i z, i < j → s.its[i]? = some z → z.1 ≠ k)
    (fun i _ => ((n : Int) - intOf i).toNat)
  case atStart => exact ⟨0, by omega, rfl, rfl, fun i z hi _ => by omega⟩
  case round =>
    obtain ⟨j, hj, rfl, hw, hup⟩ := hrel
    subst hw
    have hj0 : (0 : Int) ≤ (j : Int) := Int.natCast_nonneg _
    have HU := hid hup
    clear hup
    by_cases hjn : j = n
    · have hj1 : ¬ ((j : Int) < (n : Int)) := by omega
      obtain rfl : Z = -1 := (by rw [HZ.out, posZ, if_pos (none_all (fun i z hi hz => HU.out i z (by have := HN.out; omega) hz))])
      clear hj hjn HZ
      go_wp2
      go_ret
      exact ⟨rfl, rfl⟩
    · have hj1 : (j : Int) < (n : Int) := by omega
      have hjl : j < s.its.length := by have := HN.out; omega
      obtain ⟨ga, off, rfl, hc1, hc2⟩ := H.out.it.at j _ (getK_atR hjl)
      have hke := key_eq (s.its.getD j (kEm, 0)).1 k
      by_cases hk : (s.its.getD j (kEm, 0)).1 = k
      · obtain rfl : Z = (j : Int) := (by
          obtain ⟨p1, p2⟩ := pos_first HU.out (getK_atR hjl) hk
          rw [HZ.out, posZ, if_neg (by rw [p2]; simp), p1])
        rw [decide_eq_true hk] at hke
        generalize s.its.getD j (kEm, 0) = y at hc1 hc2 hke
        clear hj hjn hjl hk HZ
        go_wp2
        go_ret
        exact ⟨rfl, rfl⟩
      · have HU2 : Hid (∀ i z, i < j + 1 → s.its[i]? = some z → z.1 ≠ k) := hid (fun i z hi hz => by
          by_cases e : i = j
          · rw [e, getK_atR hjl] at hz
            obtain rfl := Option.some.inj hz
            exact hk
          · exact HU.out i z (by omega) hz)
        have HJ := hid (And.intro hj hjn)
        rw [decide_eq_false hk] at hke
        generalize s.its.getD j (kEm, 0) = y at hc1 hc2 hke
        clear hj hjn hjl hk
        go_wp2
        go_roundw
        case rel => exact ⟨j + 1, by have := HJ.out; omega, by go_num, by trivial, HU2.out⟩
        case measure => simp [intOf]; omega
theorem kb_new2 (w : World) (A : Obj) (k : ByteArray) (b : Nat) (T : TypeId) : ∀ j u, ([.string k, .int .u64 (b : Int)] : List Value)[j]? = some u → ((w.alloc A).alloc (.cells #[.string k, .int .u64 (b : Int)] T)).cell? ((⟨w.heap.size + 1, 0, none⟩ : Addr).add j) = some u := fun j u hj => by
  rw [Addr.add_lit, Nat.zero_add]
  exact cell_at (L := [.string k, .int .u64 (b : Int)]) (snd_alloc w A _) j u hj
theorem less_text (x k : ByteArray) : Op.bytesLess x.toList k.toList = ltK x k := by rw [bytesLess_eq, ByteArray.toList_eq, ByteArray.toList_eq]; rfl
theorem outB_len {k : ByteArray} {b : Nat} : ∀ (L : List Kb), (putK k b L).length ≤ L.length + 1
  | [] => Nat.le_refl _
  | x :: r => by
    rw [putK]
    split
    · have := outB_len (k := k) (b := b) r
      simp only [List.length_cons]
      omega
    · simp only [List.length_cons]
      have : (cutK k (x :: r)).length ≤ (x :: r).length := List.length_filter_le _ _
      simp only [List.length_cons] at this
      omega
theorem out_len (k : ByteArray) (b : Nat) (L : List Kb) : (outB k b L).length ≤ L.length + 1 := by
  unfold outB
  split
  · omega
  · exact outB_len L
theorem take_snocR {L : List Kb} {j : Nat} (hj : j < L.length) : L.take (j + 1) = L.take j ++ [L.getD j (kEm, 0)] := by rw [List.take_add_one, getK_atR hj]; rfl
set_option maxRecDepth 100000 in
set_option maxHeartbeats 12800000 in
theorem wput_any {w : World} {g gs gr : Nat} {am an ai : Option Addr} {cm cn ci : Nat} {s : Ls} (h : LrA w g gs gr am an ai cm cn ci s) (hf : s.its.length ≤ 1000) (k : ByteArray) (b : Nat) :
    Calls Tryz.prog 108 #[.pointer (some ⟨g, 0, none⟩), .string k, .int .u64 (b : Int)] w fun e w' => e = .returned (.tuple #[]) ∧ ∃ ai' ci', LrA w' g gs gr am an ai' cm cn ci' { s with its := putK k b s.its } ∧ Out (fpR g gs gr am an ai) w w' ∧ ∀ x, ai' = some x → w.heap.size ≤ x.block := by
  obtain ⟨i0, hi, hz0, hz1, hz2⟩ := info_parts Tryz.info79
  have H := hid h
  obtain ⟨n, en⟩ : ∃ n, n = s.its.length := ⟨_, rfl⟩
  have HC4 : Hid (∀ u : World, Below w.heap.size w u → u.cell? ⟨g, 4, none⟩ = some (.slice ai n ci)) := hid (fun u hu => by rw [en]; exact (h.keep hu).c4)
  rw [← en] at hf
  have HN := hid en
  have hn2 : (n : Int) ≤ 1000 := by omega
  have HF := hid hf
  clear h en
  go_enter Tryz.func108, Tryz.ntmps108
  go_wp2
  go_loopw [8, 6, 7] (fun i ou pl wr => ∃ j : Nat, j ≤ n ∧ i = .int .i64 (j : Int) ∧ pl = .bool (!allB k (s.its.take j)) ∧ OwnedK w.heap.size w wr ou (outB k b (s.its.take j)))
    (fun i _ _ _ => ((n : Int) - intOf i).toNat)
  case atStart => exact ⟨0, by omega, rfl, rfl, OwnedK.nil (Below.refl _ _) (Nat.le_refl _)⟩
  case round =>
    obtain ⟨j, hj, rfl, rfl, hO⟩ := hrel
    have hj0 : (0 : Int) ≤ (j : Int) := Int.natCast_nonneg _
    have HO := hid hO
    have c4 := HC4.out _ hO.bel
    clear hO
    by_cases hjn : j = n
    · have hj1 : ¬ ((j : Int) < (n : Int)) := by omega
      have hfull : s.its.take j = s.its := List.take_of_length_le (by have := HN.out; omega)
      rw [hfull] at HO ⊢
      have HEnd := hid (out_end k b s.its)
      have HLn : Hid ((outB k b s.its).length ≤ 1001) := hid (by have := out_len k b s.its; have := HF.out; have := HN.out; omega)
      cases ha : allB k s.its with
      | false =>
        rw [ha] at HEnd
        have HR : Hid (OwnedK w.heap.size w wr u6 (putK k b s.its)) := hid (by rw [← HEnd.out]; exact HO.out)
        obtain ⟨ad, cap, rfl, hkb, hfar⟩ := HR.out.slice
        have HI := hid (And.intro hkb hfar)
        have f4 := (H.out.keep HR.out.bel).fr 4
        clear hj hjn hfull HEnd ha hkb hfar
        rw [Bool.not_false]
        go_wp2
        go_end0
        have e1 := H.out.items HR.out.bel cap HI.out.1 HI.out.2
        have e2 : Out (fpR g gs gr am an ai) w _ := one_outR (one_cellR wr g 4 (.slice ad (putK k b s.its).length cap)) (Out.of_below HR.out.bel) (.inl fpR_g.1)
        have e3 : ∀ x, ad = some x → w.heap.size ≤ x.block := fun x hx => (HI.out.2 x hx).1
        first | exact ⟨rfl, ad, cap, e1, e2, e3⟩ | exact ⟨rfl, ad, ⟨cap, e1⟩, e2, e3⟩
      | true =>
        rw [ha] at HEnd
        clear hj hjn hfull ha
        rw [Bool.not_true]
        go_wp2_with ((at_builtin;  refine wpList_append_own _ rfl _ _ 58 rfl w.heap.size 79 i0 (.agg #[.string ⟨#[]⟩, .int .u64 0]) 2 24 Tryz.underlying58 hi hz0 hz1 hz2 rfl (by decide) _ _ _ rfl (HO.out.own.alloc _) ⟨wr.heap.size, 0, none⟩ 1 1 [.string k, .int .u64 (b : Int)] rfl rfl (kb_new _ _ _ _) (by simp [Value.oneCell']) (by have := HLn.out; unfold maxLen; omega) (by have := HLn.out; omega) (by have := HO.out.le; simp at this ⊢; omega) ?_; intro v2 w2 hown hgrow hnil; have HR0 : Hid (OwnedK w.heap.size w w2 v2 (outB k b s.its ++ [(k, b)])) := hid (kb_grow HO.out hown hgrow); clear hown hgrow hnil; have HR : Hid (OwnedK w.heap.size w w2 v2 (putK k b s.its)) := hid (by rw [← HEnd.out]; exact HR0.out); clear c4; obtain ⟨ad, cap, rfl, hkb, hfar⟩ := HR.out.slice; have HI := hid (And.intro hkb hfar); clear hkb hfar; have c4 := HC4.out _ HR.out.bel; have f4 := (H.out.keep HR.out.bel).fr 4))
        go_end0
        have e1 := H.out.items HR.out.bel cap HI.out.1 HI.out.2
        have e2 : Out (fpR g gs gr am an ai) w _ := one_outR (one_cellR w2 g 4 (.slice ad (putK k b s.its).length cap)) (Out.of_below HR.out.bel) (.inl fpR_g.1)
        have e3 : ∀ x, ad = some x → w.heap.size ≤ x.block := fun x hx => (HI.out.2 x hx).1
        first | exact ⟨rfl, ad, cap, e1, e2, e3⟩ | exact ⟨rfl, ad, ⟨cap, e1⟩, e2, e3⟩
    · have hj1 : (j : Int) < (n : Int) := by omega
      have hjl : j < s.its.length := by have := HN.out; omega
      obtain ⟨ga, off, rfl, hc1, hc2⟩ := (H.out.keep HO.out.bel).it.at j _ (getK_atR hjl)
      have hke := key_eq (s.its.getD j (kEm, 0)).1 k
      have hle := less_text (s.its.getD j (kEm, 0)).1 k
      have HT := hid (take_snocR hjl)
      have HA := hid (allB_snoc k (s.its.take j) (s.its.getD j (kEm, 0)))
      have HLn : Hid ((outB k b (s.its.take j)).length ≤ 1001) := hid (by have h1 := out_len k b (s.its.take j); have h2 := HF.out; rw [List.length_take] at h1; omega)
      have HJ := hid (And.intro hj hjn)
      have HC1 := hid (cut_one k (s.its.getD j (kEm, 0)))
      generalize s.its.getD j (kEm, 0) = y at hc1 hc2 hke hle HT HA HC1
      generalize s.its.take j = M at HO HT HA HLn
      clear hj hjn hjl
      obtain ⟨wx, ex⟩ : ∃ wx, wx = wr.alloc (.cells #[.string y.1, .int .u64 (y.2 : Int)] 79) := ⟨_, rfl⟩
      have HX : Hid (OwnedK w.heap.size w wx u6 (outB k b M)) := hid (by rw [ex]; exact HO.out.alloc _)
      have y0 : wx.cell? ⟨wr.heap.size, 0, none⟩ = some (.string y.1) := by rw [ex]; exact cell_at (L := [.string y.1, .int .u64 (y.2 : Int)]) (heap_alloc_last wr _) 0 _ rfl
      have y1 : wx.cell? ⟨wr.heap.size, 1, none⟩ = some (.int .u64 (y.2 : Int)) := by rw [ex]; exact cell_at (L := [.string y.1, .int .u64 (y.2 : Int)]) (heap_alloc_last wr _) 1 _ rfl
      have HEx := hid ex
      have HY := hid (And.intro y0 y1)
      rw [ex] at y0 y1
      cases hal : allB k M with
      | true =>
        cases hlt : ltK y.1 k with
        | true =>
          have hne : (y.1.toList == k.toList) = false := by rw [hke]; exact decide_eq_false (ltK_ne hlt)
          rw [hlt] at hle
          have HOu := hid (out_low (b := b) hal hlt).1
          rw [hal, hlt] at HA
          clear hke hal hlt ex
          rw [Bool.not_true]
          go_wp2_with ((at_builtin;  refine wpList_append_own _ rfl _ _ 58 rfl w.heap.size 79 i0 (.agg #[.string ⟨#[]⟩, .int .u64 0]) 2 24 Tryz.underlying58 hi hz0 hz1 hz2 rfl (by decide) _ _ _ rfl ((HO.out.alloc (.cells #[.string y.1, .int .u64 (y.2 : Int)] 79)).own.alloc _) ⟨wr.heap.size + 1, 0, none⟩ 1 1 [.string y.1, .int .u64 (y.2 : Int)] rfl rfl (kb_new2 _ _ _ _ _) (by simp [Value.oneCell']) (by have := HLn.out; unfold maxLen; omega) (by have := HLn.out; omega) (by have := (HO.out.alloc (.cells #[.string y.1, .int .u64 (y.2 : Int)] 79)).le; simp at this ⊢; omega) ?_; intro v3 w3 hown hgrow hnil; have H3 : Hid (OwnedK w.heap.size w w3 v3 (outB k b M ++ [(y.1, y.2)])) := hid (kb_grow (HO.out.alloc (.cells #[.string y.1, .int .u64 (y.2 : Int)] 79)) hown hgrow); clear hown hgrow hnil))
          go_roundw
          case rel => exact ⟨j + 1, by have := HJ.out; omega, by go_num, by rw [HT.out, HA.out]; rfl, by rw [HT.out, HOu.out]; exact H3.out⟩
          case measure => simp [intOf]; omega
        | false =>
          rw [hlt] at hle
          have HOu := hid (out_new (b := b) hal hlt)
          rw [hal, hlt] at HA
          by_cases hk : y.1 = k
          · rw [decide_eq_true hk] at hke
            rw [if_pos hk] at HC1
            clear hal hlt ex hk
            rw [Bool.not_true]
            go_wp2_with ((at_builtin;  refine wpList_append_own _ rfl _ _ 58 rfl w.heap.size 79 i0 (.agg #[.string ⟨#[]⟩, .int .u64 0]) 2 24 Tryz.underlying58 hi hz0 hz1 hz2 rfl (by decide) _ _ _ rfl ((HO.out.alloc (.cells #[.string y.1, .int .u64 (y.2 : Int)] 79)).own.alloc _) ⟨wr.heap.size + 1, 0, none⟩ 1 1 [.string k, .int .u64 (b : Int)] rfl rfl (kb_new2 _ _ _ _ _) (by simp [Value.oneCell']) (by have := HLn.out; unfold maxLen; omega) (by have := HLn.out; omega) (by have := (HO.out.alloc (.cells #[.string y.1, .int .u64 (y.2 : Int)] 79)).le; simp at this ⊢; omega) ?_; intro v3 w3 hown hgrow hnil; have H3 : Hid (OwnedK w.heap.size w w3 v3 (outB k b M ++ [(k, b)])) := hid (kb_grow (HO.out.alloc (.cells #[.string y.1, .int .u64 (y.2 : Int)] 79)) hown hgrow); have hxb : w3.heap[wr.heap.size]? = some (.cells #[.string y.1, .int .u64 (y.2 : Int)] 79 (0, 0)) := (hgrow.block _ (by simp <;> omega) (fun e => by have := (HO.out.own.lt _ e.symm).2; omega)).trans ((Below.heap_alloc _ _ _ (by simp <;> omega)).trans (heap_alloc_last wr _)); have z0 : w3.cell? ⟨wr.heap.size, 0, none⟩ = some (.string y.1) := cell_at (L := [.string y.1, .int .u64 (y.2 : Int)]) hxb 0 _ rfl; have z1 : w3.cell? ⟨wr.heap.size, 1, none⟩ = some (.int .u64 (y.2 : Int)) := cell_at (L := [.string y.1, .int .u64 (y.2 : Int)]) hxb 1 _ rfl; clear hown hgrow hnil hxb))
            go_roundw
            case rel => exact ⟨j + 1, by have := HJ.out; omega, by go_num, by rw [HT.out, HA.out]; rfl, by rw [HT.out, HOu.out, HC1.out, List.append_nil]; exact H3.out⟩
            case measure => simp [intOf]; omega
          · rw [decide_eq_false hk] at hke
            rw [if_neg hk] at HC1
            clear hal hlt ex hk
            rw [Bool.not_true]
            go_wp2_with (first
              | (at_builtin; have := H3; refine wpList_append_own _ rfl _ _ 58 rfl w.heap.size 79 i0 (.agg #[.string ⟨#[]⟩, .int .u64 0]) 2 24 Tryz.underlying58 hi hz0 hz1 hz2 rfl (by decide) _ _ _ rfl (H3.out.own.alloc _) ⟨w3.heap.size, 0, none⟩ 1 1 [.string y.1, .int .u64 (y.2 : Int)] rfl rfl (kb_new _ _ _ _) (by simp [Value.oneCell']) (by have := HLn.out; simp only [List.length_append, List.length_cons, List.length_nil]; unfold maxLen; omega) (by have := HLn.out; simp only [List.length_append, List.length_cons, List.length_nil]; omega) (by have := H3.out.le; simp at this ⊢; omega) ?_; intro v4 w4 hown hgrow hnil; have H4 : Hid (OwnedK w.heap.size w w4 v4 (outB k b M ++ [(k, b)] ++ [(y.1, y.2)])) := hid (kb_grow H3.out hown hgrow); clear hown hgrow hnil)
              | (at_builtin;  refine wpList_append_own _ rfl _ _ 58 rfl w.heap.size 79 i0 (.agg #[.string ⟨#[]⟩, .int .u64 0]) 2 24 Tryz.underlying58 hi hz0 hz1 hz2 rfl (by decide) _ _ _ rfl ((HO.out.alloc (.cells #[.string y.1, .int .u64 (y.2 : Int)] 79)).own.alloc _) ⟨wr.heap.size + 1, 0, none⟩ 1 1 [.string k, .int .u64 (b : Int)] rfl rfl (kb_new2 _ _ _ _ _) (by simp [Value.oneCell']) (by have := HLn.out; unfold maxLen; omega) (by have := HLn.out; omega) (by have := (HO.out.alloc (.cells #[.string y.1, .int .u64 (y.2 : Int)] 79)).le; simp at this ⊢; omega) ?_; intro v3 w3 hown hgrow hnil; have H3 : Hid (OwnedK w.heap.size w w3 v3 (outB k b M ++ [(k, b)])) := hid (kb_grow (HO.out.alloc (.cells #[.string y.1, .int .u64 (y.2 : Int)] 79)) hown hgrow); have hxb : w3.heap[wr.heap.size]? = some (.cells #[.string y.1, .int .u64 (y.2 : Int)] 79 (0, 0)) := (hgrow.block _ (by simp <;> omega) (fun e => by have := (HO.out.own.lt _ e.symm).2; omega)).trans ((Below.heap_alloc _ _ _ (by simp <;> omega)).trans (heap_alloc_last wr _)); have z0 : w3.cell? ⟨wr.heap.size, 0, none⟩ = some (.string y.1) := cell_at (L := [.string y.1, .int .u64 (y.2 : Int)]) hxb 0 _ rfl; have z1 : w3.cell? ⟨wr.heap.size, 1, none⟩ = some (.int .u64 (y.2 : Int)) := cell_at (L := [.string y.1, .int .u64 (y.2 : Int)]) hxb 1 _ rfl; clear hown hgrow hnil hxb))
            go_roundw
            case rel => exact ⟨j + 1, by have := HJ.out; omega, by go_num, by rw [HT.out, HA.out]; rfl, by rw [HT.out, HOu.out, HC1.out]; exact H4.out⟩
            case measure => simp [intOf]; omega
      | false =>
        have HOu := hid (out_more (k := k) (b := b) (x := y) hal)
        rw [hal] at HA
        by_cases hk : y.1 = k
        · rw [decide_eq_true hk] at hke
          rw [if_pos hk] at HC1
          clear hal ex hk
          rw [Bool.not_false]
          go_wp2
          go_roundw
          case rel => exact ⟨j + 1, by have := HJ.out; omega, by go_num, by rw [HT.out, HA.out]; rfl, by rw [HT.out, HOu.out, HC1.out, List.append_nil]; have := HX.out; rw [HEx.out] at this; exact this⟩
          case measure => simp [intOf]; omega
        · rw [decide_eq_false hk] at hke
          rw [if_neg hk] at HC1
          clear hal ex hk
          rw [Bool.not_false]
          go_wp2_with ((at_builtin;  refine wpList_append_own _ rfl _ _ 58 rfl w.heap.size 79 i0 (.agg #[.string ⟨#[]⟩, .int .u64 0]) 2 24 Tryz.underlying58 hi hz0 hz1 hz2 rfl (by decide) _ _ _ rfl ((HO.out.alloc (.cells #[.string y.1, .int .u64 (y.2 : Int)] 79)).own.alloc _) ⟨wr.heap.size + 1, 0, none⟩ 1 1 [.string y.1, .int .u64 (y.2 : Int)] rfl rfl (kb_new2 _ _ _ _ _) (by simp [Value.oneCell']) (by have := HLn.out; unfold maxLen; omega) (by have := HLn.out; omega) (by have := (HO.out.alloc (.cells #[.string y.1, .int .u64 (y.2 : Int)] 79)).le; simp at this ⊢; omega) ?_; intro v3 w3 hown hgrow hnil; have H3 : Hid (OwnedK w.heap.size w w3 v3 (outB k b M ++ [(y.1, y.2)])) := hid (kb_grow (HO.out.alloc (.cells #[.string y.1, .int .u64 (y.2 : Int)] 79)) hown hgrow); clear hown hgrow hnil))
          go_roundw
          case rel => exact ⟨j + 1, by have := HJ.out; omega, by go_num, by rw [HT.out, HA.out]; rfl, by rw [HT.out, HOu.out, HC1.out]; exact H3.out⟩
          case measure => simp [intOf]; omega
end Go.Proofs.YtecidbdbdnnglaaGreat

/- The document's ledger: cut, told. -/
namespace Go.Proofs.YtecidbdbdnnglaaGreat
open Go.RowKit

set_option maxRecDepth 100000 in
set_option maxHeartbeats 12800000 in
theorem wcut_any {w : World} {g gs gr : Nat} {am an ai : Option Addr} {cm cn ci : Nat} {s : Ls} (h : LrA w g gs gr am an ai cm cn ci s) (hf : s.its.length ≤ 1000) (k : ByteArray) :
    Calls Tryz.prog 112 #[.pointer (some ⟨g, 0, none⟩), .string k] w fun e w' => e = .returned (.tuple #[]) ∧ ∃ ai' ci', LrA w' g gs gr am an ai' cm cn ci' { s with its := cutK k s.its } ∧ Out (fpR g gs gr am an ai) w w' ∧ ∀ x, ai' = some x → w.heap.size ≤ x.block := by
  obtain ⟨i0, hi, hz0, hz1, hz2⟩ := info_parts Tryz.info79
  have H := hid h
  obtain ⟨n, en⟩ : ∃ n, n = s.its.length := ⟨_, rfl⟩
  have HC4 : Hid (∀ u : World, Below w.heap.size w u → u.cell? ⟨g, 4, none⟩ = some (.slice ai n ci)) := hid (fun u hu => by rw [en]; exact (h.keep hu).c4)
  rw [← en] at hf
  have HN := hid en
  have hn2 : (n : Int) ≤ 1000 := by omega
  have HF := hid hf
  clear h en
  go_enter Tryz.func112, Tryz.ntmps112
  go_wp2
  go_loopw [5, 4] (fun i ou wr => ∃ j : Nat, j ≤ n ∧ i = .int .i64 (j : Int) ∧ OwnedK w.heap.size w wr ou (cutK k (s.its.take j)))
    (fun i _ _ => ((n : Int) - intOf i).toNat)
  case atStart => exact ⟨0, by omega, rfl, OwnedK.nil (Below.refl _ _) (Nat.le_refl _)⟩
  case round =>
    obtain ⟨j, hj, rfl, hO⟩ := hrel
    have hj0 : (0 : Int) ≤ (j : Int) := Int.natCast_nonneg _
    have HO := hid hO
    have c4 := HC4.out _ hO.bel
    clear hO
    by_cases hjn : j = n
    · have hj1 : ¬ ((j : Int) < (n : Int)) := by omega
      have hfull : s.its.take j = s.its := List.take_of_length_le (by have := HN.out; omega)
      rw [hfull] at HO
      obtain ⟨ad, cap, rfl, hkb, hfar⟩ := HO.out.slice
      have HI := hid (And.intro hkb hfar)
      have f4 := (H.out.keep HO.out.bel).fr 4
      clear hj hjn hfull hkb hfar
      go_wp2
      go_end0
      have e1 := H.out.items HO.out.bel cap HI.out.1 HI.out.2
      have e2 : Out (fpR g gs gr am an ai) w _ := one_outR (one_cellR wr g 4 (.slice ad (cutK k s.its).length cap)) (Out.of_below HO.out.bel) (.inl fpR_g.1)
      have e3 : ∀ x, ad = some x → w.heap.size ≤ x.block := fun x hx => (HI.out.2 x hx).1
      first | exact ⟨rfl, ad, cap, e1, e2, e3⟩ | exact ⟨rfl, ad, ⟨cap, e1⟩, e2, e3⟩
    · have hj1 : (j : Int) < (n : Int) := by omega
      have hjl : j < s.its.length := by have := HN.out; omega
      obtain ⟨ga, off, rfl, hc1, hc2⟩ := (H.out.keep HO.out.bel).it.at j _ (getK_atR hjl)
      have hke := key_eq (s.its.getD j (kEm, 0)).1 k
      have HT := hid (take_snocR hjl)
      have HLn : Hid ((cutK k (s.its.take j)).length ≤ 1001) := hid (by have h1 : (cutK k (s.its.take j)).length ≤ (s.its.take j).length := List.length_filter_le _ _; have h2 := HF.out; rw [List.length_take] at h1; omega)
      have HJ := hid (And.intro hj hjn)
      have HC1 := hid (cut_one k (s.its.getD j (kEm, 0)))
      have HC2 := hid (cut_snoc k (s.its.take j) (s.its.getD j (kEm, 0)))
      generalize s.its.getD j (kEm, 0) = y at hc1 hc2 hke HT HC1 HC2
      generalize s.its.take j = M at HO HT HLn HC2
      by_cases hk : y.1 = k
      · rw [decide_eq_true hk] at hke
        rw [if_pos hk] at HC1
        clear hj hjn hjl hk
        go_wp2
        go_roundw
        case rel => exact ⟨j + 1, by have := HJ.out; omega, by go_num, by rw [HT.out, HC2.out, HC1.out, List.append_nil]; exact HO.out⟩
        case measure => simp [intOf]; omega
      · rw [decide_eq_false hk] at hke
        rw [if_neg hk] at HC1
        clear hj hjn hjl hk
        go_wp2_with ((at_builtin;  refine wpList_append_own _ rfl _ _ 58 rfl w.heap.size 79 i0 (.agg #[.string ⟨#[]⟩, .int .u64 0]) 2 24 Tryz.underlying58 hi hz0 hz1 hz2 rfl (by decide) _ _ _ rfl (HO.out.own.alloc _) ⟨wr.heap.size, 0, none⟩ 1 1 [.string y.1, .int .u64 (y.2 : Int)] rfl rfl (kb_new _ _ _ _) (by simp [Value.oneCell']) (by have := HLn.out; unfold maxLen; omega) (by have := HLn.out; omega) (by have := HO.out.le; simp at this ⊢; omega) ?_; intro v3 w3 hown hgrow hnil; have H3 : Hid (OwnedK w.heap.size w w3 v3 (cutK k M ++ [(y.1, y.2)])) := hid (kb_grow HO.out hown hgrow); clear hown hgrow hnil))
        go_roundw
        case rel => exact ⟨j + 1, by have := HJ.out; omega, by go_num, by rw [HT.out, HC2.out, HC1.out]; exact H3.out⟩
        case measure => simp [intOf]; omega
section
variable {o : Oper} {a : Act} {w : World} {K : Act → World → Prop} {Q : Exit → Act → World → Prop}
theorem owp_store_rsR (p x : Operand) (ho : o.op = .store 50 p x) (b : Nat) (hp : a.eval p = .pointer (some ⟨b, 0, none⟩)) (c0 c : Int) (f0 f : Nat) (hx : a.eval x = .agg #[.int .i64 c, .float .f64 f]) (hR : RsAt w b c0 f0)
    (h : ∀ w', Hid (RsAt w' b c f ∧ One b w w') → K (a.put o.dst undef) w') : o.wp Tryz.prog a w K Q :=
  wp_store_mid (P := Tryz.prog) 50 p x ho b 0 #[.int .i64 c, .float .f64 f] hp hx (rs_there hR) (by kernel_rfl) (by simp [Value.oneCell']) (h _ ⟨rs_all hR, one_cells b _ 0 w⟩)
end
set_option maxRecDepth 100000 in
set_option maxHeartbeats 3200000 in
theorem wtold_any {w : World} {g gs gr : Nat} {am an ai : Option Addr} {cm cn ci : Nat} {s : Ls} (h : LrA w g gs gr am an ai cm cn ci s) (hf : s.its.length ≤ 1000) (k : ByteArray) (b : Nat) (hg : getK k s.its = some b) :
    Calls Tryz.prog 109 #[.pointer (some ⟨g, 0, none⟩), .string k] w fun e w' => e = .returned (.agg #[.int .i64 0, .float .f64 b]) ∧ Below w.heap.size w w' := by
  have hax := (Below.refl w.heap.size w).alloc (Nat.le_refl _) (.cells #[.int .i64 0, .float .f64 0] 50)
  obtain ⟨w1, e1⟩ : ∃ u, u = (w.alloc (.cells #[.int .i64 0, .float .f64 0] 50)) := ⟨_, rfl⟩
  have H1 : Hid (LrA w1.drew g gs gr am an ai cm cn ci s ∧ RsAt w1.drew w.heap.size 0 0 ∧ Below w.heap.size w w1.drew) := hid (by
    rw [e1]
    exact ⟨(h.keep hax).keep (Below.refl _ _).drew, RsAt.keep (heap_alloc_last w _) (Below.refl _ _).drew, hax.drew⟩)
  have hat := pos_at hg
  have hz : posZ k s.its = (posK k s.its : Int) := by rw [posZ, if_neg (by rw [hg]; simp)]
  have hlt := (List.getElem?_eq_some_iff.1 hat).1
  obtain ⟨ga, off, hai, _, _⟩ := h.it.at _ _ hat
  have HAt : Hid (∀ u : World, LrA u g gs gr am an ai cm cn ci s → Calls Tryz.prog 107 #[.pointer (some ⟨g, 0, none⟩), .string k] u fun e w' => e = .returned (.int .i64 (posK k s.its : Int)) ∧ w' = u) := hid (fun u hu => by have := wat_any hu hf k; rw [hz] at this; exact this)
  have HCe : Hid (∀ u : World, LrA u g gs gr am an ai cm cn ci s → u.cell? ⟨g, 4, none⟩ = some (.slice ai s.its.length ci) ∧ u.cell? ⟨ga, off + posK k s.its * 2 + 1, none⟩ = some (.int .u64 (b : Int))) := hid (fun u hu => by
    obtain ⟨g2, off2, ha2, _, hc2⟩ := hu.it.at _ _ hat
    rw [hai] at ha2
    cases ha2
    exact ⟨hu.c4, hc2⟩)
  have hp0 : (0 : Int) ≤ (posK k s.its : Int) := Int.natCast_nonneg _
  have hp1 : (posK k s.its : Int) < (s.its.length : Int) := by omega
  have HLt : Hid (∀ q, q ∈ fpR g gs gr am an ai → q < w.heap.size) := hid h.lt
  subst hai
  clear h hax hat hz hlt hg hf
  generalize posK k s.its = p at *
  obtain ⟨n, en⟩ : ∃ n, n = s.its.length := ⟨_, rfl⟩
  rw [← en] at HCe hp1
  clear en
  go_enter Tryz.func109, Tryz.ntmps109
  go_wp2
  rw [← e1]
  clear e1
  refine wp_region_held (S := fun ww => LrA ww g gs gr am an (some ⟨ga, off, none⟩) cm cn ci s) (by kernel_rfl) ?_
  try (change wpAnyH _ _ _ _ _ _ _ _ (World.drew _))
  refine wpAnyH_take (i := 0) (v := ?v1) rfl (by kernel_rfl) (by kernel_rfl) (by kernel_rfl) (fun _ _ _ h => h) (Or.inl ⟨by rfl, ?hy1⟩) H1.out.1 ?rest1
  case hy1 => (intro ww _; go_simp; try with_reducible rfl)
  go_simp
  refine wpAnyH_take (i := 1) (v := ?v2) rfl (by kernel_rfl) (by kernel_rfl) (by kernel_rfl) (fun _ _ _ h => h) (Or.inl ⟨by rfl, ?hy2⟩) H1.out.1 ?rest2
  case hy2 => (intro ww _; go_simp; try with_reducible rfl)
  go_simp
  refine wpAnyH_take (i := 2) (v := ?v3) rfl (by kernel_rfl) (by kernel_rfl) (by kernel_rfl) (fun _ _ _ h => h) (Or.inl ⟨by rfl, ?hy3⟩) H1.out.1 ?rest3
  case hy3 => (intro ww _; go_simp; try with_reducible rfl)
  go_simp
  refine wpAnyH_take (i := 3) (v := ?v4) rfl (by kernel_rfl) (by kernel_rfl) (by kernel_rfl) (fun _ _ _ h => h) (Or.inl ⟨by rfl, ?hy4⟩) H1.out.1 ?rest4
  case hy4 => (intro ww hS; obtain ⟨x0, x1⟩ := HCe.out ww hS; go_simp; try with_reducible rfl)
  go_simp
  refine wpAnyH_take (i := 4) (v := ?v5) rfl (by kernel_rfl) (by kernel_rfl) (by kernel_rfl) (fun _ _ _ h => h) (Or.inl ⟨by rfl, ?hy5⟩) H1.out.1 ?rest5
  case hy5 => (intro ww _; go_simp; try with_reducible rfl)
  go_simp
  refine wpAnyH_take (i := 5) (v := ?v6) rfl (by kernel_rfl) (by kernel_rfl) (by kernel_rfl) (fun _ _ _ h => h) (Or.inl ⟨by rfl, ?hy6⟩) H1.out.1 ?rest6
  case hy6 => (intro ww _; go_simp; try with_reducible rfl)
  go_simp
  refine wpAnyH_all (rs := [6]) (by kernel_rfl) (by simp) ?_
  intro i hi
  obtain rfl := List.mem_singleton.1 hi
  clear hi
  refine wpOp_d rfl (by rfl) (fun K hK => ?_)
  go_simp
  refine (HAt.out _ H1.out.1).mono ?_
  rintro e wq ⟨rfl, hw⟩
  replace hw := hw.symm
  subst hw
  refine hK _ _ ⟨H1.out.1, ?_⟩
  clear hK K
  go_simp
  refine wpAnyH_take (i := 7) (v := ?v7) rfl (by kernel_rfl) (by kernel_rfl) (by kernel_rfl) (fun _ _ _ h => h) (Or.inl ⟨by rfl, ?hy7⟩) H1.out.1 ?rest7
  case hy7 => (intro ww _; go_simp; try with_reducible rfl)
  go_simp
  refine wpAnyH_take (i := 8) (v := ?v8) rfl (by kernel_rfl) (by kernel_rfl) (by kernel_rfl) (fun _ _ _ h => h) (Or.inl ⟨by rfl, ?hy8⟩) H1.out.1 ?rest8
  case hy8 => (intro ww _; go_simp; try with_reducible rfl)
  go_simp
  refine wpAnyH_take (i := 9) (v := ?v9) rfl (by kernel_rfl) (by kernel_rfl) (by kernel_rfl) (fun _ _ _ h => h) (Or.inl ⟨by rfl, ?hy9⟩) H1.out.1 ?rest9
  case hy9 => (intro ww hS; obtain ⟨x0, x1⟩ := HCe.out ww hS; go_simp; try with_reducible rfl)
  go_simp
  refine wpAnyH_all (rs := [10]) (by kernel_rfl) (by simp) ?_
  intro i hi
  obtain rfl := List.mem_singleton.1 hi
  clear hi
  refine wpOp_d rfl (by rfl) (fun K hK => ?_)
  go_simp
  rw [ff_run]
  go_simp
  refine hK _ _ ⟨H1.out.1, ?_⟩
  clear hK K
  go_simp
  refine wpAnyH_take (i := 11) (v := ?v10) rfl (by kernel_rfl) (by kernel_rfl) (by kernel_rfl) (fun _ _ _ h => h) (Or.inl ⟨by rfl, ?hy10⟩) H1.out.1 ?rest10
  case hy10 => (intro ww _; go_simp; try with_reducible rfl)
  go_simp
  refine wpAnyH_all (rs := [12]) (by kernel_rfl) (by simp) ?_
  intro i hi
  obtain rfl := List.mem_singleton.1 hi
  clear hi
  refine wpOp_d rfl (by rfl) (fun K hK => ?_)
  refine owp_store_rsR _ _ rfl w.heap.size rfl 0 0 0 b rfl H1.out.2.1 ?_
  intro wz Hz
  have HL : Hid (LrA wz g gs gr am an (some ⟨ga, off, none⟩) cm cn ci s) := hid (H1.out.1.stay (Nat.le_of_eq Hz.out.2.size.symm) (fun q hq => Hz.out.2.block q (fun e => by have := HLt.out q hq; omega)))
  refine hK _ _ ⟨HL.out, ?_⟩
  clear hK K
  go_simp
  refine wpAnyH_done (by kernel_rfl) ?_ _
  go_simp
  go_wp2
  refine ret_oneD (s := 4) (ad := ⟨w.heap.size, 0, none⟩) rfl rfl (load_rs _ _ _ _ Hz.out.1) rfl ?_
  exact ⟨rfl, Hz.out.2.below H1.out.2.2 (Nat.le_refl _)⟩
end Go.Proofs.YtecidbdbdnnglaaGreat
