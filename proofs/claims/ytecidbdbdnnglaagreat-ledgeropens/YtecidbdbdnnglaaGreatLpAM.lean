/- The program's ledger in memory. -/
import Derived.Test.YtecidbdbdnnglaaGreatMy2
import Derived.Test.YtecidbdbdnnglaaGreatLmA
import Derived.Test.YtecidbdbdnnglaaGreatClI
import Derived.Test.YtecidbdbdnnglaaGreatMy1
import Derived.Test.YtecidbdbdnnglaaGreatDsSM
import Derived.Deep.MidRow
namespace Go.Proofs.YtecidbdbdnnglaaGreat
open Go.RowKit

/-- Deeds as cells. -/
def deC (l : List De) : List Value := l.flatMap fun d => [.int .i64 (d.1 : Int), .int .i64 d.2.1, .float .f64 d.2.2]
def ldC (ep : Int) (vm vn : Value) (dn : Int) (mp : Value) (l : List De) : List Value := .int .i64 ep :: vm :: vn :: .int .i64 dn :: mp :: deC l
theorem deC_len (l : List De) : (deC l).length = 3 * l.length := by
  induction l with
  | nil => rfl
  | cons d l ih =>
    show (deC l).length + 1 + 1 + 1 = _
    rw [ih, List.length_cons]
    omega
theorem deC_cons (d : De) (l : List De) : deC (d :: l) = .int .i64 (d.1 : Int) :: .int .i64 d.2.1 :: .float .f64 d.2.2 :: deC l := rfl
theorem deC_at : ∀ (l : List De) (c : Nat) (d : De), l[c]? = some d → (deC l)[3 * c]? = some (.int .i64 (d.1 : Int)) ∧ (deC l)[3 * c + 1]? = some (.int .i64 d.2.1) ∧ (deC l)[3 * c + 2]? = some (.float .f64 d.2.2)
  | [], _, _, h => by simp at h
  | x :: l, 0, d, h => by
    obtain rfl : x = d := by simpa using h
    exact ⟨rfl, rfl, rfl⟩
  | x :: l, c + 1, d, h => by
    obtain ⟨h1, h2, h3⟩ := deC_at l c d (by simpa using h)
    rw [deC_cons, show 3 * (c + 1) = 3 * c + 1 + 1 + 1 by omega, show 3 * c + 1 + 1 + 1 + 1 = (3 * c + 1) + 1 + 1 + 1 by omega, show 3 * c + 1 + 1 + 1 + 2 = (3 * c + 2) + 1 + 1 + 1 by omega]
    simp only [List.getElem?_cons_succ]
    exact ⟨h1, h2, h3⟩
theorem deC_set : ∀ (l : List De) (c : Nat) (d : De), c < l.length → (((deC l).set (3 * c) (.int .i64 (d.1 : Int))).set (3 * c + 1) (.int .i64 d.2.1)).set (3 * c + 2) (.float .f64 d.2.2) = deC (l.set c d)
  | [], _, _, h => by simp at h
  | x :: l, 0, d, _ => rfl
  | x :: l, c + 1, d, h => by
    have ih := deC_set l c d (by simpa using h)
    rw [deC_cons, show 3 * (c + 1) = 3 * c + 1 + 1 + 1 by omega, show 3 * c + 1 + 1 + 1 + 1 = (3 * c + 1) + 1 + 1 + 1 by omega, show 3 * c + 1 + 1 + 1 + 2 = (3 * c + 2) + 1 + 1 + 1 by omega]
    simp only [List.set_cons_succ]
    rw [ih]
    rfl
/-- The ledger at block g: its map at block m, its lists elsewhere. -/
structure LdA (w : World) (g m : Nat) (am an : Option Addr) (cm cn : Nat) (s : Ls) : Prop where
  blk : w.heap[g]? = some (.cells (ldC (s.ep : Int) (.slice am s.mem.length cm) (.slice an s.nxt.length cn) (s.dn : Int) (.map (some m)) s.lst).toArray 72 (0, 0))
  im : IntsIn w am s.mem
  ix : IntsIn w an s.nxt
  km : KmAt w m s.its
  ne : g ≠ m
  ma : ∀ x, am = some x → (x.block ≠ g ∧ x.block ≠ m) ∧ x.block < w.heap.size
  na : ∀ x, an = some x → (x.block ≠ g ∧ x.block ≠ m) ∧ x.block < w.heap.size
  ok : LOk s
def blkL (a : Option Addr) : List Nat := match a with | some x => [x.block] | none => []
def fpL (g m : Nat) (am an : Option Addr) : List Nat := g :: m :: (blkL am ++ blkL an)
theorem mem_blkL {a : Option Addr} {b : Nat} : b ∈ blkL a ↔ ∃ x, a = some x ∧ b = x.block := by
  cases a with
  | none => simp [blkL]
  | some x => simp [blkL]
theorem mem_fp {g m : Nat} {am an : Option Addr} {b : Nat} : b ∈ fpL g m am an ↔ b = g ∨ b = m ∨ (∃ x, am = some x ∧ b = x.block) ∨ (∃ x, an = some x ∧ b = x.block) := by
  rw [fpL, List.mem_cons, List.mem_cons, List.mem_append, mem_blkL, mem_blkL]
def LdAt (F : List Nat) (w : World) (v : Value) (s : Ls) : Prop := ∃ g m am an cm cn, v = .pointer (some ⟨g, 0, none⟩) ∧ F = fpL g m am an ∧ LdA w g m am an cm cn s
theorem ints_stay {w w' : World} {a : Option Addr} {l : List Int} (h : IntsIn w a l) (hs : w.heap.size ≤ w'.heap.size) (hb : ∀ x, a = some x → w'.heap[x.block]? = w.heap[x.block]?) : IntsIn w' a l := by
  rcases h with h | ⟨g, off, ha, hg, hc⟩
  · exact .inl h
  · exact .inr ⟨g, off, ha, Nat.lt_of_lt_of_le hg hs, fun j z hz => (World.cell?_of_block (a := ⟨g, off + j, none⟩) (show w'.heap[g]? = w.heap[g]? from hb _ ha)).trans (hc j z hz)⟩
theorem LdA.stay {w w' : World} {g m : Nat} {am an : Option Addr} {cm cn : Nat} {s : Ls} (h : LdA w g m am an cm cn s) (hs : w.heap.size ≤ w'.heap.size) (hb : ∀ b, b ∈ fpL g m am an → w'.heap[b]? = w.heap[b]?) : LdA w' g m am an cm cn s :=
  ⟨(hb g (mem_fp.2 (.inl rfl))).trans h.blk, ints_stay h.im hs (fun x hx => hb _ (mem_fp.2 (.inr (.inr (.inl ⟨x, hx, rfl⟩))))), ints_stay h.ix hs (fun x hx => hb _ (mem_fp.2 (.inr (.inr (.inr ⟨x, hx, rfl⟩))))), h.km.keep (hb m (mem_fp.2 (.inr (.inl rfl)))), h.ne,
   fun x hx => ⟨(h.ma x hx).1, Nat.lt_of_lt_of_le (h.ma x hx).2 hs⟩, fun x hx => ⟨(h.na x hx).1, Nat.lt_of_lt_of_le (h.na x hx).2 hs⟩, h.ok⟩
theorem LdA.lt {w : World} {g m : Nat} {am an : Option Addr} {cm cn : Nat} {s : Ls} (h : LdA w g m am an cm cn s) : ∀ b, b ∈ fpL g m am an → b < w.heap.size := fun b hb => by
  rcases mem_fp.1 hb with rfl | rfl | ⟨x, hx, rfl⟩ | ⟨x, hx, rfl⟩
  · exact lt_of_blk h.blk
  · exact h.km.lt
  · exact (h.ma x hx).2
  · exact (h.na x hx).2
theorem LdAt.lt {F : List Nat} {w : World} {v : Value} {s : Ls} (h : LdAt F w v s) : ∀ b, b ∈ F → b < w.heap.size := by
  obtain ⟨g, m, am, an, cm, cn, _, rfl, h⟩ := h
  exact h.lt
theorem LdAt.stay {F : List Nat} {w w' : World} {v : Value} {s : Ls} (h : LdAt F w v s) (hs : w.heap.size ≤ w'.heap.size) (hb : ∀ b, b ∈ F → w'.heap[b]? = w.heap[b]?) : LdAt F w' v s := by
  obtain ⟨g, m, am, an, cm, cn, hv, rfl, h⟩ := h
  exact ⟨g, m, am, an, cm, cn, hv, rfl, h.stay hs hb⟩
theorem LdAt.keep {F : List Nat} {w w' : World} {v : Value} {s : Ls} (h : LdAt F w v s) (hb : Below w.heap.size w w') : LdAt F w' v s := h.stay hb.size (fun b hF => hb.block b (h.lt b hF))
theorem LdA.keep {w w' : World} {g m : Nat} {am an : Option Addr} {cm cn : Nat} {s : Ls} (h : LdA w g m am an cm cn s) (hb : Below w.heap.size w w') : LdA w' g m am an cm cn s := h.stay hb.size (fun b hF => hb.block b (h.lt b hF))
theorem LdAt.one {F : List Nat} {w w' : World} {v : Value} {s : Ls} {b : Nat} (h : LdAt F w v s) (ho : One b w w') (hF : b ∉ F) : LdAt F w' v s := h.stay (Nat.le_of_eq ho.size.symm) (fun k hk => ho.block k (fun e => hF (e ▸ hk)))
theorem LdAt.out {F G : List Nat} {w w' : World} {v : Value} {s : Ls} (h : LdAt F w v s) (ho : Out G w w') (hF : ∀ b, b ∈ F → b ∉ G) : LdAt F w' v s := h.stay ho.size (fun k hk => ho.block k (h.lt k hk) (hF k hk))
theorem LdAt.ok {F : List Nat} {w : World} {v : Value} {s : Ls} (h : LdAt F w v s) : LOk s := by
  obtain ⟨g, m, am, an, cm, cn, _, _, h⟩ := h
  exact h.ok
theorem LdAt.ptr {F : List Nat} {w : World} {v : Value} {s : Ls} (h : LdAt F w v s) : ∃ g, v = .pointer (some ⟨g, 0, none⟩) := by
  obtain ⟨g, m, am, an, cm, cn, hv, _, _⟩ := h
  exact ⟨g, hv⟩
/-- What a call leaves that may change the ledger. -/
def LdTo (F : List Nat) (w w' : World) (v : Value) (s : Ls) : Prop := ∃ F', LdAt F' w' v s ∧ (∀ b, b ∈ F' → b ∈ F ∨ w.heap.size ≤ b) ∧ Out F w w'
theorem LdTo.more {F : List Nat} {w w1 w2 : World} {v : Value} {s : Ls} (h : LdTo F w w1 v s) (hb : Below w1.heap.size w1 w2) : LdTo F w w2 v s := by
  obtain ⟨F', h1, h2, h3⟩ := h
  exact ⟨F', h1.keep hb, h2, h3.more hb⟩
theorem LdTo.pre {F : List Nat} {w w1 w2 : World} {v : Value} {s : Ls} (hb : Below w.heap.size w w1) (h : LdTo F w1 w2 v s) : LdTo F w w2 v s := by
  obtain ⟨F', h1, h2, h3⟩ := h
  refine ⟨F', h1, fun b hF => ?_, (Out.of_below hb).trans h3 (fun b hF => .inl hF)⟩
  rcases h2 b hF with h | h
  · exact .inl h
  · exact .inr (Nat.le_trans hb.size h)
theorem LdTo.then {F G : List Nat} {w w1 w2 : World} {v : Value} {s : Ls} (ho : Out F w w1) (hG : ∀ b, b ∈ G → b ∈ F ∨ w.heap.size ≤ b) (h : LdTo G w1 w2 v s) : LdTo F w w2 v s := by
  obtain ⟨F', h1, h2, h3⟩ := h
  refine ⟨F', h1, fun b hF => ?_, ho.trans h3 hG⟩
  rcases h2 b hF with h | h
  · exact hG b h
  · exact .inr (Nat.le_trans ho.size h)
section
variable {w : World} {g m : Nat} {am an : Option Addr} {cm cn : Nat} {s : Ls}
theorem LdA.c0 (h : LdA w g m am an cm cn s) : w.cell? ⟨g, 0, none⟩ = some (.int .i64 (s.ep : Int)) := cell_at h.blk 0 _ rfl
theorem LdA.c1 (h : LdA w g m am an cm cn s) : w.cell? ⟨g, 1, none⟩ = some (.slice am s.mem.length cm) := cell_at h.blk 1 _ rfl
theorem LdA.c2 (h : LdA w g m am an cm cn s) : w.cell? ⟨g, 2, none⟩ = some (.slice an s.nxt.length cn) := cell_at h.blk 2 _ rfl
theorem LdA.c3 (h : LdA w g m am an cm cn s) : w.cell? ⟨g, 3, none⟩ = some (.int .i64 (s.dn : Int)) := cell_at h.blk 3 _ rfl
theorem LdA.c4 (h : LdA w g m am an cm cn s) : w.cell? ⟨g, 4, none⟩ = some (.map (some m)) := cell_at h.blk 4 _ rfl
theorem LdA.cd (h : LdA w g m am an cm cn s) (c : Nat) (hc : c < 8) : w.cell? ⟨g, 5 + c * 3, none⟩ = some (.int .i64 ((s.at c).1 : Int)) ∧ w.cell? ⟨g, 5 + c * 3 + 1, none⟩ = some (.int .i64 (s.at c).2.1) ∧ w.cell? ⟨g, 5 + c * 3 + 2, none⟩ = some (.float .f64 (s.at c).2.2) := by
  obtain ⟨h1, h2, h3⟩ := deC_at s.lst c _ (h.ok.at hc).2
  refine ⟨cell_at h.blk _ _ ?_, cell_at h.blk _ _ ?_, cell_at h.blk _ _ ?_⟩
  · rw [show 5 + c * 3 = 3 * c + 1 + 1 + 1 + 1 + 1 by omega]; simpa [ldC] using h1
  · rw [show 5 + c * 3 + 1 = (3 * c + 1) + 1 + 1 + 1 + 1 + 1 by omega]; simpa [ldC] using h2
  · rw [show 5 + c * 3 + 2 = (3 * c + 2) + 1 + 1 + 1 + 1 + 1 by omega]; simpa [ldC] using h3
theorem LdA.fr (h : LdA w g m am an cm cn s) (j : Nat) : w.frozen? ⟨g, j, none⟩ = false := free_at h.blk j
theorem LdA.at (h : LdA w g m am an cm cn s) : LdAt (fpL g m am an) w (.pointer (some ⟨g, 0, none⟩)) s := ⟨g, m, am, an, cm, cn, rfl, rfl, h⟩
theorem LdA.pos (h : LdA w g m am an cm cn s) : (4 ≤ s.mem.length ∧ s.mem.length ≤ 10) ∧ (4 ≤ s.nxt.length ∧ s.nxt.length ≤ 10) := ⟨mem_len h.ok.mem, mem_len h.ok.nx⟩
/-- A block that is not the ledger's is written. -/
theorem LdA.set (h : LdA w g m am an cm cn s) (b o : Nat) (v : Value) (hb : b ∉ fpL g m am an) : LdA (w.setCell ⟨b, o, none⟩ v) g m am an cm cn s :=
  h.stay (by simp) (fun k hk => Below.heap_setCell _ _ _ _ (show k ≠ b from fun e => hb (e ▸ hk)))
theorem LdA.stayB (h : LdA w g m am an cm cn s) {w' : World} {b : Nat} (ho : One b w w') (hF : b ∉ fpL g m am an) : LdA w' g m am an cm cn s := h.stay (Nat.le_of_eq ho.size.symm) (fun k hk => ho.block k (fun e => hF (e ▸ hk)))
end
/-- How a ledger's cell is set. -/
theorem LdA.setg {w : World} {g m : Nat} {am an : Option Addr} {cm cn : Nat} {s : Ls} (h : LdA w g m am an cm cn s) {w' : World} (ho : One g w w') {am' an' : Option Addr} {cm' cn' : Nat} {s' : Ls}
    (hb : w'.heap[g]? = some (.cells (ldC (s'.ep : Int) (.slice am' s'.mem.length cm') (.slice an' s'.nxt.length cn') (s'.dn : Int) (.map (some m)) s'.lst).toArray 72 (0, 0)))
    (him : IntsIn w am' s'.mem) (hix : IntsIn w an' s'.nxt) (hma : ∀ x, am' = some x → (x.block ≠ g ∧ x.block ≠ m) ∧ x.block < w.heap.size) (hna : ∀ x, an' = some x → (x.block ≠ g ∧ x.block ≠ m) ∧ x.block < w.heap.size) (hk : s'.its = s.its) (hok : LOk s') : LdA w' g m am' an' cm' cn' s' :=
  ⟨hb, ints_stay him (Nat.le_of_eq ho.size.symm) (fun x hx => ho.block _ (hma x hx).1.1), ints_stay hix (Nat.le_of_eq ho.size.symm) (fun x hx => ho.block _ (hna x hx).1.1), by rw [hk]; exact h.km.keep (ho.block m h.ne.symm), h.ne,
   fun x hx => ⟨(hma x hx).1, by rw [ho.size]; exact (hma x hx).2⟩, fun x hx => ⟨(hna x hx).1, by rw [ho.size]; exact (hna x hx).2⟩, hok⟩
theorem one_cell (w : World) (g o : Nat) (v : Value) : One g w (w.setCell ⟨g, o, none⟩ v) := one_cells g [v] o w
theorem One.out {g : Nat} {w w' : World} {F : List Nat} (h : One g w w') (hF : g ∈ F) : Out F w w' := ⟨h.os, h.tape, h.output, Nat.le_of_eq h.size.symm, fun k _ hk => h.block k (fun e => hk (e ▸ hF))⟩
theorem One.outB {g : Nat} {w0 w w' : World} {F : List Nat} (h : One g w w') (ho : Out F w0 w) (hg : g ∈ F ∨ w0.heap.size ≤ g) : Out F w0 w' := ⟨h.os.trans ho.os, h.tape.trans ho.tape, h.output.trans ho.output, Nat.le_trans ho.size (Nat.le_of_eq h.size.symm), fun k hk hF => (h.block k (fun e => by
  rcases hg with hg | hg
  · exact hF (e ▸ hg)
  · omega)).trans (ho.block k hk hF)⟩
theorem One.trans {g : Nat} {w w1 w2 : World} (h : One g w w1) (k : One g w1 w2) : One g w w2 := ⟨k.os.trans h.os, k.tape.trans h.tape, k.output.trans h.output, k.size.trans h.size, fun b hb => (k.block b hb).trans (h.block b hb)⟩
end Go.Proofs.YtecidbdbdnnglaaGreat
