/- Texts laid together: LnF LnG LnH LnI LnJ DtC DtD DtE DpZ WiD WiE WiF WiG WiH WiI. -/
import Derived.Test.YthjgnfeadagmeaaGreatLnEM
import Derived.Test.YthjgnfeadagmeaaGreatOa4
import Derived.Test.YthjgnfeadagmeaaGreatOa6
import Derived.Test.YthjgnfeadagmeaaGreatOa3
import Derived.Shelf.Slices.Delete
import Derived.Lib.RowBridge
import Derived.Test.YthjgnfeadagmeaaGreatDtBM
import Derived.Test.YthjgnfeadagmeaaGreatOa1
import Derived.Test.YthjgnfeadagmeaaGreatOa5
import Derived.BigQuiet
/- A lane in memory: its block, its row of packets, its book. No walk here. -/
namespace Go.Proofs.YthjgnfeadagmeaaGreat
open Go.RowKit

abbrev Pkt := Int × Int × Ms
def ptrV (b : Nat) : Value := .pointer (some ⟨b, 0, none⟩)
/-- The packet p lies at b, its lists in blocks of F. -/
def PkAt (F : Nat → Prop) (w : World) (b : Nat) (p : Pkt) : Prop := ∃ a13 c13 a14 c14 a15 c15 a16 c16, BxAt w b (pkC p.1 p.2.1 p.2.2 (.slice a13 p.2.2.nx.length c13) (.slice a14 p.2.2.sg.length c14) (.slice a15 p.2.2.cg.length c15) (.slice a16 p.2.2.ln.length c16)) 50 ∧
  MsL F w p.2.2 (.slice a13 p.2.2.nx.length c13) (.slice a14 p.2.2.sg.length c14) (.slice a15 p.2.2.cg.length c15) (.slice a16 p.2.2.ln.length c16)
theorem PkAt.keep {F : Nat → Prop} {w w' : World} {b : Nat} {p : Pkt} (h : PkAt F w b p) (hF : F b) (hs : w.heap.size ≤ w'.heap.size) (hb : ∀ k, k < w.heap.size → F k → w'.heap[k]? = w.heap[k]?) : PkAt F w' b p := by
  obtain ⟨a13, c13, a14, c14, a15, c15, a16, c16, h1, h2⟩ := h
  exact ⟨a13, c13, a14, c14, a15, c15, a16, c16, (hb b (lt_of_blk h1) hF).trans h1, h2.keep hs hb⟩
theorem MsL.mono2 {F G : Nat → Prop} {w : World} {m : Ms} {v13 v14 v15 v16 : Value} (h : MsL F w m v13 v14 v15 v16) (hF : ∀ k, k < w.heap.size → F k → G k) : MsL G w m v13 v14 v15 v16 := ⟨h.nx.mono hF, h.sg.mono hF, h.cg.mono hF, h.ln.mono hF⟩
theorem PkAt.mono {F G : Nat → Prop} {w : World} {b : Nat} {p : Pkt} (h : PkAt F w b p) (hF : ∀ k, k < w.heap.size → F k → G k) : PkAt G w b p := by
  obtain ⟨a13, c13, a14, c14, a15, c15, a16, c16, h1, h2⟩ := h
  exact ⟨a13, c13, a14, c14, a15, c15, a16, c16, h1, h2.mono2 hF⟩
def lneV (ab : Option Addr) (kb : Nat) (bad : List Int) (vr vk : Value) : List Value := [.slice ab bad.length kb, vr, vk]
structure LaneM (F : Nat → Prop) (N : Nat) (w : World) (g : Nat) (ab : Option Addr) (kb : Nat) (vr vk : Value) (Fb : List Nat) (bad : List Int) (ps : List Pkt) (L : List Sg) (B : List Nat) : Prop where
  blk : BxAt w g (lneV ab kb bad vr vk) 72
  bd : Reads F w (.slice ab bad.length kb) (dInts bad)
  row : w.ownsRow N 81 1 vr B.length (B.map ptrV)
  len : B.length = ps.length
  pk : ∀ (i b : Nat) (p : Pkt), B[i]? = some b → ps[i]? = some p → F b ∧ PkAt F w b p
  bk : BkAt Fb w vk L
  gN : N ≤ g
  FN : ∀ k, F k → N ≤ k
  bN : ∀ k, k ∈ Fb → N ≤ k
  le : N ≤ w.heap.size
  gF : ¬ F g
  gb : g ∉ Fb
  gr : vr.ownBlock ≠ some g
  rF : ∀ k, vr.ownBlock = some k → ¬ F k
  rb : ∀ k, vr.ownBlock = some k → k ∉ Fb
  Fb : ∀ k, F k → k ∉ Fb
  Fl : ∀ k, F k → k < w.heap.size
  mx : ps.length ≤ 4096
/-- Its blocks. -/
def Lfp (F : Nat → Prop) (g : Nat) (vr : Value) (Fb : List Nat) (k : Nat) : Prop := k = g ∨ vr.ownBlock = some k ∨ k ∈ Fb ∨ F k
/-- A lane at v, of blocks P, with the bad nodes, the packets under way, the book's signatures. -/
def LaneAt (N : Nat) (P : Nat → Prop) (w : World) (v : Value) (bad : List Int) (ps : List Pkt) (L : List Sg) : Prop :=
  ∃ F g ab kb vr vk Fb B, v = ptrV g ∧ LaneM F N w g ab kb vr vk Fb bad ps L B ∧ ∀ k, P k ↔ Lfp F g vr Fb k
/-- What a step leaves of a lane whose blocks were P. -/
def LanePost (N : Nat) (P : Nat → Prop) (w w' : World) (v : Value) (bad : List Int) (ps : List Pkt) (L : List Sg) : Prop := ∃ P', LaneAt N P' w' v bad ps L ∧ Outs P w w' ∧ ∀ k, P' k → P k ∨ w.heap.size ≤ k
theorem own_rowN {w w' : World} {B : Nat} {T : TypeId} {sz n : Nat} {v : Value} {xs : List Value} (h : w.ownsRow B T sz v n xs) (hk : ∀ g, v.ownBlock = some g → w'.heap[g]? = w.heap[g]?) : w'.ownsRow B T sz v n xs := by
  obtain ⟨h1, h2⟩ := h
  refine ⟨h1, ?_⟩
  rcases h2 with h2 | ⟨g, cap, cur, hv, hB, hh, hr⟩
  · exact .inl h2
  · exact .inr ⟨g, cap, cur, hv, hB, (hk g (by rw [hv]; rfl)).trans hh, hr⟩
theorem Outs.ofB {O : Nat → Prop} {w w' : World} (h : Below w.heap.size w w') : Outs O w w' := ⟨h.os, h.tape, h.output, h.size, fun k hk _ => h.block k hk⟩
section
variable {F P : Nat → Prop} {N g : Nat} {w w' : World} {ab : Option Addr} {kb : Nat} {v vr vk : Value} {Fb : List Nat} {bad : List Int} {ps : List Pkt} {L : List Sg} {B : List Nat}
/-- Its blocks stay as they were. -/
theorem LaneM.stay (h : LaneM F N w g ab kb vr vk Fb bad ps L B) (hs : w.heap.size ≤ w'.heap.size) (hk : ∀ k, k < w.heap.size → Lfp F g vr Fb k → w'.heap[k]? = w.heap[k]?) : LaneM F N w' g ab kb vr vk Fb bad ps L B :=
  ⟨(hk g (lt_of_blk h.blk) (.inl rfl)).trans h.blk, h.bd.keep hs (fun k hl hF => hk k hl (.inr (.inr (.inr hF)))), own_rowN h.row (fun k hv => hk k (h.row.lt k hv).2 (.inr (.inl hv))), h.len, fun i b p hb hp => ⟨(h.pk i b p hb hp).1, (h.pk i b p hb hp).2.keep (h.pk i b p hb hp).1 hs (fun k hl hF => hk k hl (.inr (.inr (.inr hF))))⟩, h.bk.keep hs (fun b hb => hk b (h.bk.lt b hb) (.inr (.inr (.inl hb)))), h.gN, h.FN, h.bN, Nat.le_trans h.le hs, h.gF, h.gb, h.gr, h.rF, h.rb, h.Fb, fun k hF => Nat.lt_of_lt_of_le (h.Fl k hF) hs, h.mx⟩
theorem LaneM.keep (h : LaneM F N w g ab kb vr vk Fb bad ps L B) (hb : Below w.heap.size w w') : LaneM F N w' g ab kb vr vk Fb bad ps L B := h.stay hb.size (fun k hl _ => hb.block k hl)
theorem LaneM.lt (h : LaneM F N w g ab kb vr vk Fb bad ps L B) (k : Nat) (hk : Lfp F g vr Fb k) : k < w.heap.size := by
  rcases hk with rfl | hk | hk | hk
  · exact lt_of_blk h.blk
  · exact (h.row.lt k hk).2
  · exact h.bk.lt k hk
  · exact h.Fl k hk
theorem LaneM.low (h : LaneM F N w g ab kb vr vk Fb bad ps L B) (k : Nat) (hk : Lfp F g vr Fb k) : N ≤ k := by
  rcases hk with rfl | hk | hk | hk
  · exact h.gN
  · exact (h.row.lt k hk).1
  · exact h.bN k hk
  · exact h.FN k hk
theorem LaneAt.lt (h : LaneAt N P w v bad ps L) (k : Nat) (hk : P k) : k < w.heap.size := by
  obtain ⟨F, g, ab, kb, vr, vk, Fb, B, _, h1, h2⟩ := h
  exact h1.lt k ((h2 k).1 hk)
theorem LaneAt.low (h : LaneAt N P w v bad ps L) (k : Nat) (hk : P k) : N ≤ k := by
  obtain ⟨F, g, ab, kb, vr, vk, Fb, B, _, h1, h2⟩ := h
  exact h1.low k ((h2 k).1 hk)
theorem LaneAt.mx (h : LaneAt N P w v bad ps L) : ps.length ≤ 4096 := by
  obtain ⟨F, g, ab, kb, vr, vk, Fb, B, _, h1, h2⟩ := h
  exact h1.mx
theorem LaneAt.le (h : LaneAt N P w v bad ps L) : N ≤ w.heap.size := by
  obtain ⟨F, g, ab, kb, vr, vk, Fb, B, _, h1, h2⟩ := h
  exact h1.le
theorem LaneAt.isptr (h : LaneAt N P w v bad ps L) : ∃ g, v = .pointer (some ⟨g, 0, none⟩) := by
  obtain ⟨F, g, ab, kb, vr, vk, Fb, B, h0, h1, h2⟩ := h
  exact ⟨g, h0⟩
theorem LaneAt.stay (h : LaneAt N P w v bad ps L) (hs : w.heap.size ≤ w'.heap.size) (hk : ∀ k, k < w.heap.size → P k → w'.heap[k]? = w.heap[k]?) : LaneAt N P w' v bad ps L := by
  obtain ⟨F, g, ab, kb, vr, vk, Fb, B, h0, h1, h2⟩ := h
  exact ⟨F, g, ab, kb, vr, vk, Fb, B, h0, h1.stay hs (fun k hl hF => hk k hl ((h2 k).2 hF)), h2⟩
theorem LaneAt.keep (h : LaneAt N P w v bad ps L) (hb : Below w.heap.size w w') : LaneAt N P w' v bad ps L := h.stay hb.size (fun k hl _ => hb.block k hl)
/-- New memory is its own too. -/
theorem LaneM.wide {w0 : World} (h : LaneM F N w g ab kb vr vk Fb bad ps L B) (h0 : N ≤ w0.heap.size) (hl : ∀ k, Lfp F g vr Fb k → k < w0.heap.size) : LaneM (fun k => F k ∨ (w0.heap.size ≤ k ∧ k < w.heap.size)) N w g ab kb vr vk Fb bad ps L B := by
  have hx : ∀ k, Lfp F g vr Fb k → ¬ (w0.heap.size ≤ k) := fun k hk hq => by have := hl k hk; omega
  refine ⟨h.blk, h.bd.mono (fun k _ hk => .inl hk), h.row, h.len, fun i b p hb hp => ⟨.inl (h.pk i b p hb hp).1, (h.pk i b p hb hp).2.mono (fun k _ hk => .inl hk)⟩, h.bk, h.gN, ?_, h.bN, h.le, ?_, h.gb, h.gr, ?_, h.rb, ?_, ?_, h.mx⟩
  · rintro k (hk | hk)
    · exact h.FN k hk
    · omega
  · rintro (hk | hk)
    · exact h.gF hk
    · exact hx g (.inl rfl) hk.1
  · rintro k hv (hk | hk)
    · exact h.rF k hv hk
    · exact hx k (.inr (.inl hv)) hk.1
  · rintro k (hk | hk) hb
    · exact h.Fb k hk hb
    · exact hx k (.inr (.inr (.inl hb))) hk.1
  · rintro k (hk | hk)
    · exact h.Fl k hk
    · exact hk.2
/-- Behind an append of the pointer to a packet of its memory, and a store of the row. -/
theorem LaneM.grow {wb w3 w4 : World} {v3 : Value} {b : Nat} {p : Pkt} (h : LaneM F N wb g ab kb vr vk Fb bad ps L B) (hF : F b) (hp : PkAt F wb b p) (hm : ps.length < 4096) (hg : wb.grownBy w3 vr.ownBlock) (ho : w3.ownsRow N 81 1 v3 (B.length + 1) (B.map ptrV ++ [ptrV b])) (hv : v3.ownBlock = vr.ownBlock ∨ v3.ownBlock = some wb.heap.size) (h1 : One g w3 w4) (hk : BxAt w4 g (lneV ab kb bad v3 vk) 72) :
    LaneM F N w4 g ab kb v3 vk Fb bad (ps ++ [p]) L (B ++ [b]) ∧ Outs (Lfp F g vr Fb) wb w4 ∧ ∀ k, Lfp F g v3 Fb k → Lfp F g vr Fb k ∨ wb.heap.size ≤ k := by
  have hblk : ∀ k, k < wb.heap.size → vr.ownBlock ≠ some k → k ≠ g → w4.heap[k]? = wb.heap[k]? := fun k hk1 hk2 hk3 => (h1.block k hk3).trans (hg.block k hk1 (fun e => hk2 e.symm))
  have hs4 : wb.heap.size ≤ w4.heap.size := by rw [h1.size]; exact hg.size
  have hFk : ∀ k, F k → k < wb.heap.size → w4.heap[k]? = wb.heap[k]? := fun k hk hl => hblk k hl (fun e => h.rF k e hk) (fun e => h.gF (e ▸ hk))
  have hv3 : ∀ k, v3.ownBlock = some k → vr.ownBlock = some k ∨ k = wb.heap.size := fun k hk1 => by
    rcases hv with hq | hq
    · exact .inl (hq ▸ hk1)
    · rw [hq] at hk1; cases hk1; exact .inr rfl
  have hgl := lt_of_blk h.blk
  refine ⟨⟨hk, h.bd.keep hs4 (fun k hl hF => hFk k hF hl), ?_, by simp [h.len], ?_, h.bk.keep hs4 (fun k hb => hblk k (h.bk.lt k hb) (fun e => h.rb k e hb) (fun e => h.gb (e ▸ hb))), h.gN, h.FN, h.bN, Nat.le_trans h.le hs4, h.gF, h.gb, ?_, ?_, ?_, h.Fb, fun k hF => Nat.lt_of_lt_of_le (h.Fl k hF) hs4, by simp; omega⟩, ?_, ?_⟩
  · rw [List.length_append, List.map_append]
    refine own_rowN ho (fun k hk1 => h1.block k (fun e => ?_))
    rcases hv3 k hk1 with hq | hq
    · exact h.gr (by rw [hq, e])
    · omega
  · intro i c q hc hq
    have hkeep : F c ∧ PkAt F wb c q := by
      rcases Nat.lt_or_ge i B.length with hi | hi
      · rw [List.getElem?_append_left hi] at hc
        rw [List.getElem?_append_left (by rw [← h.len]; exact hi)] at hq
        exact h.pk i c q hc hq
      · have hi2 : i = B.length := by have := (List.getElem?_eq_some_iff.1 hc).1; simp at this; omega
        subst hi2
        rw [List.getElem?_append_right (Nat.le_refl _)] at hc
        rw [List.getElem?_append_right (by rw [h.len]; exact Nat.le_refl _), h.len] at hq
        simp at hc hq
        subst hc hq
        exact ⟨hF, hp⟩
    exact ⟨hkeep.1, hkeep.2.keep hkeep.1 hs4 (fun k hl hF => hFk k hF hl)⟩
  · intro e
    rcases hv3 g e with hq | hq
    · exact h.gr hq
    · omega
  · intro k hk1 hFk1
    rcases hv3 k hk1 with hq | hq
    · exact h.rF k hq hFk1
    · have := h.Fl k hFk1; omega
  · intro k hk1 hb
    rcases hv3 k hk1 with hq | hq
    · exact h.rb k hq hb
    · have := h.bk.lt k hb; omega
  · refine ⟨h1.os.trans hg.os, h1.tape.trans hg.tape, h1.output.trans hg.output, hs4, fun k hk1 hk2 => ?_⟩
    exact hblk k hk1 (fun e => hk2 (.inr (.inl e))) (fun e => hk2 (.inl e))
  · rintro k (hq | hq | hq)
    · exact .inl (.inl hq)
    · rcases hv3 k hq with hq | hq
      · exact .inl (.inr (.inl hq))
      · exact .inr (Nat.le_of_eq hq.symm)
    · exact .inl (.inr (.inr hq))
end
end Go.Proofs.YthjgnfeadagmeaaGreat

/- The program's lane: a new one, how many are under way, where the packet n stands. -/
namespace Go.Proofs.YthjgnfeadagmeaaGreat
open Go.RowKit

theorem LaneAt.fresh {w w1 w2 : World} {a1 : Option Addr} {c1 : Nat} {l : List Int} {vk : Value} {Fb : List Nat} (hN : NewI w.heap.size w1 a1 l) (hb1 : Below w.heap.size w w1) (hB : BkAt Fb w2 vk []) (hF : ∀ b, b ∈ Fb → w1.heap.size ≤ b) (hb2 : Below w1.heap.size w1 w2) :
    ∃ P, LaneAt w.heap.size P (w2.alloc (.cells (lneV a1 c1 l (.slice none 0 0) vk).toArray 72)) (.pointer (some ⟨w2.heap.size, 0, none⟩)) l [] [] := by
  have hu : Below w2.heap.size w2 (w2.alloc (.cells (lneV a1 c1 l (.slice none 0 0) vk).toArray 72)) := (Below.refl _ _).alloc (Nat.le_refl _) _
  have hs : (w2.alloc (.cells (lneV a1 c1 l (.slice none 0 0) vk).toArray 72)).heap.size = w2.heap.size + 1 := by simp
  have hx : ∀ x, a1 = some x → w.heap.size ≤ x.block ∧ x.block < w1.heap.size := fun x hx => ⟨(hN.far x hx).1, (hN.far x hx).2.lt⟩
  have hs1 := hb1.size
  have hs2 := hb2.size
  refine ⟨Lfp (fun k => ∃ x, a1 = some x ∧ x.block = k) w2.heap.size (.slice none 0 0) Fb, _, w2.heap.size, a1, c1, .slice none 0 0, vk, Fb, [], rfl, ⟨heap_alloc_last w2 _, ?_, ⟨rfl, .inl ⟨rfl, rfl⟩⟩, rfl, (fun i b p hb _ => by cases hb), hB.of_below hu, by omega, ?_, (fun k hk => Nat.le_trans hs1 (hF k hk)), by omega, ?_, (fun h => Nat.lt_irrefl _ (hB.lt _ h)), by simp [Value.ownBlock], (fun k hk => by cases hk), (fun k hk => by cases hk), ?_, ?_, by simp⟩, fun k => Iff.rfl⟩
  · exact ints_reads ((hN.keep (hb2.mono (Nat.le_refl _))).ints.keep hu (Nat.le_refl _)) (fun x hx _ => ⟨x, hx, rfl⟩)
  · rintro k ⟨x, h1, rfl⟩
    exact (hx x h1).1
  · rintro ⟨x, h1, h2⟩
    have := (hx x h1).2
    omega
  · rintro k ⟨x, h1, rfl⟩ hk
    have := (hx x h1).2
    have := hF _ hk
    omega
  · rintro k ⟨x, h1, rfl⟩
    have := (hx x h1).2
    omega
set_option maxRecDepth 100000 in
set_option maxHeartbeats 1600000 in
theorem nnew_any (a : Option Addr) (n cap : Nat) (l : List Int) (hn : l.length = n) (hm : n * 8 ≤ 140737488355328) (w : World) (hI : IntsIn w a l) :
    Calls Tryz.prog 9 #[.slice a n cap] w fun e w' => ∃ v P, e = .returned v ∧ LaneAt w.heap.size P w' v l [] [] ∧ Below w.heap.size w w' := by
  subst hn
  have HC := hid (cloneInts_any a l.length cap l rfl hm w hI)
  clear hI hm
  go_enter Tryz.func9, Tryz.ntmps9
  go_wp2_with (first
    | (go_at_call 31; go_must (refine (tnew_any _).mono ?_; rintro e w2 ⟨vk, Fb, rfl, hB, hF, hb⟩; obtain ⟨gk, rfl⟩ := hB.form; have H2 := hid (And.intro hB (And.intro hF hb)); clear hB hF hb))
    | (go_at_call 30; go_must (refine (HC.out).mono ?_; rintro e w1 ⟨a1, c1, rfl, hn, hb⟩; have H1 := hid (And.intro hn hb); clear hn hb)))
  go_ret
  obtain ⟨P, hP⟩ := LaneAt.fresh (c1 := c1) H1.out.1 H1.out.2 H2.out.1 H2.out.2.1 H2.out.2.2
  exact ⟨_, P, rfl, hP, (H1.out.2.trans (H2.out.2.2.mono H1.out.2.size)).alloc (Nat.le_trans H1.out.2.size H2.out.2.2.size) _⟩
theorem row_lane {w : World} {N n : Nat} {T : TypeId} {v : Value} {xs : List Value} (h : w.ownsRow N T 1 v n xs) : ∃ ad cap, v = .slice ad n cap ∧ n ≤ cap ∧ cap ≤ maxLen ∧ (0 < n → ∃ r, ad = some ⟨r, 0, none⟩ ∧ r < w.heap.size ∧ ∀ (j : Nat) (u : Value), xs[j]? = some u → w.cell? ⟨r, j, none⟩ = some u) := by
  rcases h.2 with ⟨hv, h0⟩ | ⟨g, cap, cur, hv, hB, hh, hnc, hcm, hr⟩
  · exact ⟨none, 0, by rw [hv, h0], by omega, by unfold maxLen; omega, fun hn => by omega⟩
  · refine ⟨_, cap, hv, hnc, hcm, fun hn => ⟨g, rfl, lt_of_blk hh, fun j u hu => ?_⟩⟩
    subst hv
    have := h.cells (g := g) rfl j u hu
    rw [Addr.add_lit, Nat.zero_add] at this
    exact this
section
variable {P : Nat → Prop} {N : Nat} {w : World} {v : Value} {bad : List Int} {ps : List Pkt} {L : List Sg}
theorem nlen_any (h : LaneAt N P w v bad ps L) : Calls Tryz.prog 24 #[v] w fun e w' => e = .returned (.int .i64 (ps.length : Int)) ∧ Below w.heap.size w w' := by
  obtain ⟨F, g, ab, kb, vr, vk, Fb, B, rfl, hM, _⟩ := h
  obtain ⟨ad, cap, rfl, _, _, _⟩ := row_lane hM.row
  have y1 := hM.blk.cell 1 _ rfl
  have hl := hM.len
  rw [hl] at y1
  clear hM hl
  unfold ptrV
  go_enter Tryz.func24, Tryz.ntmps24
  go_wp2
  go_ret
  exact ⟨rfl, Below.refl _ _⟩
theorem nlen_nil (w : World) : Calls Tryz.prog 24 #[.pointer none] w fun e w' => e = .returned (.int .i64 0) ∧ Below w.heap.size w w' := by
  go_enter Tryz.func24, Tryz.ntmps24
  go_wp2
  go_ret
  exact ⟨rfl, Below.refl _ _⟩
/-- Where the packet n stands, of c. -/
def plN (n : Int) (c : Nat) : Nat := (n % (c : Int)).toNat
theorem plN_lt (n : Int) {c : Nat} (hc : 0 < c) : plN n c < c := by
  have h1 := Int.emod_nonneg n (b := (c : Int)) (by omega)
  have h2 := Int.emod_lt_of_pos n (b := (c : Int)) (by omega)
  unfold plN
  omega
theorem plN_neg {n : Int} {c : Nat} (hc : 0 < c) (h : n.tmod c < 0) : n.tmod c + c = (plN n c : Int) := by
  have h1 := Int.emod_nonneg n (b := (c : Int)) (by omega)
  have h2 := Int.tmod_add_mul_tdiv n (c : Int)
  have h3 := Int.emod_add_mul_ediv n (c : Int)
  have h4 := Int.emod_lt_of_pos n (b := (c : Int)) (by omega)
  have h5 : -(c : Int) < n.tmod c := by
    have := Int.lt_tmod_of_pos n (b := (c : Int)) (by omega)
    omega
  have h6 : n.tmod c + c = n % c := by
    have e : (n.tmod c + c) % c = n % c := by
      rw [Int.add_emod_right, ← h2, Int.add_mul_emod_self_left, h2]
    rw [← e, Int.emod_eq_of_lt (by omega) (by omega)]
  unfold plN
  omega
theorem plN_pos {n : Int} {c : Nat} (hc : 0 < c) (h : ¬ n.tmod c < 0) : n.tmod c = (plN n c : Int) := by
  have h1 := Int.emod_nonneg n (b := (c : Int)) (by omega)
  have h2 := Int.tmod_add_mul_tdiv n (c : Int)
  have h5 : n.tmod c < c := Int.tmod_lt_of_pos n (by omega)
  have h6 : n.tmod c = n % c := by
    have e : (n.tmod c) % c = n % c := by
      conv => rhs; rw [← h2, Int.add_mul_emod_self_left]
    rw [← e, Int.emod_eq_of_lt (by omega) (by omega)]
  unfold plN
  omega
theorem nplace_nil (n : Int) (w : World) : Calls Tryz.prog 40 #[.pointer none, .int .i64 n] w fun e w' => e = .returned (.tuple #[.int .i64 0, .bool false]) ∧ Below w.heap.size w w' := by
  go_enter Tryz.func40, Tryz.ntmps40
  go_wp2_with (go_at_call 24; go_must (refine (nlen_nil _).mono ?_; rintro e w1 ⟨rfl, hb⟩; have H1 := hid hb; clear hb))
  go_ret2
  exact ⟨rfl, H1.out⟩
theorem nplace_none (h : LaneAt N P w v bad ps L) (hp : ps.length = 0) (n : Int) : Calls Tryz.prog 40 #[v, .int .i64 n] w fun e w' => e = .returned (.tuple #[.int .i64 0, .bool false]) ∧ Below w.heap.size w w' := by
  have HL := hid (nlen_any h)
  rw [hp] at HL
  clear h hp
  go_enter Tryz.func40, Tryz.ntmps40
  go_wp2_with (go_at_call 24; go_must (refine (HL.out).mono ?_; rintro e w1 ⟨rfl, hb⟩; have H1 := hid hb; clear hb))
  go_ret2
  exact ⟨rfl, H1.out⟩
theorem nplace_any (h : LaneAt N P w v bad ps L) (hp : 0 < ps.length) (n : Int) : Calls Tryz.prog 40 #[v, .int .i64 n] w fun e w' => e = .returned (.tuple #[.int .i64 (plN n ps.length : Int), .bool true]) ∧ Below w.heap.size w w' := by
  have HL := hid (nlen_any h)
  have hmx := h.mx
  have hlt := plN_lt n hp
  have hc0 : ((ps.length : Int) == 0) = false := beq_eq_false_iff_ne.2 (by omega)
  have hc1 : ¬ (ps.length : Int) = 0 := by omega
  clear h
  generalize hc : ps.length = c at *
  by_cases ht : n.tmod c < 0
  · have hr := plN_neg hp ht
    have q1 : decide (n.tmod c < 0) = true := decide_eq_true ht
    have hw : IntKind.i64.wrap ((plN n c : Nat) : Int) = (plN n c : Int) := wrap_l3 (by omega) (by clear q1 hr; omega)
    have hz : wrap64 (n.tmod c + c) = ((plN n c : Nat) : Int) := by rw [hr, ← IntWalk.i64_left]; exact hw
    clear hmx hlt hp hc ht hr hw
    go_enter Tryz.func40, Tryz.ntmps40
    go_wp2_with (go_at_call 24; go_must (refine (HL.out).mono ?_; rintro e w1 ⟨rfl, hb⟩; have H1 := hid hb; clear hb))
    go_ret2
    refine ⟨?_, H1.out⟩
    simp [hz]
  · have hr := plN_pos hp ht
    have q1 : decide (n.tmod c < 0) = false := decide_eq_false ht
    clear hmx hlt hp hc ht
    go_enter Tryz.func40, Tryz.ntmps40
    go_wp2_with (go_at_call 24; go_must (refine (HL.out).mono ?_; rintro e w1 ⟨rfl, hb⟩; have H1 := hid hb; clear hb))
    go_ret2
    exact ⟨rfl, H1.out⟩
end
end Go.Proofs.YthjgnfeadagmeaaGreat

/- The program's lane: one more packet behind the row. -/
namespace Go.Proofs.YthjgnfeadagmeaaGreat
open Go.RowKit

theorem nInfoP : (Tryz.prog.info? 81).map (fun i => (i.zero, i.size, i.bytes)) = some (some (.pointer none), 1, 8) := by kernel_rfl
theorem nUndP : Tryz.prog.underlying 70 = some (.slice 81) := by kernel_rfl
section
variable {F P : Nat → Prop} {N g : Nat} {w w' : World} {ab : Option Addr} {kb : Nat} {v vr vk : Value} {Fb : List Nat} {bad : List Int} {ps : List Pkt} {L : List Sg} {B : List Nat}
theorem LaneM.out {wb w3 w4 : World} {v3 : Value} {b : Nat} {p : Pkt} (h : LaneM F N w g ab kb vr vk Fb bad ps L B) (hb : Below w.heap.size w wb) (hF : w.heap.size ≤ b ∧ b < wb.heap.size) (hp : PkAt (fun k => F k ∨ (w.heap.size ≤ k ∧ k < wb.heap.size)) wb b p) (hm : ps.length < 4096) (hg : wb.grownBy w3 vr.ownBlock) (ho : w3.ownsRow N 81 1 v3 (B.length + 1) (B.map ptrV ++ [ptrV b])) (hv : v3.ownBlock = vr.ownBlock ∨ v3.ownBlock = some wb.heap.size) (h1 : One g w3 w4) (hk : BxAt w4 g (lneV ab kb bad v3 vk) 72) :
    LanePost N (Lfp F g vr Fb) w w4 (ptrV g) bad (ps ++ [p]) L := by
  have hM := (h.keep hb).wide h.le h.lt
  obtain ⟨k1, k2, k3⟩ := hM.grow (.inr hF) hp hm hg ho hv h1 hk
  have hlow : ∀ k, Lfp (fun k => F k ∨ (w.heap.size ≤ k ∧ k < wb.heap.size)) g vr Fb k → Lfp F g vr Fb k ∨ w.heap.size ≤ k := by
    rintro k (hk | hk | hk | hk | hk)
    · exact .inl (.inl hk)
    · exact .inl (.inr (.inl hk))
    · exact .inl (.inr (.inr (.inl hk)))
    · exact .inl (.inr (.inr (.inr hk)))
    · exact .inr hk.1
  refine ⟨_, ⟨_, g, ab, kb, v3, vk, Fb, _, rfl, k1, fun k => Iff.rfl⟩, (Outs.ofB hb).trans k2 (fun j hj hq => ?_), fun k hq => ?_⟩
  · rcases hlow j hq with hq | hq
    · exact hq
    · omega
  · rcases k3 k hq with hq | hq
    · exact hlow k hq
    · exact .inr (Nat.le_trans hb.size hq)
set_option maxRecDepth 100000 in
set_option maxHeartbeats 3200000 in
theorem nadd_any (h : LaneM F N w g ab kb vr vk Fb bad ps L B) (fr to : Int) (m : Ms) (a13 a14 a15 a16 : Option Addr) (c13 c14 c15 c16 : Nat) (hL : MsL F w m (.slice a13 m.nx.length c13) (.slice a14 m.sg.length c14) (.slice a15 m.cg.length c15) (.slice a16 m.ln.length c16)) :
    Calls Tryz.prog 35 #[.pointer (some ⟨g, 0, none⟩), .agg (pkC fr to m (.slice a13 m.nx.length c13) (.slice a14 m.sg.length c14) (.slice a15 m.cg.length c15) (.slice a16 m.ln.length c16)).toArray] w fun e w' => (ps.length < 4096 → e = .returned (.bool true) ∧ LanePost N (Lfp F g vr Fb) w w' (ptrV g) bad (ps ++ [(fr, to, m)]) L) ∧ (¬ ps.length < 4096 → e = .returned (.bool false) ∧ Below w.heap.size w w') := by
  obtain ⟨wa, ea⟩ : ∃ wa, wa = w.alloc (.cells (pkC fr to m (.slice a13 m.nx.length c13) (.slice a14 m.sg.length c14) (.slice a15 m.cg.length c15) (.slice a16 m.ln.length c16)).toArray 50) := ⟨_, rfl⟩
  have hb : Below w.heap.size w wa := by rw [ea]; exact (Below.refl _ _).alloc (Nat.le_refl _) _
  have hx : BxAt wa w.heap.size (pkC fr to m (.slice a13 m.nx.length c13) (.slice a14 m.sg.length c14) (.slice a15 m.cg.length c15) (.slice a16 m.ln.length c16)) 50 := by rw [ea]; exact heap_alloc_last w _
  have hsa : wa.heap.size = w.heap.size + 1 := by rw [ea]; simp
  obtain ⟨A, eA⟩ : ∃ A, A = pkC fr to m (.slice a13 m.nx.length c13) (.slice a14 m.sg.length c14) (.slice a15 m.cg.length c15) (.slice a16 m.ln.length c16) := ⟨_, rfl⟩
  rw [← eA] at ea ⊢
  have HA := hid ea.symm
  have hrow := h.row
  rw [h.len] at hrow
  obtain ⟨ad, cap, rfl, hcap, hcm, _⟩ := row_lane hrow
  clear hrow
  have y1 := (h.blk.keep hb).cell 1 _ rfl
  have HM := hid h
  by_cases hm : ps.length < 4096
  · have q1 : decide ((ps.length : Int) ≥ 4096) = false := decide_eq_false (by omega)
    obtain ⟨i0, hi0, hz0, hz1, hz2⟩ := info_parts nInfoP
    obtain ⟨wb, eb⟩ : ∃ wb, wb = wa.alloc (.cells #[.pointer (some ⟨w.heap.size, 0, none⟩)] 81) := ⟨_, rfl⟩
    have hbb : Below wa.heap.size wa wb := by rw [eb]; exact (Below.refl _ _).alloc (Nat.le_refl _) _
    have hsb : wb.heap.size = w.heap.size + 2 := by rw [eb]; simp [hsa]
    have hc1 : wb.cell? ⟨wa.heap.size, 0, none⟩ = some (ptrV w.heap.size) := by
      have h9 : BxAt wb wa.heap.size [ptrV w.heap.size] 81 := by rw [eb]; exact heap_alloc_last wa _
      exact h9.cell 0 _ rfl
    have HB := hid eb.symm
    have H0 : Hid (Below w.heap.size w wb ∧ BxAt wb w.heap.size (pkC fr to m (.slice a13 m.nx.length c13) (.slice a14 m.sg.length c14) (.slice a15 m.cg.length c15) (.slice a16 m.ln.length c16)) 50 ∧ MsL F w m (.slice a13 m.nx.length c13) (.slice a14 m.sg.length c14) (.slice a15 m.cg.length c15) (.slice a16 m.ln.length c16) ∧ wb.heap.size = w.heap.size + 2 ∧ ps.length < 4096 ∧ wb.cell? ⟨wa.heap.size, 0, none⟩ = some (ptrV w.heap.size)) := hid ⟨hb.trans (hbb.mono hb.size), hx.keep hbb, hL, hsb, hm, hc1⟩
    have HS := hid (show wa.heap.size = w.heap.size + 1 from hsa)
    have HR : Hid (wb.ownsRow N 81 1 (.slice ad ps.length cap) ps.length (B.map ptrV)) := hid (by have h9 := (h.keep (hb.trans (hbb.mono hb.size))).row; rw [h.len] at h9; exact h9)
    clear hb hx hsa eA hL h hbb hsb hc1 ea eb hm hcap hcm
    go_enter Tryz.func35, Tryz.ntmps35
    go_upto_region 1 with fail
    rw [HA.out]
    go_upto_region 3 with fail
    go_wp2_with (first
      | (have := H3; refine wl_stone rfl 70 _ _ rfl g 1 rfl (.slice a3 (ps.length + 1) k3) rfl rfl rfl (lneV ab kb bad (.slice ad ps.length cap) vk) 72 H3.out.2.2.2 (by simp [lneV]) (by kernel_rfl) ?_; go_must (intro w4 Hz; have H4 := Hz; clear Hz))
      | (at_builtin; rw [HB.out]; refine wpList_plain rfl (fun K hK => ?_); refine owp_append_at _ _ 70 rfl N 81 i0 (.pointer none) 1 8 nUndP hi0 hz0 hz1 hz2 rfl (by decide) (.slice ad ps.length cap) ps.length (B.map ptrV) rfl (by exact HR.out) ⟨wa.heap.size, 0, none⟩ 1 1 [ptrV w.heap.size] rfl rfl (fun j u hj => by
            match j, hj with
            | 0, hj => cases hj; exact H0.out.2.2.2.2.2
            | j + 1, hj => cases hj) (by simp [ptrV, Value.oneCell']) (by have := H0.out.2.2.2.2.1; unfold maxLen; omega) (by have := H0.out.2.2.2.2.1; omega) (Nat.le_trans HM.out.le H0.out.1.size) (fun v3 w3 hown hgrow hv => ?_); obtain ⟨a3, k3, rfl, _, _, _⟩ := row_lane hown; refine hK _ _ ?_; have H3 : Hid (w3.ownsRow N 81 1 (.slice a3 (ps.length + 1) k3) (ps.length + 1) (B.map ptrV ++ [ptrV w.heap.size]) ∧ wb.grownBy w3 (Value.slice ad ps.length cap).ownBlock ∧ ((Value.slice a3 (ps.length + 1) k3).ownBlock = (Value.slice ad ps.length cap).ownBlock ∨ (Value.slice a3 (ps.length + 1) k3).ownBlock = some wb.heap.size) ∧ BxAt w3 g (lneV ab kb bad (.slice ad ps.length cap) vk) 72) := hid ⟨hown, hgrow, hv, (hgrow.block g (Nat.lt_of_lt_of_le (lt_of_blk HM.out.blk) H0.out.1.size) (fun e => HM.out.gr e.symm)).trans (HM.out.blk.keep H0.out.1)⟩; clear hown hgrow hv))
    go_ret
    refine ⟨fun _ => ⟨rfl, ?_⟩, fun hn => absurd H0.out.2.2.2.2.1 hn⟩
    obtain ⟨k1, k2, k3', k4, k5, k6⟩ := H0.out
    exact HM.out.out (b := w.heap.size) (p := (fr, to, m)) k1 ⟨Nat.le_refl _, by omega⟩ ⟨_, _, _, _, _, _, _, _, k2, (k3'.under k1).mono2 (fun k _ hk => .inl hk)⟩ k5 H3.out.2.1 (by rw [HM.out.len]; exact H3.out.1) H3.out.2.2.1 H4.out.2 H4.out.1
  · have q1 : decide ((ps.length : Int) ≥ 4096) = true := decide_eq_true (by omega)
    have HF := hid (And.intro hm hb)
    clear hb hx hsa eA hL h ea hm hcap hcm
    go_enter Tryz.func35, Tryz.ntmps35
    go_upto_region 1 with fail
    rw [HA.out]
    go_wp2
    go_ret
    exact ⟨fun h => absurd h HF.out.1, fun _ => ⟨rfl, HF.out.2⟩⟩
end
end Go.Proofs.YthjgnfeadagmeaaGreat

/- slices.Delete of a row of pointers: the library's own text walked. -/
namespace Go.Proofs.YthjgnfeadagmeaaGreat
open Go.RowKit Go.Lib Go.Sort Go.Shelf

def encP : Option Nat → Value
  | none => .pointer none
  | some b => ptrV b
set_option maxHeartbeats 4000000 in
set_option maxRecDepth 1000000 in
theorem ndel_arr (blk off cap i j : Nat) (d : Array (Option Nat)) (w : World) (hH : Sort.Holds encP w blk off d) (hcap : d.size ≤ cap) (hm : cap ≤ 9223372036854775807) (hlt : i < j) (hj : j ≤ d.size) :
    Calls Tryz.prog 41 #[.slice (some ⟨blk, off, none⟩) d.size cap, .int .i64 i, .int .i64 j] w fun e w' => e = .returned (.slice (some ⟨blk, off, none⟩) (d.size - (j - i)) cap) ∧ ∃ q, w' = putRow encP (Sort.ahead w q) blk off (d.toList.take i ++ d.toList.drop j ++ List.replicate (j - i) none).toArray := by
  obtain ⟨i0, hi0, hz0, hz1, hz2⟩ := info_parts nInfoP
  have t22 := nUndP
  have mixed : Tryz.prog.follows .mixedOrders = true := by kernel_rfl
  have hij : i ≤ j := by omega
  -- the cells that are moved to the left
  obtain ⟨news, hnews⟩ : ∃ news, news = (d.toList.drop j).map encP := ⟨_, rfl⟩
  have hlen : news.length = d.size - j := by rw [hnews]; simp
  have hget : ∀ t, t < d.size - j → news[t]? = some (encP d[j + t]!) := by
    intro t ht
    rw [hnews, List.getElem?_map, List.getElem?_drop, Array.getElem?_toList, getElem!_pos d (j + t) (by omega), Array.getElem?_eq_getElem (by omega)]
    rfl
  obtain ⟨A, hA, hsrc⟩ : ∃ A : Addr, (if cap = j then some (⟨blk, off, none⟩ : Addr) else some ⟨blk, off + j, none⟩) = some A ∧ Hid (∀ t u, news[t]? = some u → w.drew.cell? (A.add t) = some u) := by
    by_cases h : cap = j
    · refine ⟨⟨blk, off, none⟩, by simp [h], fun t u hu => ?_⟩
      have h0 : news.length = 0 := by rw [hlen]; omega
      rw [List.length_eq_zero_iff.1 h0] at hu
      simp at hu
    · refine ⟨⟨blk, off + j, none⟩, by simp [h], fun t u hu => ?_⟩
      have ht : t < d.size - j := by
        have := (List.getElem?_eq_some_iff.1 hu).1
        rwa [hlen] at this
      rw [hget t ht] at hu
      rw [Addr.add_lit, show off + j + t = off + (j + t) by omega]
      exact (hH (j + t) (by omega)).1.trans hu
  have s1 : Hid (news.length = (d.size - j) * 1) := by rw [Nat.mul_one]; exact hlen
  have s2 : Hid (∀ u ∈ news, u.oneCell' = true) := by
    intro u hu
    rw [hnews] at hu
    obtain ⟨x, _, rfl⟩ := List.mem_map.1 hu
    cases x <;> rfl
  have s3 : Hid (∀ t, t < news.length → (w.drew.cell? ⟨blk, off + i * 1 + t, none⟩).isSome = true ∧ w.drew.frozen? ⟨blk, off + i * 1 + t, none⟩ = false) := by
    intro t ht
    rw [hlen] at ht
    rw [Nat.mul_one, Nat.add_assoc]
    exact ⟨by show (w.cell? _).isSome = true; rw [(hH (i + t) (by omega)).1]; rfl, (hH (i + t) (by omega)).2⟩
  -- the world behind the append, behind a name
  obtain ⟨W1, hW1⟩ : ∃ W1, W1 = w.drew.setCells blk (off + i * 1) news := ⟨_, rfl⟩
  have hW1' : W1 = putRow encP (Sort.ahead w 1) blk off (lay d i (d.toList.drop j)) := by
    rw [hW1, hnews, Nat.mul_one, ← putRow_setCells encP (Sort.ahead w 1) blk off _ d i (by simp; omega), putRow_self encP (Sort.ahead w 1) blk off d (holds_ahead encP w 1 blk off d hH)]
    rfl
  have hH1 : Sort.Holds encP W1 blk off (lay d i (d.toList.drop j)) := by rw [hW1']; exact holds_putRow encP _ blk off d _ (holds_ahead encP w 1 blk off d hH) (lay_size _ _ _)
  have hcl : ∀ ty, (Builtin.clear_ #[70] ty #[.slice (some ⟨blk, off + (i + (d.size - j)), none⟩) (d.size - (i + (d.size - j))) (cap - (i + (d.size - j)))]).run Tryz.prog W1 = .ok (.tuple #[]) (W1.setCells blk (off + (i + (d.size - j))) (List.replicate (d.size - (i + (d.size - j))) (encP none))) :=
    fun ty => Lib.run_clear_slice W1 _ _ ty _ t22 Tryz.zeroValue81 rfl rfl blk (off + (i + (d.size - j))) _ _ (by omega) (fun t ht => by rw [show off + (i + (d.size - j)) + t = off + (i + (d.size - j) + t) by omega, (hH1 _ (by rw [lay_size]; omega)).1]; rfl) (fun t ht => by rw [show off + (i + (d.size - j)) + t = off + (i + (d.size - j) + t) by omega]; exact (hH1 _ (by rw [lay_size]; omega)).2)
  have X : Aside (W1 = putRow encP (Sort.ahead w 1) blk off (lay d i (d.toList.drop j))) := hW1'
  have hW : Hid (W1 = w.drew.setCells blk (off + i * 1) news) := hW1
  have hic : i ≤ cap := by omega
  have hjc : j ≤ cap := by omega
  clear hW1 hW1' hH1 hH hget hnews hlen
  go_enter Tryz.func41, Tryz.ntmps41
  go_wp2_with fail
  go_region_law_o (refine step_append_room rfl (.tmp 22) (.tmp 25) 70 rfl 81 i0 1 t22 hi0 hz1 blk off i cap (by simp [Act.eval, Act.put]) A (d.size - j) (cap - j) news (by simp [Act.eval, Act.put]) s1.out hsrc.out s2.out (by omega) s3.out ?_; rw [← hW.out])
  go_wp2
  go_ret
  refine ⟨by rw [show d.size - (j - i) = i + (d.size - j) by omega]; rfl, 1, ?_⟩
  rw [← delete_arr d i j none hij hj, ← putRow_setCells encP _ blk off _ _ (i + (d.size - j)) (by rw [lay_size]; simp; omega), ← X.out, List.map_replicate, show d.size - (i + (d.size - j)) = j - i by omega]
end Go.Proofs.YthjgnfeadagmeaaGreat

/- The program's lane: a packet is taken. -/
namespace Go.Proofs.YthjgnfeadagmeaaGreat
open Go.RowKit

/-- A list without its p-th. -/
def rmv {α : Type} (l : List α) (p : Nat) : List α := l.take p ++ l.drop (p + 1)
theorem rmv_len {α : Type} {l : List α} {p : Nat} (hp : p < l.length) : (rmv l p).length = l.length - 1 := by
  rw [rmv, List.length_append, List.length_take, List.length_drop]
  omega
theorem rmv_get {α : Type} {l : List α} {p : Nat} (hp : p < l.length) (i : Nat) : (rmv l p)[i]? = l[if i < p then i else i + 1]? := by
  have ht : (l.take p).length = p := by rw [List.length_take]; omega
  unfold rmv
  split
  · rename_i h
    rw [List.getElem?_append_left (by omega), List.getElem?_take_of_lt h]
  · rename_i h
    rw [List.getElem?_append_right (by omega), ht, List.getElem?_drop]
    congr 1
    omega
theorem ndel_row {N r n cap p : Nat} {B : List Nat} {w : World} (hown : w.ownsRow N 81 1 (.slice (some ⟨r, 0, none⟩) n cap) n (B.map ptrV)) (hp : p < n) :
    Calls Tryz.prog 41 #[.slice (some ⟨r, 0, none⟩) n cap, .int .i64 (p : Int), .int .i64 ((p : Int) + 1)] w fun e w' => e = .returned (.slice (some ⟨r, 0, none⟩) (n - 1) cap) ∧ w'.ownsRow N 81 1 (.slice (some ⟨r, 0, none⟩) (n - 1) cap) (n - 1) ((rmv B p).map ptrV) ∧ One r w w' := by
  obtain ⟨hl, h2⟩ := hown
  have hBn : B.length = n := by simpa using hl
  rcases h2 with ⟨hv, _⟩ | ⟨g, c, cur, hv, hN, hh, hnc, hcm, hcs, ht⟩
  · cases hv
  cases hv
  rw [Nat.mul_one] at ht hcs
  have hcell : ∀ j b, B[j]? = some b → w.cell? ⟨r, j, none⟩ = some (ptrV b) := fun j b hb => by
    refine cell_at (L := cur.toList) (by simpa using hh) j _ ?_
    have h9 : (cur.toList.take n)[j]? = some (ptrV b) := by rw [ht, List.getElem?_map, hb]; rfl
    have hj : j < n := by rw [← hBn]; exact (List.getElem?_eq_some_iff.1 hb).1
    rw [List.getElem?_take_of_lt hj] at h9
    exact h9
  have hH : Go.Sort.Holds encP w r 0 (B.map some).toArray := fun j hj => by
    have hj' : j < B.length := by simpa using hj
    refine ⟨?_, free_at hh _⟩
    rw [Nat.zero_add, hcell j _ (List.getElem?_eq_getElem hj')]
    simp [hj', encP]
  have h := ndel_arr r 0 cap p (p + 1) (B.map some).toArray w hH (by simp [hBn]; omega) (by unfold maxLen at hcm; omega) (Nat.lt_succ_self p) (by simp [hBn]; omega)
  rw [show (B.map some).toArray.size = n by simp [hBn]] at h
  refine h.mono ?_
  rintro e w' ⟨rfl, q, rfl⟩
  have hps : p + 1 - p = 1 := by omega
  rw [hps]
  have hnew : ((B.map some).toArray.toList.take p ++ (B.map some).toArray.toList.drop (p + 1) ++ List.replicate 1 none).length = (B.map some).toArray.size := by simp [hBn]; omega
  rw [Lib.putRow_eq_setCells encP w r 0 (B.map some).toArray _ q hH hnew]
  have hcl : cur.toList.length = cap := by simpa using hcs
  have hw0 : (w.drewN q).heap[r]? = some (.cells cur.toList.toArray 81 (0, 0)) := by simpa using hh
  have hvl : (((B.map some).toArray.toList.take p ++ (B.map some).toArray.toList.drop (p + 1) ++ List.replicate 1 none).map encP).length = n := by rw [List.length_map, hnew]; simp [hBn]
  have k1 := sets_blk (((B.map some).toArray.toList.take p ++ (B.map some).toArray.toList.drop (p + 1) ++ List.replicate 1 none).map encP) 0 (w.drewN q) _ hw0 (by rw [hvl, hcl]; omega)
  rw [hvl, Nat.zero_add, List.take_zero, List.nil_append] at k1
  have hone := one_cells r (((B.map some).toArray.toList.take p ++ (B.map some).toArray.toList.drop (p + 1) ++ List.replicate 1 none).map encP) 0 (w.drewN q)
  have hmap : ((B.map some).toArray.toList.take p ++ (B.map some).toArray.toList.drop (p + 1) ++ List.replicate 1 none).map encP = (rmv B p).map ptrV ++ [.pointer none] := by
    unfold rmv
    simp [encP, Function.comp_def]
  rw [hmap] at k1 hone hvl ⊢
  have hrl : ((rmv B p).map ptrV).length = n - 1 := by rw [List.length_map, rmv_len (by omega), hBn]
  refine ⟨rfl, ⟨by rw [hrl]; omega, .inr ⟨r, cap, _, rfl, hN, k1, by omega, hcm, ?_, ?_⟩⟩, ⟨hone.os, hone.tape, hone.output, hone.size, hone.block⟩⟩
  · simp only [List.size_toArray, List.length_append, List.length_drop, hrl, hcl, List.length_singleton]
    omega
  · rw [Nat.mul_one, List.append_assoc, List.take_append_of_le_length (by rw [hrl]; omega), List.take_of_length_le (by rw [hrl]; omega)]
section
variable {F P : Nat → Prop} {N g : Nat} {w w' : World} {ab : Option Addr} {kb : Nat} {v vr vk : Value} {Fb : List Nat} {bad : List Int} {ps : List Pkt} {L : List Sg} {B : List Nat}
theorem LaneM.cut {w2 w3 : World} {r cap : Nat} (h : LaneM F N w g ab kb (.slice (some ⟨r, 0, none⟩) ps.length cap) vk Fb bad ps L B) (p : Nat) (hp : p < ps.length) (ho : w2.ownsRow N 81 1 (.slice (some ⟨r, 0, none⟩) (ps.length - 1) cap) (ps.length - 1) ((rmv B p).map ptrV)) (h1 : One r w w2) (h2 : One g w2 w3) (hk : BxAt w3 g (lneV ab kb bad (.slice (some ⟨r, 0, none⟩) (ps.length - 1) cap) vk) 72) :
    LaneM F N w3 g ab kb (.slice (some ⟨r, 0, none⟩) (ps.length - 1) cap) vk Fb bad (rmv ps p) L (rmv B p) ∧ Outs (Lfp F g (.slice (some ⟨r, 0, none⟩) ps.length cap) Fb) w w3 := by
  have hrg : r ≠ g := fun e => h.gr (by rw [← e]; rfl)
  have hblk : ∀ k, k ≠ r → k ≠ g → w3.heap[k]? = w.heap[k]? := fun k a b => (h2.block k b).trans (h1.block k a)
  have hs3 : w.heap.size ≤ w3.heap.size := by rw [h2.size, h1.size]; exact Nat.le_refl _
  have hF : ∀ k, F k → w3.heap[k]? = w.heap[k]? := fun k hk => hblk k (fun e => h.rF r rfl (e ▸ hk)) (fun e => h.gF (e ▸ hk))
  have hpB : p < B.length := by rw [h.len]; exact hp
  refine ⟨⟨hk, h.bd.keep hs3 (fun k _ hk => hF k hk), ?_, by rw [rmv_len hp, rmv_len hpB, h.len], fun i b q hb hq => ?_, h.bk.keep hs3 (fun k hb => hblk k (fun e => h.rb r rfl (e ▸ hb)) (fun e => h.gb (e ▸ hb))), h.gN, h.FN, h.bN, Nat.le_trans h.le hs3, h.gF, h.gb, h.gr, h.rF, h.rb, h.Fb, fun k hF => Nat.lt_of_lt_of_le (h.Fl k hF) hs3, by rw [rmv_len hp]; have := h.mx; omega⟩, ⟨h2.os.trans h1.os, h2.tape.trans h1.tape, h2.output.trans h1.output, hs3, fun k _ hn => hblk k (fun e => hn (.inr (.inl (by rw [e]; rfl)))) (fun e => hn (.inl e))⟩⟩
  · rw [rmv_len hpB, h.len]
    refine own_rowN ho (fun k hk1 => h2.block k (fun e => ?_))
    cases hk1
    exact hrg e
  · rw [rmv_get hpB] at hb
    rw [rmv_get hp] at hq
    obtain ⟨h3, h4⟩ := h.pk _ b q hb hq
    exact ⟨h3, h4.keep h3 hs3 (fun k _ hk => hF k hk)⟩
end
end Go.Proofs.YthjgnfeadagmeaaGreat

/- The program's text of a request, of a result; are two requests the same. -/
namespace Go.Proofs.YthjgnfeadagmeaaGreat
open Go.RowKit

set_option maxRecDepth 100000 in
set_option maxHeartbeats 6400000 in
theorem dtext_any (r : Rq) (hb : r.b < 18446744073709551616) (w : World) : Calls Tryz.prog 145 #[.agg #[.int .i64 r.c, .int .i64 r.st, .int .i64 r.k, .string r.key, .float .f64 r.b, .int .i64 r.id]] w fun e' w' => e' = .returned (.tuple #[.string (rqT r), .int .i64 (rqE r)]) ∧ Below w.heap.size w w' := by
  have H0 : Hid (RqAt (w.alloc (.cells #[.int .i64 r.c, .int .i64 r.st, .int .i64 r.k, .string r.key, .float .f64 r.b, .int .i64 r.id] 41)) w.heap.size r ∧ Below w.heap.size w (w.alloc (.cells #[.int .i64 r.c, .int .i64 r.st, .int .i64 r.k, .string r.key, .float .f64 r.b, .int .i64 r.id] 41))) := hid ⟨heap_alloc_last w _, (Below.refl w.heap.size w).alloc (Nat.le_refl _) _⟩
  have HN : Hid (∀ X, nullB r = X → ∀ u, Calls Tryz.prog 134 #[.agg #[.int .i64 r.c, .int .i64 r.st, .int .i64 r.k, .string r.key, .float .f64 r.b, .int .i64 r.id]] u fun e w' => e = .returned (.bool X) ∧ Below u.heap.size u w') := hid (fun X hX u => by rw [← hX]; exact dnull_any r u)
  have HR : Hid (∀ X, rightB r = X → ∀ u, Calls Tryz.prog 102 #[.agg #[.int .i64 r.c, .int .i64 r.st, .int .i64 r.k, .string r.key, .float .f64 r.b, .int .i64 r.id]] u fun e w' => e = .returned (.bool X) ∧ Below u.heap.size u w') := hid (fun X hX u => by rw [← hX]; exact dright_any r u)
  cases hN : nullB r with
  | true =>
    rw [show rqT r = ⟨#[0]⟩ by rw [rqT, if_pos hN], show rqE r = 0 by rw [rqE, if_pos hN]]
    have HNb := hid (HN.out _ hN)
    clear hN hb
    go_enter Tryz.func145, Tryz.ntmps145
    go_wp2_with (go_at_call 134; refine (HNb.out _).mono ?_; rintro e w1 ⟨rfl, hb1⟩; have H1 := hid (And.intro (H0.out.1.keep hb1) (H0.out.2.trans (hb1.mono H0.out.2.size))); clear hb1; obtain ⟨⟨z0, z1⟩, z2, z3, z4, z5⟩ := H1.out.1.cells)
    go_ret2
    exact ⟨rfl, H1.out.2⟩
  | false =>
    have HNb := hid (HN.out _ hN)
    cases hR : rightB r with
    | false =>
      rw [show rqT r = ⟨#[]⟩ by rw [rqT, hN, hR]; rfl, show rqE r = 1 by rw [rqE, hN, hR]; rfl]
      have HRb := hid (HR.out _ hR)
      clear hN hR hb
      go_enter Tryz.func145, Tryz.ntmps145
      go_wp2_with (first
        | (go_at_call 134; refine (HNb.out _).mono ?_; rintro e w1 ⟨rfl, hb1⟩; have H1 := hid (And.intro (H0.out.1.keep hb1) (H0.out.2.trans (hb1.mono H0.out.2.size))); clear hb1; obtain ⟨⟨z0, z1⟩, z2, z3, z4, z5⟩ := H1.out.1.cells)
        | (go_at_call 102; refine (HRb.out _).mono ?_; rintro e w2 ⟨rfl, hb2⟩; have H2 := hid (And.intro (H1.out.1.keep hb2) (H1.out.2.trans (hb2.mono H1.out.2.size))); clear hb2 z0 z1 z2 z3 z4 z5; obtain ⟨⟨z0, z1⟩, z2, z3, z4, z5⟩ := H2.out.1.cells))
      go_ret2
      exact ⟨rfl, H2.out.2⟩
    | true =>
      rw [show rqT r = ⟨(rqL r).toArray⟩ by rw [rqT, hN, hR]; rfl, show rqE r = 0 by rw [rqE, hN, hR]; rfl]
      have HRb := hid (HR.out _ hR)
      obtain ⟨⟨c1, c2⟩, ⟨s1, s2⟩, ⟨k1, k2⟩, hk, i1, i2⟩ := right_fields hR
      have HZ := hid (And.intro hk (canW_lt hb))
      obtain ⟨C, eC⟩ : ∃ C : Nat, r.c = (C : Int) := ⟨r.c.toNat, by omega⟩
      obtain ⟨S, eS⟩ : ∃ S : Nat, r.st = (S : Int) := ⟨r.st.toNat, by omega⟩
      obtain ⟨N, eN⟩ : ∃ N : Nat, r.k = (N : Int) := ⟨r.k.toNat, by omega⟩
      obtain ⟨I, eI⟩ : ∃ I : Nat, r.id = (I : Int) := ⟨r.id.toNat, by omega⟩
      have HF : Hid ((C < 256 ∧ S < 4294967296 ∧ N < 256 ∧ I < 256) ∧ rqL r = be 1 1 ++ (be 1 C ++ (be 4 S ++ (be 1 N ++ (be 2 r.key.size ++ (r.key.data.toList ++ (be 8 (canW r.b) ++ be 1 I))))))) := hid ⟨by omega, by rw [rqL, eC, eS, eN, eI]; rfl⟩
      clear c1 c2 s1 s2 k1 k2 hk i1 i2 hN hR hb
      obtain ⟨c, st, k, key, b, id⟩ := r
      simp only at eC eS eN eI HF HZ H0 HN HR HNb HRb ⊢
      subst eC eS eN eI
      have HKB : Hid (∀ u, Calls Tryz.prog 135 #[.float .f64 b] u fun e w' => e = .returned (.int .u64 (canW b : Nat)) ∧ w' = u) := hid (fun u => bits_any b u)
      generalize canW b = W8 at HF HZ HKB
      go_enter Tryz.func145, Tryz.ntmps145
      go_wp2_with (first
        | (go_at_call 134; refine (HNb.out _).mono ?_; rintro e w1 ⟨rfl, hb1⟩; have H1 := hid (And.intro (H0.out.1.keep hb1) (H0.out.2.trans (hb1.mono H0.out.2.size))); clear hb1; obtain ⟨⟨z0, z1⟩, z2, z3, z4, z5⟩ := H1.out.1.cells)
        | (go_at_call 102; refine (HRb.out _).mono ?_; rintro e w2 ⟨rfl, hb2⟩; have H2 := hid (And.intro (H1.out.1.keep hb2) (H1.out.2.trans (hb2.mono H1.out.2.size))); clear hb2 z0 z1 z2 z3 z4 z5; obtain ⟨⟨z0, z1⟩, z2, z3, z4, z5⟩ := H2.out.1.cells)
        | (go_at_call 66; refine (pwnew 34 (by decide) _).mono ?_; rintro e w3 ⟨rfl, h3⟩; have T0 := hid h3; clear h3; have HQT0 : Hid (RqAt w3 w.heap.size ⟨C, S, N, key, b, I⟩) := hid (((T0.out.2).block _ (lt_of_blk H2.out.1)).trans H2.out.1); (try clear z0 z1 z2 z3 z4 z5); obtain ⟨⟨z0, z1⟩, z2, z3, z4, z5⟩ := HQT0.out.cells)
        | (go_at_call 114; have := T6; refine (pwbyte 34 (by decide) (by decide) _ _ _ ([] ++ be 1 1 ++ be 1 C ++ be 4 S ++ be 1 N ++ (be 2 key.size ++ key.data.toList) ++ be 8 W8) I (by have := HF.out.1.2.2.2; omega) (by have := HZ.out.1; simp only [List.length_append, List.length_nil, be_len]; (try rw [data_len]); omega) (by exact T6.out)).mono ?_; rintro e v6 ⟨rfl, h6⟩; have T7 := hid h6; clear h6; have HQT7 : Hid (RqAt v6 w.heap.size ⟨C, S, N, key, b, I⟩) := hid (((T7.out.2).block _ (lt_of_blk H2.out.1)).trans H2.out.1); (try clear z0 z1 z2 z3 z4 z5); obtain ⟨⟨z0, z1⟩, z2, z3, z4, z5⟩ := HQT7.out.cells)
        | (go_at_call 143; have := T5; refine (pwbits 34 (by decide) (by decide) _ _ _ ([] ++ be 1 1 ++ be 1 C ++ be 4 S ++ be 1 N ++ (be 2 key.size ++ key.data.toList)) W8 HZ.out.2 (by have := HZ.out.1; simp only [List.length_append, List.length_nil, be_len]; (try rw [data_len]); omega) (by exact T5.out)).mono ?_; rintro e v5 ⟨rfl, h5⟩; have T6 := hid h5; clear h5; have HQT6 : Hid (RqAt v5 w.heap.size ⟨C, S, N, key, b, I⟩) := hid (((T6.out.2).block _ (lt_of_blk H2.out.1)).trans H2.out.1); (try clear z0 z1 z2 z3 z4 z5); obtain ⟨⟨z0, z1⟩, z2, z3, z4, z5⟩ := HQT6.out.cells)
        | (go_at_call 117; have := T4; refine (pwtext 34 (by decide) (by decide) _ _ _ ([] ++ be 1 1 ++ be 1 C ++ be 4 S ++ be 1 N) key (by have := HZ.out.1; omega) (by have := HZ.out.1; simp only [List.length_append, List.length_nil, be_len]; (try rw [data_len]); omega) (by exact T4.out)).mono ?_; rintro e v4 ⟨rfl, h4⟩; have T5 := hid h4; clear h4; have HQT5 : Hid (RqAt v4 w.heap.size ⟨C, S, N, key, b, I⟩) := hid (((T5.out.2).block _ (lt_of_blk H2.out.1)).trans H2.out.1); (try clear z0 z1 z2 z3 z4 z5); obtain ⟨⟨z0, z1⟩, z2, z3, z4, z5⟩ := HQT5.out.cells)
        | (go_at_call 114; have := T3; refine (pwbyte 34 (by decide) (by decide) _ _ _ ([] ++ be 1 1 ++ be 1 C ++ be 4 S) N (by have := HF.out.1.2.2.1; omega) (by have := HZ.out.1; simp only [List.length_append, List.length_nil, be_len]; (try rw [data_len]); omega) (by exact T3.out)).mono ?_; rintro e v3 ⟨rfl, h3⟩; have T4 := hid h3; clear h3; have HQT4 : Hid (RqAt v3 w.heap.size ⟨C, S, N, key, b, I⟩) := hid (((T4.out.2).block _ (lt_of_blk H2.out.1)).trans H2.out.1); (try clear z0 z1 z2 z3 z4 z5); obtain ⟨⟨z0, z1⟩, z2, z3, z4, z5⟩ := HQT4.out.cells)
        | (go_at_call 157; have := T2; refine (pwlong 34 (by decide) (by decide) _ _ _ ([] ++ be 1 1 ++ be 1 C) S (by have := HF.out.1.2.1; omega) (by have := HZ.out.1; simp only [List.length_append, List.length_nil, be_len]; (try rw [data_len]); omega) (by exact T2.out)).mono ?_; rintro e v2 ⟨rfl, h2⟩; have T3 := hid h2; clear h2; have HQT3 : Hid (RqAt v2 w.heap.size ⟨C, S, N, key, b, I⟩) := hid (((T3.out.2).block _ (lt_of_blk H2.out.1)).trans H2.out.1); (try clear z0 z1 z2 z3 z4 z5); obtain ⟨⟨z0, z1⟩, z2, z3, z4, z5⟩ := HQT3.out.cells)
        | (go_at_call 114; have := T1; refine (pwbyte 34 (by decide) (by decide) _ _ _ ([] ++ be 1 1) C (by have := HF.out.1.1; omega) (by have := HZ.out.1; simp only [List.length_append, List.length_nil, be_len]; (try rw [data_len]); omega) (by exact T1.out)).mono ?_; rintro e v1 ⟨rfl, h1⟩; have T2 := hid h1; clear h1; have HQT2 : Hid (RqAt v1 w.heap.size ⟨C, S, N, key, b, I⟩) := hid (((T2.out.2).block _ (lt_of_blk H2.out.1)).trans H2.out.1); (try clear z0 z1 z2 z3 z4 z5); obtain ⟨⟨z0, z1⟩, z2, z3, z4, z5⟩ := HQT2.out.cells)
        | (go_at_call 114; have := T0; refine (pwbyte 34 (by decide) (by decide) _ _ _ [] 1 (by decide) (by decide) (by exact T0.out)).mono ?_; rintro e v0 ⟨rfl, h0⟩; have T1 := hid h0; clear h0; have HQT1 : Hid (RqAt v0 w.heap.size ⟨C, S, N, key, b, I⟩) := hid (((T1.out.2).block _ (lt_of_blk H2.out.1)).trans H2.out.1); (try clear z0 z1 z2 z3 z4 z5); obtain ⟨⟨z0, z1⟩, z2, z3, z4, z5⟩ := HQT1.out.cells)
        | (go_at_call 135; refine (HKB.out _).mono ?_; rintro e w9 ⟨rfl, rfl⟩)
        | (go_at_call 68; refine (pwdone 34 _ _ _ _ (by exact T7.out)).mono ?_; rintro e wd ⟨rfl, hd⟩; have HDn := hid (H2.out.2.trans (hd.mono H2.out.2.size)); clear hd))
      go_ret2
      refine ⟨?_, HDn.out⟩
      rw [HF.out.2]
      rfl
set_option maxRecDepth 100000 in
set_option maxHeartbeats 6400000 in
theorem dresultText_any (c : Int) (f : Nat) (hf : f < 18446744073709551616) (w : World) : Calls Tryz.prog 113 #[.agg #[.int .i64 c, .float .f64 f]] w fun e' w' => e' = .returned (.tuple #[.string (rsT c f), .int .i64 (rsE c)]) ∧ Below w.heap.size w w' := by
  have H0 : Hid (RsAt (w.alloc (.cells #[.int .i64 c, .float .f64 f] 43)) w.heap.size c f ∧ Below w.heap.size w (w.alloc (.cells #[.int .i64 c, .float .f64 f] 43))) := hid ⟨heap_alloc_last w _, (Below.refl w.heap.size w).alloc (Nat.le_refl _) _⟩
  have HR : Hid (∀ X, rsB c = X → ∀ u, Calls Tryz.prog 142 #[.agg #[.int .i64 c, .float .f64 f]] u fun e w' => e = .returned (.bool X) ∧ Below u.heap.size u w') := hid (fun X hX u => by rw [← hX]; exact dresult_any c f u)
  cases hR : rsB c with
  | false =>
    rw [show rsT c f = ⟨#[]⟩ by rw [rsT, hR]; rfl, show rsE c = 1 by rw [rsE, hR]; rfl]
    have HRb := hid (HR.out _ hR)
    clear hR hf
    go_enter Tryz.func113, Tryz.ntmps113
    go_wp2_with (go_at_call 142; refine (HRb.out _).mono ?_; rintro e w1 ⟨rfl, hb1⟩; have H1 := hid (H0.out.2.trans (hb1.mono H0.out.2.size)); clear hb1)
    go_ret2
    exact ⟨rfl, H1.out⟩
  | true =>
    have HRb := hid (HR.out _ hR)
    rw [show rsE c = 0 by rw [rsE, hR]; rfl]
    have hc : 0 ≤ c ∧ c ≤ 8 := by simpa [rsB] using hR
    obtain ⟨C, rfl⟩ : ∃ C : Nat, c = (C : Int) := ⟨c.toNat, by omega⟩
    have HT : Hid (rsT (C : Int) f = ⟨([] ++ be 1 C ++ be 8 (canW f)).toArray⟩) := hid (by rw [rsT, hR]; rfl)
    rw [HT.out]
    have HZ := hid (And.intro (show C < 256 by omega) (canW_lt hf))
    have HKB : Hid (∀ u, Calls Tryz.prog 135 #[.float .f64 f] u fun e w' => e = .returned (.int .u64 (canW f : Nat)) ∧ w' = u) := hid (fun u => bits_any f u)
    clear hR hc hf HT
    generalize canW f = W8 at HZ HKB ⊢
    go_enter Tryz.func113, Tryz.ntmps113
    go_wp2_with (first
      | (go_at_call 142; refine (HRb.out _).mono ?_; rintro e w1 ⟨rfl, hb1⟩; have H1 := hid (And.intro (H0.out.1.keep hb1) (H0.out.2.trans (hb1.mono H0.out.2.size))); clear hb1; obtain ⟨z0, z1⟩ := H1.out.1.cells)
      | (go_at_call 66; refine (pwnew 9 (by decide) _).mono ?_; rintro e w3 ⟨rfl, h3⟩; have T0 := hid h3; clear h3; have HQ0 : Hid (RsAt w3 w.heap.size (C : Int) f) := hid ((T0.out.2.block _ (lt_of_blk H1.out.1)).trans H1.out.1); clear z0 z1; obtain ⟨z0, z1⟩ := HQ0.out.cells)
      | (go_at_call 143; refine (pwbits 9 (by decide) (by decide) _ _ _ ([] ++ be 1 C) W8 HZ.out.2 (by simp only [List.length_append, List.length_nil, be_len]; decide) (by exact T1.out)).mono ?_; rintro e w5 ⟨rfl, h5⟩; have T2 := hid h5; clear h5)
      | (go_at_call 114; refine (pwbyte 9 (by decide) (by decide) _ _ _ [] C HZ.out.1 (by decide) (by exact T0.out)).mono ?_; rintro e w4 ⟨rfl, h4⟩; have T1 := hid h4; clear h4; have HQ1 : Hid (RsAt w4 w.heap.size (C : Int) f) := hid ((T1.out.2.block _ (lt_of_blk H1.out.1)).trans H1.out.1); clear z0 z1; obtain ⟨z0, z1⟩ := HQ1.out.cells)
      | (go_at_call 135; refine (HKB.out _).mono ?_; rintro e w9 ⟨rfl, rfl⟩)
      | (go_at_call 68; refine (pwdone 9 _ _ _ _ (by exact T2.out)).mono ?_; rintro e wd ⟨rfl, hd⟩; have HDn := hid (H1.out.2.trans (hd.mono H1.out.2.size)); clear hd))
    go_ret2
    exact ⟨rfl, HDn.out⟩
end Go.Proofs.YthjgnfeadagmeaaGreat

/- What the program reads any bytes as: a request, a result. -/
namespace Go.Proofs.YthjgnfeadagmeaaGreat
open Go.RowKit

theorem rq_c {w : World} {b : Nat} {r : Rq} (h : RqAt w b r) (v : Int) : RqAt (w.setCell ⟨b, 0, none⟩ (.int .i64 v)) b { r with c := v } := (blk_set h 0 _).trans (by simp)
end Go.Proofs.YthjgnfeadagmeaaGreat

/- The program's texts of what is signed: of what is prepared, of a state. -/
namespace Go.Proofs.YthjgnfeadagmeaaGreat
open Go.RowKit

/-- Are all numbers Longs? Their bytes, one behind the other. -/
def sgB (l : List Int) : Bool := l.all (inR 4 ·)
def sgL (l : List Int) : List UInt8 := l.flatMap (fun x => be 4 x.toNat)
def sgT (m : Nat) (l : List Int) (x : ByteArray) : ByteArray := if sgB l then ⟨(be 1 m ++ sgL l).toArray⟩ ++ x else ⟨#[]⟩
def sgE (l : List Int) : Int := if sgB l then 0 else 1
theorem sg_get {l : List Int} {j : Nat} (h : j < l.length) : l[j]? = some (l.getD j 0) := by simp [h]
theorem sgL_snoc (l : List Int) (j : Nat) (hj : j < l.length) : sgL (l.take (j + 1)) = sgL (l.take j) ++ be 4 (l.getD j 0).toNat := by
  rw [List.take_add_one, sg_get hj, sgL, List.flatMap_append]
  simp [sgL]
theorem sgB_snoc (l : List Int) (j : Nat) (hj : j < l.length) : sgB (l.take (j + 1)) = (sgB (l.take j) && inR 4 (l.getD j 0)) := by
  rw [List.take_add_one, sg_get hj, sgB, List.all_append]
  simp [sgB]
theorem sgB_at {l : List Int} (h : sgB l = true) (j : Nat) (hj : j < l.length) : inR 4 (l.getD j 0) = true := by
  rw [sgB, List.all_eq_true] at h
  exact h _ (List.mem_of_getElem? (sg_get hj))
theorem sgL_len (l : List Int) : (sgL l).length = 4 * l.length := by
  induction l with
  | nil => rfl
  | cons x l ih =>
    rw [sgL, List.flatMap_cons, List.length_append, be_len, List.length_cons]
    rw [sgL] at ih
    omega
theorem wl_len (lim : Int) (l : List UInt8) (er n : Int) : (wL lim l er 4 n).length ≤ l.length + 4 := by
  rw [wL]
  split
  · rw [List.length_append, be_len]
    omega
  · omega
theorem we_er (lim : Int) (l : List UInt8) (er n : Int) (h : er ≠ 0 ∨ inR 4 n = false) : wE lim l er 4 n ≠ 0 := by
  rw [wE]
  unfold adm
  split
  · next h1 =>
    rcases h with h | h
    · exact absurd h1 h
    · rw [h]
      simp
  · next h1 => exact h1
theorem ints_new (w : World) (l : List Int) (t : TypeId) : IntsIn (w.alloc (.cells (l.map (Value.int .i64)).toArray t)) (some ⟨w.heap.size, 0, none⟩) l :=
  .inr ⟨w.heap.size, 0, rfl, by simp, fun j z hz => by
    rw [Nat.zero_add]
    exact cell_at (heap_alloc_last w _) j _ (by rw [List.getElem?_map, hz]; rfl)⟩
theorem sg_three (e v s : Int) : sgB [e, v, s] = spB e v s := by simp [sgB, spB, Bool.and_assoc]
end Go.Proofs.YthjgnfeadagmeaaGreat

/- Which text holds the contracts of deeds: here the trial's (DtA). For landed code: change this import. -/

/- The program's small tests of a message's parts. -/
namespace Go.Proofs.YthjgnfeadagmeaaGreat
open Go.RowKit

set_option maxRecDepth 100000 in
theorem iwithin_any (n a b : Int) (w : World) : Calls Tryz.prog 100 #[.int .i64 n, .int .i64 a, .int .i64 b] w fun e w' => e = .returned (.bool (inB n a b)) ∧ w' = w := by
  unfold inB
  by_cases h1 : a ≤ n
  · rw [decide_eq_true h1]
    by_cases h2 : n ≤ b
    · rw [decide_eq_true h2]
      go_enter Tryz.func100, Tryz.ntmps100
      go_wp2
      go_ret
      exact ⟨by simp, rfl⟩
    · rw [decide_eq_false h2]
      go_enter Tryz.func100, Tryz.ntmps100
      go_wp2
      go_ret
      exact ⟨by simp <;> omega, rfl⟩
  · rw [decide_eq_false h1]
    have hd : decide (a ≤ n) = false := decide_eq_false h1
    go_enter Tryz.func100, Tryz.ntmps100
    go_wp2
    go_ret
    exact ⟨by simp, rfl⟩
set_option maxRecDepth 100000 in
theorem ikind_any (n : Int) (w : World) : Calls Tryz.prog 64 #[.int .i64 n] w fun e w' => e = .returned (.bool (inB n 1 10)) ∧ w' = w := by
  unfold inB
  by_cases h1 : 1 ≤ n
  · rw [decide_eq_true h1]
    by_cases h2 : n ≤ 10
    · rw [decide_eq_true h2]
      go_enter Tryz.func64, Tryz.ntmps64
      go_wp2
      go_ret
      exact ⟨by simp, rfl⟩
    · rw [decide_eq_false h2]
      go_enter Tryz.func64, Tryz.ntmps64
      go_wp2
      go_ret
      exact ⟨by simp <;> omega, rfl⟩
  · rw [decide_eq_false h1]
    have hd : decide (1 ≤ n) = false := decide_eq_false h1
    go_enter Tryz.func64, Tryz.ntmps64
    go_wp2
    go_ret
    exact ⟨by simp, rfl⟩
set_option maxRecDepth 100000 in
theorem iend_any (e : Int) (h0 : -1 ≤ e) (h1 : e ≤ 60) (w : World) : Calls Tryz.prog 107 #[.int .i64 e] w fun r w' => r = .returned (.int .i64 (4 * (e + 1))) ∧ w' = w := by
  go_enter Tryz.func107, Tryz.ntmps107
  go_wp2
  go_ret
  exact ⟨rfl, rfl⟩
set_option maxRecDepth 100000 in
theorem iview_any (v : Int) (w : World) : Calls Tryz.prog 137 #[.int .i64 v] w fun r w' => r = .returned (.bool (inB v 0 15)) ∧ w' = w := by
  go_enter Tryz.func137, Tryz.ntmps137
  go_wp2_with (go_at_call 100; refine (iwithin_any _ _ _ _).mono ?_; rintro e w1 ⟨rfl, hw⟩; replace hw := hw.symm; subst hw)
  go_ret
  exact ⟨rfl, rfl⟩
set_option maxRecDepth 100000 in
set_option maxHeartbeats 1600000 in
theorem iof_any (e s : Int) (h0 : 0 ≤ e) (h1 : e ≤ 60) (w : World) : Calls Tryz.prog 138 #[.int .i64 e, .int .i64 s] w fun r w' => r = .returned (.bool (ofB e s)) ∧ w' = w := by
  unfold ofB
  have HA : Hid (∀ u : World, Calls Tryz.prog 107 #[.int .i64 (e - 1)] u fun r w' => r = .returned (.int .i64 (4 * e)) ∧ w' = u) := hid (fun u => by have := iend_any (e - 1) (by omega) (by omega) u; rw [show e - 1 + 1 = e by omega] at this; exact this)
  have HB : Hid (∀ u : World, Calls Tryz.prog 107 #[.int .i64 e] u fun r w' => r = .returned (.int .i64 (4 * (e + 1))) ∧ w' = u) := hid (fun u => iend_any e (by omega) h1 u)
  by_cases h2 : 4 * e < s
  · rw [decide_eq_true h2]
    go_enter Tryz.func138, Tryz.ntmps138
    go_wp2_with (first
      | (have := H1; go_at_call 107; refine (HB.out _).mono ?_; rintro e w2 ⟨rfl, hw⟩; replace hw := hw.symm; subst hw)
      | (go_at_call 107; refine (HA.out _).mono ?_; rintro e w1 ⟨rfl, hw⟩; replace hw := hw.symm; subst hw; have H1 := hid trivial))
    go_ret
    exact ⟨by simp, rfl⟩
  · rw [decide_eq_false h2]
    have hd : decide (4 * e < s) = false := decide_eq_false h2
    go_enter Tryz.func138, Tryz.ntmps138
    go_wp2_with (first
      | (go_at_call 107; refine (HA.out _).mono ?_; rintro e w1 ⟨rfl, hw⟩; replace hw := hw.symm; subst hw; have H1 := hid trivial))
    go_ret
    exact ⟨by simp, rfl⟩
set_option maxRecDepth 100000 in
theorem isig_any (p : Sg) (w : World) : Calls Tryz.prog 141 #[.agg #[.int .i64 p.1, .string p.2]] w fun r w' => r = .returned (.bool (sigB p)) ∧ Below w.heap.size w w' := by
  go_enter Tryz.func141, Tryz.ntmps141
  go_wp2_with (go_at_call 100; refine (iwithin_any _ _ _ _).mono ?_; rintro e w1 ⟨rfl, hw⟩; replace hw := hw.symm; subst hw)
  go_ret
  exact ⟨rfl, (Below.refl w.heap.size w).alloc (Nat.le_refl _) _⟩
set_option maxRecDepth 100000 in
set_option maxHeartbeats 1600000 in
theorem ideed_any (r : Rq) (w : World) : Calls Tryz.prog 105 #[.agg #[.int .i64 r.c, .int .i64 r.st, .int .i64 r.k, .string r.key, .float .f64 r.b, .int .i64 r.id]] w fun e w' => e = .returned (.bool (askB r)) ∧ Below w.heap.size w w' := by
  have H0 : Hid (RqAt (w.alloc (.cells #[.int .i64 r.c, .int .i64 r.st, .int .i64 r.k, .string r.key, .float .f64 r.b, .int .i64 r.id] 41)) w.heap.size r ∧ Below w.heap.size w (w.alloc (.cells #[.int .i64 r.c, .int .i64 r.st, .int .i64 r.k, .string r.key, .float .f64 r.b, .int .i64 r.id] 41))) := hid ⟨heap_alloc_last w _, (Below.refl w.heap.size w).alloc (Nat.le_refl _) _⟩
  obtain ⟨⟨y0, y1⟩, y2, y3, y4, y5⟩ := H0.out.1.cells
  have HR : Hid (∀ u : World, Calls Tryz.prog 102 #[.agg #[.int .i64 r.c, .int .i64 r.st, .int .i64 r.k, .string r.key, .float .f64 r.b, .int .i64 r.id]] u fun e w' => e = .returned (.bool (rightB r)) ∧ Below u.heap.size u w') := hid (fun u => dright_any r u)
  have HN : Hid (∀ u : World, Calls Tryz.prog 134 #[.agg #[.int .i64 r.c, .int .i64 r.st, .int .i64 r.k, .string r.key, .float .f64 r.b, .int .i64 r.id]] u fun e w' => e = .returned (.bool (nullB r)) ∧ Below u.heap.size u w') := hid (fun u => dnull_any r u)
  rw [askB]
  cases hr : rightB r with
  | true =>
    rw [hr] at HR
    clear hr
    go_enter Tryz.func105, Tryz.ntmps105
    go_wp2_with (first
      | (go_at_call 102; refine (HR.out _).mono ?_; rintro e w1 ⟨rfl, hb⟩; have H1 := hid (H0.out.2.trans (hb.mono H0.out.2.size)); clear hb))
    go_ret
    exact ⟨by simp, H1.out⟩
  | false =>
    rw [hr] at HR
    clear hr
    go_enter Tryz.func105, Tryz.ntmps105
    go_wp2_with (first
      | (go_at_call 134; refine (HN.out _).mono ?_; rintro e w2 ⟨rfl, hb⟩; have H2 := hid (H1.out.2.trans (hb.mono H1.out.2.size)); clear hb)
      | (go_at_call 102; refine (HR.out _).mono ?_; rintro e w1 ⟨rfl, hb⟩; have H1 := hid (And.intro (H0.out.1.keep hb) (H0.out.2.trans (hb.mono H0.out.2.size))); clear hb y0 y1 y2 y3 y4 y5; obtain ⟨⟨y0, y1⟩, y2, y3, y4, y5⟩ := H1.out.1.cells))
    go_ret
    exact ⟨by simp, H2.out⟩
set_option maxRecDepth 100000 in
theorem iaskers_any (r : Rq) (w : World) : Calls Tryz.prog 106 #[.agg #[.int .i64 r.c, .int .i64 r.st, .int .i64 r.k, .string r.key, .float .f64 r.b, .int .i64 r.id]] w fun e w' => e = .returned (.int .i64 ((if nullB r then 0 else 1 : Nat) : Int)) ∧ Below w.heap.size w w' := by
  have H0 : Hid (RqAt (w.alloc (.cells #[.int .i64 r.c, .int .i64 r.st, .int .i64 r.k, .string r.key, .float .f64 r.b, .int .i64 r.id] 41)) w.heap.size r ∧ Below w.heap.size w (w.alloc (.cells #[.int .i64 r.c, .int .i64 r.st, .int .i64 r.k, .string r.key, .float .f64 r.b, .int .i64 r.id] 41))) := hid ⟨heap_alloc_last w _, (Below.refl w.heap.size w).alloc (Nat.le_refl _) _⟩
  obtain ⟨⟨y0, y1⟩, y2, y3, y4, y5⟩ := H0.out.1.cells
  have HN : Hid (∀ u : World, Calls Tryz.prog 134 #[.agg #[.int .i64 r.c, .int .i64 r.st, .int .i64 r.k, .string r.key, .float .f64 r.b, .int .i64 r.id]] u fun e w' => e = .returned (.bool (nullB r)) ∧ Below u.heap.size u w') := hid (fun u => dnull_any r u)
  cases hr : nullB r with
  | true =>
    rw [hr] at HN
    clear hr
    go_enter Tryz.func106, Tryz.ntmps106
    go_wp2_with (go_at_call 134; refine (HN.out _).mono ?_; rintro e w1 ⟨rfl, hb⟩; have H1 := hid (H0.out.2.trans (hb.mono H0.out.2.size)); clear hb)
    go_ret
    exact ⟨rfl, H1.out⟩
  | false =>
    rw [hr] at HN
    clear hr
    go_enter Tryz.func106, Tryz.ntmps106
    go_wp2_with (go_at_call 134; refine (HN.out _).mono ?_; rintro e w1 ⟨rfl, hb⟩; have H1 := hid (H0.out.2.trans (hb.mono H0.out.2.size)); clear hb)
    go_ret
    exact ⟨rfl, H1.out⟩
set_option maxRecDepth 100000 in
theorem imembers_any (a : Option Addr) (n cap : Nat) (l : List Int) (hn : l.length = n) (hm : n ≤ maxLen) (w : World) (hI : IntsIn w a l) : Calls Tryz.prog 108 #[.slice a n cap] w fun e w' => e = .returned (.bool (memB l)) ∧ Below w.heap.size w w' := by
  have HC : Hid (Calls Tryz.prog 139 #[.agg #[.int .i64 0, .slice a n cap]] w fun e w' => e = .returned (.bool (memB l)) ∧ Below w.heap.size w w') := hid (by
    have := cright_any 0 a n cap l hn hm w hI
    rw [show rightC 0 l = memB l by simp [rightC]] at this
    exact this)
  clear hn hm hI
  go_enter Tryz.func108, Tryz.ntmps108
  go_wp2_with (go_at_call 139; refine (HC.out).mono ?_; rintro e w1 ⟨rfl, hb⟩; have H1 := hid hb; clear hb)
  go_ret
  exact ⟨rfl, H1.out⟩
set_option maxRecDepth 100000 in
theorem iresult_any (c : Int) (f : Nat) (hf : f < 18446744073709551616) (w : World) : Calls Tryz.prog 110 #[.agg #[.int .i64 c, .float .f64 f]] w fun e w' => e = .returned (.bool (rsB c)) ∧ Below w.heap.size w w' := by
  have H0 : Hid (RsAt (w.alloc (.cells #[.int .i64 c, .float .f64 f] 43)) w.heap.size c f ∧ Below w.heap.size w (w.alloc (.cells #[.int .i64 c, .float .f64 f] 43))) := hid ⟨heap_alloc_last w _, (Below.refl w.heap.size w).alloc (Nat.le_refl _) _⟩
  obtain ⟨y0, y1⟩ := H0.out.1.cells
  have HT : Hid (∀ u : World, Calls Tryz.prog 113 #[.agg #[.int .i64 c, .float .f64 f]] u fun e w' => e = .returned (.tuple #[.string (rsT c f), .int .i64 (rsE c)]) ∧ Below u.heap.size u w') := hid (fun u => dresultText_any c f hf u)
  clear hf
  cases hr : rsB c with
  | true =>
    rw [show rsE c = 0 by rw [rsE, hr]; rfl] at HT
    clear hr
    go_enter Tryz.func110, Tryz.ntmps110
    go_wp2_with (go_at_call 113; refine (HT.out _).mono ?_; rintro e w1 ⟨rfl, hb⟩; have H1 := hid (H0.out.2.trans (hb.mono H0.out.2.size)); clear hb)
    go_ret
    exact ⟨by simp, H1.out⟩
  | false =>
    rw [show rsE c = 1 by rw [rsE, hr]; rfl] at HT
    clear hr
    go_enter Tryz.func110, Tryz.ntmps110
    go_wp2_with (go_at_call 113; refine (HT.out _).mono ?_; rintro e w1 ⟨rfl, hb⟩; have H1 := hid (H0.out.2.trans (hb.mono H0.out.2.size)); clear hb)
    go_ret
    exact ⟨by simp, H1.out⟩
end Go.Proofs.YthjgnfeadagmeaaGreat

/- The program's tests of signatures. -/
namespace Go.Proofs.YthjgnfeadagmeaaGreat
open Go.RowKit

set_option maxRecDepth 100000 in
set_option maxHeartbeats 3200000 in
theorem ifitSigs_any (a : Option Addr) (n cap : Nat) (l : List Sg) (hn : l.length = n) (hm : n ≤ maxLen) (w : World) (hP : PairsIn w a l) : Calls Tryz.prog 112 #[.slice a n cap] w fun e w' => e = .returned (.bool (sigsB l)) ∧ Below w.heap.size w w' := by
  obtain ⟨V, eV⟩ : ∃ V, V = sigsB l := ⟨_, rfl⟩
  rw [← eV]
  have hmi : (n : Int) ≤ 9223372036854775807 := by unfold maxLen at hm; omega
  by_cases h16 : 16 < n
  · have h16i : (16 : Int) < (n : Int) := by omega
    have hf : V = false := by rw [eV, sigsB, decide_eq_false (by omega)]; rfl
    subst hf
    clear eV hP hn hm h16
    go_enter Tryz.func112, Tryz.ntmps112
    go_wp2
    go_ret
    exact ⟨rfl, Below.refl _ _⟩
  · have h16i : ¬ ((16 : Int) < (n : Int)) := by omega
    have HV : Hid (V = allTo (fun i => sigB (l.getD i sg0)) n) := hid (by rw [eV, sigsB, decide_eq_true (by omega), hn]; rfl)
    have HP := hid hP
    have HN := hid hn
    have HL : Hid (n ≤ 16) := hid (by omega)
    clear eV hP hn hm h16
    go_enter Tryz.func112, Tryz.ntmps112
    go_wp2
    go_loopw [10] (fun i wr => ∃ j : Nat, j ≤ n ∧ i = .int .i64 (j : Int) ∧ allTo (fun i => sigB (l.getD i sg0)) j = true ∧ Below w.heap.size w wr)
      (fun i _ => ((n : Int) - intOf i).toNat)
    case atStart => exact ⟨0, Nat.zero_le _, rfl, rfl, Below.refl _ _⟩
    case round =>
      obtain ⟨j, hj, rfl, hok, hB⟩ := hrel
      have HB := hid hB
      have HOk := hid hok
      clear hok hB
      have hj0 : (0 : Int) ≤ (j : Int) := Int.natCast_nonneg _
      by_cases hjn : j = n
      · have hj1 : ¬ ((j : Int) < (n : Int)) := by omega
        have hv : Hid (V = true) := hid (by rw [HV.out, ← hjn]; exact HOk.out)
        clear hj hjn
        go_wp2
        go_ret
        exact ⟨by rw [hv.out]; rfl, HB.out⟩
      · have hj1 : (j : Int) < (n : Int) := by omega
        have hjl : j < l.length := by have := HN.out; omega
        obtain ⟨g, off, rfl, hc1, hc2⟩ : ∃ g off, a = some ⟨g, off, none⟩ ∧ wr.cell? ⟨g, off + j * 2, none⟩ = some (.int .i64 (l.getD j sg0).1) ∧ wr.cell? ⟨g, off + j * 2 + 1, none⟩ = some (.string (l.getD j sg0).2) := by
          rcases HP.out with e | ⟨g, off, ha, hg, hc⟩
          · rw [e] at hjl; simp at hjl
          · have hx : l[j]? = some (l.getD j sg0) := by simp [hjl]
            obtain ⟨k1, k2⟩ := hc j _ hx
            exact ⟨g, off, ha, (World.cell?_of_block (a := ⟨g, off + j * 2, none⟩) (HB.out.block g hg)).trans k1, (World.cell?_of_block (a := ⟨g, off + j * 2 + 1, none⟩) (HB.out.block g hg)).trans k2⟩
        have HJ := hid (And.intro hj hjn)
        have HS : Hid (∀ u : World, Calls Tryz.prog 141 #[.agg #[.int .i64 (l.getD j sg0).1, .string (l.getD j sg0).2]] u fun r w' => r = .returned (.bool (sigB (l.getD j sg0))) ∧ Below u.heap.size u w') := hid (fun u => isig_any (l.getD j sg0) u)
        have HFa : Hid (sigB (l.getD j sg0) = false → V = false) := hid (fun e => by rw [HV.out]; exact allTo_no j (by omega) e)
        have HTr : Hid (sigB (l.getD j sg0) = true → allTo (fun i => sigB (l.getD i sg0)) (j + 1) = true) := hid (fun e => by rw [allTo, HOk.out, e]; rfl)
        generalize l.getD j sg0 = p at hc1 hc2 HS HFa HTr
        clear hj hjn hjl
        cases hp : sigB p with
        | true =>
          rw [hp] at HS
          have HT := hid (HTr.out hp)
          clear hp
          go_wp2_with (go_at_call 141; refine (HS.out _).mono ?_; rintro e w2 ⟨rfl, hb⟩; have H2 := hid ((HB.out.alloc (HB.out.size) (.cells #[.int .i64 p.1, .string p.2] 87)).trans (hb.mono (by have := HB.out.size; simp; omega))); clear hb)
          go_roundw
          case rel => exact ⟨j + 1, by have := HJ.out; omega, by go_num, HT.out, H2.out⟩
          case measure => simp [intOf]; omega
        | false =>
          rw [hp] at HS
          have hf := hid (HFa.out hp)
          clear hp
          go_wp2_with (go_at_call 141; refine (HS.out _).mono ?_; rintro e w2 ⟨rfl, hb⟩; have H2 := hid ((HB.out.alloc (HB.out.size) (.cells #[.int .i64 p.1, .string p.2] 87)).trans (hb.mono (by have := HB.out.size; simp; omega))); clear hb)
          go_ret
          exact ⟨by rw [hf.out]; rfl, H2.out⟩
set_option maxRecDepth 100000 in
theorem iareSigs_any (a : Option Addr) (n cap : Nat) (l : List Sg) (hn : l.length = n) (hm : n ≤ maxLen) (k : Nat) (w : World) (hP : PairsIn w a l) : Calls Tryz.prog 103 #[.slice a n cap, .int .i64 (k : Int)] w fun e w' => e = .returned (.bool (oneB l k)) ∧ Below w.heap.size w w' := by
  have HF : Hid (Calls Tryz.prog 112 #[.slice a n cap] w fun e w' => e = .returned (.bool (sigsB l)) ∧ Below w.heap.size w w') := hid (ifitSigs_any a n cap l hn hm w hP)
  rw [oneB, hn]
  clear hm hP
  by_cases h : n = k
  · have hb : ((n : Int) == (k : Int)) = true := by rw [h]; simp
    have hi : (n : Int) = (k : Int) := by omega
    rw [decide_eq_true h, Bool.true_and]
    clear h
    go_enter Tryz.func103, Tryz.ntmps103
    go_wp2_with (go_at_call 112; refine (HF.out).mono ?_; rintro e w1 ⟨rfl, hb⟩; have H1 := hid hb; clear hb)
    go_ret
    exact ⟨rfl, H1.out⟩
  · have hi : ¬ ((n : Int) = (k : Int)) := by omega
    have hb : ((n : Int) == (k : Int)) = false := by simpa using hi
    have hd : decide (n = k) = false := decide_eq_false h
    rw [decide_eq_false h, Bool.false_and]
    go_enter Tryz.func103, Tryz.ntmps103
    go_wp2
    go_ret
    exact ⟨by simp, Below.refl _ _⟩
end Go.Proofs.YthjgnfeadagmeaaGreat

/- The program's tests of certificates and changes. -/
namespace Go.Proofs.YthjgnfeadagmeaaGreat
open Go.RowKit

set_option maxRecDepth 100000 in
set_option maxHeartbeats 3200000 in
theorem icert_any (ep : Int) (h0 : 0 ≤ ep) (h1 : ep ≤ 60) (c : Ct) (a : Option Addr) (n cap : Nat) (hn : c.2.2.2.length = n) (hm : n ≤ maxLen) (w : World) (hP : PairsIn w a c.2.2.2) :
    Calls Tryz.prog 170 #[.int .i64 ep, .agg #[.int .i64 c.1, .int .i64 c.2.1, .int .i64 c.2.2.1.c, .int .i64 c.2.2.1.st, .int .i64 c.2.2.1.k, .string c.2.2.1.key, .float .f64 c.2.2.1.b, .int .i64 c.2.2.1.id, .slice a n cap]] w fun e w' => e = .returned (.bool (ctB ep c)) ∧ Below w.heap.size w w' := by
  have H0 : Hid (BxAt (w.alloc (.cells #[.int .i64 c.1, .int .i64 c.2.1, .int .i64 c.2.2.1.c, .int .i64 c.2.2.1.st, .int .i64 c.2.2.1.k, .string c.2.2.1.key, .float .f64 c.2.2.1.b, .int .i64 c.2.2.1.id, .slice a n cap] 92)) w.heap.size [.int .i64 c.1, .int .i64 c.2.1, .int .i64 c.2.2.1.c, .int .i64 c.2.2.1.st, .int .i64 c.2.2.1.k, .string c.2.2.1.key, .float .f64 c.2.2.1.b, .int .i64 c.2.2.1.id, .slice a n cap] 92 ∧ Below w.heap.size w (w.alloc (.cells #[.int .i64 c.1, .int .i64 c.2.1, .int .i64 c.2.2.1.c, .int .i64 c.2.2.1.st, .int .i64 c.2.2.1.k, .string c.2.2.1.key, .float .f64 c.2.2.1.b, .int .i64 c.2.2.1.id, .slice a n cap] 92))) := hid ⟨heap_alloc_last w _, (Below.refl w.heap.size w).alloc (Nat.le_refl _) _⟩
  have y0 := H0.out.1.cell 0 _ rfl; have y1 := H0.out.1.cell 1 _ rfl; have y2 := H0.out.1.cell 2 _ rfl; have y3 := H0.out.1.cell 3 _ rfl; have y4 := H0.out.1.cell 4 _ rfl; have y5 := H0.out.1.cell 5 _ rfl; have y6 := H0.out.1.cell 6 _ rfl; have y7 := H0.out.1.cell 7 _ rfl; have y8 := H0.out.1.cell 8 _ rfl
  obtain ⟨B1, e1⟩ : ∃ B, B = inB c.1 0 15 := ⟨_, rfl⟩
  have HT1 : Hid (∀ u : World, Below w.heap.size w u → Calls Tryz.prog 137 #[.int .i64 c.1] u fun e w' => e = .returned (.bool B1) ∧ Below u.heap.size u w') := hid (fun u hu => by rw [e1]; exact (iview_any _ u).mono fun e w' ⟨h1, h2⟩ => ⟨h1, by rw [h2]; exact Below.refl _ _⟩)
  obtain ⟨B2, e2⟩ : ∃ B, B = ofB ep c.2.1 := ⟨_, rfl⟩
  have HT2 : Hid (∀ u : World, Below w.heap.size w u → Calls Tryz.prog 138 #[.int .i64 ep, .int .i64 c.2.1] u fun e w' => e = .returned (.bool B2) ∧ Below u.heap.size u w') := hid (fun u hu => by rw [e2]; exact (iof_any ep _ h0 h1 u).mono fun e w' ⟨h1, h2⟩ => ⟨h1, by rw [h2]; exact Below.refl _ _⟩)
  obtain ⟨B3, e3⟩ : ∃ B, B = askB c.2.2.1 := ⟨_, rfl⟩
  have HT3 : Hid (∀ u : World, Below w.heap.size w u → Calls Tryz.prog 105 #[.agg #[.int .i64 c.2.2.1.c, .int .i64 c.2.2.1.st, .int .i64 c.2.2.1.k, .string c.2.2.1.key, .float .f64 c.2.2.1.b, .int .i64 c.2.2.1.id]] u fun e w' => e = .returned (.bool B3) ∧ Below u.heap.size u w') := hid (fun u hu => by rw [e3]; exact ideed_any _ u)
  obtain ⟨B4, e4⟩ : ∃ B, B = sigsB c.2.2.2 := ⟨_, rfl⟩
  have HT4 : Hid (∀ u : World, Below w.heap.size w u → Calls Tryz.prog 112 #[.slice a n cap] u fun e w' => e = .returned (.bool B4) ∧ Below u.heap.size u w') := hid (fun u hu => by rw [e4]; exact ifitSigs_any a n cap _ hn hm u (hP.keep hu (Nat.le_refl _)))
  rw [show ctB ep c = ((B1 && B2) && (B3 && B4)) by rw [e1, e2, e3, e4]; rfl]
  clear e1 e2 e3 e4 hP hn hm h0 h1
  cases B1 with
  | false =>
    go_enter Tryz.func170, Tryz.ntmps170
    go_wp2_with (first
      | (have := H0; go_at_call 137; refine (HT1.out _ H0.out.2).mono ?_; rintro e w1 ⟨rfl, hb⟩; have H1 := hid (And.intro (H0.out.1.keep hb) (H0.out.2.trans (hb.mono H0.out.2.size))); clear hb y0 y1 y2 y3 y4 y5 y6 y7 y8; have y0 := H1.out.1.cell 0 _ rfl; have y1 := H1.out.1.cell 1 _ rfl; have y2 := H1.out.1.cell 2 _ rfl; have y3 := H1.out.1.cell 3 _ rfl; have y4 := H1.out.1.cell 4 _ rfl; have y5 := H1.out.1.cell 5 _ rfl; have y6 := H1.out.1.cell 6 _ rfl; have y7 := H1.out.1.cell 7 _ rfl; have y8 := H1.out.1.cell 8 _ rfl))
    go_ret
    exact ⟨by simp, H1.out.2⟩
  | true =>
    cases B2 with
    | false =>
      go_enter Tryz.func170, Tryz.ntmps170
      go_wp2_with (first
        | (have := H1; go_at_call 138; refine (HT2.out _ H1.out.2).mono ?_; rintro e w2 ⟨rfl, hb⟩; have H2 := hid (And.intro (H1.out.1.keep hb) (H1.out.2.trans (hb.mono H1.out.2.size))); clear hb y0 y1 y2 y3 y4 y5 y6 y7 y8; have y0 := H2.out.1.cell 0 _ rfl; have y1 := H2.out.1.cell 1 _ rfl; have y2 := H2.out.1.cell 2 _ rfl; have y3 := H2.out.1.cell 3 _ rfl; have y4 := H2.out.1.cell 4 _ rfl; have y5 := H2.out.1.cell 5 _ rfl; have y6 := H2.out.1.cell 6 _ rfl; have y7 := H2.out.1.cell 7 _ rfl; have y8 := H2.out.1.cell 8 _ rfl)
        | (have := H0; go_at_call 137; refine (HT1.out _ H0.out.2).mono ?_; rintro e w1 ⟨rfl, hb⟩; have H1 := hid (And.intro (H0.out.1.keep hb) (H0.out.2.trans (hb.mono H0.out.2.size))); clear hb y0 y1 y2 y3 y4 y5 y6 y7 y8; have y0 := H1.out.1.cell 0 _ rfl; have y1 := H1.out.1.cell 1 _ rfl; have y2 := H1.out.1.cell 2 _ rfl; have y3 := H1.out.1.cell 3 _ rfl; have y4 := H1.out.1.cell 4 _ rfl; have y5 := H1.out.1.cell 5 _ rfl; have y6 := H1.out.1.cell 6 _ rfl; have y7 := H1.out.1.cell 7 _ rfl; have y8 := H1.out.1.cell 8 _ rfl))
      go_ret
      exact ⟨by simp, H2.out.2⟩
    | true =>
      cases B3 with
      | false =>
        go_enter Tryz.func170, Tryz.ntmps170
        go_wp2_with (first
          | (have := H2; go_at_call 105; refine (HT3.out _ H2.out.2).mono ?_; rintro e w3 ⟨rfl, hb⟩; have H3 := hid (And.intro (H2.out.1.keep hb) (H2.out.2.trans (hb.mono H2.out.2.size))); clear hb y0 y1 y2 y3 y4 y5 y6 y7 y8; have y0 := H3.out.1.cell 0 _ rfl; have y1 := H3.out.1.cell 1 _ rfl; have y2 := H3.out.1.cell 2 _ rfl; have y3 := H3.out.1.cell 3 _ rfl; have y4 := H3.out.1.cell 4 _ rfl; have y5 := H3.out.1.cell 5 _ rfl; have y6 := H3.out.1.cell 6 _ rfl; have y7 := H3.out.1.cell 7 _ rfl; have y8 := H3.out.1.cell 8 _ rfl)
          | (have := H1; go_at_call 138; refine (HT2.out _ H1.out.2).mono ?_; rintro e w2 ⟨rfl, hb⟩; have H2 := hid (And.intro (H1.out.1.keep hb) (H1.out.2.trans (hb.mono H1.out.2.size))); clear hb y0 y1 y2 y3 y4 y5 y6 y7 y8; have y0 := H2.out.1.cell 0 _ rfl; have y1 := H2.out.1.cell 1 _ rfl; have y2 := H2.out.1.cell 2 _ rfl; have y3 := H2.out.1.cell 3 _ rfl; have y4 := H2.out.1.cell 4 _ rfl; have y5 := H2.out.1.cell 5 _ rfl; have y6 := H2.out.1.cell 6 _ rfl; have y7 := H2.out.1.cell 7 _ rfl; have y8 := H2.out.1.cell 8 _ rfl)
          | (have := H0; go_at_call 137; refine (HT1.out _ H0.out.2).mono ?_; rintro e w1 ⟨rfl, hb⟩; have H1 := hid (And.intro (H0.out.1.keep hb) (H0.out.2.trans (hb.mono H0.out.2.size))); clear hb y0 y1 y2 y3 y4 y5 y6 y7 y8; have y0 := H1.out.1.cell 0 _ rfl; have y1 := H1.out.1.cell 1 _ rfl; have y2 := H1.out.1.cell 2 _ rfl; have y3 := H1.out.1.cell 3 _ rfl; have y4 := H1.out.1.cell 4 _ rfl; have y5 := H1.out.1.cell 5 _ rfl; have y6 := H1.out.1.cell 6 _ rfl; have y7 := H1.out.1.cell 7 _ rfl; have y8 := H1.out.1.cell 8 _ rfl))
        go_ret
        exact ⟨by simp, H3.out.2⟩
      | true =>
        cases B4 with
        | false =>
          go_enter Tryz.func170, Tryz.ntmps170
          go_wp2_with (first
            | (have := H3; go_at_call 112; refine (HT4.out _ H3.out.2).mono ?_; rintro e w4 ⟨rfl, hb⟩; have H4 := hid (And.intro (H3.out.1.keep hb) (H3.out.2.trans (hb.mono H3.out.2.size))); clear hb y0 y1 y2 y3 y4 y5 y6 y7 y8; have y0 := H4.out.1.cell 0 _ rfl; have y1 := H4.out.1.cell 1 _ rfl; have y2 := H4.out.1.cell 2 _ rfl; have y3 := H4.out.1.cell 3 _ rfl; have y4 := H4.out.1.cell 4 _ rfl; have y5 := H4.out.1.cell 5 _ rfl; have y6 := H4.out.1.cell 6 _ rfl; have y7 := H4.out.1.cell 7 _ rfl; have y8 := H4.out.1.cell 8 _ rfl)
            | (have := H2; go_at_call 105; refine (HT3.out _ H2.out.2).mono ?_; rintro e w3 ⟨rfl, hb⟩; have H3 := hid (And.intro (H2.out.1.keep hb) (H2.out.2.trans (hb.mono H2.out.2.size))); clear hb y0 y1 y2 y3 y4 y5 y6 y7 y8; have y0 := H3.out.1.cell 0 _ rfl; have y1 := H3.out.1.cell 1 _ rfl; have y2 := H3.out.1.cell 2 _ rfl; have y3 := H3.out.1.cell 3 _ rfl; have y4 := H3.out.1.cell 4 _ rfl; have y5 := H3.out.1.cell 5 _ rfl; have y6 := H3.out.1.cell 6 _ rfl; have y7 := H3.out.1.cell 7 _ rfl; have y8 := H3.out.1.cell 8 _ rfl)
            | (have := H1; go_at_call 138; refine (HT2.out _ H1.out.2).mono ?_; rintro e w2 ⟨rfl, hb⟩; have H2 := hid (And.intro (H1.out.1.keep hb) (H1.out.2.trans (hb.mono H1.out.2.size))); clear hb y0 y1 y2 y3 y4 y5 y6 y7 y8; have y0 := H2.out.1.cell 0 _ rfl; have y1 := H2.out.1.cell 1 _ rfl; have y2 := H2.out.1.cell 2 _ rfl; have y3 := H2.out.1.cell 3 _ rfl; have y4 := H2.out.1.cell 4 _ rfl; have y5 := H2.out.1.cell 5 _ rfl; have y6 := H2.out.1.cell 6 _ rfl; have y7 := H2.out.1.cell 7 _ rfl; have y8 := H2.out.1.cell 8 _ rfl)
            | (have := H0; go_at_call 137; refine (HT1.out _ H0.out.2).mono ?_; rintro e w1 ⟨rfl, hb⟩; have H1 := hid (And.intro (H0.out.1.keep hb) (H0.out.2.trans (hb.mono H0.out.2.size))); clear hb y0 y1 y2 y3 y4 y5 y6 y7 y8; have y0 := H1.out.1.cell 0 _ rfl; have y1 := H1.out.1.cell 1 _ rfl; have y2 := H1.out.1.cell 2 _ rfl; have y3 := H1.out.1.cell 3 _ rfl; have y4 := H1.out.1.cell 4 _ rfl; have y5 := H1.out.1.cell 5 _ rfl; have y6 := H1.out.1.cell 6 _ rfl; have y7 := H1.out.1.cell 7 _ rfl; have y8 := H1.out.1.cell 8 _ rfl))
          go_ret
          exact ⟨by simp, H4.out.2⟩
        | true =>
          go_enter Tryz.func170, Tryz.ntmps170
          go_wp2_with (first
            | (have := H3; go_at_call 112; refine (HT4.out _ H3.out.2).mono ?_; rintro e w4 ⟨rfl, hb⟩; have H4 := hid (And.intro (H3.out.1.keep hb) (H3.out.2.trans (hb.mono H3.out.2.size))); clear hb y0 y1 y2 y3 y4 y5 y6 y7 y8; have y0 := H4.out.1.cell 0 _ rfl; have y1 := H4.out.1.cell 1 _ rfl; have y2 := H4.out.1.cell 2 _ rfl; have y3 := H4.out.1.cell 3 _ rfl; have y4 := H4.out.1.cell 4 _ rfl; have y5 := H4.out.1.cell 5 _ rfl; have y6 := H4.out.1.cell 6 _ rfl; have y7 := H4.out.1.cell 7 _ rfl; have y8 := H4.out.1.cell 8 _ rfl)
            | (have := H2; go_at_call 105; refine (HT3.out _ H2.out.2).mono ?_; rintro e w3 ⟨rfl, hb⟩; have H3 := hid (And.intro (H2.out.1.keep hb) (H2.out.2.trans (hb.mono H2.out.2.size))); clear hb y0 y1 y2 y3 y4 y5 y6 y7 y8; have y0 := H3.out.1.cell 0 _ rfl; have y1 := H3.out.1.cell 1 _ rfl; have y2 := H3.out.1.cell 2 _ rfl; have y3 := H3.out.1.cell 3 _ rfl; have y4 := H3.out.1.cell 4 _ rfl; have y5 := H3.out.1.cell 5 _ rfl; have y6 := H3.out.1.cell 6 _ rfl; have y7 := H3.out.1.cell 7 _ rfl; have y8 := H3.out.1.cell 8 _ rfl)
            | (have := H1; go_at_call 138; refine (HT2.out _ H1.out.2).mono ?_; rintro e w2 ⟨rfl, hb⟩; have H2 := hid (And.intro (H1.out.1.keep hb) (H1.out.2.trans (hb.mono H1.out.2.size))); clear hb y0 y1 y2 y3 y4 y5 y6 y7 y8; have y0 := H2.out.1.cell 0 _ rfl; have y1 := H2.out.1.cell 1 _ rfl; have y2 := H2.out.1.cell 2 _ rfl; have y3 := H2.out.1.cell 3 _ rfl; have y4 := H2.out.1.cell 4 _ rfl; have y5 := H2.out.1.cell 5 _ rfl; have y6 := H2.out.1.cell 6 _ rfl; have y7 := H2.out.1.cell 7 _ rfl; have y8 := H2.out.1.cell 8 _ rfl)
            | (have := H0; go_at_call 137; refine (HT1.out _ H0.out.2).mono ?_; rintro e w1 ⟨rfl, hb⟩; have H1 := hid (And.intro (H0.out.1.keep hb) (H0.out.2.trans (hb.mono H0.out.2.size))); clear hb y0 y1 y2 y3 y4 y5 y6 y7 y8; have y0 := H1.out.1.cell 0 _ rfl; have y1 := H1.out.1.cell 1 _ rfl; have y2 := H1.out.1.cell 2 _ rfl; have y3 := H1.out.1.cell 3 _ rfl; have y4 := H1.out.1.cell 4 _ rfl; have y5 := H1.out.1.cell 5 _ rfl; have y6 := H1.out.1.cell 6 _ rfl; have y7 := H1.out.1.cell 7 _ rfl; have y8 := H1.out.1.cell 8 _ rfl))
          go_ret
          exact ⟨by simp, H4.out.2⟩
end Go.Proofs.YthjgnfeadagmeaaGreat

/- The program's test of a list of certificates. -/
namespace Go.Proofs.YthjgnfeadagmeaaGreat
open Go.RowKit

set_option maxRecDepth 100000 in
set_option maxHeartbeats 6400000 in
theorem icerts_any {F : Nat → Prop} (ep : Int) (h0 : 0 ≤ ep) (h1 : ep ≤ 60) (v : Value) (l : List Ct) (hl : l.length ≤ maxLen) (hb : ∀ x, x ∈ l → ctR x) (w : World) (hR : Reads F w v (dCts l)) :
    Calls Tryz.prog 156 #[.int .i64 ep, v] w fun e w' => e = .returned (.bool (ctsB ep l)) ∧ Below w.heap.size w w' := by
  obtain ⟨V, eV⟩ : ∃ V, V = ctsB ep l := ⟨_, rfl⟩
  rw [← eV]
  obtain ⟨ad, cap, hv⟩ := hR.form
  rw [List.length_map] at hv
  subst hv
  obtain ⟨n, en⟩ : ∃ n, n = l.length := ⟨_, rfl⟩
  have HR := hid hR
  rw [← en] at hl HR
  have hmi : (n : Int) ≤ 9223372036854775807 := by unfold maxLen at hl; omega
  have HE := hid (And.intro h0 h1)
  clear hR h0 h1
  rw [← en]
  by_cases h4 : 4 < n
  · have h4i : (4 : Int) < (n : Int) := by omega
    have hf : V = false := by rw [eV, ctsB, decide_eq_false (by omega)]; rfl
    subst hf
    clear eV hl hb en h4 HR
    go_enter Tryz.func156, Tryz.ntmps156
    go_wp2
    go_ret
    exact ⟨rfl, Below.refl _ _⟩
  · have h4i : ¬ ((4 : Int) < (n : Int)) := by omega
    have HV : Hid (V = allTo (ctAt ep l) n) := hid (by rw [eV, ctsB, decide_eq_true (by omega), en]; rfl)
    have HN := hid en
    have HL : Hid (n ≤ 4) := hid (by omega)
    have HBd := hid hb
    clear eV hl hb en h4
    go_enter Tryz.func156, Tryz.ntmps156
    go_wp2
    go_loopw [12] (fun i wr => ∃ j : Nat, j ≤ n ∧ i = .int .i64 (j : Int) ∧ allTo (ctAt ep l) j = true ∧ Below w.heap.size w wr)
      (fun i _ => ((n : Int) - intOf i).toNat)
    case atStart => exact ⟨0, Nat.zero_le _, rfl, rfl, Below.refl _ _⟩
    case round =>
      obtain ⟨j, hj, rfl, hok, hB⟩ := hrel
      have HB := hid hB
      have HOk := hid hok
      clear hok hB
      have hj0 : (0 : Int) ≤ (j : Int) := Int.natCast_nonneg _
      by_cases hjn : j = n
      · have hj1 : ¬ ((j : Int) < (n : Int)) := by omega
        have hv : Hid (V = true) := hid (by rw [HV.out, ← hjn]; exact HOk.out)
        clear hj hjn
        go_wp2
        go_ret
        exact ⟨by rw [hv.out]; rfl, HB.out⟩
      · have hj1 : (j : Int) < (n : Int) := by omega
        have hjl : j < l.length := by have := HN.out; omega
        have hR2 := HR.out
        rw [HN.out] at hR2
        obtain ⟨g, off, cp, a8, k8, hv, hp, hg, hc⟩ := ct_at (hR2.under HB.out (Nat.le_refl _)) j hjl
        cases hv
        have HP := hid hp
        have hprev : j ≠ 0 → wr.cell? ⟨g, off + (j - 1) * 9 + 1, none⟩ = some (.int .i64 (l.getD (j - 1) ct0).2.1) := fun hz => by
          obtain ⟨g2, o2, c2, a2, k2, hv2, _, _, hc2⟩ := ct_at (hR2.under HB.out (Nat.le_refl _)) (j - 1) (by omega)
          cases hv2
          exact hc2 1 _ rfl
        have HPr := hid (And.intro hprev hg)
        have HJ := hid (And.intro hj hjn)
        have HT : Hid (ctAt ep l j = (ctB ep (l.getD j ct0) && (decide (j = 0) || decide ((l.getD (j - 1) ct0).2.1 < (l.getD j ct0).2.1)))) := hid rfl
        have HFa : Hid (ctAt ep l j = false → V = false) := hid (fun e => by rw [HV.out]; exact allTo_no j (by omega) e)
        have HTr : Hid (ctAt ep l j = true → allTo (ctAt ep l) (j + 1) = true) := hid (fun e => by rw [allTo, HOk.out, e]; rfl)
        have HYb := hid (HBd.out (l.getD j ct0) (by rw [List.getD_eq_getElem?_getD, List.getElem?_eq_getElem hjl]; exact List.getElem_mem hjl))
        generalize l.getD j ct0 = y at hc HP HT HYb
        generalize (l.getD (j - 1) ct0).2.1 = ps at HPr HT
        have k0 : wr.cell? ⟨g, off + j * 9, none⟩ = some (.int .i64 y.1) := hc 0 _ rfl
        have k1 : wr.cell? ⟨g, off + j * 9 + 1, none⟩ = some (.int .i64 y.2.1) := hc 1 _ rfl
        have k2 : wr.cell? ⟨g, off + j * 9 + 2, none⟩ = some (.int .i64 y.2.2.1.c) := hc 2 _ rfl
        have k3 : wr.cell? ⟨g, off + j * 9 + 3, none⟩ = some (.int .i64 y.2.2.1.st) := hc 3 _ rfl
        have k4 : wr.cell? ⟨g, off + j * 9 + 4, none⟩ = some (.int .i64 y.2.2.1.k) := hc 4 _ rfl
        have k5 : wr.cell? ⟨g, off + j * 9 + 5, none⟩ = some (.string y.2.2.1.key) := hc 5 _ rfl
        have k6 : wr.cell? ⟨g, off + j * 9 + 6, none⟩ = some (.float .f64 y.2.2.1.b) := hc 6 _ rfl
        have k7 : wr.cell? ⟨g, off + j * 9 + 7, none⟩ = some (.int .i64 y.2.2.1.id) := hc 7 _ rfl
        have k8' : wr.cell? ⟨g, off + j * 9 + 8, none⟩ = some (.slice a8 y.2.2.2.length k8) := hc 8 _ rfl
        have hz : (j : Int) ≤ 4 := by have := HL.out; omega
        clear hj hjn hjl hR2 hp hg hc hprev
        go_wp2_with (refine wl_store_blk rfl 92 _ _ rfl wr.heap.size 0 rfl #[.int .i64 y.1, .int .i64 y.2.1, .int .i64 y.2.2.1.c, .int .i64 y.2.2.1.st, .int .i64 y.2.2.1.k, .string y.2.2.1.key, .float .f64 y.2.2.1.b, .int .i64 y.2.2.1.id, .slice a8 y.2.2.2.length k8] rfl [.int .i64 0, .int .i64 0, .int .i64 0, .int .i64 0, .int .i64 0, .string ⟨#[]⟩, .float .f64 0, .int .i64 0, .slice none 0 0] 92 (heap_alloc_last wr _) (by simp) (by kernel_rfl) (by simp [Value.oneCell']) ?_; intro w1 Hz; have H1 : Hid (BxAt w1 wr.heap.size (ctC y (.slice a8 y.2.2.2.length k8)) 92 ∧ Below wr.heap.size wr w1) := hid ⟨Hz.out.1, Hz.out.2.below ((Below.refl wr.heap.size wr).alloc (Nat.le_refl _) _) (Nat.le_refl _)⟩; clear Hz)
        clear k0 k1 k2 k3 k4 k5 k6 k7 k8'
        go_simp
        have HBx : Hid (∀ x : Cls w1, BxAt x.1 wr.heap.size (ctC y (.slice a8 y.2.2.2.length k8)) 92) := hid (fun x => H1.out.1.keep x.2)
        have d0 : ∀ x : Cls w1, x.1.cell? ⟨wr.heap.size, 0, none⟩ = some (.int .i64 y.1) := fun x => (HBx.out x).cell 0 _ rfl
        have d1 : ∀ x : Cls w1, x.1.cell? ⟨wr.heap.size, 1, none⟩ = some (.int .i64 y.2.1) := fun x => (HBx.out x).cell 1 _ rfl
        have d2 : ∀ x : Cls w1, x.1.cell? ⟨wr.heap.size, 2, none⟩ = some (.int .i64 y.2.2.1.c) := fun x => (HBx.out x).cell 2 _ rfl
        have d3 : ∀ x : Cls w1, x.1.cell? ⟨wr.heap.size, 3, none⟩ = some (.int .i64 y.2.2.1.st) := fun x => (HBx.out x).cell 3 _ rfl
        have d4 : ∀ x : Cls w1, x.1.cell? ⟨wr.heap.size, 4, none⟩ = some (.int .i64 y.2.2.1.k) := fun x => (HBx.out x).cell 4 _ rfl
        have d5 : ∀ x : Cls w1, x.1.cell? ⟨wr.heap.size, 5, none⟩ = some (.string y.2.2.1.key) := fun x => (HBx.out x).cell 5 _ rfl
        have d6 : ∀ x : Cls w1, x.1.cell? ⟨wr.heap.size, 6, none⟩ = some (.float .f64 y.2.2.1.b) := fun x => (HBx.out x).cell 6 _ rfl
        have d7 : ∀ x : Cls w1, x.1.cell? ⟨wr.heap.size, 7, none⟩ = some (.int .i64 y.2.2.1.id) := fun x => (HBx.out x).cell 7 _ rfl
        have d8 : ∀ x : Cls w1, x.1.cell? ⟨wr.heap.size, 8, none⟩ = some (.slice a8 y.2.2.2.length k8) := fun x => (HBx.out x).cell 8 _ rfl
        have HCe : Hid (∀ u : World, Below w1.heap.size w1 u → Calls Tryz.prog 170 #[.int .i64 ep, .agg #[.int .i64 y.1, .int .i64 y.2.1, .int .i64 y.2.2.1.c, .int .i64 y.2.2.1.st, .int .i64 y.2.2.1.k, .string y.2.2.1.key, .float .f64 y.2.2.1.b, .int .i64 y.2.2.1.id, .slice a8 y.2.2.2.length k8]] u fun e w' => e = .returned (.bool (ctB ep y)) ∧ Below u.heap.size u w') := hid (fun u hu => icert_any ep HE.out.1 HE.out.2 y a8 _ k8 rfl HYb.out.2.2.1 u ((HP.out.keep H1.out.2 (Nat.le_refl _)).keep hu (Nat.le_refl _)))
        haveI := Cls.ne w1
        cases hct : ctB ep y with
        | false =>
          rw [hct] at HCe HT
          have hf := hid (HFa.out HT.out)
          clear hct
          refine wp_region_cls w1 (by kernel_rfl) (by kernel_rfl) ?_
          repeat (go_big_quiet_step ((first
            | (go_at_call 170; exact Cls.of _ (fun u hu => HCe.out u hu)))))
          refine wpQuiet_nil ?_
          rintro _ ⟨x, rfl⟩
          go_wp2
          go_ret
          exact ⟨by rw [hf.out]; rfl, HB.out.trans ((H1.out.2.trans (x.2.mono H1.out.2.size)).mono HB.out.size)⟩
        | true =>
          rw [hct] at HCe HT
          clear hct
          by_cases hj00 : j = 0
          · have hp := hid (HTr.out (by rw [HT.out, decide_eq_true hj00]; rfl))
            have hd : decide ((0 : Int) < (j : Int)) = false := decide_eq_false (by omega)
            have hd2 : decide (0 < j) = false := decide_eq_false (by omega)
            clear hj00
            refine wp_region_cls w1 (by kernel_rfl) (by kernel_rfl) ?_
            repeat (go_big_quiet_step ((first
              | (go_at_call 170; exact Cls.of _ (fun u hu => HCe.out u hu)))))
            refine wpQuiet_nil ?_
            rintro _ ⟨x, rfl⟩
            go_wp2
            go_roundw
            case rel => exact ⟨j + 1, by have := HJ.out; omega, by go_num, hp.out, HB.out.trans ((H1.out.2.trans (x.2.mono H1.out.2.size)).mono HB.out.size)⟩
            case measure => simp [intOf]; omega
          · obtain ⟨jm, ejm⟩ : ∃ jm : Nat, jm = j - 1 := ⟨_, rfl⟩
            have dp : ∀ x : Cls w1, x.1.cell? ⟨g, off + jm * 9 + 1, none⟩ = some (.int .i64 ps) := fun x => (World.cell?_of_block (a := ⟨g, off + jm * 9 + 1, none⟩) ((x.2.block g (Nat.lt_of_lt_of_le HPr.out.2 H1.out.2.size)).trans (H1.out.2.block g HPr.out.2))).trans (by rw [ejm]; exact HPr.out.1 hj00)
            have hw : IntKind.i64.wrap ((j : Int) - 1) = (jm : Int) := by rw [show (j : Int) - 1 = (jm : Int) by omega]; exact wrap_small _ (by omega) (by omega)
            have hjm0 : (0 : Int) ≤ (jm : Int) := Int.natCast_nonneg _
            have hjm1 : (jm : Int) < (n : Int) := by omega
            have hd : decide ((0 : Int) < (j : Int)) = true := decide_eq_true (by omega)
            have hd2 : decide (0 < j) = true := decide_eq_true (by omega)
            have HT2 : Hid (ctAt ep l j = decide (ps < y.2.1)) := hid (by rw [HT.out, decide_eq_false hj00]; rfl)
            clear ejm hj00
            by_cases hlt : ps < y.2.1
            · have hp := hid (HTr.out (by rw [HT2.out, decide_eq_true hlt]))
              have hle : decide (y.2.1 ≤ ps) = false := decide_eq_false (by omega)
              have hle2 : ¬ (y.2.1 ≤ ps) := by omega
              refine wp_region_cls w1 (by kernel_rfl) (by kernel_rfl) ?_
              repeat (go_big_quiet_step ((first
                | (go_at_call 170; exact Cls.of _ (fun u hu => HCe.out u hu)))))
              refine wpQuiet_nil ?_
              rintro _ ⟨x, rfl⟩
              go_wp2
              go_roundw
              case rel => exact ⟨j + 1, by have := HJ.out; omega, by go_num, hp.out, HB.out.trans ((H1.out.2.trans (x.2.mono H1.out.2.size)).mono HB.out.size)⟩
              case measure => simp [intOf]; omega
            · have hf := hid (HFa.out (by rw [HT2.out, decide_eq_false hlt]))
              have hle : decide (y.2.1 ≤ ps) = true := decide_eq_true (by omega)
              have hle2 : y.2.1 ≤ ps := by omega
              refine wp_region_cls w1 (by kernel_rfl) (by kernel_rfl) ?_
              repeat (go_big_quiet_step ((first
                | (go_at_call 170; exact Cls.of _ (fun u hu => HCe.out u hu)))))
              refine wpQuiet_nil ?_
              rintro _ ⟨x, rfl⟩
              go_wp2
              go_ret
              exact ⟨by rw [hf.out]; rfl, HB.out.trans ((H1.out.2.trans (x.2.mono H1.out.2.size)).mono HB.out.size)⟩
end Go.Proofs.YthjgnfeadagmeaaGreat

/- The program's tests of changes. -/
namespace Go.Proofs.YthjgnfeadagmeaaGreat
open Go.RowKit
set_option maxRecDepth 100000 in
set_option maxHeartbeats 3200000 in
theorem ichange_any {F : Nat → Prop} (ep : Int) (h0 : 0 ≤ ep) (h1 : ep ≤ 60) (c : Cg) (a : Option Addr) (n cap : Nat) (hl : c.2.2.1.length ≤ maxLen) (hb : ∀ x, x ∈ c.2.2.1 → ctR x) (w : World) (hR : Reads F w (.slice a n cap) (dCts c.2.2.1)) :
    Calls Tryz.prog 140 #[.int .i64 ep, .agg #[.int .i64 c.1, .int .i64 c.2.1, .slice a n cap, .int .i64 c.2.2.2.1, .string c.2.2.2.2]] w fun e w' => e = .returned (.bool (cgB ep c)) ∧ Below w.heap.size w w' := by
  have H0 : Hid (BxAt (w.alloc (.cells #[.int .i64 c.1, .int .i64 c.2.1, .slice a n cap, .int .i64 c.2.2.2.1, .string c.2.2.2.2] 90)) w.heap.size [.int .i64 c.1, .int .i64 c.2.1, .slice a n cap, .int .i64 c.2.2.2.1, .string c.2.2.2.2] 90 ∧ Below w.heap.size w (w.alloc (.cells #[.int .i64 c.1, .int .i64 c.2.1, .slice a n cap, .int .i64 c.2.2.2.1, .string c.2.2.2.2] 90))) := hid ⟨heap_alloc_last w _, (Below.refl w.heap.size w).alloc (Nat.le_refl _) _⟩
  have y0 := H0.out.1.cell 0 _ rfl; have y1 := H0.out.1.cell 1 _ rfl; have y2 := H0.out.1.cell 2 _ rfl; have y3 := H0.out.1.cell 3 _ rfl; have y4 := H0.out.1.cell 4 _ rfl
  obtain ⟨B1, e1⟩ : ∃ B, B = inB c.1 0 15 := ⟨_, rfl⟩
  have HT1 : Hid (∀ u : World, Below w.heap.size w u → Calls Tryz.prog 100 #[.int .i64 c.1, .int .i64 0, .int .i64 15] u fun e w' => e = .returned (.bool B1) ∧ Below u.heap.size u w') := hid (fun u hu => by rw [e1]; exact (iwithin_any _ _ _ u).mono fun e w' ⟨h1, h2⟩ => ⟨h1, by rw [h2]; exact Below.refl _ _⟩)
  obtain ⟨B2, e2⟩ : ∃ B, B = inB c.2.1 1 15 := ⟨_, rfl⟩
  have HT2 : Hid (∀ u : World, Below w.heap.size w u → Calls Tryz.prog 100 #[.int .i64 c.2.1, .int .i64 1, .int .i64 15] u fun e w' => e = .returned (.bool B2) ∧ Below u.heap.size u w') := hid (fun u hu => by rw [e2]; exact (iwithin_any _ _ _ u).mono fun e w' ⟨h1, h2⟩ => ⟨h1, by rw [h2]; exact Below.refl _ _⟩)
  obtain ⟨B3, e3⟩ : ∃ B, B = ctsB ep c.2.2.1 := ⟨_, rfl⟩
  have HT3 : Hid (∀ u : World, Below w.heap.size w u → Calls Tryz.prog 156 #[.int .i64 ep, .slice a n cap] u fun e w' => e = .returned (.bool B3) ∧ Below u.heap.size u w') := hid (fun u hu => by rw [e3]; exact icerts_any ep h0 h1 _ _ hl hb u (hR.under hu (Nat.le_refl _)))
  obtain ⟨B4, e4⟩ : ∃ B, B = sigB c.2.2.2 := ⟨_, rfl⟩
  have HT4 : Hid (∀ u : World, Below w.heap.size w u → Calls Tryz.prog 141 #[.agg #[.int .i64 c.2.2.2.1, .string c.2.2.2.2]] u fun e w' => e = .returned (.bool B4) ∧ Below u.heap.size u w') := hid (fun u hu => by rw [e4]; exact isig_any _ u)
  rw [show cgB ep c = ((B1 && B2) && (B3 && B4)) by rw [e1, e2, e3, e4]; rfl]
  clear e1 e2 e3 e4 hR hl hb h0 h1
  cases B1 with
  | false =>
    go_enter Tryz.func140, Tryz.ntmps140
    go_wp2_with (first
      | (have := H0; go_at_call 100; refine (HT1.out _ H0.out.2).mono ?_; rintro e w1 ⟨rfl, hb⟩; have H1 := hid (And.intro (H0.out.1.keep hb) (H0.out.2.trans (hb.mono H0.out.2.size))); clear hb y0 y1 y2 y3 y4; have y0 := H1.out.1.cell 0 _ rfl; have y1 := H1.out.1.cell 1 _ rfl; have y2 := H1.out.1.cell 2 _ rfl; have y3 := H1.out.1.cell 3 _ rfl; have y4 := H1.out.1.cell 4 _ rfl))
    go_ret
    exact ⟨by simp, H1.out.2⟩
  | true =>
    cases B2 with
    | false =>
      go_enter Tryz.func140, Tryz.ntmps140
      go_wp2_with (first
        | (have := H1; go_at_call 100; refine (HT2.out _ H1.out.2).mono ?_; rintro e w2 ⟨rfl, hb⟩; have H2 := hid (And.intro (H1.out.1.keep hb) (H1.out.2.trans (hb.mono H1.out.2.size))); clear hb y0 y1 y2 y3 y4; have y0 := H2.out.1.cell 0 _ rfl; have y1 := H2.out.1.cell 1 _ rfl; have y2 := H2.out.1.cell 2 _ rfl; have y3 := H2.out.1.cell 3 _ rfl; have y4 := H2.out.1.cell 4 _ rfl)
        | (have := H0; go_at_call 100; refine (HT1.out _ H0.out.2).mono ?_; rintro e w1 ⟨rfl, hb⟩; have H1 := hid (And.intro (H0.out.1.keep hb) (H0.out.2.trans (hb.mono H0.out.2.size))); clear hb y0 y1 y2 y3 y4; have y0 := H1.out.1.cell 0 _ rfl; have y1 := H1.out.1.cell 1 _ rfl; have y2 := H1.out.1.cell 2 _ rfl; have y3 := H1.out.1.cell 3 _ rfl; have y4 := H1.out.1.cell 4 _ rfl))
      go_ret
      exact ⟨by simp, H2.out.2⟩
    | true =>
      cases B3 with
      | false =>
        go_enter Tryz.func140, Tryz.ntmps140
        go_wp2_with (first
          | (have := H2; go_at_call 156; refine (HT3.out _ H2.out.2).mono ?_; rintro e w3 ⟨rfl, hb⟩; have H3 := hid (And.intro (H2.out.1.keep hb) (H2.out.2.trans (hb.mono H2.out.2.size))); clear hb y0 y1 y2 y3 y4; have y0 := H3.out.1.cell 0 _ rfl; have y1 := H3.out.1.cell 1 _ rfl; have y2 := H3.out.1.cell 2 _ rfl; have y3 := H3.out.1.cell 3 _ rfl; have y4 := H3.out.1.cell 4 _ rfl)
          | (have := H1; go_at_call 100; refine (HT2.out _ H1.out.2).mono ?_; rintro e w2 ⟨rfl, hb⟩; have H2 := hid (And.intro (H1.out.1.keep hb) (H1.out.2.trans (hb.mono H1.out.2.size))); clear hb y0 y1 y2 y3 y4; have y0 := H2.out.1.cell 0 _ rfl; have y1 := H2.out.1.cell 1 _ rfl; have y2 := H2.out.1.cell 2 _ rfl; have y3 := H2.out.1.cell 3 _ rfl; have y4 := H2.out.1.cell 4 _ rfl)
          | (have := H0; go_at_call 100; refine (HT1.out _ H0.out.2).mono ?_; rintro e w1 ⟨rfl, hb⟩; have H1 := hid (And.intro (H0.out.1.keep hb) (H0.out.2.trans (hb.mono H0.out.2.size))); clear hb y0 y1 y2 y3 y4; have y0 := H1.out.1.cell 0 _ rfl; have y1 := H1.out.1.cell 1 _ rfl; have y2 := H1.out.1.cell 2 _ rfl; have y3 := H1.out.1.cell 3 _ rfl; have y4 := H1.out.1.cell 4 _ rfl))
        go_ret
        exact ⟨by simp, H3.out.2⟩
      | true =>
        cases B4 with
        | false =>
          go_enter Tryz.func140, Tryz.ntmps140
          go_wp2_with (first
            | (have := H3; go_at_call 141; refine (HT4.out _ H3.out.2).mono ?_; rintro e w4 ⟨rfl, hb⟩; have H4 := hid (And.intro (H3.out.1.keep hb) (H3.out.2.trans (hb.mono H3.out.2.size))); clear hb y0 y1 y2 y3 y4; have y0 := H4.out.1.cell 0 _ rfl; have y1 := H4.out.1.cell 1 _ rfl; have y2 := H4.out.1.cell 2 _ rfl; have y3 := H4.out.1.cell 3 _ rfl; have y4 := H4.out.1.cell 4 _ rfl)
            | (have := H2; go_at_call 156; refine (HT3.out _ H2.out.2).mono ?_; rintro e w3 ⟨rfl, hb⟩; have H3 := hid (And.intro (H2.out.1.keep hb) (H2.out.2.trans (hb.mono H2.out.2.size))); clear hb y0 y1 y2 y3 y4; have y0 := H3.out.1.cell 0 _ rfl; have y1 := H3.out.1.cell 1 _ rfl; have y2 := H3.out.1.cell 2 _ rfl; have y3 := H3.out.1.cell 3 _ rfl; have y4 := H3.out.1.cell 4 _ rfl)
            | (have := H1; go_at_call 100; refine (HT2.out _ H1.out.2).mono ?_; rintro e w2 ⟨rfl, hb⟩; have H2 := hid (And.intro (H1.out.1.keep hb) (H1.out.2.trans (hb.mono H1.out.2.size))); clear hb y0 y1 y2 y3 y4; have y0 := H2.out.1.cell 0 _ rfl; have y1 := H2.out.1.cell 1 _ rfl; have y2 := H2.out.1.cell 2 _ rfl; have y3 := H2.out.1.cell 3 _ rfl; have y4 := H2.out.1.cell 4 _ rfl)
            | (have := H0; go_at_call 100; refine (HT1.out _ H0.out.2).mono ?_; rintro e w1 ⟨rfl, hb⟩; have H1 := hid (And.intro (H0.out.1.keep hb) (H0.out.2.trans (hb.mono H0.out.2.size))); clear hb y0 y1 y2 y3 y4; have y0 := H1.out.1.cell 0 _ rfl; have y1 := H1.out.1.cell 1 _ rfl; have y2 := H1.out.1.cell 2 _ rfl; have y3 := H1.out.1.cell 3 _ rfl; have y4 := H1.out.1.cell 4 _ rfl))
          go_ret
          exact ⟨by simp, H4.out.2⟩
        | true =>
          go_enter Tryz.func140, Tryz.ntmps140
          go_wp2_with (first
            | (have := H3; go_at_call 141; refine (HT4.out _ H3.out.2).mono ?_; rintro e w4 ⟨rfl, hb⟩; have H4 := hid (And.intro (H3.out.1.keep hb) (H3.out.2.trans (hb.mono H3.out.2.size))); clear hb y0 y1 y2 y3 y4; have y0 := H4.out.1.cell 0 _ rfl; have y1 := H4.out.1.cell 1 _ rfl; have y2 := H4.out.1.cell 2 _ rfl; have y3 := H4.out.1.cell 3 _ rfl; have y4 := H4.out.1.cell 4 _ rfl)
            | (have := H2; go_at_call 156; refine (HT3.out _ H2.out.2).mono ?_; rintro e w3 ⟨rfl, hb⟩; have H3 := hid (And.intro (H2.out.1.keep hb) (H2.out.2.trans (hb.mono H2.out.2.size))); clear hb y0 y1 y2 y3 y4; have y0 := H3.out.1.cell 0 _ rfl; have y1 := H3.out.1.cell 1 _ rfl; have y2 := H3.out.1.cell 2 _ rfl; have y3 := H3.out.1.cell 3 _ rfl; have y4 := H3.out.1.cell 4 _ rfl)
            | (have := H1; go_at_call 100; refine (HT2.out _ H1.out.2).mono ?_; rintro e w2 ⟨rfl, hb⟩; have H2 := hid (And.intro (H1.out.1.keep hb) (H1.out.2.trans (hb.mono H1.out.2.size))); clear hb y0 y1 y2 y3 y4; have y0 := H2.out.1.cell 0 _ rfl; have y1 := H2.out.1.cell 1 _ rfl; have y2 := H2.out.1.cell 2 _ rfl; have y3 := H2.out.1.cell 3 _ rfl; have y4 := H2.out.1.cell 4 _ rfl)
            | (have := H0; go_at_call 100; refine (HT1.out _ H0.out.2).mono ?_; rintro e w1 ⟨rfl, hb⟩; have H1 := hid (And.intro (H0.out.1.keep hb) (H0.out.2.trans (hb.mono H0.out.2.size))); clear hb y0 y1 y2 y3 y4; have y0 := H1.out.1.cell 0 _ rfl; have y1 := H1.out.1.cell 1 _ rfl; have y2 := H1.out.1.cell 2 _ rfl; have y3 := H1.out.1.cell 3 _ rfl; have y4 := H1.out.1.cell 4 _ rfl))
          go_ret
          exact ⟨by simp, H4.out.2⟩
end Go.Proofs.YthjgnfeadagmeaaGreat

/- The program's test of a list of changes. -/
namespace Go.Proofs.YthjgnfeadagmeaaGreat
open Go.RowKit
set_option maxRecDepth 100000 in
set_option maxHeartbeats 6400000 in
theorem ichanges_any {F : Nat → Prop} (m : Ms) (h0 : 0 ≤ m.ep) (h1 : m.ep ≤ 60) (ad : Option Addr) (n cap : Nat) (v13 v14 v16 : Value) (most : Nat) (hm : most ≤ 10) (hl : m.cg.length ≤ maxLen) (en : n = m.cg.length) (hb : ∀ x, x ∈ m.cg → cgR x) (w : World) (hR : Reads F w (.slice ad n cap) (dCgs m.cg)) :
    Calls Tryz.prog 109 #[.agg #[.int .i64 m.k, .int .i64 m.ep, .int .i64 m.v, .int .i64 m.sl, .int .i64 m.rq.c, .int .i64 m.rq.st, .int .i64 m.rq.k, .string m.rq.key, .float .f64 m.rq.b, .int .i64 m.rq.id, .int .i64 m.rs.1, .float .f64 m.rs.2, .string m.tx, v13, v14, .slice ad n cap, v16], .int .i64 (most : Int)] w fun e w' => e = .returned (.bool (cgsB m.ep m.v m.cg most)) ∧ Below w.heap.size w w' := by
  obtain ⟨V, eV⟩ : ∃ V, V = cgsB m.ep m.v m.cg most := ⟨_, rfl⟩
  rw [← eV]
  have HR := hid hR
  rw [← en] at hl
  have hmi : (n : Int) ≤ 9223372036854775807 := by unfold maxLen at hl; omega
  have HE := hid (And.intro h0 h1)
  clear hR h0 h1
  have HW : Hid (inB (n : Int) 1 (most : Int) = (decide (1 ≤ n) && decide (n ≤ most))) := hid (by
    rw [inB]; congr 1
    · exact decide_eq_decide.2 (by omega)
    · exact decide_eq_decide.2 (by omega))
  have H0 : Hid (BxAt (w.alloc (.cells #[.int .i64 m.k, .int .i64 m.ep, .int .i64 m.v, .int .i64 m.sl, .int .i64 m.rq.c, .int .i64 m.rq.st, .int .i64 m.rq.k, .string m.rq.key, .float .f64 m.rq.b, .int .i64 m.rq.id, .int .i64 m.rs.1, .float .f64 m.rs.2, .string m.tx, v13, v14, .slice ad n cap, v16] 48)) w.heap.size [.int .i64 m.k, .int .i64 m.ep, .int .i64 m.v, .int .i64 m.sl, .int .i64 m.rq.c, .int .i64 m.rq.st, .int .i64 m.rq.k, .string m.rq.key, .float .f64 m.rq.b, .int .i64 m.rq.id, .int .i64 m.rs.1, .float .f64 m.rs.2, .string m.tx, v13, v14, .slice ad n cap, v16] 48 ∧ Below w.heap.size w (w.alloc (.cells #[.int .i64 m.k, .int .i64 m.ep, .int .i64 m.v, .int .i64 m.sl, .int .i64 m.rq.c, .int .i64 m.rq.st, .int .i64 m.rq.k, .string m.rq.key, .float .f64 m.rq.b, .int .i64 m.rq.id, .int .i64 m.rs.1, .float .f64 m.rs.2, .string m.tx, v13, v14, .slice ad n cap, v16] 48))) := hid ⟨heap_alloc_last w _, (Below.refl w.heap.size w).alloc (Nat.le_refl _) _⟩
  have y1 := H0.out.1.cell 1 _ rfl
  have y2 := H0.out.1.cell 2 _ rfl
  have y15 := H0.out.1.cell 15 _ rfl
  by_cases h4 : ¬ (1 ≤ n ∧ n ≤ most)
  · have hf : V = false := by
      rw [eV, cgsB, ← en]
      by_cases h5 : 1 ≤ n
      · rw [decide_eq_true h5, decide_eq_false (fun h => h4 ⟨h5, h⟩)]; rfl
      · rw [decide_eq_false h5]; rfl
    subst hf
    have HW2 : Hid (inB (n : Int) 1 (most : Int) = false) := hid (by
      rw [HW.out]
      by_cases h5 : 1 ≤ n
      · rw [decide_eq_true h5, decide_eq_false (fun h => h4 ⟨h5, h⟩)]; rfl
      · rw [decide_eq_false h5]; rfl)
    clear eV hl hb en h4 HR
    go_enter Tryz.func109, Tryz.ntmps109
    go_wp2_with (go_at_call 100; refine (iwithin_any _ _ _ _).mono ?_; rintro e w1 ⟨rfl, hw⟩; rw [HW2.out]; replace hw := hw.symm; subst hw)
    go_ret
    exact ⟨rfl, H0.out.2⟩
  · have h4 : 1 ≤ n ∧ n ≤ most := Classical.not_not.1 h4
    have HV : Hid (V = allTo (cgAt m.ep m.v m.cg) n) := hid (by rw [eV, cgsB, ← en, decide_eq_true h4.1, decide_eq_true h4.2]; rfl)
    have HW2 : Hid (inB (n : Int) 1 (most : Int) = true) := hid (by rw [HW.out, decide_eq_true h4.1, decide_eq_true h4.2]; rfl)
    have HN := hid en
    have HL : Hid (n ≤ 10) := hid (by omega)
    have HBd := hid hb
    clear eV hl hb en h4
    go_enter Tryz.func109, Tryz.ntmps109
    go_wp2_with (go_at_call 100; refine (iwithin_any _ _ _ _).mono ?_; rintro e w1 ⟨rfl, hw⟩; rw [HW2.out]; replace hw := hw.symm; subst hw)
    generalize w.alloc (.cells #[.int .i64 m.k, .int .i64 m.ep, .int .i64 m.v, .int .i64 m.sl, .int .i64 m.rq.c, .int .i64 m.rq.st, .int .i64 m.rq.k, .string m.rq.key, .float .f64 m.rq.b, .int .i64 m.rq.id, .int .i64 m.rs.1, .float .f64 m.rs.2, .string m.tx, v13, v14, .slice ad n cap, v16] 48) = wa at H0 y1 y2 y15 ⊢
    go_loopw [16] (fun i wr => ∃ j : Nat, j ≤ n ∧ i = .int .i64 (j : Int) ∧ allTo (cgAt m.ep m.v m.cg) j = true ∧ Below wa.heap.size wa wr)
      (fun i _ => ((n : Int) - intOf i).toNat)
    case atStart => exact ⟨0, Nat.zero_le _, rfl, rfl, Below.refl _ _⟩
    case round =>
      obtain ⟨j, hj, rfl, hok, hB⟩ := hrel
      have HB := hid hB
      have HBw := hid (H0.out.2.trans (hB.mono H0.out.2.size))
      have HOk := hid hok
      clear hok hB y1 y2 y15
      have hj0 : (0 : Int) ≤ (j : Int) := Int.natCast_nonneg _
      by_cases hjn : j = n
      · have hj1 : ¬ ((j : Int) < (n : Int)) := by omega
        have hv : Hid (V = true) := hid (by rw [HV.out, ← hjn]; exact HOk.out)
        clear hj hjn
        go_wp2
        go_ret
        exact ⟨by rw [hv.out]; rfl, HBw.out⟩
      · have hj1 : (j : Int) < (n : Int) := by omega
        have hjl : j < m.cg.length := by have := HN.out; omega
        have hR2 := HR.out
        rw [HN.out] at hR2
        obtain ⟨g, off, cp, a8, n8, k8, hv, hp, hg, hc⟩ := cg_at (hR2.under HBw.out (Nat.le_refl _)) j hjl
        cases hv
        have HP := hid hp
        have hprev : j ≠ 0 → wr.cell? ⟨g, off + (j - 1) * 5, none⟩ = some (.int .i64 (m.cg.getD (j - 1) cg0).1) := fun hz => by
          obtain ⟨g2, o2, c2, a2, n2, k2, hv2, _, _, hc2⟩ := cg_at (hR2.under HBw.out (Nat.le_refl _)) (j - 1) (by omega)
          cases hv2
          exact hc2 0 _ rfl
        have HPr := hid (And.intro hprev hg)
        have HJ := hid (And.intro hj hjn)
        have HT : Hid (cgAt m.ep m.v m.cg j = ((decide ((m.cg.getD j cg0).2.1 = m.v) && cgB m.ep (m.cg.getD j cg0)) && (decide (j = 0) || decide ((m.cg.getD (j - 1) cg0).1 < (m.cg.getD j cg0).1)))) := hid rfl
        have HFa : Hid (cgAt m.ep m.v m.cg j = false → V = false) := hid (fun e => by rw [HV.out]; exact allTo_no j (by omega) e)
        have HTr : Hid (cgAt m.ep m.v m.cg j = true → allTo (cgAt m.ep m.v m.cg) (j + 1) = true) := hid (fun e => by rw [allTo, HOk.out, e]; rfl)
        have HYb := hid (HBd.out (m.cg.getD j cg0) (by rw [List.getD_eq_getElem?_getD, List.getElem?_eq_getElem hjl]; exact List.getElem_mem hjl))
        generalize m.cg.getD j cg0 = y at hc HP HT HYb
        generalize (m.cg.getD (j - 1) cg0).1 = ps at HPr HT
        have k0 : wr.cell? ⟨g, off + j * 5, none⟩ = some (.int .i64 y.1) := hc 0 _ rfl
        have k1 : wr.cell? ⟨g, off + j * 5 + 1, none⟩ = some (.int .i64 y.2.1) := hc 1 _ rfl
        have k2 : wr.cell? ⟨g, off + j * 5 + 2, none⟩ = some (.slice a8 n8 k8) := hc 2 _ rfl
        have k3 : wr.cell? ⟨g, off + j * 5 + 3, none⟩ = some (.int .i64 y.2.2.2.1) := hc 3 _ rfl
        have k4 : wr.cell? ⟨g, off + j * 5 + 4, none⟩ = some (.string y.2.2.2.2) := hc 4 _ rfl
        have hz : (j : Int) ≤ 10 := by have := HL.out; omega
        clear hj hjn hjl hR2 hp hg hc hprev
        go_wp2_with (refine wl_store_blk rfl 90 _ _ rfl wr.heap.size 0 rfl #[.int .i64 y.1, .int .i64 y.2.1, .slice a8 n8 k8, .int .i64 y.2.2.2.1, .string y.2.2.2.2] rfl [.int .i64 0, .int .i64 0, .slice none 0 0, .int .i64 0, .string ⟨#[]⟩] 90 (heap_alloc_last wr _) (by simp) (by kernel_rfl) (by simp [Value.oneCell']) ?_; intro w1 Hz; have H1 : Hid (BxAt w1 wr.heap.size (cgC y (.slice a8 n8 k8)) 90 ∧ Below wr.heap.size wr w1) := hid ⟨Hz.out.1, Hz.out.2.below ((Below.refl wr.heap.size wr).alloc (Nat.le_refl _) _) (Nat.le_refl _)⟩; clear Hz)
        clear k0 k1 k2 k3 k4
        go_simp
        have HBx : Hid (∀ x : Cls w1, BxAt x.1 wr.heap.size (cgC y (.slice a8 n8 k8)) 90) := hid (fun x => H1.out.1.keep x.2)
        have HMx : Hid (∀ x : Cls w1, BxAt x.1 w.heap.size [.int .i64 m.k, .int .i64 m.ep, .int .i64 m.v, .int .i64 m.sl, .int .i64 m.rq.c, .int .i64 m.rq.st, .int .i64 m.rq.k, .string m.rq.key, .float .f64 m.rq.b, .int .i64 m.rq.id, .int .i64 m.rs.1, .float .f64 m.rs.2, .string m.tx, v13, v14, .slice (some ⟨g, off, none⟩) n cap, v16] 48) := hid (fun x => ((H0.out.1.keep HB.out).keep H1.out.2).keep x.2)
        have d0 : ∀ x : Cls w1, x.1.cell? ⟨wr.heap.size, 0, none⟩ = some (.int .i64 y.1) := fun x => (HBx.out x).cell 0 _ rfl
        have d1 : ∀ x : Cls w1, x.1.cell? ⟨wr.heap.size, 1, none⟩ = some (.int .i64 y.2.1) := fun x => (HBx.out x).cell 1 _ rfl
        have d2 : ∀ x : Cls w1, x.1.cell? ⟨wr.heap.size, 2, none⟩ = some (.slice a8 n8 k8) := fun x => (HBx.out x).cell 2 _ rfl
        have d3 : ∀ x : Cls w1, x.1.cell? ⟨wr.heap.size, 3, none⟩ = some (.int .i64 y.2.2.2.1) := fun x => (HBx.out x).cell 3 _ rfl
        have d4 : ∀ x : Cls w1, x.1.cell? ⟨wr.heap.size, 4, none⟩ = some (.string y.2.2.2.2) := fun x => (HBx.out x).cell 4 _ rfl
        have m1 : ∀ x : Cls w1, x.1.cell? ⟨w.heap.size, 1, none⟩ = some (.int .i64 m.ep) := fun x => (HMx.out x).cell 1 _ rfl
        have m2 : ∀ x : Cls w1, x.1.cell? ⟨w.heap.size, 2, none⟩ = some (.int .i64 m.v) := fun x => (HMx.out x).cell 2 _ rfl
        have m15 : ∀ x : Cls w1, x.1.cell? ⟨w.heap.size, 15, none⟩ = some (.slice (some ⟨g, off, none⟩) n cap) := fun x => (HMx.out x).cell 15 _ rfl
        have HCe : Hid (∀ u : World, Below w1.heap.size w1 u → Calls Tryz.prog 140 #[.int .i64 m.ep, .agg #[.int .i64 y.1, .int .i64 y.2.1, .slice a8 n8 k8, .int .i64 y.2.2.2.1, .string y.2.2.2.2]] u fun e w' => e = .returned (.bool (cgB m.ep y)) ∧ Below u.heap.size u w') := hid (fun u hu => ichange_any m.ep HE.out.1 HE.out.2 y a8 _ k8 HYb.out.2.1.1 HYb.out.2.1.2 u ((HP.out.under H1.out.2 (Nat.le_refl _)).under hu (Nat.le_refl _)))
        haveI := Cls.ne w1
        by_cases hvw : ¬ y.2.1 = m.v
        · have hf := hid (HFa.out (by rw [HT.out, decide_eq_false hvw]; rfl))
          have hvd : decide (y.2.1 = m.v) = false := decide_eq_false hvw
          have hvb : (y.2.1 == m.v) = false := by simpa using hvw
          have hvn : (y.2.1 != m.v) = true := by rw [bne, hvb]; rfl
          refine wp_region_cls w1 (by kernel_rfl) (by kernel_rfl) ?_
          repeat (go_big_quiet_step ((first
            | (go_at_call 140; exact Cls.of _ (fun u hu => HCe.out u hu)))))
          refine wpQuiet_nil ?_
          rintro _ ⟨x, rfl⟩
          go_wp2
          go_ret
          exact ⟨by rw [hf.out]; rfl, HBw.out.trans ((H1.out.2.trans (x.2.mono H1.out.2.size)).mono HBw.out.size)⟩
        have hvw : y.2.1 = m.v := Classical.not_not.1 hvw
        have HT1 : Hid (cgAt m.ep m.v m.cg j = (cgB m.ep y && (decide (j = 0) || decide (ps < y.1)))) := hid (by rw [HT.out, decide_eq_true hvw]; rfl)
        clear HT
        have hvd : decide (y.2.1 = m.v) = true := decide_eq_true hvw
        have hvb : (y.2.1 == m.v) = true := by simpa using hvw
        have hvn : (y.2.1 != m.v) = false := by rw [bne, hvb]; rfl
        clear hvw
        cases hct : cgB m.ep y with
        | false =>
          rw [hct] at HCe HT1
          have hf := hid (HFa.out HT1.out)
          clear hct
          refine wp_region_cls w1 (by kernel_rfl) (by kernel_rfl) ?_
          repeat (go_big_quiet_step ((first
            | (go_at_call 140; exact Cls.of _ (fun u hu => HCe.out u hu)))))
          refine wpQuiet_nil ?_
          rintro _ ⟨x, rfl⟩
          go_wp2
          go_ret
          exact ⟨by rw [hf.out]; rfl, HBw.out.trans ((H1.out.2.trans (x.2.mono H1.out.2.size)).mono HBw.out.size)⟩
        | true =>
          rw [hct] at HCe HT1
          clear hct
          by_cases hj00 : j = 0
          · have hp := hid (HTr.out (by rw [HT1.out, decide_eq_true hj00]; rfl))
            have hd : decide ((0 : Int) < (j : Int)) = false := decide_eq_false (by omega)
            have hd2 : decide (0 < j) = false := decide_eq_false (by omega)
            clear hj00
            refine wp_region_cls w1 (by kernel_rfl) (by kernel_rfl) ?_
            repeat (go_big_quiet_step ((first
              | (go_at_call 140; exact Cls.of _ (fun u hu => HCe.out u hu)))))
            refine wpQuiet_nil ?_
            rintro _ ⟨x, rfl⟩
            go_wp2
            go_roundw
            case rel => exact ⟨j + 1, by have := HJ.out; omega, by go_num, hp.out, HB.out.trans ((H1.out.2.trans (x.2.mono H1.out.2.size)).mono HB.out.size)⟩
            case measure => simp [intOf]; omega
          · obtain ⟨jm, ejm⟩ : ∃ jm : Nat, jm = j - 1 := ⟨_, rfl⟩
            have dp : ∀ x : Cls w1, x.1.cell? ⟨g, off + jm * 5, none⟩ = some (.int .i64 ps) := fun x => (World.cell?_of_block (a := ⟨g, off + jm * 5, none⟩) ((x.2.block g (Nat.lt_of_lt_of_le HPr.out.2 H1.out.2.size)).trans (H1.out.2.block g HPr.out.2))).trans (by rw [ejm]; exact HPr.out.1 hj00)
            have hw : IntKind.i64.wrap ((j : Int) - 1) = (jm : Int) := by rw [show (j : Int) - 1 = (jm : Int) by omega]; exact wrap_small _ (by omega) (by omega)
            have hjm0 : (0 : Int) ≤ (jm : Int) := Int.natCast_nonneg _
            have hjm1 : (jm : Int) < (n : Int) := by omega
            have hd : decide ((0 : Int) < (j : Int)) = true := decide_eq_true (by omega)
            have hd2 : decide (0 < j) = true := decide_eq_true (by omega)
            have HT2 : Hid (cgAt m.ep m.v m.cg j = decide (ps < y.1)) := hid (by rw [HT1.out, decide_eq_false hj00]; rfl)
            clear ejm hj00
            by_cases hlt : ps < y.1
            · have hp := hid (HTr.out (by rw [HT2.out, decide_eq_true hlt]))
              have hle : decide (y.1 ≤ ps) = false := decide_eq_false (by omega)
              have hle2 : ¬ (y.1 ≤ ps) := by omega
              refine wp_region_cls w1 (by kernel_rfl) (by kernel_rfl) ?_
              repeat (go_big_quiet_step ((first
                | (go_at_call 140; exact Cls.of _ (fun u hu => HCe.out u hu)))))
              refine wpQuiet_nil ?_
              rintro _ ⟨x, rfl⟩
              go_wp2
              go_roundw
              case rel => exact ⟨j + 1, by have := HJ.out; omega, by go_num, hp.out, HB.out.trans ((H1.out.2.trans (x.2.mono H1.out.2.size)).mono HB.out.size)⟩
              case measure => simp [intOf]; omega
            · have hf := hid (HFa.out (by rw [HT2.out, decide_eq_false hlt]))
              have hle : decide (y.1 ≤ ps) = true := decide_eq_true (by omega)
              have hle2 : y.1 ≤ ps := by omega
              refine wp_region_cls w1 (by kernel_rfl) (by kernel_rfl) ?_
              repeat (go_big_quiet_step ((first
                | (go_at_call 140; exact Cls.of _ (fun u hu => HCe.out u hu)))))
              refine wpQuiet_nil ?_
              rintro _ ⟨x, rfl⟩
              go_wp2
              go_ret
              exact ⟨by rw [hf.out]; rfl, HBw.out.trans ((H1.out.2.trans (x.2.mono H1.out.2.size)).mono HBw.out.size)⟩
end Go.Proofs.YthjgnfeadagmeaaGreat
