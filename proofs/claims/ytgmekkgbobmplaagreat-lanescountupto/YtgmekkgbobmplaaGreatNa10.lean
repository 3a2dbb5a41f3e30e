/- Texts laid together: LnF LnG LnH LnI LnJ DsG DsH. -/
import Derived.Test.YtgmekkgbobmplaaGreatLnEM
import Derived.Test.YtgmekkgbobmplaaGreatNa7
import Derived.Test.YtgmekkgbobmplaaGreatNa6
import Derived.Shelf.Slices.Delete
import Derived.Test.YtgmekkgbobmplaaGreatNa5
import Derived.Lib.RowBridge
import Derived.Test.YtgmekkgbobmplaaGreatDsFM
/- A lane in memory: its block, its row of packets, its book. No walk here. -/
namespace Go.Proofs.YtgmekkgbobmplaaGreat
open Go.RowKit

abbrev Pkt := Int × Int × Ms
def ptrV (b : Nat) : Value := .pointer (some ⟨b, 0, none⟩)
/-- The packet p lies at b, its lists in blocks of F. -/
def PkAt (F : Nat → Prop) (w : World) (b : Nat) (p : Pkt) : Prop := ∃ a13 c13 a14 c14 a15 c15 a16 c16, BxAt w b (pkC p.1 p.2.1 p.2.2 (.slice a13 p.2.2.nx.length c13) (.slice a14 p.2.2.sg.length c14) (.slice a15 p.2.2.cg.length c15) (.slice a16 p.2.2.ln.length c16)) 50 ∧
  MsL F w p.2.2 (.slice a13 p.2.2.nx.length c13) (.slice a14 p.2.2.sg.length c14) (.slice a15 p.2.2.cg.length c15) (.slice a16 p.2.2.ln.length c16)
theorem PkAt.keep {F : Nat → Prop} {w w' : World} {b : Nat} {p : Pkt} (h : PkAt F w b p) (hF : F b) (hs : w.heap.size ≤ w'.heap.size) (hb : ∀ k, k < w.heap.size → F k → w'.heap[k]? = w.heap[k]?) : PkAt F w' b p := by
  obtain ⟨a13, c13, a14, c14, a15, c15, a16, c16, h1, h2⟩ := h
  exact ⟨a13, c13, a14, c14, a15, c15, a16, c16, (hb b (lt_of_blk h1) hF).trans h1, h2.keep hs hb⟩
theorem MsL.mono2 {F G : Nat → Prop} {w : World} {m : Ms} {v13 v14 v15 v16 : Value} (h : MsL F w m v13 v14 v15 v16) (hF : ∀ k, k < w.heap.size → F k → G k) : MsL G w m v13 v14 v15 v16 := ⟨h.nx.mono hF, h.sg.mono hF, h.cg.mono hF, h.ln.mono hF⟩
theorem PkAt.mono {F G : Nat → Prop} {w : World} {b : Nat} {p : Pkt} (h : PkAt F w b p) (hF : ∀ k, k < w.heap.size → F k → G k) : PkAt G w b p := by
  obtain ⟨a13, c13, a14, c14, a15, c15, a16, c16, h1, h2⟩ := h
  exact ⟨a13, c13, a14, c14, a15, c15, a16, c16, h1, h2.mono2 hF⟩
def lneV (ab : Option Addr) (kb : Nat) (bad : List Int) (vr vk : Value) : List Value := [.slice ab bad.length kb, vr, vk]
structure LaneM (F : Nat → Prop) (N : Nat) (w : World) (g : Nat) (ab : Option Addr) (kb : Nat) (vr vk : Value) (Fb : List Nat) (bad : List Int) (ps : List Pkt) (L : List Sg) (B : List Nat) : Prop where
  blk : BxAt w g (lneV ab kb bad vr vk) 72
  bd : Reads F w (.slice ab bad.length kb) (dInts bad)
  row : w.ownsRow N 81 1 vr B.length (B.map ptrV)
  len : B.length = ps.length
  pk : ∀ (i b : Nat) (p : Pkt), B[i]? = some b → ps[i]? = some p → F b ∧ PkAt F w b p
  bk : BkAt Fb w vk L
  gN : N ≤ g
  FN : ∀ k, F k → N ≤ k
  bN : ∀ k, k ∈ Fb → N ≤ k
  le : N ≤ w.heap.size
  gF : ¬ F g
  gb : g ∉ Fb
  gr : vr.ownBlock ≠ some g
  rF : ∀ k, vr.ownBlock = some k → ¬ F k
  rb : ∀ k, vr.ownBlock = some k → k ∉ Fb
  Fb : ∀ k, F k → k ∉ Fb
  Fl : ∀ k, F k → k < w.heap.size
  mx : ps.length ≤ 4096
/-- Its blocks. -/
def Lfp (F : Nat → Prop) (g : Nat) (vr : Value) (Fb : List Nat) (k : Nat) : Prop := k = g ∨ vr.ownBlock = some k ∨ k ∈ Fb ∨ F k
/-- A lane at v, of blocks P, with the bad nodes, the packets under way, the book's signatures. -/
def LaneAt (N : Nat) (P : Nat → Prop) (w : World) (v : Value) (bad : List Int) (ps : List Pkt) (L : List Sg) : Prop :=
  ∃ F g ab kb vr vk Fb B, v = ptrV g ∧ LaneM F N w g ab kb vr vk Fb bad ps L B ∧ ∀ k, P k ↔ Lfp F g vr Fb k
/-- What a step leaves of a lane whose blocks were P. -/
def LanePost (N : Nat) (P : Nat → Prop) (w w' : World) (v : Value) (bad : List Int) (ps : List Pkt) (L : List Sg) : Prop := ∃ P', LaneAt N P' w' v bad ps L ∧ Outs P w w' ∧ ∀ k, P' k → P k ∨ w.heap.size ≤ k
theorem own_rowN {w w' : World} {B : Nat} {T : TypeId} {sz n : Nat} {v : Value} {xs : List Value} (h : w.ownsRow B T sz v n xs) (hk : ∀ g, v.ownBlock = some g → w'.heap[g]? = w.heap[g]?) : w'.ownsRow B T sz v n xs := by
  obtain ⟨h1, h2⟩ := h
  refine ⟨h1, ?_⟩
  rcases h2 with h2 | ⟨g, cap, cur, hv, hB, hh, hr⟩
  · exact .inl h2
  · exact .inr ⟨g, cap, cur, hv, hB, (hk g (by rw [hv]; rfl)).trans hh, hr⟩
theorem Outs.ofB {O : Nat → Prop} {w w' : World} (h : Below w.heap.size w w') : Outs O w w' := ⟨h.os, h.tape, h.output, h.size, fun k hk _ => h.block k hk⟩
section
variable {F P : Nat → Prop} {N g : Nat} {w w' : World} {ab : Option Addr} {kb : Nat} {v vr vk : Value} {Fb : List Nat} {bad : List Int} {ps : List Pkt} {L : List Sg} {B : List Nat}
/-- Its blocks stay as they were. -/
theorem LaneM.stay (h : LaneM F N w g ab kb vr vk Fb bad ps L B) (hs : w.heap.size ≤ w'.heap.size) (hk : ∀ k, k < w.heap.size → Lfp F g vr Fb k → w'.heap[k]? = w.heap[k]?) : LaneM F N w' g ab kb vr vk Fb bad ps L B :=
  ⟨(hk g (lt_of_blk h.blk) (.inl rfl)).trans h.blk, h.bd.keep hs (fun k hl hF => hk k hl (.inr (.inr (.inr hF)))), own_rowN h.row (fun k hv => hk k (h.row.lt k hv).2 (.inr (.inl hv))), h.len, fun i b p hb hp => ⟨(h.pk i b p hb hp).1, (h.pk i b p hb hp).2.keep (h.pk i b p hb hp).1 hs (fun k hl hF => hk k hl (.inr (.inr (.inr hF))))⟩, h.bk.keep hs (fun b hb => hk b (h.bk.lt b hb) (.inr (.inr (.inl hb)))), h.gN, h.FN, h.bN, Nat.le_trans h.le hs, h.gF, h.gb, h.gr, h.rF, h.rb, h.Fb, fun k hF => Nat.lt_of_lt_of_le (h.Fl k hF) hs, h.mx⟩
theorem LaneM.keep (h : LaneM F N w g ab kb vr vk Fb bad ps L B) (hb : Below w.heap.size w w') : LaneM F N w' g ab kb vr vk Fb bad ps L B := h.stay hb.size (fun k hl _ => hb.block k hl)
theorem LaneM.lt (h : LaneM F N w g ab kb vr vk Fb bad ps L B) (k : Nat) (hk : Lfp F g vr Fb k) : k < w.heap.size := by
  rcases hk with rfl | hk | hk | hk
  · exact lt_of_blk h.blk
  · exact (h.row.lt k hk).2
  · exact h.bk.lt k hk
  · exact h.Fl k hk
theorem LaneM.low (h : LaneM F N w g ab kb vr vk Fb bad ps L B) (k : Nat) (hk : Lfp F g vr Fb k) : N ≤ k := by
  rcases hk with rfl | hk | hk | hk
  · exact h.gN
  · exact (h.row.lt k hk).1
  · exact h.bN k hk
  · exact h.FN k hk
theorem LaneAt.lt (h : LaneAt N P w v bad ps L) (k : Nat) (hk : P k) : k < w.heap.size := by
  obtain ⟨F, g, ab, kb, vr, vk, Fb, B, _, h1, h2⟩ := h
  exact h1.lt k ((h2 k).1 hk)
theorem LaneAt.low (h : LaneAt N P w v bad ps L) (k : Nat) (hk : P k) : N ≤ k := by
  obtain ⟨F, g, ab, kb, vr, vk, Fb, B, _, h1, h2⟩ := h
  exact h1.low k ((h2 k).1 hk)
theorem LaneAt.mx (h : LaneAt N P w v bad ps L) : ps.length ≤ 4096 := by
  obtain ⟨F, g, ab, kb, vr, vk, Fb, B, _, h1, h2⟩ := h
  exact h1.mx
theorem LaneAt.le (h : LaneAt N P w v bad ps L) : N ≤ w.heap.size := by
  obtain ⟨F, g, ab, kb, vr, vk, Fb, B, _, h1, h2⟩ := h
  exact h1.le
theorem LaneAt.isptr (h : LaneAt N P w v bad ps L) : ∃ g, v = .pointer (some ⟨g, 0, none⟩) := by
  obtain ⟨F, g, ab, kb, vr, vk, Fb, B, h0, h1, h2⟩ := h
  exact ⟨g, h0⟩
theorem LaneAt.stay (h : LaneAt N P w v bad ps L) (hs : w.heap.size ≤ w'.heap.size) (hk : ∀ k, k < w.heap.size → P k → w'.heap[k]? = w.heap[k]?) : LaneAt N P w' v bad ps L := by
  obtain ⟨F, g, ab, kb, vr, vk, Fb, B, h0, h1, h2⟩ := h
  exact ⟨F, g, ab, kb, vr, vk, Fb, B, h0, h1.stay hs (fun k hl hF => hk k hl ((h2 k).2 hF)), h2⟩
theorem LaneAt.keep (h : LaneAt N P w v bad ps L) (hb : Below w.heap.size w w') : LaneAt N P w' v bad ps L := h.stay hb.size (fun k hl _ => hb.block k hl)
/-- New memory is its own too. -/
theorem LaneM.wide {w0 : World} (h : LaneM F N w g ab kb vr vk Fb bad ps L B) (h0 : N ≤ w0.heap.size) (hl : ∀ k, Lfp F g vr Fb k → k < w0.heap.size) : LaneM (fun k => F k ∨ (w0.heap.size ≤ k ∧ k < w.heap.size)) N w g ab kb vr vk Fb bad ps L B := by
  have hx : ∀ k, Lfp F g vr Fb k → ¬ (w0.heap.size ≤ k) := fun k hk hq => by have := hl k hk; omega
  refine ⟨h.blk, h.bd.mono (fun k _ hk => .inl hk), h.row, h.len, fun i b p hb hp => ⟨.inl (h.pk i b p hb hp).1, (h.pk i b p hb hp).2.mono (fun k _ hk => .inl hk)⟩, h.bk, h.gN, ?_, h.bN, h.le, ?_, h.gb, h.gr, ?_, h.rb, ?_, ?_, h.mx⟩
  · rintro k (hk | hk)
    · exact h.FN k hk
    · omega
  · rintro (hk | hk)
    · exact h.gF hk
    · exact hx g (.inl rfl) hk.1
  · rintro k hv (hk | hk)
    · exact h.rF k hv hk
    · exact hx k (.inr (.inl hv)) hk.1
  · rintro k (hk | hk) hb
    · exact h.Fb k hk hb
    · exact hx k (.inr (.inr (.inl hb))) hk.1
  · rintro k (hk | hk)
    · exact h.Fl k hk
    · exact hk.2
/-- Behind an append of the pointer to a packet of its memory, and a store of the row. -/
theorem LaneM.grow {wb w3 w4 : World} {v3 : Value} {b : Nat} {p : Pkt} (h : LaneM F N wb g ab kb vr vk Fb bad ps L B) (hF : F b) (hp : PkAt F wb b p) (hm : ps.length < 4096) (hg : wb.grownBy w3 vr.ownBlock) (ho : w3.ownsRow N 81 1 v3 (B.length + 1) (B.map ptrV ++ [ptrV b])) (hv : v3.ownBlock = vr.ownBlock ∨ v3.ownBlock = some wb.heap.size) (h1 : One g w3 w4) (hk : BxAt w4 g (lneV ab kb bad v3 vk) 72) :
    LaneM F N w4 g ab kb v3 vk Fb bad (ps ++ [p]) L (B ++ [b]) ∧ Outs (Lfp F g vr Fb) wb w4 ∧ ∀ k, Lfp F g v3 Fb k → Lfp F g vr Fb k ∨ wb.heap.size ≤ k := by
  have hblk : ∀ k, k < wb.heap.size → vr.ownBlock ≠ some k → k ≠ g → w4.heap[k]? = wb.heap[k]? := fun k hk1 hk2 hk3 => (h1.block k hk3).trans (hg.block k hk1 (fun e => hk2 e.symm))
  have hs4 : wb.heap.size ≤ w4.heap.size := by rw [h1.size]; exact hg.size
  have hFk : ∀ k, F k → k < wb.heap.size → w4.heap[k]? = wb.heap[k]? := fun k hk hl => hblk k hl (fun e => h.rF k e hk) (fun e => h.gF (e ▸ hk))
  have hv3 : ∀ k, v3.ownBlock = some k → vr.ownBlock = some k ∨ k = wb.heap.size := fun k hk1 => by
    rcases hv with hq | hq
    · exact .inl (hq ▸ hk1)
    · rw [hq] at hk1; cases hk1; exact .inr rfl
  have hgl := lt_of_blk h.blk
  refine ⟨⟨hk, h.bd.keep hs4 (fun k hl hF => hFk k hF hl), ?_, by simp [h.len], ?_, h.bk.keep hs4 (fun k hb => hblk k (h.bk.lt k hb) (fun e => h.rb k e hb) (fun e => h.gb (e ▸ hb))), h.gN, h.FN, h.bN, Nat.le_trans h.le hs4, h.gF, h.gb, ?_, ?_, ?_, h.Fb, fun k hF => Nat.lt_of_lt_of_le (h.Fl k hF) hs4, by simp; omega⟩, ?_, ?_⟩
  · rw [List.length_append, List.map_append]
    refine own_rowN ho (fun k hk1 => h1.block k (fun e => ?_))
    rcases hv3 k hk1 with hq | hq
    · exact h.gr (by rw [hq, e])
    · omega
  · intro i c q hc hq
    have hkeep : F c ∧ PkAt F wb c q := by
      rcases Nat.lt_or_ge i B.length with hi | hi
      · rw [List.getElem?_append_left hi] at hc
        rw [List.getElem?_append_left (by rw [← h.len]; exact hi)] at hq
        exact h.pk i c q hc hq
      · have hi2 : i = B.length := by have := (List.getElem?_eq_some_iff.1 hc).1; simp at this; omega
        subst hi2
        rw [List.getElem?_append_right (Nat.le_refl _)] at hc
        rw [List.getElem?_append_right (by rw [h.len]; exact Nat.le_refl _), h.len] at hq
        simp at hc hq
        subst hc hq
        exact ⟨hF, hp⟩
    exact ⟨hkeep.1, hkeep.2.keep hkeep.1 hs4 (fun k hl hF => hFk k hF hl)⟩
  · intro e
    rcases hv3 g e with hq | hq
    · exact h.gr hq
    · omega
  · intro k hk1 hFk1
    rcases hv3 k hk1 with hq | hq
    · exact h.rF k hq hFk1
    · have := h.Fl k hFk1; omega
  · intro k hk1 hb
    rcases hv3 k hk1 with hq | hq
    · exact h.rb k hq hb
    · have := h.bk.lt k hb; omega
  · refine ⟨h1.os.trans hg.os, h1.tape.trans hg.tape, h1.output.trans hg.output, hs4, fun k hk1 hk2 => ?_⟩
    exact hblk k hk1 (fun e => hk2 (.inr (.inl e))) (fun e => hk2 (.inl e))
  · rintro k (hq | hq | hq)
    · exact .inl (.inl hq)
    · rcases hv3 k hq with hq | hq
      · exact .inl (.inr (.inl hq))
      · exact .inr (Nat.le_of_eq hq.symm)
    · exact .inl (.inr (.inr hq))
end
end Go.Proofs.YtgmekkgbobmplaaGreat

/- The program's lane: a new one, how many are under way, where the packet n stands. -/
namespace Go.Proofs.YtgmekkgbobmplaaGreat
open Go.RowKit

theorem LaneAt.fresh {w w1 w2 : World} {a1 : Option Addr} {c1 : Nat} {l : List Int} {vk : Value} {Fb : List Nat} (hN : NewI w.heap.size w1 a1 l) (hb1 : Below w.heap.size w w1) (hB : BkAt Fb w2 vk []) (hF : ∀ b, b ∈ Fb → w1.heap.size ≤ b) (hb2 : Below w1.heap.size w1 w2) :
    ∃ P, LaneAt w.heap.size P (w2.alloc (.cells (lneV a1 c1 l (.slice none 0 0) vk).toArray 72)) (.pointer (some ⟨w2.heap.size, 0, none⟩)) l [] [] := by
  have hu : Below w2.heap.size w2 (w2.alloc (.cells (lneV a1 c1 l (.slice none 0 0) vk).toArray 72)) := (Below.refl _ _).alloc (Nat.le_refl _) _
  have hs : (w2.alloc (.cells (lneV a1 c1 l (.slice none 0 0) vk).toArray 72)).heap.size = w2.heap.size + 1 := by simp
  have hx : ∀ x, a1 = some x → w.heap.size ≤ x.block ∧ x.block < w1.heap.size := fun x hx => ⟨(hN.far x hx).1, (hN.far x hx).2.lt⟩
  have hs1 := hb1.size
  have hs2 := hb2.size
  refine ⟨Lfp (fun k => ∃ x, a1 = some x ∧ x.block = k) w2.heap.size (.slice none 0 0) Fb, _, w2.heap.size, a1, c1, .slice none 0 0, vk, Fb, [], rfl, ⟨heap_alloc_last w2 _, ?_, ⟨rfl, .inl ⟨rfl, rfl⟩⟩, rfl, (fun i b p hb _ => by cases hb), hB.of_below hu, by omega, ?_, (fun k hk => Nat.le_trans hs1 (hF k hk)), by omega, ?_, (fun h => Nat.lt_irrefl _ (hB.lt _ h)), by simp [Value.ownBlock], (fun k hk => by cases hk), (fun k hk => by cases hk), ?_, ?_, by simp⟩, fun k => Iff.rfl⟩
  · exact ints_reads ((hN.keep (hb2.mono (Nat.le_refl _))).ints.keep hu (Nat.le_refl _)) (fun x hx _ => ⟨x, hx, rfl⟩)
  · rintro k ⟨x, h1, rfl⟩
    exact (hx x h1).1
  · rintro ⟨x, h1, h2⟩
    have := (hx x h1).2
    omega
  · rintro k ⟨x, h1, rfl⟩ hk
    have := (hx x h1).2
    have := hF _ hk
    omega
  · rintro k ⟨x, h1, rfl⟩
    have := (hx x h1).2
    omega
set_option maxRecDepth 100000 in
set_option maxHeartbeats 1600000 in
theorem nnew_any (a : Option Addr) (n cap : Nat) (l : List Int) (hn : l.length = n) (hm : n * 8 ≤ 140737488355328) (w : World) (hI : IntsIn w a l) :
    Calls Tryz.prog 9 #[.slice a n cap] w fun e w' => ∃ v P, e = .returned v ∧ LaneAt w.heap.size P w' v l [] [] ∧ Below w.heap.size w w' := by
  subst hn
  have HC := hid (cloneInts_any a l.length cap l rfl hm w hI)
  clear hI hm
  go_enter Tryz.func9, Tryz.ntmps9
  go_wp2_with (first
    | (go_at_call 31; go_must (refine (tnew_any _).mono ?_; rintro e w2 ⟨vk, Fb, rfl, hB, hF, hb⟩; obtain ⟨gk, rfl⟩ := hB.form; have H2 := hid (And.intro hB (And.intro hF hb)); clear hB hF hb))
    | (go_at_call 30; go_must (refine (HC.out).mono ?_; rintro e w1 ⟨a1, c1, rfl, hn, hb⟩; have H1 := hid (And.intro hn hb); clear hn hb)))
  go_ret
  obtain ⟨P, hP⟩ := LaneAt.fresh (c1 := c1) H1.out.1 H1.out.2 H2.out.1 H2.out.2.1 H2.out.2.2
  exact ⟨_, P, rfl, hP, (H1.out.2.trans (H2.out.2.2.mono H1.out.2.size)).alloc (Nat.le_trans H1.out.2.size H2.out.2.2.size) _⟩
theorem row_lane {w : World} {N n : Nat} {T : TypeId} {v : Value} {xs : List Value} (h : w.ownsRow N T 1 v n xs) : ∃ ad cap, v = .slice ad n cap ∧ n ≤ cap ∧ cap ≤ maxLen ∧ (0 < n → ∃ r, ad = some ⟨r, 0, none⟩ ∧ r < w.heap.size ∧ ∀ (j : Nat) (u : Value), xs[j]? = some u → w.cell? ⟨r, j, none⟩ = some u) := by
  rcases h.2 with ⟨hv, h0⟩ | ⟨g, cap, cur, hv, hB, hh, hnc, hcm, hr⟩
  · exact ⟨none, 0, by rw [hv, h0], by omega, by unfold maxLen; omega, fun hn => by omega⟩
  · refine ⟨_, cap, hv, hnc, hcm, fun hn => ⟨g, rfl, lt_of_blk hh, fun j u hu => ?_⟩⟩
    subst hv
    have := h.cells (g := g) rfl j u hu
    rw [Addr.add_lit, Nat.zero_add] at this
    exact this
section
variable {P : Nat → Prop} {N : Nat} {w : World} {v : Value} {bad : List Int} {ps : List Pkt} {L : List Sg}
theorem nlen_any (h : LaneAt N P w v bad ps L) : Calls Tryz.prog 24 #[v] w fun e w' => e = .returned (.int .i64 (ps.length : Int)) ∧ Below w.heap.size w w' := by
  obtain ⟨F, g, ab, kb, vr, vk, Fb, B, rfl, hM, _⟩ := h
  obtain ⟨ad, cap, rfl, _, _, _⟩ := row_lane hM.row
  have y1 := hM.blk.cell 1 _ rfl
  have hl := hM.len
  rw [hl] at y1
  clear hM hl
  unfold ptrV
  go_enter Tryz.func24, Tryz.ntmps24
  go_wp2
  go_ret
  exact ⟨rfl, Below.refl _ _⟩
theorem nlen_nil (w : World) : Calls Tryz.prog 24 #[.pointer none] w fun e w' => e = .returned (.int .i64 0) ∧ Below w.heap.size w w' := by
  go_enter Tryz.func24, Tryz.ntmps24
  go_wp2
  go_ret
  exact ⟨rfl, Below.refl _ _⟩
/-- Where the packet n stands, of c. -/
def plN (n : Int) (c : Nat) : Nat := (n % (c : Int)).toNat
theorem plN_lt (n : Int) {c : Nat} (hc : 0 < c) : plN n c < c := by
  have h1 := Int.emod_nonneg n (b := (c : Int)) (by omega)
  have h2 := Int.emod_lt_of_pos n (b := (c : Int)) (by omega)
  unfold plN
  omega
theorem plN_neg {n : Int} {c : Nat} (hc : 0 < c) (h : n.tmod c < 0) : n.tmod c + c = (plN n c : Int) := by
  have h1 := Int.emod_nonneg n (b := (c : Int)) (by omega)
  have h2 := Int.tmod_add_mul_tdiv n (c : Int)
  have h3 := Int.emod_add_mul_ediv n (c : Int)
  have h4 := Int.emod_lt_of_pos n (b := (c : Int)) (by omega)
  have h5 : -(c : Int) < n.tmod c := by
    have := Int.lt_tmod_of_pos n (b := (c : Int)) (by omega)
    omega
  have h6 : n.tmod c + c = n % c := by
    have e : (n.tmod c + c) % c = n % c := by
      rw [Int.add_emod_right, ← h2, Int.add_mul_emod_self_left, h2]
    rw [← e, Int.emod_eq_of_lt (by omega) (by omega)]
  unfold plN
  omega
theorem plN_pos {n : Int} {c : Nat} (hc : 0 < c) (h : ¬ n.tmod c < 0) : n.tmod c = (plN n c : Int) := by
  have h1 := Int.emod_nonneg n (b := (c : Int)) (by omega)
  have h2 := Int.tmod_add_mul_tdiv n (c : Int)
  have h5 : n.tmod c < c := Int.tmod_lt_of_pos n (by omega)
  have h6 : n.tmod c = n % c := by
    have e : (n.tmod c) % c = n % c := by
      conv => rhs; rw [← h2, Int.add_mul_emod_self_left]
    rw [← e, Int.emod_eq_of_lt (by omega) (by omega)]
  unfold plN
  omega
theorem nplace_nil (n : Int) (w : World) : Calls Tryz.prog 40 #[.pointer none, .int .i64 n] w fun e w' => e = .returned (.tuple #[.int .i64 0, .bool false]) ∧ Below w.heap.size w w' := by
  go_enter Tryz.func40, Tryz.ntmps40
  go_wp2_with (go_at_call 24; go_must (refine (nlen_nil _).mono ?_; rintro e w1 ⟨rfl, hb⟩; have H1 := hid hb; clear hb))
  go_ret2
  exact ⟨rfl, H1.out⟩
theorem nplace_none (h : LaneAt N P w v bad ps L) (hp : ps.length = 0) (n : Int) : Calls Tryz.prog 40 #[v, .int .i64 n] w fun e w' => e = .returned (.tuple #[.int .i64 0, .bool false]) ∧ Below w.heap.size w w' := by
  have HL := hid (nlen_any h)
  rw [hp] at HL
  clear h hp
  go_enter Tryz.func40, Tryz.ntmps40
  go_wp2_with (go_at_call 24; go_must (refine (HL.out).mono ?_; rintro e w1 ⟨rfl, hb⟩; have H1 := hid hb; clear hb))
  go_ret2
  exact ⟨rfl, H1.out⟩
theorem nplace_any (h : LaneAt N P w v bad ps L) (hp : 0 < ps.length) (n : Int) : Calls Tryz.prog 40 #[v, .int .i64 n] w fun e w' => e = .returned (.tuple #[.int .i64 (plN n ps.length : Int), .bool true]) ∧ Below w.heap.size w w' := by
  have HL := hid (nlen_any h)
  have hmx := h.mx
  have hlt := plN_lt n hp
  have hc0 : ((ps.length : Int) == 0) = false := beq_eq_false_iff_ne.2 (by omega)
  have hc1 : ¬ (ps.length : Int) = 0 := by omega
  clear h
  generalize hc : ps.length = c at *
  by_cases ht : n.tmod c < 0
  · have hr := plN_neg hp ht
    have q1 : decide (n.tmod c < 0) = true := decide_eq_true ht
    have hw : IntKind.i64.wrap ((plN n c : Nat) : Int) = (plN n c : Int) := wrap_l3 (by omega) (by clear q1 hr; omega)
    have hz : wrap64 (n.tmod c + c) = ((plN n c : Nat) : Int) := by rw [hr, ← IntWalk.i64_left]; exact hw
    clear hmx hlt hp hc ht hr hw
    go_enter Tryz.func40, Tryz.ntmps40
    go_wp2_with (go_at_call 24; go_must (refine (HL.out).mono ?_; rintro e w1 ⟨rfl, hb⟩; have H1 := hid hb; clear hb))
    go_ret2
    refine ⟨?_, H1.out⟩
    simp [hz]
  · have hr := plN_pos hp ht
    have q1 : decide (n.tmod c < 0) = false := decide_eq_false ht
    clear hmx hlt hp hc ht
    go_enter Tryz.func40, Tryz.ntmps40
    go_wp2_with (go_at_call 24; go_must (refine (HL.out).mono ?_; rintro e w1 ⟨rfl, hb⟩; have H1 := hid hb; clear hb))
    go_ret2
    exact ⟨rfl, H1.out⟩
end
end Go.Proofs.YtgmekkgbobmplaaGreat

/- The program's lane: one more packet behind the row. -/
namespace Go.Proofs.YtgmekkgbobmplaaGreat
open Go.RowKit

theorem nInfoP : (Tryz.prog.info? 81).map (fun i => (i.zero, i.size, i.bytes)) = some (some (.pointer none), 1, 8) := by kernel_rfl
theorem nUndP : Tryz.prog.underlying 70 = some (.slice 81) := by kernel_rfl
section
variable {F P : Nat → Prop} {N g : Nat} {w w' : World} {ab : Option Addr} {kb : Nat} {v vr vk : Value} {Fb : List Nat} {bad : List Int} {ps : List Pkt} {L : List Sg} {B : List Nat}
theorem LaneM.out {wb w3 w4 : World} {v3 : Value} {b : Nat} {p : Pkt} (h : LaneM F N w g ab kb vr vk Fb bad ps L B) (hb : Below w.heap.size w wb) (hF : w.heap.size ≤ b ∧ b < wb.heap.size) (hp : PkAt (fun k => F k ∨ (w.heap.size ≤ k ∧ k < wb.heap.size)) wb b p) (hm : ps.length < 4096) (hg : wb.grownBy w3 vr.ownBlock) (ho : w3.ownsRow N 81 1 v3 (B.length + 1) (B.map ptrV ++ [ptrV b])) (hv : v3.ownBlock = vr.ownBlock ∨ v3.ownBlock = some wb.heap.size) (h1 : One g w3 w4) (hk : BxAt w4 g (lneV ab kb bad v3 vk) 72) :
    LanePost N (Lfp F g vr Fb) w w4 (ptrV g) bad (ps ++ [p]) L := by
  have hM := (h.keep hb).wide h.le h.lt
  obtain ⟨k1, k2, k3⟩ := hM.grow (.inr hF) hp hm hg ho hv h1 hk
  have hlow : ∀ k, Lfp (fun k => F k ∨ (w.heap.size ≤ k ∧ k < wb.heap.size)) g vr Fb k → Lfp F g vr Fb k ∨ w.heap.size ≤ k := by
    rintro k (hk | hk | hk | hk | hk)
    · exact .inl (.inl hk)
    · exact .inl (.inr (.inl hk))
    · exact .inl (.inr (.inr (.inl hk)))
    · exact .inl (.inr (.inr (.inr hk)))
    · exact .inr hk.1
  refine ⟨_, ⟨_, g, ab, kb, v3, vk, Fb, _, rfl, k1, fun k => Iff.rfl⟩, (Outs.ofB hb).trans k2 (fun j hj hq => ?_), fun k hq => ?_⟩
  · rcases hlow j hq with hq | hq
    · exact hq
    · omega
  · rcases k3 k hq with hq | hq
    · exact hlow k hq
    · exact .inr (Nat.le_trans hb.size hq)
set_option maxRecDepth 100000 in
set_option maxHeartbeats 3200000 in
theorem nadd_any (h : LaneM F N w g ab kb vr vk Fb bad ps L B) (fr to : Int) (m : Ms) (a13 a14 a15 a16 : Option Addr) (c13 c14 c15 c16 : Nat) (hL : MsL F w m (.slice a13 m.nx.length c13) (.slice a14 m.sg.length c14) (.slice a15 m.cg.length c15) (.slice a16 m.ln.length c16)) :
    Calls Tryz.prog 35 #[.pointer (some ⟨g, 0, none⟩), .agg (pkC fr to m (.slice a13 m.nx.length c13) (.slice a14 m.sg.length c14) (.slice a15 m.cg.length c15) (.slice a16 m.ln.length c16)).toArray] w fun e w' => (ps.length < 4096 → e = .returned (.bool true) ∧ LanePost N (Lfp F g vr Fb) w w' (ptrV g) bad (ps ++ [(fr, to, m)]) L) ∧ (¬ ps.length < 4096 → e = .returned (.bool false) ∧ Below w.heap.size w w') := by
  obtain ⟨wa, ea⟩ : ∃ wa, wa = w.alloc (.cells (pkC fr to m (.slice a13 m.nx.length c13) (.slice a14 m.sg.length c14) (.slice a15 m.cg.length c15) (.slice a16 m.ln.length c16)).toArray 50) := ⟨_, rfl⟩
  have hb : Below w.heap.size w wa := by rw [ea]; exact (Below.refl _ _).alloc (Nat.le_refl _) _
  have hx : BxAt wa w.heap.size (pkC fr to m (.slice a13 m.nx.length c13) (.slice a14 m.sg.length c14) (.slice a15 m.cg.length c15) (.slice a16 m.ln.length c16)) 50 := by rw [ea]; exact heap_alloc_last w _
  have hsa : wa.heap.size = w.heap.size + 1 := by rw [ea]; simp
  obtain ⟨A, eA⟩ : ∃ A, A = pkC fr to m (.slice a13 m.nx.length c13) (.slice a14 m.sg.length c14) (.slice a15 m.cg.length c15) (.slice a16 m.ln.length c16) := ⟨_, rfl⟩
  rw [← eA] at ea ⊢
  have HA := hid ea.symm
  have hrow := h.row
  rw [h.len] at hrow
  obtain ⟨ad, cap, rfl, hcap, hcm, _⟩ := row_lane hrow
  clear hrow
  have y1 := (h.blk.keep hb).cell 1 _ rfl
  have HM := hid h
  by_cases hm : ps.length < 4096
  · have q1 : decide ((ps.length : Int) ≥ 4096) = false := decide_eq_false (by omega)
    obtain ⟨i0, hi0, hz0, hz1, hz2⟩ := info_parts nInfoP
    obtain ⟨wb, eb⟩ : ∃ wb, wb = wa.alloc (.cells #[.pointer (some ⟨w.heap.size, 0, none⟩)] 81) := ⟨_, rfl⟩
    have hbb : Below wa.heap.size wa wb := by rw [eb]; exact (Below.refl _ _).alloc (Nat.le_refl _) _
    have hsb : wb.heap.size = w.heap.size + 2 := by rw [eb]; simp [hsa]
    have hc1 : wb.cell? ⟨wa.heap.size, 0, none⟩ = some (ptrV w.heap.size) := by
      have h9 : BxAt wb wa.heap.size [ptrV w.heap.size] 81 := by rw [eb]; exact heap_alloc_last wa _
      exact h9.cell 0 _ rfl
    have HB := hid eb.symm
    have H0 : Hid (Below w.heap.size w wb ∧ BxAt wb w.heap.size (pkC fr to m (.slice a13 m.nx.length c13) (.slice a14 m.sg.length c14) (.slice a15 m.cg.length c15) (.slice a16 m.ln.length c16)) 50 ∧ MsL F w m (.slice a13 m.nx.length c13) (.slice a14 m.sg.length c14) (.slice a15 m.cg.length c15) (.slice a16 m.ln.length c16) ∧ wb.heap.size = w.heap.size + 2 ∧ ps.length < 4096 ∧ wb.cell? ⟨wa.heap.size, 0, none⟩ = some (ptrV w.heap.size)) := hid ⟨hb.trans (hbb.mono hb.size), hx.keep hbb, hL, hsb, hm, hc1⟩
    have HS := hid (show wa.heap.size = w.heap.size + 1 from hsa)
    have HR : Hid (wb.ownsRow N 81 1 (.slice ad ps.length cap) ps.length (B.map ptrV)) := hid (by have h9 := (h.keep (hb.trans (hbb.mono hb.size))).row; rw [h.len] at h9; exact h9)
    clear hb hx hsa eA hL h hbb hsb hc1 ea eb hm hcap hcm
    go_enter Tryz.func35, Tryz.ntmps35
    go_upto_region 1 with fail
    rw [HA.out]
    go_upto_region 3 with fail
    go_wp2_with (first
      | (have := H3; refine wl_stone rfl 70 _ _ rfl g 1 rfl (.slice a3 (ps.length + 1) k3) rfl rfl rfl (lneV ab kb bad (.slice ad ps.length cap) vk) 72 H3.out.2.2.2 (by simp [lneV]) (by kernel_rfl) ?_; go_must (intro w4 Hz; have H4 := Hz; clear Hz))
      | (at_builtin; rw [HB.out]; refine wpList_plain rfl (fun K hK => ?_); refine owp_append_at _ _ 70 rfl N 81 i0 (.pointer none) 1 8 nUndP hi0 hz0 hz1 hz2 rfl (by decide) (.slice ad ps.length cap) ps.length (B.map ptrV) rfl (by exact HR.out) ⟨wa.heap.size, 0, none⟩ 1 1 [ptrV w.heap.size] rfl rfl (fun j u hj => by
            match j, hj with
            | 0, hj => cases hj; exact H0.out.2.2.2.2.2
            | j + 1, hj => cases hj) (by simp [ptrV, Value.oneCell']) (by have := H0.out.2.2.2.2.1; unfold maxLen; omega) (by have := H0.out.2.2.2.2.1; omega) (Nat.le_trans HM.out.le H0.out.1.size) (fun v3 w3 hown hgrow hv => ?_); obtain ⟨a3, k3, rfl, _, _, _⟩ := row_lane hown; refine hK _ _ ?_; have H3 : Hid (w3.ownsRow N 81 1 (.slice a3 (ps.length + 1) k3) (ps.length + 1) (B.map ptrV ++ [ptrV w.heap.size]) ∧ wb.grownBy w3 (Value.slice ad ps.length cap).ownBlock ∧ ((Value.slice a3 (ps.length + 1) k3).ownBlock = (Value.slice ad ps.length cap).ownBlock ∨ (Value.slice a3 (ps.length + 1) k3).ownBlock = some wb.heap.size) ∧ BxAt w3 g (lneV ab kb bad (.slice ad ps.length cap) vk) 72) := hid ⟨hown, hgrow, hv, (hgrow.block g (Nat.lt_of_lt_of_le (lt_of_blk HM.out.blk) H0.out.1.size) (fun e => HM.out.gr e.symm)).trans (HM.out.blk.keep H0.out.1)⟩; clear hown hgrow hv))
    go_ret
    refine ⟨fun _ => ⟨rfl, ?_⟩, fun hn => absurd H0.out.2.2.2.2.1 hn⟩
    obtain ⟨k1, k2, k3', k4, k5, k6⟩ := H0.out
    exact HM.out.out (b := w.heap.size) (p := (fr, to, m)) k1 ⟨Nat.le_refl _, by omega⟩ ⟨_, _, _, _, _, _, _, _, k2, (k3'.under k1).mono2 (fun k _ hk => .inl hk)⟩ k5 H3.out.2.1 (by rw [HM.out.len]; exact H3.out.1) H3.out.2.2.1 H4.out.2 H4.out.1
  · have q1 : decide ((ps.length : Int) ≥ 4096) = true := decide_eq_true (by omega)
    have HF := hid (And.intro hm hb)
    clear hb hx hsa eA hL h ea hm hcap hcm
    go_enter Tryz.func35, Tryz.ntmps35
    go_upto_region 1 with fail
    rw [HA.out]
    go_wp2
    go_ret
    exact ⟨fun h => absurd h HF.out.1, fun _ => ⟨rfl, HF.out.2⟩⟩
end
end Go.Proofs.YtgmekkgbobmplaaGreat

/- slices.Delete of a row of pointers: the library's own text walked. -/
namespace Go.Proofs.YtgmekkgbobmplaaGreat
open Go.RowKit Go.Lib Go.Sort Go.Shelf

def encP : Option Nat → Value
  | none => .pointer none
  | some b => ptrV b
set_option maxHeartbeats 4000000 in
set_option maxRecDepth 1000000 in
theorem ndel_arr (blk off cap i j : Nat) (d : Array (Option Nat)) (w : World) (hH : Sort.Holds encP w blk off d) (hcap : d.size ≤ cap) (hm : cap ≤ 9223372036854775807) (hlt : i < j) (hj : j ≤ d.size) :
    Calls Tryz.prog 41 #[.slice (some ⟨blk, off, none⟩) d.size cap, .int .i64 i, .int .i64 j] w fun e w' => e = .returned (.slice (some ⟨blk, off, none⟩) (d.size - (j - i)) cap) ∧ ∃ q, w' = putRow encP (Sort.ahead w q) blk off (d.toList.take i ++ d.toList.drop j ++ List.replicate (j - i) none).toArray := by
  obtain ⟨i0, hi0, hz0, hz1, hz2⟩ := info_parts nInfoP
  have t22 := nUndP
  have mixed : Tryz.prog.follows .mixedOrders = true := by kernel_rfl
  have hij : i ≤ j := by omega
  -- the cells that are moved to the left
  obtain ⟨news, hnews⟩ : ∃ news, news = (d.toList.drop j).map encP := ⟨_, rfl⟩
  have hlen : news.length = d.size - j := by rw [hnews]; simp
  have hget : ∀ t, t < d.size - j → news[t]? = some (encP d[j + t]!) := by
    intro t ht
    rw [hnews, List.getElem?_map, List.getElem?_drop, Array.getElem?_toList, getElem!_pos d (j + t) (by omega), Array.getElem?_eq_getElem (by omega)]
    rfl
  obtain ⟨A, hA, hsrc⟩ : ∃ A : Addr, (if cap = j then some (⟨blk, off, none⟩ : Addr) else some ⟨blk, off + j, none⟩) = some A ∧ Hid (∀ t u, news[t]? = some u → w.drew.cell? (A.add t) = some u) := by
    by_cases h : cap = j
    · refine ⟨⟨blk, off, none⟩, by simp [h], fun t u hu => ?_⟩
      have h0 : news.length = 0 := by rw [hlen]; omega
      rw [List.length_eq_zero_iff.1 h0] at hu
      simp at hu
    · refine ⟨⟨blk, off + j, none⟩, by simp [h], fun t u hu => ?_⟩
      have ht : t < d.size - j := by
        have := (List.getElem?_eq_some_iff.1 hu).1
        rwa [hlen] at this
      rw [hget t ht] at hu
      rw [Addr.add_lit, show off + j + t = off + (j + t) by omega]
      exact (hH (j + t) (by omega)).1.trans hu
  have s1 : Hid (news.length = (d.size - j) * 1) := by rw [Nat.mul_one]; exact hlen
  have s2 : Hid (∀ u ∈ news, u.oneCell' = true) := by
    intro u hu
    rw [hnews] at hu
    obtain ⟨x, _, rfl⟩ := List.mem_map.1 hu
    cases x <;> rfl
  have s3 : Hid (∀ t, t < news.length → (w.drew.cell? ⟨blk, off + i * 1 + t, none⟩).isSome = true ∧ w.drew.frozen? ⟨blk, off + i * 1 + t, none⟩ = false) := by
    intro t ht
    rw [hlen] at ht
    rw [Nat.mul_one, Nat.add_assoc]
    exact ⟨by show (w.cell? _).isSome = true; rw [(hH (i + t) (by omega)).1]; rfl, (hH (i + t) (by omega)).2⟩
  -- the world behind the append, behind a name
  obtain ⟨W1, hW1⟩ : ∃ W1, W1 = w.drew.setCells blk (off + i * 1) news := ⟨_, rfl⟩
  have hW1' : W1 = putRow encP (Sort.ahead w 1) blk off (lay d i (d.toList.drop j)) := by
    rw [hW1, hnews, Nat.mul_one, ← putRow_setCells encP (Sort.ahead w 1) blk off _ d i (by simp; omega), putRow_self encP (Sort.ahead w 1) blk off d (holds_ahead encP w 1 blk off d hH)]
    rfl
  have hH1 : Sort.Holds encP W1 blk off (lay d i (d.toList.drop j)) := by rw [hW1']; exact holds_putRow encP _ blk off d _ (holds_ahead encP w 1 blk off d hH) (lay_size _ _ _)
  have hcl : ∀ ty, (Builtin.clear_ #[70] ty #[.slice (some ⟨blk, off + (i + (d.size - j)), none⟩) (d.size - (i + (d.size - j))) (cap - (i + (d.size - j)))]).run Tryz.prog W1 = .ok (.tuple #[]) (W1.setCells blk (off + (i + (d.size - j))) (List.replicate (d.size - (i + (d.size - j))) (encP none))) :=
    fun ty => Lib.run_clear_slice W1 _ _ ty _ t22 Tryz.zeroValue81 rfl rfl blk (off + (i + (d.size - j))) _ _ (by omega) (fun t ht => by rw [show off + (i + (d.size - j)) + t = off + (i + (d.size - j) + t) by omega, (hH1 _ (by rw [lay_size]; omega)).1]; rfl) (fun t ht => by rw [show off + (i + (d.size - j)) + t = off + (i + (d.size - j) + t) by omega]; exact (hH1 _ (by rw [lay_size]; omega)).2)
  have X : Aside (W1 = putRow encP (Sort.ahead w 1) blk off (lay d i (d.toList.drop j))) := hW1'
  have hW : Hid (W1 = w.drew.setCells blk (off + i * 1) news) := hW1
  have hic : i ≤ cap := by omega
  have hjc : j ≤ cap := by omega
  clear hW1 hW1' hH1 hH hget hnews hlen
  go_enter Tryz.func41, Tryz.ntmps41
  go_wp2_with fail
  go_region_law_o (refine step_append_room rfl (.tmp 22) (.tmp 25) 70 rfl 81 i0 1 t22 hi0 hz1 blk off i cap (by simp [Act.eval, Act.put]) A (d.size - j) (cap - j) news (by simp [Act.eval, Act.put]) s1.out hsrc.out s2.out (by omega) s3.out ?_; rw [← hW.out])
  go_wp2
  go_ret
  refine ⟨by rw [show d.size - (j - i) = i + (d.size - j) by omega]; rfl, 1, ?_⟩
  rw [← delete_arr d i j none hij hj, ← putRow_setCells encP _ blk off _ _ (i + (d.size - j)) (by rw [lay_size]; simp; omega), ← X.out, List.map_replicate, show d.size - (i + (d.size - j)) = j - i by omega]
end Go.Proofs.YtgmekkgbobmplaaGreat

/- The program's lane: a packet is taken. -/
namespace Go.Proofs.YtgmekkgbobmplaaGreat
open Go.RowKit

/-- A list without its p-th. -/
def rmv {α : Type} (l : List α) (p : Nat) : List α := l.take p ++ l.drop (p + 1)
theorem rmv_len {α : Type} {l : List α} {p : Nat} (hp : p < l.length) : (rmv l p).length = l.length - 1 := by
  rw [rmv, List.length_append, List.length_take, List.length_drop]
  omega
theorem rmv_get {α : Type} {l : List α} {p : Nat} (hp : p < l.length) (i : Nat) : (rmv l p)[i]? = l[if i < p then i else i + 1]? := by
  have ht : (l.take p).length = p := by rw [List.length_take]; omega
  unfold rmv
  split
  · rename_i h
    rw [List.getElem?_append_left (by omega), List.getElem?_take_of_lt h]
  · rename_i h
    rw [List.getElem?_append_right (by omega), ht, List.getElem?_drop]
    congr 1
    omega
theorem ndel_row {N r n cap p : Nat} {B : List Nat} {w : World} (hown : w.ownsRow N 81 1 (.slice (some ⟨r, 0, none⟩) n cap) n (B.map ptrV)) (hp : p < n) :
    Calls Tryz.prog 41 #[.slice (some ⟨r, 0, none⟩) n cap, .int .i64 (p : Int), .int .i64 ((p : Int) + 1)] w fun e w' => e = .returned (.slice (some ⟨r, 0, none⟩) (n - 1) cap) ∧ w'.ownsRow N 81 1 (.slice (some ⟨r, 0, none⟩) (n - 1) cap) (n - 1) ((rmv B p).map ptrV) ∧ One r w w' := by
  obtain ⟨hl, h2⟩ := hown
  have hBn : B.length = n := by simpa using hl
  rcases h2 with ⟨hv, _⟩ | ⟨g, c, cur, hv, hN, hh, hnc, hcm, hcs, ht⟩
  · cases hv
  cases hv
  rw [Nat.mul_one] at ht hcs
  have hcell : ∀ j b, B[j]? = some b → w.cell? ⟨r, j, none⟩ = some (ptrV b) := fun j b hb => by
    refine cell_at (L := cur.toList) (by simpa using hh) j _ ?_
    have h9 : (cur.toList.take n)[j]? = some (ptrV b) := by rw [ht, List.getElem?_map, hb]; rfl
    have hj : j < n := by rw [← hBn]; exact (List.getElem?_eq_some_iff.1 hb).1
    rw [List.getElem?_take_of_lt hj] at h9
    exact h9
  have hH : Go.Sort.Holds encP w r 0 (B.map some).toArray := fun j hj => by
    have hj' : j < B.length := by simpa using hj
    refine ⟨?_, free_at hh _⟩
    rw [Nat.zero_add, hcell j _ (List.getElem?_eq_getElem hj')]
    simp [hj', encP]
  have h := ndel_arr r 0 cap p (p + 1) (B.map some).toArray w hH (by simp [hBn]; omega) (by unfold maxLen at hcm; omega) (Nat.lt_succ_self p) (by simp [hBn]; omega)
  rw [show (B.map some).toArray.size = n by simp [hBn]] at h
  refine h.mono ?_
  rintro e w' ⟨rfl, q, rfl⟩
  have hps : p + 1 - p = 1 := by omega
  rw [hps]
  have hnew : ((B.map some).toArray.toList.take p ++ (B.map some).toArray.toList.drop (p + 1) ++ List.replicate 1 none).length = (B.map some).toArray.size := by simp [hBn]; omega
  rw [Lib.putRow_eq_setCells encP w r 0 (B.map some).toArray _ q hH hnew]
  have hcl : cur.toList.length = cap := by simpa using hcs
  have hw0 : (w.drewN q).heap[r]? = some (.cells cur.toList.toArray 81 (0, 0)) := by simpa using hh
  have hvl : (((B.map some).toArray.toList.take p ++ (B.map some).toArray.toList.drop (p + 1) ++ List.replicate 1 none).map encP).length = n := by rw [List.length_map, hnew]; simp [hBn]
  have k1 := sets_blk (((B.map some).toArray.toList.take p ++ (B.map some).toArray.toList.drop (p + 1) ++ List.replicate 1 none).map encP) 0 (w.drewN q) _ hw0 (by rw [hvl, hcl]; omega)
  rw [hvl, Nat.zero_add, List.take_zero, List.nil_append] at k1
  have hone := one_cells r (((B.map some).toArray.toList.take p ++ (B.map some).toArray.toList.drop (p + 1) ++ List.replicate 1 none).map encP) 0 (w.drewN q)
  have hmap : ((B.map some).toArray.toList.take p ++ (B.map some).toArray.toList.drop (p + 1) ++ List.replicate 1 none).map encP = (rmv B p).map ptrV ++ [.pointer none] := by
    unfold rmv
    simp [encP, Function.comp_def]
  rw [hmap] at k1 hone hvl ⊢
  have hrl : ((rmv B p).map ptrV).length = n - 1 := by rw [List.length_map, rmv_len (by omega), hBn]
  refine ⟨rfl, ⟨by rw [hrl]; omega, .inr ⟨r, cap, _, rfl, hN, k1, by omega, hcm, ?_, ?_⟩⟩, ⟨hone.os, hone.tape, hone.output, hone.size, hone.block⟩⟩
  · simp only [List.size_toArray, List.length_append, List.length_drop, hrl, hcl, List.length_singleton]
    omega
  · rw [Nat.mul_one, List.append_assoc, List.take_append_of_le_length (by rw [hrl]; omega), List.take_of_length_le (by rw [hrl]; omega)]
section
variable {F P : Nat → Prop} {N g : Nat} {w w' : World} {ab : Option Addr} {kb : Nat} {v vr vk : Value} {Fb : List Nat} {bad : List Int} {ps : List Pkt} {L : List Sg} {B : List Nat}
theorem LaneM.cut {w2 w3 : World} {r cap : Nat} (h : LaneM F N w g ab kb (.slice (some ⟨r, 0, none⟩) ps.length cap) vk Fb bad ps L B) (p : Nat) (hp : p < ps.length) (ho : w2.ownsRow N 81 1 (.slice (some ⟨r, 0, none⟩) (ps.length - 1) cap) (ps.length - 1) ((rmv B p).map ptrV)) (h1 : One r w w2) (h2 : One g w2 w3) (hk : BxAt w3 g (lneV ab kb bad (.slice (some ⟨r, 0, none⟩) (ps.length - 1) cap) vk) 72) :
    LaneM F N w3 g ab kb (.slice (some ⟨r, 0, none⟩) (ps.length - 1) cap) vk Fb bad (rmv ps p) L (rmv B p) ∧ Outs (Lfp F g (.slice (some ⟨r, 0, none⟩) ps.length cap) Fb) w w3 := by
  have hrg : r ≠ g := fun e => h.gr (by rw [← e]; rfl)
  have hblk : ∀ k, k ≠ r → k ≠ g → w3.heap[k]? = w.heap[k]? := fun k a b => (h2.block k b).trans (h1.block k a)
  have hs3 : w.heap.size ≤ w3.heap.size := by rw [h2.size, h1.size]; exact Nat.le_refl _
  have hF : ∀ k, F k → w3.heap[k]? = w.heap[k]? := fun k hk => hblk k (fun e => h.rF r rfl (e ▸ hk)) (fun e => h.gF (e ▸ hk))
  have hpB : p < B.length := by rw [h.len]; exact hp
  refine ⟨⟨hk, h.bd.keep hs3 (fun k _ hk => hF k hk), ?_, by rw [rmv_len hp, rmv_len hpB, h.len], fun i b q hb hq => ?_, h.bk.keep hs3 (fun k hb => hblk k (fun e => h.rb r rfl (e ▸ hb)) (fun e => h.gb (e ▸ hb))), h.gN, h.FN, h.bN, Nat.le_trans h.le hs3, h.gF, h.gb, h.gr, h.rF, h.rb, h.Fb, fun k hF => Nat.lt_of_lt_of_le (h.Fl k hF) hs3, by rw [rmv_len hp]; have := h.mx; omega⟩, ⟨h2.os.trans h1.os, h2.tape.trans h1.tape, h2.output.trans h1.output, hs3, fun k _ hn => hblk k (fun e => hn (.inr (.inl (by rw [e]; rfl)))) (fun e => hn (.inl e))⟩⟩
  · rw [rmv_len hpB, h.len]
    refine own_rowN ho (fun k hk1 => h2.block k (fun e => ?_))
    cases hk1
    exact hrg e
  · rw [rmv_get hpB] at hb
    rw [rmv_get hp] at hq
    obtain ⟨h3, h4⟩ := h.pk _ b q hb hq
    exact ⟨h3, h4.keep h3 hs3 (fun k _ hk => hF k hk)⟩
end
end Go.Proofs.YtgmekkgbobmplaaGreat

/- The document's: what any bytes are read as, as a result; what is prepared, a state. -/
namespace Go.Proofs.YtgmekkgbobmplaaGreat
open Go.RowKit

theorem load_rs (w : World) (b : Nat) (c : Int) (f : Nat) (h : RsAt w b c f) : (loadVar 43 ⟨b, 0, none⟩).run Tryz.prog w = .ok (.agg #[.int .i64 c, .float .f64 f]) w := by
  obtain ⟨z0, z1⟩ := h.cells
  clear h
  go_simp
theorem adm_zero' {lim : Int} {n : Nat} {er : Int} {r : Bool} {size : Int} (h : adm lim n er r size = 0) : er = 0 ∧ r = true := by
  unfold adm at h
  split at h
  · next h1 =>
    split at h
    · next h2 => exact ⟨h1, h2⟩
    · cases h
  · next h1 => exact absurd h h1
theorem add_texts (a b : ByteArray) : (a ++ b).data.toList = a.data.toList ++ b.data.toList := by simp [ByteArray.data_append]
end Go.Proofs.YtgmekkgbobmplaaGreat

/- The document's: are two results one; what is prepared. -/
namespace Go.Proofs.YtgmekkgbobmplaaGreat
open Go.RowKit

set_option maxRecDepth 100000 in
set_option maxHeartbeats 6400000 in
theorem qsameResult_any (c : Int) (f : Nat) (c' : Int) (f' : Nat) (w : World) : Calls Tryz.prog 82 #[.agg #[.int .i64 c, .float .f64 f], .agg #[.int .i64 c', .float .f64 f']] w fun e w' => e = .returned (.bool (sameS c f c' f')) ∧ Below w.heap.size w w' := by
  obtain ⟨W, eW⟩ : ∃ W, W = (w.alloc (.cells #[.int .i64 c, .float .f64 f] 43)).alloc (.cells #[.int .i64 c', .float .f64 f'] 43) := ⟨_, rfl⟩
  have H0 : Hid (RsAt W w.heap.size c f ∧ RsAt W (w.heap.size + 1) c' f' ∧ Below w.heap.size w W) := hid (by
    rw [eW]
    exact ⟨(Below.heap_alloc _ _ _ (by simp)).trans (heap_alloc_last w _), snd_alloc w _ _, ((Below.refl _ _).alloc (Nat.le_refl _) _).alloc (by simp) _⟩)
  have HKB : Hid (∀ (b : Nat) (u : World), Calls Tryz.prog 89 #[.float .f64 b] u fun e w' => e = .returned (.int .u64 (canW b : Nat)) ∧ Below u.heap.size u w') := hid (fun b u => (kbits_any b u).mono fun e w' ⟨h1, h2⟩ => ⟨h1, by rw [h2]; exact Below.refl _ _⟩)
  obtain ⟨B, hB⟩ : ∃ B, sameS c f c' f' = B := ⟨_, rfl⟩
  rw [hB]
  have HBe : Hid (B = (decide (c = c') && decide (canW f = canW f'))) := hid hB.symm
  clear hB
  have q0 : ∀ u : Cls W, u.1.cell? ⟨w.heap.size, 0, none⟩ = some (.int .i64 c) := fun u => (H0.out.1.keep u.2).cells.1
  have q1 : ∀ u : Cls W, u.1.cell? ⟨w.heap.size, 1, none⟩ = some (.float .f64 f) := fun u => (H0.out.1.keep u.2).cells.2
  have p0 : ∀ u : Cls W, u.1.cell? ⟨w.heap.size + 1, 0, none⟩ = some (.int .i64 c') := fun u => (H0.out.2.1.keep u.2).cells.1
  have p1 : ∀ u : Cls W, u.1.cell? ⟨w.heap.size + 1, 1, none⟩ = some (.float .f64 f') := fun u => (H0.out.2.1.keep u.2).cells.2
  by_cases h0 : c = c'
  · have t0 : (c == c') = true := by simp [h0]
    have HH0 := hid h0
    clear h0
    by_cases h1 : canW f = canW f'
    · have t1 : (((canW f : Nat) : Int) == ((canW f' : Nat) : Int)) = true := by simp [h1]
      have HH1 := hid h1
      clear h1
      go_enter Tryz.func82, Tryz.ntmps82
      go_wp2
      rw [← eW]
      clear eW
      haveI := Cls.ne W
      refine wp_region_cls W (by kernel_rfl) (by kernel_rfl) ?_
      repeat (go_big_quiet_step ((first | (go_at_call 89; exact Cls.of _ (fun u _ => HKB.out _ u)))))
      rintro w' ⟨u, rfl⟩
      go_wp2
      go_ret
      exact ⟨ret_bool (by rw [HBe.out]; simp [HH0.out, HH1.out]), H0.out.2.2.trans (u.2.mono H0.out.2.2.size)⟩
    · have t1 : (((canW f : Nat) : Int) == ((canW f' : Nat) : Int)) = false := by simp; omega
      have HH1 := hid h1
      clear h1
      go_enter Tryz.func82, Tryz.ntmps82
      go_wp2
      rw [← eW]
      clear eW
      haveI := Cls.ne W
      refine wp_region_cls W (by kernel_rfl) (by kernel_rfl) ?_
      repeat (go_big_quiet_step ((first | (go_at_call 89; exact Cls.of _ (fun u _ => HKB.out _ u)))))
      rintro w' ⟨u, rfl⟩
      go_wp2
      go_ret
      exact ⟨ret_bool (by rw [HBe.out]; simp [HH1.out]), H0.out.2.2.trans (u.2.mono H0.out.2.2.size)⟩
  · have t0 : (c == c') = false := by simpa using h0
    have HH0 := hid h0
    clear h0
    go_enter Tryz.func82, Tryz.ntmps82
    go_wp2
    rw [← eW]
    clear eW
    haveI := Cls.ne W
    refine wp_region_cls W (by kernel_rfl) (by kernel_rfl) ?_
    repeat (go_big_quiet_step ((first | (go_at_call 89; exact Cls.of _ (fun u _ => HKB.out _ u)))))
    rintro w' ⟨u, rfl⟩
    go_wp2
    go_ret
    exact ⟨ret_bool (by rw [HBe.out]; simp [HH0.out]), H0.out.2.2.trans (u.2.mono H0.out.2.2.size)⟩
/-- The bytes ahead of a request that is prepared. -/
theorem pr_head {e v s : Int} (h : spB e v s = true) : ∃ E V S : Nat, e = (E : Int) ∧ v = (V : Int) ∧ s = (S : Int) ∧ E < 256 ^ 4 ∧ V < 256 ^ 4 ∧ S < 256 ^ 4 := by
  rw [spB, Bool.and_eq_true_iff, Bool.and_eq_true_iff] at h
  have h1 := inR4 h.1.1
  have h2 := inR4 h.1.2
  have h3 := inR4 h.2
  exact ⟨e.toNat, v.toNat, s.toNat, by omega, by omega, by omega, by omega, by omega, by omega⟩
theorem rqT_size (r : Rq) : (rqT r).size ≤ 34 := by
  unfold rqT
  split
  · decide
  · split
    · next h =>
      have h1 := (right_fields h).2.2.2.1
      have h2 := rqL_len r
      show (rqL r).toArray.size ≤ 34
      simp
      omega
    · decide
end Go.Proofs.YtgmekkgbobmplaaGreat
