/- Both writers, as their users see them: what would lie in them if nothing were too long; blocks that they leave alone. -/
import Derived.Test.YthoofboegchodaaKd1
import Derived.Test.YthoofboegchodaaCgAM
namespace Go.Proofs.Ythoofboegchodaa
open Go.RowKit

/-- The writer at block c: l is what was put to it; the blocks of H stand as told; nothing below c has turned since w0. -/
structure Qv (lim : Nat) (c : Nat) (w0 : World) (H : List (Nat × Obj)) (w : World) (l : List UInt8) : Prop where
  wr : ∃ (v : Value) (l' : List UInt8) (er : Int), WrAt w c v lim l' er ∧ l'.length ≤ lim ∧ ((er = 0 ∧ l' = l) ∨ (er ≠ 0 ∧ lim < l.length)) ∧ ∀ p, p ∈ H → v.ownBlock ≠ some p.1
  hold : ∀ p, p ∈ H → p.1 ≠ c ∧ w.heap[p.1]? = some p.2
  bel : Below c w0 w
theorem Qv.lt {lim : Nat} {c : Nat} {w0 : World} {H : List (Nat × Obj)} {w : World} {l : List UInt8} (h : Qv lim c w0 H w l) : c < w.heap.size := by
  obtain ⟨v, l', er, hw, _⟩ := h.wr
  exact hw.lt
theorem Qv.under {lim : Nat} {c : Nat} {w0 : World} {H : List (Nat × Obj)} {w w' : World} {l : List UInt8} (h : Qv lim c w0 H w l) (hb : Below w.heap.size w w') : Qv lim c w0 H w' l := by
  obtain ⟨v, l', er, hw, h1, h2, h3⟩ := h.wr
  exact ⟨⟨v, l', er, ⟨(hb.block c hw.lt).trans hw.blk, ownsRow_keep hw.own hb⟩, h1, h2, h3⟩, fun p hp => ⟨(h.hold p hp).1, (hb.block p.1 (heap_lt (h.hold p hp).2)).trans (h.hold p hp).2⟩, h.bel.trans (hb.mono (Nat.le_of_lt hw.lt))⟩
theorem Qv.alloc {lim : Nat} {c : Nat} {w0 : World} {H : List (Nat × Obj)} {w : World} {l : List UInt8} (h : Qv lim c w0 H w l) (o : Obj) : Qv lim c w0 H (w.alloc o) l := h.under ((Below.refl w.heap.size w).alloc (Nat.le_refl _) _)
theorem Qv.drew {lim : Nat} {c : Nat} {w0 : World} {H : List (Nat × Obj)} {w : World} {l : List UInt8} (h : Qv lim c w0 H w l) : Qv lim c w0 H w.drew l := h.under (Below.refl w.heap.size w).drew
theorem Qv.push {lim : Nat} {c : Nat} {w0 : World} {H : List (Nat × Obj)} {w : World} {l : List UInt8} (h : Qv lim c w0 H w l) (o : Obj) : Qv lim c w0 ((w.heap.size, o) :: H) (w.alloc o) l := by
  have ha := h.alloc o
  obtain ⟨v, l', er, hw, h1, h2, h3⟩ := h.wr
  refine ⟨⟨v, l', er, ⟨(Below.heap_alloc w o c hw.lt).trans hw.blk, hw.own.alloc o⟩, h1, h2, fun p hp => ?_⟩, fun p hp => ?_, ha.bel⟩
  · rcases List.mem_cons.1 hp with rfl | hp
    · intro e
      have := (hw.own.lt _ e).2
      exact Nat.lt_irrefl _ this
    · exact h3 p hp
  · rcases List.mem_cons.1 hp with rfl | hp
    · exact ⟨Nat.ne_of_gt hw.lt, heap_alloc_last w o⟩
    · exact ha.hold p hp
theorem Qv.pop {lim : Nat} {c : Nat} {w0 : World} {q : Nat × Obj} {H : List (Nat × Obj)} {w : World} {l : List UInt8} (h : Qv lim c w0 (q :: H) w l) : Qv lim c w0 H w l := by
  obtain ⟨v, l', er, hw, h1, h2, h3⟩ := h.wr
  exact ⟨⟨v, l', er, hw, h1, h2, fun p hp => h3 p (List.mem_cons_of_mem _ hp)⟩, fun p hp => h.hold p (List.mem_cons_of_mem _ hp), h.bel⟩
theorem Qv.top {lim : Nat} {c : Nat} {w0 : World} {q : Nat × Obj} {H : List (Nat × Obj)} {w : World} {l : List UInt8} (h : Qv lim c w0 (q :: H) w l) : w.heap[q.1]? = some q.2 := (h.hold q (List.mem_cons_self ..)).2
theorem Qv.box {lim : Nat} {c : Nat} {w0 : World} {b : Nat} {L : List Value} {T : TypeId} {H : List (Nat × Obj)} {w : World} {l : List UInt8} (h : Qv lim c w0 ((b, .cells L.toArray T (0, 0)) :: H) w l) : BxAt w b L T := h.top
/-- What a step of the writer leaves. -/
theorem Qv.step {lim : Nat} {c : Nat} {w0 : World} {H : List (Nat × Obj)} {w w' : World} {l l2 : List UInt8} {v v' : Value} {l1 l1' : List UInt8} {er er' : Int} (h : Qv lim c w0 H w l) (hw : WrAt w c v lim l1 er) (hH : ∀ p, p ∈ H → v.ownBlock ≠ some p.1) (hw' : WrAt w' c v' lim l1' er') (hl : l1'.length ≤ lim) (hs : (er' = 0 ∧ l1' = l2) ∨ (er' ≠ 0 ∧ lim < l2.length)) (hk : Kept c v.ownBlock w w') (hm : Moved w v v') : Qv lim c w0 H w' l2 := by
  refine ⟨⟨v', l1', er', hw', hl, hs, fun p hp e => ?_⟩, fun p hp => ⟨(h.hold p hp).1, ?_⟩, h.bel.trans (hk.below (Nat.le_of_lt hw.lt) (Nat.le_refl _) (fun g hg => by have := (hw.own.lt g hg).1; omega))⟩
  · rcases hm with hm | ⟨g, hg, hg2⟩
    · exact hH p hp (hm ▸ e)
    · rw [hg] at e
      cases e
      have := heap_lt (h.hold p hp).2
      omega
  · rw [hk.block p.1 (heap_lt (h.hold p hp).2) (h.hold p hp).1 (fun e => hH p hp e.symm)]
    exact (h.hold p hp).2
theorem qv_num {lim : Nat} {l1 l : List UInt8} {er : Int} (s : Nat) (z : Int) (hz : inR s z = true) (hl : l1.length ≤ lim) (hs : (er = 0 ∧ l1 = l) ∨ (er ≠ 0 ∧ lim < l.length)) : (wL lim l1 er s z).length ≤ lim ∧ ((wE lim l1 er s z = 0 ∧ wL lim l1 er s z = l ++ be s z.toNat) ∨ (wE lim l1 er s z ≠ 0 ∧ lim < (l ++ be s z.toNat).length)) := by
  unfold wL wE
  rw [hz, List.length_append, be_len]
  rcases hs with ⟨rfl, rfl⟩ | ⟨he, hg⟩
  · by_cases h : ((lim : Nat) : Int) - l1.length < s
    · rw [adm_long _ _ _ h, if_neg (by decide)]
      exact ⟨hl, .inr ⟨by decide, by omega⟩⟩
    · rw [adm_ok _ _ _ h, if_pos rfl]
      exact ⟨by rw [List.length_append, be_len]; omega, .inl ⟨rfl, rfl⟩⟩
  · rw [adm_er _ _ _ _ _ he, if_neg he]
    exact ⟨hl, .inr ⟨he, by omega⟩⟩
theorem qv_text {lim : Nat} (hlim : lim ≤ 65536) {l1 l : List UInt8} {er : Int} (s : ByteArray) (hl : l1.length ≤ lim) (hs : (er = 0 ∧ l1 = l) ∨ (er ≠ 0 ∧ lim < l.length)) : (xL lim l1 er s).length ≤ lim ∧ ((xE lim l1 er s = 0 ∧ xL lim l1 er s = l ++ txL s) ∨ (xE lim l1 er s ≠ 0 ∧ lim < (l ++ txL s).length)) ∧ (xE lim l1 er s = 0 → l1.length + (2 + s.size) ≤ 140737488355328) := by
  have ht : (txL s).length = 2 + s.size := by rw [txL, List.length_append, be_len, data_len]
  unfold xL xE
  rw [List.length_append, ht]
  rcases hs with ⟨rfl, rfl⟩ | ⟨he, hg⟩
  · by_cases h1 : s.size ≤ 65535
    · rw [decide_eq_true h1]
      by_cases h : ((lim : Nat) : Int) - l1.length < 2 + (s.size : Int)
      · rw [adm_long _ _ _ h, if_neg (by decide)]
        exact ⟨hl, .inr ⟨by decide, by omega⟩, fun _ => by omega⟩
      · rw [adm_ok _ _ _ h, if_pos rfl]
        exact ⟨by rw [List.length_append, List.length_append, be_len, data_len]; omega, .inl ⟨rfl, rfl⟩, fun _ => by omega⟩
    · rw [decide_eq_false h1, adm_bad, if_neg (by decide)]
      exact ⟨hl, .inr ⟨by decide, by omega⟩, fun e => by cases e⟩
  · rw [adm_er _ _ _ _ _ he, if_neg he]
    exact ⟨hl, .inr ⟨he, by omega⟩, fun e => absurd e he⟩
theorem Qv.put {lim : Nat} {c : Nat} {w0 : World} {H : List (Nat × Obj)} {w w1 : World} {l : List UInt8} {o : Obj} (h : Qv lim c w0 H w l) (hb : Below w.heap.size w w1) (ho : w1.heap[w.heap.size]? = some o) : Qv lim c w0 ((w.heap.size, o) :: H) w1 l := by
  have h1 := h.under hb
  obtain ⟨v, l', er, hw, a1, a2, a3⟩ := h.wr
  refine ⟨⟨v, l', er, ⟨(hb.block c hw.lt).trans hw.blk, ownsRow_keep hw.own hb⟩, a1, a2, fun p hp => ?_⟩, fun p hp => ?_, h1.bel⟩
  · rcases List.mem_cons.1 hp with rfl | hp
    · intro e
      exact Nat.lt_irrefl _ (hw.own.lt _ e).2
    · exact a3 p hp
  · rcases List.mem_cons.1 hp with rfl | hp
    · exact ⟨Nat.ne_of_gt hw.lt, ho⟩
    · exact h1.hold p hp
/-- The writer at block c: l is what was put to it; the blocks of H stand as told; nothing below c has turned since w0. -/
structure Dv (lim : Nat) (c : Nat) (w0 : World) (H : List (Nat × Obj)) (w : World) (l : List UInt8) : Prop where
  wr : ∃ (v : Value) (l' : List UInt8) (er : Int), MwAt w c v lim l' er ∧ l'.length ≤ lim ∧ ((er = 0 ∧ l' = l) ∨ (er ≠ 0 ∧ lim < l.length)) ∧ ∀ p, p ∈ H → v.ownBlock ≠ some p.1
  hold : ∀ p, p ∈ H → p.1 ≠ c ∧ w.heap[p.1]? = some p.2
  bel : Below c w0 w
theorem Dv.lt {lim : Nat} {c : Nat} {w0 : World} {H : List (Nat × Obj)} {w : World} {l : List UInt8} (h : Dv lim c w0 H w l) : c < w.heap.size := by
  obtain ⟨v, l', er, hw, _⟩ := h.wr
  exact hw.lt
theorem Dv.under {lim : Nat} {c : Nat} {w0 : World} {H : List (Nat × Obj)} {w w' : World} {l : List UInt8} (h : Dv lim c w0 H w l) (hb : Below w.heap.size w w') : Dv lim c w0 H w' l := by
  obtain ⟨v, l', er, hw, h1, h2, h3⟩ := h.wr
  exact ⟨⟨v, l', er, ⟨(hb.block c hw.lt).trans hw.blk, ownsRow_keep hw.own hb⟩, h1, h2, h3⟩, fun p hp => ⟨(h.hold p hp).1, (hb.block p.1 (heap_lt (h.hold p hp).2)).trans (h.hold p hp).2⟩, h.bel.trans (hb.mono (Nat.le_of_lt hw.lt))⟩
theorem Dv.alloc {lim : Nat} {c : Nat} {w0 : World} {H : List (Nat × Obj)} {w : World} {l : List UInt8} (h : Dv lim c w0 H w l) (o : Obj) : Dv lim c w0 H (w.alloc o) l := h.under ((Below.refl w.heap.size w).alloc (Nat.le_refl _) _)
theorem Dv.drew {lim : Nat} {c : Nat} {w0 : World} {H : List (Nat × Obj)} {w : World} {l : List UInt8} (h : Dv lim c w0 H w l) : Dv lim c w0 H w.drew l := h.under (Below.refl w.heap.size w).drew
theorem Dv.push {lim : Nat} {c : Nat} {w0 : World} {H : List (Nat × Obj)} {w : World} {l : List UInt8} (h : Dv lim c w0 H w l) (o : Obj) : Dv lim c w0 ((w.heap.size, o) :: H) (w.alloc o) l := by
  have ha := h.alloc o
  obtain ⟨v, l', er, hw, h1, h2, h3⟩ := h.wr
  refine ⟨⟨v, l', er, ⟨(Below.heap_alloc w o c hw.lt).trans hw.blk, hw.own.alloc o⟩, h1, h2, fun p hp => ?_⟩, fun p hp => ?_, ha.bel⟩
  · rcases List.mem_cons.1 hp with rfl | hp
    · intro e
      have := (hw.own.lt _ e).2
      exact Nat.lt_irrefl _ this
    · exact h3 p hp
  · rcases List.mem_cons.1 hp with rfl | hp
    · exact ⟨Nat.ne_of_gt hw.lt, heap_alloc_last w o⟩
    · exact ha.hold p hp
theorem Dv.pop {lim : Nat} {c : Nat} {w0 : World} {q : Nat × Obj} {H : List (Nat × Obj)} {w : World} {l : List UInt8} (h : Dv lim c w0 (q :: H) w l) : Dv lim c w0 H w l := by
  obtain ⟨v, l', er, hw, h1, h2, h3⟩ := h.wr
  exact ⟨⟨v, l', er, hw, h1, h2, fun p hp => h3 p (List.mem_cons_of_mem _ hp)⟩, fun p hp => h.hold p (List.mem_cons_of_mem _ hp), h.bel⟩
theorem Dv.top {lim : Nat} {c : Nat} {w0 : World} {q : Nat × Obj} {H : List (Nat × Obj)} {w : World} {l : List UInt8} (h : Dv lim c w0 (q :: H) w l) : w.heap[q.1]? = some q.2 := (h.hold q (List.mem_cons_self ..)).2
theorem Dv.box {lim : Nat} {c : Nat} {w0 : World} {b : Nat} {L : List Value} {T : TypeId} {H : List (Nat × Obj)} {w : World} {l : List UInt8} (h : Dv lim c w0 ((b, .cells L.toArray T (0, 0)) :: H) w l) : BxAt w b L T := h.top
/-- What a step of the writer leaves. -/
theorem Dv.step {lim : Nat} {c : Nat} {w0 : World} {H : List (Nat × Obj)} {w w' : World} {l l2 : List UInt8} {v v' : Value} {l1 l1' : List UInt8} {er er' : Int} (h : Dv lim c w0 H w l) (hw : MwAt w c v lim l1 er) (hH : ∀ p, p ∈ H → v.ownBlock ≠ some p.1) (hw' : MwAt w' c v' lim l1' er') (hl : l1'.length ≤ lim) (hs : (er' = 0 ∧ l1' = l2) ∨ (er' ≠ 0 ∧ lim < l2.length)) (hk : Kept c v.ownBlock w w') (hm : Moved w v v') : Dv lim c w0 H w' l2 := by
  refine ⟨⟨v', l1', er', hw', hl, hs, fun p hp e => ?_⟩, fun p hp => ⟨(h.hold p hp).1, ?_⟩, h.bel.trans (hk.below (Nat.le_of_lt hw.lt) (Nat.le_refl _) (fun g hg => by have := (hw.own.lt g hg).1; omega))⟩
  · rcases hm with hm | ⟨g, hg, hg2⟩
    · exact hH p hp (hm ▸ e)
    · rw [hg] at e
      cases e
      have := heap_lt (h.hold p hp).2
      omega
  · rw [hk.block p.1 (heap_lt (h.hold p hp).2) (h.hold p hp).1 (fun e => hH p hp e.symm)]
    exact (h.hold p hp).2
theorem Dv.put {lim : Nat} {c : Nat} {w0 : World} {H : List (Nat × Obj)} {w w1 : World} {l : List UInt8} {o : Obj} (h : Dv lim c w0 H w l) (hb : Below w.heap.size w w1) (ho : w1.heap[w.heap.size]? = some o) : Dv lim c w0 ((w.heap.size, o) :: H) w1 l := by
  have h1 := h.under hb
  obtain ⟨v, l', er, hw, a1, a2, a3⟩ := h.wr
  refine ⟨⟨v, l', er, ⟨(hb.block c hw.lt).trans hw.blk, ownsRow_keep hw.own hb⟩, a1, a2, fun p hp => ?_⟩, fun p hp => ?_, h1.bel⟩
  · rcases List.mem_cons.1 hp with rfl | hp
    · intro e
      exact Nat.lt_irrefl _ (hw.own.lt _ e).2
    · exact a3 p hp
  · rcases List.mem_cons.1 hp with rfl | hp
    · exact ⟨Nat.ne_of_gt hw.lt, ho⟩
    · exact h1.hold p hp
set_option maxHeartbeats 800000 in
theorem qtext_long (lim : Nat) (hlim : lim ≤ 65536) (b : Nat) (v : Value) (l : List UInt8) (er : Int) (s : ByteArray) (w : World) (h : WrAt w b v lim l er) (hl : l.length ≤ lim) (hs : 65535 < s.size) :
    Calls Try.prog 61 #[.pointer (some ⟨b, 0, none⟩), .string s] w fun e w' => e = .returned (.tuple #[]) ∧ ∃ v', WrAt w' b v' lim l (xE lim l er s) ∧ Kept b v.ownBlock w w' ∧ Moved w v v' := by
  obtain ⟨E, eE⟩ : ∃ E, E = xE lim l er s := ⟨_, rfl⟩
  have hd : E ≠ 0 := by
    rw [eE, xE, decide_eq_false (by omega)]
    unfold adm
    split
    · simp
    · assumption
  rw [← eE]
  have HA : Hid (∀ size : Int, Calls Try.prog 83 #[.pointer (some ⟨b, 0, none⟩), .bool false, .int .i64 size] w fun e w' => e = .returned (.bool false) ∧ WrAt w' b v lim l E ∧ Kept b none w w') := hid (fun size => by
    have ha := admits_any b v lim l er false size w h (by omega) (by omega) (by omega)
    have he : adm lim l.length er false size = E := by
      rw [eE, xE, decide_eq_false (by omega)]
      unfold adm
      rfl
    rw [he, decide_eq_false hd] at ha
    exact ha)
  have hi : ¬ ((s.size : Int) ≤ 65535) := by omega
  have hi2 : decide ((s.size : Int) ≤ 65535) = false := decide_eq_false hi
  clear h eE hd hl hs hlim
  go_enter Try.func61, Try.ntmps61
  go_wp2_with fail
  refine (HA.out _).mono ?_
  rintro e w1 ⟨rfl, hr, hk⟩
  have HR := hid hr
  have HK := hid hk
  clear hr hk
  go_wp2
  go_end0
  exact ⟨rfl, v, HR.out, kept_none HK.out, Moved.refl _ _⟩
theorem qvnew (lim : Nat) (H : List (Nat × Obj)) (w : World) (hH : ∀ p, p ∈ H → w.heap[p.1]? = some p.2) : Calls Try.prog 30 #[.int .i64 (lim : Int)] w fun e w' => e = .returned (.pointer (some ⟨w.heap.size, 0, none⟩)) ∧ Qv lim w.heap.size w H w' [] := by
  refine (new_any lim w).mono ?_
  rintro e w' ⟨rfl, rfl⟩
  rw [show max (lim : Int) 0 = lim by omega]
  have hb : Below w.heap.size w (w.alloc (.cells #[.int .i64 (lim : Int), .slice none 0 0, .int .i64 0] 100)) := (Below.refl _ _).alloc (Nat.le_refl _) _
  exact ⟨rfl, ⟨_, [], 0, ⟨heap_alloc_last w _, ⟨rfl, .inl ⟨rfl, rfl⟩⟩⟩, Nat.zero_le _, .inl ⟨rfl, rfl⟩, fun p _ e => by cases e⟩, fun p hp => ⟨Nat.ne_of_lt (heap_lt (hH p hp)), (hb.block p.1 (heap_lt (hH p hp))).trans (hH p hp)⟩, hb⟩
theorem qvbyte (lim : Nat) (hlim : lim ≤ 65536) (c : Nat) (w0 : World) (H : List (Nat × Obj)) (w : World) (l : List UInt8) (z : Int) (h0 : 0 ≤ z) (h1 : z < 256) (h : Qv lim c w0 H w l) :
    Calls Try.prog 31 #[.pointer (some ⟨c, 0, none⟩), .int .i64 z] w fun e w' => e = .returned (.tuple #[]) ∧ Qv lim c w0 H w' (l ++ be 1 z.toNat) := by
  obtain ⟨v, l', er, hw, hl, hs, hH⟩ := h.wr
  refine (wbyte_any c v lim l' er z w hw (by omega) (by omega) (by omega) (by omega)).mono ?_
  rintro e w' ⟨rfl, v', h', hk, hm⟩
  obtain ⟨k1, k2⟩ := qv_num 1 z (inR_of h0 (by omega)) hl hs
  exact ⟨rfl, h.step hw hH h' k1 k2 hk hm⟩
theorem qvword (lim : Nat) (hlim : lim ≤ 65536) (c : Nat) (w0 : World) (H : List (Nat × Obj)) (w : World) (l : List UInt8) (z : Int) (h0 : 0 ≤ z) (h1 : z < 65536) (h : Qv lim c w0 H w l) :
    Calls Try.prog 32 #[.pointer (some ⟨c, 0, none⟩), .int .i64 z] w fun e w' => e = .returned (.tuple #[]) ∧ Qv lim c w0 H w' (l ++ be 2 z.toNat) := by
  obtain ⟨v, l', er, hw, hl, hs, hH⟩ := h.wr
  refine (wword_any c v lim l' er z w hw (by omega) (by omega) (by omega) (by omega)).mono ?_
  rintro e w' ⟨rfl, v', h', hk, hm⟩
  obtain ⟨k1, k2⟩ := qv_num 2 z (inR_of h0 (by omega)) hl hs
  exact ⟨rfl, h.step hw hH h' k1 k2 hk hm⟩
theorem qvtext (lim : Nat) (hlim : lim ≤ 65536) (c : Nat) (w0 : World) (H : List (Nat × Obj)) (w : World) (l : List UInt8) (s : ByteArray) (h : Qv lim c w0 H w l) :
    Calls Try.prog 61 #[.pointer (some ⟨c, 0, none⟩), .string s] w fun e w' => e = .returned (.tuple #[]) ∧ Qv lim c w0 H w' (l ++ txL s) := by
  obtain ⟨v, l', er, hw, hl, hs, hH⟩ := h.wr
  obtain ⟨k1, k2, k3⟩ := qv_text hlim s hl hs
  by_cases hb : s.size ≤ 65535
  · refine (wtext_any c v lim l' er s w hw (by omega) (by omega) (by omega) (by omega) k3).mono ?_
    rintro e w' ⟨rfl, v', h', hk, hm⟩
    exact ⟨rfl, h.step hw hH h' k1 k2 hk hm⟩
  · refine (qtext_long lim hlim c v l' er s w hw hl (by omega)).mono ?_
    rintro e w' ⟨rfl, v', h', hk, hm⟩
    have hx : xE lim l' er s ≠ 0 := by
      rw [xE, decide_eq_false hb]
      unfold adm
      split
      · simp
      · assumption
    exact ⟨rfl, h.step hw hH h' hl (k2.elim (fun z => absurd z.1 hx) .inr) hk hm⟩
theorem qvdone (lim : Nat) (c : Nat) (w0 : World) (H : List (Nat × Obj)) (w : World) (l : List UInt8) (h : Qv lim c w0 H w l) :
    Calls Try.prog 34 #[.pointer (some ⟨c, 0, none⟩)] w fun e w' => (∃ (s : ByteArray) (er : Int), e = .returned (.tuple #[.string s, .int .i64 er]) ∧ ((l.length ≤ lim ∧ er = 0 ∧ s = ⟨l.toArray⟩) ∨ (lim < l.length ∧ er ≠ 0))) ∧ Below w.heap.size w w' := by
  obtain ⟨v, l', er, hw, hl, hs, hH⟩ := h.wr
  rcases hs with ⟨rfl, rfl⟩ | ⟨he, hg⟩
  · refine (done_ok c v lim l' w hw).mono ?_
    rintro e w' ⟨rfl, rfl⟩
    exact ⟨⟨_, 0, rfl, .inl ⟨hl, rfl, rfl⟩⟩, Below.refl _ _⟩
  · refine (done_err c v lim l' er w hw (by simpa using he)).mono ?_
    rintro e w' ⟨rfl, rfl⟩
    exact ⟨⟨_, er, rfl, .inr ⟨hg, he⟩⟩, (Below.refl _ _).drew⟩
theorem dvnew (lim : Nat) (H : List (Nat × Obj)) (w : World) (hH : ∀ p, p ∈ H → w.heap[p.1]? = some p.2) : Calls Try.prog 36 #[.int .i64 (lim : Int)] w fun e w' => e = .returned (.pointer (some ⟨w.heap.size, 0, none⟩)) ∧ Dv lim w.heap.size w H w' [] := by
  refine (mnew_any lim w).mono ?_
  rintro e w' ⟨rfl, rfl⟩
  rw [show max (lim : Int) 0 = lim by omega]
  have hb : Below w.heap.size w (w.alloc (.cells #[.slice none 0 0, .int .i64 (lim : Int), .int .i64 0] 104)) := (Below.refl _ _).alloc (Nat.le_refl _) _
  exact ⟨rfl, ⟨_, [], 0, ⟨heap_alloc_last w _, ⟨rfl, .inl ⟨rfl, rfl⟩⟩⟩, Nat.zero_le _, .inl ⟨rfl, rfl⟩, fun p _ e => by cases e⟩, fun p hp => ⟨Nat.ne_of_lt (heap_lt (hH p hp)), (hb.block p.1 (heap_lt (hH p hp))).trans (hH p hp)⟩, hb⟩
theorem dvnum (s : Nat) (hs4 : s ≤ 4) (lim : Nat) (hlim : lim ≤ 65536) (c : Nat) (w0 : World) (H : List (Nat × Obj)) (w : World) (l : List UInt8) (z : Int) (h0 : 0 ≤ z) (h1 : z < ((256 ^ s : Nat) : Int)) (h : Dv lim c w0 H w l) :
    Calls Try.prog 37 #[.pointer (some ⟨c, 0, none⟩), .int .i64 z, .int .i64 (s : Int)] w fun e w' => e = .returned (.tuple #[]) ∧ Dv lim c w0 H w' (l ++ be s z.toNat) := by
  obtain ⟨v, l', er, hw, hl, hs, hH⟩ := h.wr
  refine (mnum_w c v lim l' er z s hs4 w hw (by omega) (by omega) (by omega)).mono ?_
  rintro e w' ⟨rfl, v', h', hk, hm⟩
  obtain ⟨k1, k2⟩ := qv_num s z (inR_of h0 h1) hl hs
  exact ⟨rfl, h.step hw hH h' k1 k2 hk hm⟩
theorem dvtext (lim : Nat) (hlim : lim ≤ 65536) (c : Nat) (w0 : World) (H : List (Nat × Obj)) (w : World) (l : List UInt8) (s : ByteArray) (h : Dv lim c w0 H w l) :
    Calls Try.prog 39 #[.pointer (some ⟨c, 0, none⟩), .string s] w fun e w' => e = .returned (.tuple #[]) ∧ Dv lim c w0 H w' (l ++ txL s) := by
  obtain ⟨v, l', er, hw, hl, hs, hH⟩ := h.wr
  obtain ⟨k1, k2, k3⟩ := qv_text hlim s hl hs
  by_cases hb : s.size ≤ 65535
  · refine (mtext_w c v lim l' er s w hw (by omega) (by omega) (by omega)).mono ?_
    rintro e w' ⟨rfl, v', h', hk, hm⟩
    exact ⟨rfl, h.step hw hH h' k1 k2 hk hm⟩
  · refine (mtext_out c v lim l' er s w hw (by omega) (xE lim l' er s) (by rw [xE, decide_eq_false hb])).mono ?_
    rintro e w' ⟨rfl, v', h', hk, hm⟩
    have hx : xE lim l' er s ≠ 0 := by
      rw [xE, decide_eq_false hb]
      unfold adm
      split
      · simp
      · assumption
    exact ⟨rfl, h.step hw hH h' hl (k2.elim (fun z => absurd z.1 hx) .inr) hk hm⟩
theorem dvdone (lim : Nat) (c : Nat) (w0 : World) (H : List (Nat × Obj)) (w : World) (l : List UInt8) (h : Dv lim c w0 H w l) :
    Calls Try.prog 40 #[.pointer (some ⟨c, 0, none⟩)] w fun e w' => (∃ (s : ByteArray) (er : Int), e = .returned (.tuple #[.string s, .int .i64 er]) ∧ ((l.length ≤ lim ∧ er = 0 ∧ s = ⟨l.toArray⟩) ∨ (lim < l.length ∧ er ≠ 0))) ∧ Below w.heap.size w w' := by
  obtain ⟨v, l', er, hw, hl, hs, hH⟩ := h.wr
  rcases hs with ⟨rfl, rfl⟩ | ⟨he, hg⟩
  · refine (mdone_ok c v lim l' w hw).mono ?_
    rintro e w' ⟨rfl, rfl⟩
    exact ⟨⟨_, 0, rfl, .inl ⟨hl, rfl, rfl⟩⟩, Below.refl _ _⟩
  · refine (mdone_err c v lim l' er w hw (by simpa using he)).mono ?_
    rintro e w' ⟨rfl, rfl⟩
    exact ⟨⟨_, er, rfl, .inr ⟨hg, he⟩⟩, (Below.refl _ _).drew⟩
end Go.Proofs.Ythoofboegchodaa
