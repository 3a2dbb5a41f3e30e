/- The program's writer of messages, as its users see it: what would lie in it if nothing were too long; blocks that it leaves alone. No walk here. -/
import Derived.Test.YtepcdbmdfpaomaaGa5
import Derived.Test.YtepcdbmdfpaomaaWiKM
namespace Go.Proofs.Ytepcdbmdfpaomaa
open Go.RowKit

/-- The writer at block c: l is what was put to it; the blocks of H stand as told; nothing below c has turned since w0. -/
structure Pv (c : Nat) (w0 : World) (H : List (Nat × Obj)) (w : World) (l : List UInt8) : Prop where
  wr : ∃ (v : Value) (l' : List UInt8) (er : Int), WrAt w c v 65536 l' er ∧ l'.length ≤ 65536 ∧ ((er = 0 ∧ l' = l) ∨ (er ≠ 0 ∧ 65536 < l.length)) ∧ ∀ p, p ∈ H → v.ownBlock ≠ some p.1
  hold : ∀ p, p ∈ H → p.1 ≠ c ∧ w.heap[p.1]? = some p.2
  bel : Below c w0 w
theorem heap_lt {w : World} {k : Nat} {o : Obj} (h : w.heap[k]? = some o) : k < w.heap.size := by
  rcases Nat.lt_or_ge k w.heap.size with h1 | h1
  · exact h1
  · rw [Array.getElem?_eq_none h1] at h; cases h
theorem Pv.lt {c : Nat} {w0 : World} {H : List (Nat × Obj)} {w : World} {l : List UInt8} (h : Pv c w0 H w l) : c < w.heap.size := by
  obtain ⟨v, l', er, hw, _⟩ := h.wr
  exact hw.lt
theorem Pv.under {c : Nat} {w0 : World} {H : List (Nat × Obj)} {w w' : World} {l : List UInt8} (h : Pv c w0 H w l) (hb : Below w.heap.size w w') : Pv c w0 H w' l := by
  obtain ⟨v, l', er, hw, h1, h2, h3⟩ := h.wr
  exact ⟨⟨v, l', er, ⟨(hb.block c hw.lt).trans hw.blk, ownsRow_keep hw.own hb⟩, h1, h2, h3⟩, fun p hp => ⟨(h.hold p hp).1, (hb.block p.1 (heap_lt (h.hold p hp).2)).trans (h.hold p hp).2⟩, h.bel.trans (hb.mono (Nat.le_of_lt hw.lt))⟩
theorem Pv.alloc {c : Nat} {w0 : World} {H : List (Nat × Obj)} {w : World} {l : List UInt8} (h : Pv c w0 H w l) (o : Obj) : Pv c w0 H (w.alloc o) l := h.under ((Below.refl w.heap.size w).alloc (Nat.le_refl _) _)
theorem Pv.drew {c : Nat} {w0 : World} {H : List (Nat × Obj)} {w : World} {l : List UInt8} (h : Pv c w0 H w l) : Pv c w0 H w.drew l := h.under (Below.refl w.heap.size w).drew
theorem Pv.push {c : Nat} {w0 : World} {H : List (Nat × Obj)} {w : World} {l : List UInt8} (h : Pv c w0 H w l) (o : Obj) : Pv c w0 ((w.heap.size, o) :: H) (w.alloc o) l := by
  have ha := h.alloc o
  obtain ⟨v, l', er, hw, h1, h2, h3⟩ := h.wr
  refine ⟨⟨v, l', er, ⟨(Below.heap_alloc w o c hw.lt).trans hw.blk, hw.own.alloc o⟩, h1, h2, fun p hp => ?_⟩, fun p hp => ?_, ha.bel⟩
  · rcases List.mem_cons.1 hp with rfl | hp
    · intro e
      have := (hw.own.lt _ e).2
      exact Nat.lt_irrefl _ this
    · exact h3 p hp
  · rcases List.mem_cons.1 hp with rfl | hp
    · exact ⟨Nat.ne_of_gt hw.lt, heap_alloc_last w o⟩
    · exact ha.hold p hp
theorem Pv.pop {c : Nat} {w0 : World} {q : Nat × Obj} {H : List (Nat × Obj)} {w : World} {l : List UInt8} (h : Pv c w0 (q :: H) w l) : Pv c w0 H w l := by
  obtain ⟨v, l', er, hw, h1, h2, h3⟩ := h.wr
  exact ⟨⟨v, l', er, hw, h1, h2, fun p hp => h3 p (List.mem_cons_of_mem _ hp)⟩, fun p hp => h.hold p (List.mem_cons_of_mem _ hp), h.bel⟩
theorem Pv.top {c : Nat} {w0 : World} {q : Nat × Obj} {H : List (Nat × Obj)} {w : World} {l : List UInt8} (h : Pv c w0 (q :: H) w l) : w.heap[q.1]? = some q.2 := (h.hold q (List.mem_cons_self ..)).2
theorem Pv.box {c : Nat} {w0 : World} {b : Nat} {L : List Value} {T : TypeId} {H : List (Nat × Obj)} {w : World} {l : List UInt8} (h : Pv c w0 ((b, .cells L.toArray T (0, 0)) :: H) w l) : BxAt w b L T := h.top
/-- What a step of the writer leaves. -/
theorem Pv.step {c : Nat} {w0 : World} {H : List (Nat × Obj)} {w w' : World} {l l2 : List UInt8} {v v' : Value} {l1 l1' : List UInt8} {er er' : Int} (h : Pv c w0 H w l) (hw : WrAt w c v 65536 l1 er) (hH : ∀ p, p ∈ H → v.ownBlock ≠ some p.1) (hw' : WrAt w' c v' 65536 l1' er') (hl : l1'.length ≤ 65536) (hs : (er' = 0 ∧ l1' = l2) ∨ (er' ≠ 0 ∧ 65536 < l2.length)) (hk : Kept c v.ownBlock w w') (hm : Moved w v v') : Pv c w0 H w' l2 := by
  refine ⟨⟨v', l1', er', hw', hl, hs, fun p hp e => ?_⟩, fun p hp => ⟨(h.hold p hp).1, ?_⟩, h.bel.trans (hk.below (Nat.le_of_lt hw.lt) (Nat.le_refl _) (fun g hg => by have := (hw.own.lt g hg).1; omega))⟩
  · rcases hm with hm | ⟨g, hg, hg2⟩
    · exact hH p hp (hm ▸ e)
    · rw [hg] at e
      cases e
      have := heap_lt (h.hold p hp).2
      omega
  · rw [hk.block p.1 (heap_lt (h.hold p hp).2) (h.hold p hp).1 (fun e => hH p hp e.symm)]
    exact (h.hold p hp).2
theorem inR_of {s : Nat} {z : Int} (h0 : 0 ≤ z) (h1 : z < ((256 ^ s : Nat) : Int)) : inR s z = true := decide_eq_true ⟨h0, h1⟩
theorem pv_num {l1 l : List UInt8} {er : Int} (s : Nat) (z : Int) (hz : inR s z = true) (hl : l1.length ≤ 65536) (hs : (er = 0 ∧ l1 = l) ∨ (er ≠ 0 ∧ 65536 < l.length)) : (wL 65536 l1 er s z).length ≤ 65536 ∧ ((wE 65536 l1 er s z = 0 ∧ wL 65536 l1 er s z = l ++ be s z.toNat) ∨ (wE 65536 l1 er s z ≠ 0 ∧ 65536 < (l ++ be s z.toNat).length)) := by
  unfold wL wE
  rw [hz, List.length_append, be_len]
  rcases hs with ⟨rfl, rfl⟩ | ⟨he, hg⟩
  · by_cases h : (65536 : Int) - l1.length < s
    · rw [adm_long _ _ _ h, if_neg (by decide)]
      exact ⟨hl, .inr ⟨by decide, by omega⟩⟩
    · rw [adm_ok _ _ _ h, if_pos rfl]
      exact ⟨by rw [List.length_append, be_len]; omega, .inl ⟨rfl, rfl⟩⟩
  · rw [adm_er _ _ _ _ _ he, if_neg he]
    exact ⟨hl, .inr ⟨he, by omega⟩⟩
theorem pv_text {l1 l : List UInt8} {er : Int} (s : ByteArray) (hl : l1.length ≤ 65536) (hs : (er = 0 ∧ l1 = l) ∨ (er ≠ 0 ∧ 65536 < l.length)) : (xL 65536 l1 er s).length ≤ 65536 ∧ ((xE 65536 l1 er s = 0 ∧ xL 65536 l1 er s = l ++ txL s) ∨ (xE 65536 l1 er s ≠ 0 ∧ 65536 < (l ++ txL s).length)) ∧ (xE 65536 l1 er s = 0 → l1.length + (2 + s.size) ≤ 140737488355328) := by
  have ht : (txL s).length = 2 + s.size := by rw [txL, List.length_append, be_len, data_len]
  unfold xL xE
  rw [List.length_append, ht]
  rcases hs with ⟨rfl, rfl⟩ | ⟨he, hg⟩
  · by_cases h1 : s.size ≤ 65535
    · rw [decide_eq_true h1]
      by_cases h : (65536 : Int) - l1.length < 2 + (s.size : Int)
      · rw [adm_long _ _ _ h, if_neg (by decide)]
        exact ⟨hl, .inr ⟨by decide, by omega⟩, fun _ => by omega⟩
      · rw [adm_ok _ _ _ h, if_pos rfl]
        exact ⟨by rw [List.length_append, List.length_append, be_len, data_len]; omega, .inl ⟨rfl, rfl⟩, fun _ => by omega⟩
    · rw [decide_eq_false h1, adm_bad, if_neg (by decide)]
      exact ⟨hl, .inr ⟨by decide, by omega⟩, fun e => by cases e⟩
  · rw [adm_er _ _ _ _ _ he, if_neg he]
    exact ⟨hl, .inr ⟨he, by omega⟩, fun e => absurd e he⟩
set_option maxHeartbeats 800000 in
theorem wtext_long (b : Nat) (v : Value) (l : List UInt8) (er : Int) (s : ByteArray) (w : World) (h : WrAt w b v 65536 l er) (hl : l.length ≤ 65536) (hs : 65535 < s.size) :
    Calls Try.prog 43 #[.pointer (some ⟨b, 0, none⟩), .string s] w fun e w' => e = .returned (.tuple #[]) ∧ ∃ v', WrAt w' b v' 65536 l (xE 65536 l er s) ∧ Kept b v.ownBlock w w' ∧ Moved w v v' := by
  obtain ⟨E, eE⟩ : ∃ E, E = xE 65536 l er s := ⟨_, rfl⟩
  have hd : E ≠ 0 := by
    rw [eE, xE, decide_eq_false (by omega)]
    unfold adm
    split
    · simp
    · assumption
  rw [← eE]
  have HA : Hid (∀ size : Int, Calls Try.prog 66 #[.pointer (some ⟨b, 0, none⟩), .bool false, .int .i64 size] w fun e w' => e = .returned (.bool false) ∧ WrAt w' b v 65536 l E ∧ Kept b none w w') := hid (fun size => by
    have ha := admits_any b v 65536 l er false size w h (by decide) (by decide) (by omega)
    have he : adm 65536 l.length er false size = E := by
      rw [eE, xE, decide_eq_false (by omega)]
      unfold adm
      rfl
    rw [he, decide_eq_false hd] at ha
    exact ha)
  have hi : ¬ ((s.size : Int) ≤ 65535) := by omega
  have hi2 : decide ((s.size : Int) ≤ 65535) = false := decide_eq_false hi
  clear h eE hd hl hs
  go_enter Try.func43, Try.ntmps43
  go_wp2_with fail
  refine (HA.out _).mono ?_
  rintro e w1 ⟨rfl, hr, hk⟩
  have HR := hid hr
  have HK := hid hk
  clear hr hk
  go_wp2
  go_end0
  exact ⟨rfl, v, HR.out, kept_none HK.out, Moved.refl _ _⟩
theorem pvnew (H : List (Nat × Obj)) (w : World) (hH : ∀ p, p ∈ H → w.heap[p.1]? = some p.2) : Calls Try.prog 16 #[.int .i64 65536] w fun e w' => e = .returned (.pointer (some ⟨w.heap.size, 0, none⟩)) ∧ Pv w.heap.size w H w' [] := by
  refine (new_any 65536 w).mono ?_
  rintro e w' ⟨rfl, rfl⟩
  have hb : Below w.heap.size w (w.alloc (.cells #[.int .i64 (max 65536 0), .slice none 0 0, .int .i64 0] 86)) := (Below.refl _ _).alloc (Nat.le_refl _) _
  exact ⟨rfl, ⟨_, [], 0, ⟨heap_alloc_last w _, ⟨rfl, .inl ⟨rfl, rfl⟩⟩⟩, by decide, .inl ⟨rfl, rfl⟩, fun p _ e => by cases e⟩, fun p hp => ⟨Nat.ne_of_lt (heap_lt (hH p hp)), (hb.block p.1 (heap_lt (hH p hp))).trans (hH p hp)⟩, hb⟩
theorem pvbyte (c : Nat) (w0 : World) (H : List (Nat × Obj)) (w : World) (l : List UInt8) (z : Int) (h0 : 0 ≤ z) (h1 : z < 256) (h : Pv c w0 H w l) :
    Calls Try.prog 40 #[.pointer (some ⟨c, 0, none⟩), .int .i64 z] w fun e w' => e = .returned (.tuple #[]) ∧ Pv c w0 H w' (l ++ be 1 z.toNat) := by
  obtain ⟨v, l', er, hw, hl, hs, hH⟩ := h.wr
  refine (wbyte_any c v 65536 l' er z w hw (by decide) (by decide) (by omega) (by omega)).mono ?_
  rintro e w' ⟨rfl, v', h', hk, hm⟩
  obtain ⟨k1, k2⟩ := pv_num 1 z (inR_of h0 (by omega)) hl hs
  exact ⟨rfl, h.step hw hH h' k1 k2 hk hm⟩
theorem pvword (c : Nat) (w0 : World) (H : List (Nat × Obj)) (w : World) (l : List UInt8) (z : Int) (h0 : 0 ≤ z) (h1 : z < 65536) (h : Pv c w0 H w l) :
    Calls Try.prog 41 #[.pointer (some ⟨c, 0, none⟩), .int .i64 z] w fun e w' => e = .returned (.tuple #[]) ∧ Pv c w0 H w' (l ++ be 2 z.toNat) := by
  obtain ⟨v, l', er, hw, hl, hs, hH⟩ := h.wr
  refine (wword_any c v 65536 l' er z w hw (by decide) (by decide) (by omega) (by omega)).mono ?_
  rintro e w' ⟨rfl, v', h', hk, hm⟩
  obtain ⟨k1, k2⟩ := pv_num 2 z (inR_of h0 (by omega)) hl hs
  exact ⟨rfl, h.step hw hH h' k1 k2 hk hm⟩
theorem pvtext (c : Nat) (w0 : World) (H : List (Nat × Obj)) (w : World) (l : List UInt8) (s : ByteArray) (h : Pv c w0 H w l) :
    Calls Try.prog 43 #[.pointer (some ⟨c, 0, none⟩), .string s] w fun e w' => e = .returned (.tuple #[]) ∧ Pv c w0 H w' (l ++ txL s) := by
  obtain ⟨v, l', er, hw, hl, hs, hH⟩ := h.wr
  obtain ⟨k1, k2, k3⟩ := pv_text s hl hs
  by_cases hb : s.size ≤ 65535
  · refine (wtext_any c v 65536 l' er s w hw (by decide) (by decide) (by omega) (by omega) k3).mono ?_
    rintro e w' ⟨rfl, v', h', hk, hm⟩
    exact ⟨rfl, h.step hw hH h' k1 k2 hk hm⟩
  · refine (wtext_long c v l' er s w hw hl (by omega)).mono ?_
    rintro e w' ⟨rfl, v', h', hk, hm⟩
    have hx : xE 65536 l' er s ≠ 0 := by
      rw [xE, decide_eq_false hb]
      unfold adm
      split
      · simp
      · assumption
    exact ⟨rfl, h.step hw hH h' hl (k2.elim (fun z => absurd z.1 hx) .inr) hk hm⟩
theorem pvdone (c : Nat) (w0 : World) (H : List (Nat × Obj)) (w : World) (l : List UInt8) (h : Pv c w0 H w l) :
    Calls Try.prog 18 #[.pointer (some ⟨c, 0, none⟩)] w fun e w' => (∃ (s : ByteArray) (er : Int), e = .returned (.tuple #[.string s, .int .i64 er]) ∧ ((l.length ≤ 65536 ∧ er = 0 ∧ s = ⟨l.toArray⟩) ∨ (65536 < l.length ∧ er ≠ 0))) ∧ Below w.heap.size w w' := by
  obtain ⟨v, l', er, hw, hl, hs, hH⟩ := h.wr
  rcases hs with ⟨rfl, rfl⟩ | ⟨he, hg⟩
  · refine (done_ok c v 65536 l' w hw).mono ?_
    rintro e w' ⟨rfl, rfl⟩
    exact ⟨⟨_, 0, rfl, .inl ⟨hl, rfl, rfl⟩⟩, Below.refl _ _⟩
  · refine (done_err c v 65536 l' er w hw (by simpa using he)).mono ?_
    rintro e w' ⟨rfl, rfl⟩
    exact ⟨⟨_, er, rfl, .inr ⟨hg, he⟩⟩, (Below.refl _ _).drew⟩
end Go.Proofs.Ytepcdbmdfpaomaa
