/- Texts laid together: WiM WiO WiP WiQ. -/
import Derived.Test.YtfjcpghepkmbfaaGa5
import Derived.Test.YtfjcpghepkmbfaaGb1
import Derived.Test.YtfjcpghepkmbfaaGb5
import Derived.Test.YtfjcpghepkmbfaaWiNzM
/- The program's writer of messages, as its users see it: what would lie in it if nothing were too long; blocks that it leaves alone. No walk here. -/
namespace Go.Proofs.Ytfjcpghepkmbfaa
open Go.RowKit

/-- The writer at block c: l is what was put to it; the blocks of H stand as told; nothing below c has turned since w0. -/
structure Pv (c : Nat) (w0 : World) (H : List (Nat × Obj)) (w : World) (l : List UInt8) : Prop where
  wr : ∃ (v : Value) (l' : List UInt8) (er : Int), WrAt w c v 65536 l' er ∧ l'.length ≤ 65536 ∧ ((er = 0 ∧ l' = l) ∨ (er ≠ 0 ∧ 65536 < l.length)) ∧ ∀ p, p ∈ H → v.ownBlock ≠ some p.1
  hold : ∀ p, p ∈ H → p.1 ≠ c ∧ w.heap[p.1]? = some p.2
  bel : Below c w0 w
theorem Pv.lt {c : Nat} {w0 : World} {H : List (Nat × Obj)} {w : World} {l : List UInt8} (h : Pv c w0 H w l) : c < w.heap.size := by
  obtain ⟨v, l', er, hw, _⟩ := h.wr
  exact hw.lt
theorem Pv.under {c : Nat} {w0 : World} {H : List (Nat × Obj)} {w w' : World} {l : List UInt8} (h : Pv c w0 H w l) (hb : Below w.heap.size w w') : Pv c w0 H w' l := by
  obtain ⟨v, l', er, hw, h1, h2, h3⟩ := h.wr
  exact ⟨⟨v, l', er, ⟨(hb.block c hw.lt).trans hw.blk, ownsRow_keep hw.own hb⟩, h1, h2, h3⟩, fun p hp => ⟨(h.hold p hp).1, (hb.block p.1 (heap_lt (h.hold p hp).2)).trans (h.hold p hp).2⟩, h.bel.trans (hb.mono (Nat.le_of_lt hw.lt))⟩
theorem Pv.alloc {c : Nat} {w0 : World} {H : List (Nat × Obj)} {w : World} {l : List UInt8} (h : Pv c w0 H w l) (o : Obj) : Pv c w0 H (w.alloc o) l := h.under ((Below.refl w.heap.size w).alloc (Nat.le_refl _) _)
theorem Pv.drew {c : Nat} {w0 : World} {H : List (Nat × Obj)} {w : World} {l : List UInt8} (h : Pv c w0 H w l) : Pv c w0 H w.drew l := h.under (Below.refl w.heap.size w).drew
theorem Pv.push {c : Nat} {w0 : World} {H : List (Nat × Obj)} {w : World} {l : List UInt8} (h : Pv c w0 H w l) (o : Obj) : Pv c w0 ((w.heap.size, o) :: H) (w.alloc o) l := by
  have ha := h.alloc o
  obtain ⟨v, l', er, hw, h1, h2, h3⟩ := h.wr
  refine ⟨⟨v, l', er, ⟨(Below.heap_alloc w o c hw.lt).trans hw.blk, hw.own.alloc o⟩, h1, h2, fun p hp => ?_⟩, fun p hp => ?_, ha.bel⟩
  · rcases List.mem_cons.1 hp with rfl | hp
    · intro e
      have := (hw.own.lt _ e).2
      exact Nat.lt_irrefl _ this
    · exact h3 p hp
  · rcases List.mem_cons.1 hp with rfl | hp
    · exact ⟨Nat.ne_of_gt hw.lt, heap_alloc_last w o⟩
    · exact ha.hold p hp
theorem Pv.pop {c : Nat} {w0 : World} {q : Nat × Obj} {H : List (Nat × Obj)} {w : World} {l : List UInt8} (h : Pv c w0 (q :: H) w l) : Pv c w0 H w l := by
  obtain ⟨v, l', er, hw, h1, h2, h3⟩ := h.wr
  exact ⟨⟨v, l', er, hw, h1, h2, fun p hp => h3 p (List.mem_cons_of_mem _ hp)⟩, fun p hp => h.hold p (List.mem_cons_of_mem _ hp), h.bel⟩
theorem Pv.top {c : Nat} {w0 : World} {q : Nat × Obj} {H : List (Nat × Obj)} {w : World} {l : List UInt8} (h : Pv c w0 (q :: H) w l) : w.heap[q.1]? = some q.2 := (h.hold q (List.mem_cons_self ..)).2
theorem Pv.box {c : Nat} {w0 : World} {b : Nat} {L : List Value} {T : TypeId} {H : List (Nat × Obj)} {w : World} {l : List UInt8} (h : Pv c w0 ((b, .cells L.toArray T (0, 0)) :: H) w l) : BxAt w b L T := h.top
/-- What a step of the writer leaves. -/
theorem Pv.step {c : Nat} {w0 : World} {H : List (Nat × Obj)} {w w' : World} {l l2 : List UInt8} {v v' : Value} {l1 l1' : List UInt8} {er er' : Int} (h : Pv c w0 H w l) (hw : WrAt w c v 65536 l1 er) (hH : ∀ p, p ∈ H → v.ownBlock ≠ some p.1) (hw' : WrAt w' c v' 65536 l1' er') (hl : l1'.length ≤ 65536) (hs : (er' = 0 ∧ l1' = l2) ∨ (er' ≠ 0 ∧ 65536 < l2.length)) (hk : Kept c v.ownBlock w w') (hm : Moved w v v') : Pv c w0 H w' l2 := by
  refine ⟨⟨v', l1', er', hw', hl, hs, fun p hp e => ?_⟩, fun p hp => ⟨(h.hold p hp).1, ?_⟩, h.bel.trans (hk.below (Nat.le_of_lt hw.lt) (Nat.le_refl _) (fun g hg => by have := (hw.own.lt g hg).1; omega))⟩
  · rcases hm with hm | ⟨g, hg, hg2⟩
    · exact hH p hp (hm ▸ e)
    · rw [hg] at e
      cases e
      have := heap_lt (h.hold p hp).2
      omega
  · rw [hk.block p.1 (heap_lt (h.hold p hp).2) (h.hold p hp).1 (fun e => hH p hp e.symm)]
    exact (h.hold p hp).2
theorem pv_num {l1 l : List UInt8} {er : Int} (s : Nat) (z : Int) (hz : inR s z = true) (hl : l1.length ≤ 65536) (hs : (er = 0 ∧ l1 = l) ∨ (er ≠ 0 ∧ 65536 < l.length)) : (wL 65536 l1 er s z).length ≤ 65536 ∧ ((wE 65536 l1 er s z = 0 ∧ wL 65536 l1 er s z = l ++ be s z.toNat) ∨ (wE 65536 l1 er s z ≠ 0 ∧ 65536 < (l ++ be s z.toNat).length)) := by
  unfold wL wE
  rw [hz, List.length_append, be_len]
  rcases hs with ⟨rfl, rfl⟩ | ⟨he, hg⟩
  · by_cases h : (65536 : Int) - l1.length < s
    · rw [adm_long _ _ _ h, if_neg (by decide)]
      exact ⟨hl, .inr ⟨by decide, by omega⟩⟩
    · rw [adm_ok _ _ _ h, if_pos rfl]
      exact ⟨by rw [List.length_append, be_len]; omega, .inl ⟨rfl, rfl⟩⟩
  · rw [adm_er _ _ _ _ _ he, if_neg he]
    exact ⟨hl, .inr ⟨he, by omega⟩⟩
theorem pv_text {l1 l : List UInt8} {er : Int} (s : ByteArray) (hl : l1.length ≤ 65536) (hs : (er = 0 ∧ l1 = l) ∨ (er ≠ 0 ∧ 65536 < l.length)) : (xL 65536 l1 er s).length ≤ 65536 ∧ ((xE 65536 l1 er s = 0 ∧ xL 65536 l1 er s = l ++ txL s) ∨ (xE 65536 l1 er s ≠ 0 ∧ 65536 < (l ++ txL s).length)) ∧ (xE 65536 l1 er s = 0 → l1.length + (2 + s.size) ≤ 140737488355328) := by
  have ht : (txL s).length = 2 + s.size := by rw [txL, List.length_append, be_len, data_len]
  unfold xL xE
  rw [List.length_append, ht]
  rcases hs with ⟨rfl, rfl⟩ | ⟨he, hg⟩
  · by_cases h1 : s.size ≤ 65535
    · rw [decide_eq_true h1]
      by_cases h : (65536 : Int) - l1.length < 2 + (s.size : Int)
      · rw [adm_long _ _ _ h, if_neg (by decide)]
        exact ⟨hl, .inr ⟨by decide, by omega⟩, fun _ => by omega⟩
      · rw [adm_ok _ _ _ h, if_pos rfl]
        exact ⟨by rw [List.length_append, List.length_append, be_len, data_len]; omega, .inl ⟨rfl, rfl⟩, fun _ => by omega⟩
    · rw [decide_eq_false h1, adm_bad, if_neg (by decide)]
      exact ⟨hl, .inr ⟨by decide, by omega⟩, fun e => by cases e⟩
  · rw [adm_er _ _ _ _ _ he, if_neg he]
    exact ⟨hl, .inr ⟨he, by omega⟩, fun e => absurd e he⟩
set_option maxHeartbeats 800000 in
theorem wtext_long (b : Nat) (v : Value) (l : List UInt8) (er : Int) (s : ByteArray) (w : World) (h : WrAt w b v 65536 l er) (hl : l.length ≤ 65536) (hs : 65535 < s.size) :
    Calls Try.prog 43 #[.pointer (some ⟨b, 0, none⟩), .string s] w fun e w' => e = .returned (.tuple #[]) ∧ ∃ v', WrAt w' b v' 65536 l (xE 65536 l er s) ∧ Kept b v.ownBlock w w' ∧ Moved w v v' := by
  obtain ⟨E, eE⟩ : ∃ E, E = xE 65536 l er s := ⟨_, rfl⟩
  have hd : E ≠ 0 := by
    rw [eE, xE, decide_eq_false (by omega)]
    unfold adm
    split
    · simp
    · assumption
  rw [← eE]
  have HA : Hid (∀ size : Int, Calls Try.prog 66 #[.pointer (some ⟨b, 0, none⟩), .bool false, .int .i64 size] w fun e w' => e = .returned (.bool false) ∧ WrAt w' b v 65536 l E ∧ Kept b none w w') := hid (fun size => by
    have ha := admits_any b v 65536 l er false size w h (by decide) (by decide) (by omega)
    have he : adm 65536 l.length er false size = E := by
      rw [eE, xE, decide_eq_false (by omega)]
      unfold adm
      rfl
    rw [he, decide_eq_false hd] at ha
    exact ha)
  have hi : ¬ ((s.size : Int) ≤ 65535) := by omega
  have hi2 : decide ((s.size : Int) ≤ 65535) = false := decide_eq_false hi
  clear h eE hd hl hs
  go_enter Try.func43, Try.ntmps43
  go_wp2_with fail
  refine (HA.out _).mono ?_
  rintro e w1 ⟨rfl, hr, hk⟩
  have HR := hid hr
  have HK := hid hk
  clear hr hk
  go_wp2
  go_end0
  exact ⟨rfl, v, HR.out, kept_none HK.out, Moved.refl _ _⟩
theorem pvnew (H : List (Nat × Obj)) (w : World) (hH : ∀ p, p ∈ H → w.heap[p.1]? = some p.2) : Calls Try.prog 16 #[.int .i64 65536] w fun e w' => e = .returned (.pointer (some ⟨w.heap.size, 0, none⟩)) ∧ Pv w.heap.size w H w' [] := by
  refine (new_any 65536 w).mono ?_
  rintro e w' ⟨rfl, rfl⟩
  have hb : Below w.heap.size w (w.alloc (.cells #[.int .i64 (max 65536 0), .slice none 0 0, .int .i64 0] 86)) := (Below.refl _ _).alloc (Nat.le_refl _) _
  exact ⟨rfl, ⟨_, [], 0, ⟨heap_alloc_last w _, ⟨rfl, .inl ⟨rfl, rfl⟩⟩⟩, by decide, .inl ⟨rfl, rfl⟩, fun p _ e => by cases e⟩, fun p hp => ⟨Nat.ne_of_lt (heap_lt (hH p hp)), (hb.block p.1 (heap_lt (hH p hp))).trans (hH p hp)⟩, hb⟩
theorem pvbyte (c : Nat) (w0 : World) (H : List (Nat × Obj)) (w : World) (l : List UInt8) (z : Int) (h0 : 0 ≤ z) (h1 : z < 256) (h : Pv c w0 H w l) :
    Calls Try.prog 40 #[.pointer (some ⟨c, 0, none⟩), .int .i64 z] w fun e w' => e = .returned (.tuple #[]) ∧ Pv c w0 H w' (l ++ be 1 z.toNat) := by
  obtain ⟨v, l', er, hw, hl, hs, hH⟩ := h.wr
  refine (wbyte_any c v 65536 l' er z w hw (by decide) (by decide) (by omega) (by omega)).mono ?_
  rintro e w' ⟨rfl, v', h', hk, hm⟩
  obtain ⟨k1, k2⟩ := pv_num 1 z (inR_of h0 (by omega)) hl hs
  exact ⟨rfl, h.step hw hH h' k1 k2 hk hm⟩
theorem pvword (c : Nat) (w0 : World) (H : List (Nat × Obj)) (w : World) (l : List UInt8) (z : Int) (h0 : 0 ≤ z) (h1 : z < 65536) (h : Pv c w0 H w l) :
    Calls Try.prog 41 #[.pointer (some ⟨c, 0, none⟩), .int .i64 z] w fun e w' => e = .returned (.tuple #[]) ∧ Pv c w0 H w' (l ++ be 2 z.toNat) := by
  obtain ⟨v, l', er, hw, hl, hs, hH⟩ := h.wr
  refine (wword_any c v 65536 l' er z w hw (by decide) (by decide) (by omega) (by omega)).mono ?_
  rintro e w' ⟨rfl, v', h', hk, hm⟩
  obtain ⟨k1, k2⟩ := pv_num 2 z (inR_of h0 (by omega)) hl hs
  exact ⟨rfl, h.step hw hH h' k1 k2 hk hm⟩
theorem pvtext (c : Nat) (w0 : World) (H : List (Nat × Obj)) (w : World) (l : List UInt8) (s : ByteArray) (h : Pv c w0 H w l) :
    Calls Try.prog 43 #[.pointer (some ⟨c, 0, none⟩), .string s] w fun e w' => e = .returned (.tuple #[]) ∧ Pv c w0 H w' (l ++ txL s) := by
  obtain ⟨v, l', er, hw, hl, hs, hH⟩ := h.wr
  obtain ⟨k1, k2, k3⟩ := pv_text s hl hs
  by_cases hb : s.size ≤ 65535
  · refine (wtext_any c v 65536 l' er s w hw (by decide) (by decide) (by omega) (by omega) k3).mono ?_
    rintro e w' ⟨rfl, v', h', hk, hm⟩
    exact ⟨rfl, h.step hw hH h' k1 k2 hk hm⟩
  · refine (wtext_long c v l' er s w hw hl (by omega)).mono ?_
    rintro e w' ⟨rfl, v', h', hk, hm⟩
    have hx : xE 65536 l' er s ≠ 0 := by
      rw [xE, decide_eq_false hb]
      unfold adm
      split
      · simp
      · assumption
    exact ⟨rfl, h.step hw hH h' hl (k2.elim (fun z => absurd z.1 hx) .inr) hk hm⟩
theorem pvdone (c : Nat) (w0 : World) (H : List (Nat × Obj)) (w : World) (l : List UInt8) (h : Pv c w0 H w l) :
    Calls Try.prog 18 #[.pointer (some ⟨c, 0, none⟩)] w fun e w' => (∃ (s : ByteArray) (er : Int), e = .returned (.tuple #[.string s, .int .i64 er]) ∧ ((l.length ≤ 65536 ∧ er = 0 ∧ s = ⟨l.toArray⟩) ∨ (65536 < l.length ∧ er ≠ 0))) ∧ Below w.heap.size w w' := by
  obtain ⟨v, l', er, hw, hl, hs, hH⟩ := h.wr
  rcases hs with ⟨rfl, rfl⟩ | ⟨he, hg⟩
  · refine (done_ok c v 65536 l' w hw).mono ?_
    rintro e w' ⟨rfl, rfl⟩
    exact ⟨⟨_, 0, rfl, .inl ⟨hl, rfl, rfl⟩⟩, Below.refl _ _⟩
  · refine (done_err c v 65536 l' er w hw (by simpa using he)).mono ?_
    rintro e w' ⟨rfl, rfl⟩
    exact ⟨⟨_, er, rfl, .inr ⟨hg, he⟩⟩, (Below.refl _ _).drew⟩
end Go.Proofs.Ytfjcpghepkmbfaa

/- The program's writers of signatures and requests. -/
namespace Go.Proofs.Ytfjcpghepkmbfaa
open Go.RowKit

theorem Pv.put {c : Nat} {w0 : World} {H : List (Nat × Obj)} {w w1 : World} {l : List UInt8} {o : Obj} (h : Pv c w0 H w l) (hb : Below w.heap.size w w1) (ho : w1.heap[w.heap.size]? = some o) : Pv c w0 ((w.heap.size, o) :: H) w1 l := by
  have h1 := h.under hb
  obtain ⟨v, l', er, hw, a1, a2, a3⟩ := h.wr
  refine ⟨⟨v, l', er, ⟨(hb.block c hw.lt).trans hw.blk, ownsRow_keep hw.own hb⟩, a1, a2, fun p hp => ?_⟩, fun p hp => ?_, h1.bel⟩
  · rcases List.mem_cons.1 hp with rfl | hp
    · intro e
      exact Nat.lt_irrefl _ (hw.own.lt _ e).2
    · exact a3 p hp
  · rcases List.mem_cons.1 hp with rfl | hp
    · exact ⟨Nat.ne_of_gt hw.lt, ho⟩
    · exact h1.hold p hp
set_option maxRecDepth 100000 in
set_option maxHeartbeats 1600000 in
theorem iwsig_any (c : Nat) (w0 : World) (H : List (Nat × Obj)) (p : Sg) (h0 : 0 ≤ p.1) (h1 : p.1 < 256) (w : World) (l : List UInt8) (h : Pv c w0 H w l) :
    Calls Try.prog 68 #[.pointer (some ⟨c, 0, none⟩), .agg #[.int .i64 p.1, .string p.2]] w fun e w' => e = .returned (.tuple #[]) ∧ Pv c w0 H w' (l ++ sigL p) := by
  have H1 : Hid (Pv c w0 ((w.heap.size, .cells #[.int .i64 p.1, .string p.2] 48 (0, 0)) :: H) (w.alloc (.cells #[.int .i64 p.1, .string p.2] 48)) l) := hid (h.push _)
  have HB : Hid (0 ≤ p.1 ∧ p.1 < 256) := hid ⟨h0, h1⟩
  clear h h0 h1
  go_enter Try.func68, Try.ntmps68
  go_wp2_with (first
    | (have := H2; go_at_call 43; refine (pvtext c w0 _ _ _ _ H2.out).mono ?_; rintro e w2 ⟨rfl, h3⟩; have H3 := hid h3; clear h3)
    | (go_at_call 40; refine (pvbyte c w0 _ _ l _ HB.out.1 HB.out.2 H1.out).mono ?_; rintro e w1 ⟨rfl, h2⟩; have H2 := hid h2; clear h2; have y1 := (H2.out.box (L := [.int .i64 p.1, .string p.2])).cell 1 _ rfl))
  go_end0
  exact ⟨rfl, by have := H3.out.pop; rw [List.append_assoc] at this; exact this⟩
set_option maxRecDepth 100000 in
set_option maxHeartbeats 3200000 in
theorem iwsigs_any (c : Nat) (w0 : World) (hc : w0.heap.size ≤ c) (H : List (Nat × Obj)) (a : Option Addr) (n cap : Nat) (ps : List Sg) (hn : ps.length = n) (hm : n < 256) (hb : ∀ p, p ∈ ps → 0 ≤ p.1 ∧ p.1 < 256) (hP : PairsIn w0 a ps) (w : World) (l : List UInt8) (h : Pv c w0 H w l) :
    Calls Try.prog 44 #[.pointer (some ⟨c, 0, none⟩), .slice a n cap] w fun e w' => e = .returned (.tuple #[]) ∧ Pv c w0 H w' (l ++ sgsL ps) := by
  have H1 := hid h
  have HP := hid hP
  have HC := hid hc
  have HB := hid hb
  have HN := hid hn
  have hn0 : (0 : Int) ≤ (n : Int) := Int.natCast_nonneg _
  have hn1 : (n : Int) < 256 := by omega
  clear h hP hc hb hn
  go_enter Try.func44, Try.ntmps44
  go_wp2_with (go_at_call 40; refine (pvbyte c w0 _ _ l _ hn0 hn1 H1.out).mono ?_; rintro e w1 ⟨rfl, h2⟩; have H2 := hid h2; clear h2)
  go_loopw [12] (fun i wr => ∃ j : Nat, j ≤ n ∧ i = .int .i64 (j : Int) ∧ Pv c w0 H wr (l ++ be 1 n ++ (ps.take j).flatMap sigL))
    (fun i _ => ((n : Int) - intOf i).toNat)
  case atStart => exact ⟨0, Nat.zero_le _, rfl, by have := H2.out; simpa using this⟩
  case round =>
    obtain ⟨j, hj, rfl, hpv⟩ := hrel
    have HV := hid hpv
    clear hpv
    have hj0 : (0 : Int) ≤ (j : Int) := Int.natCast_nonneg _
    by_cases hjn : j = n
    · have hj1 : ¬ ((j : Int) < (n : Int)) := by omega
      have HE : Hid (j = n) := hid hjn
      clear hj hjn
      go_wp2
      go_end0
      refine ⟨rfl, ?_⟩
      have := HV.out
      rw [HE.out, ← HN.out, List.take_length, List.append_assoc] at this
      exact this
    · have hj1 : (j : Int) < (n : Int) := by omega
      have hjl : j < ps.length := by have := HN.out; omega
      obtain ⟨g, off, rfl, hc1, hc2⟩ : ∃ g off, a = some ⟨g, off, none⟩ ∧ wr.cell? ⟨g, off + j * 2, none⟩ = some (.int .i64 (ps.getD j sg0).1) ∧ wr.cell? ⟨g, off + j * 2 + 1, none⟩ = some (.string (ps.getD j sg0).2) := by
        rcases HP.out.keep HV.out.bel HC.out with e | ⟨g, off, ha, hg, hc⟩
        · rw [e] at hjl; simp at hjl
        · have hx : ps[j]? = some (ps.getD j sg0) := by simp [hjl]
          obtain ⟨k1, k2⟩ := hc j _ hx
          exact ⟨g, off, ha, k1, k2⟩
      have HJ := hid (And.intro hj hjn)
      have HS := hid (flat_snoc (f := sigL) (d := sg0) j hjl)
      have HBj := hid (HB.out (ps.getD j sg0) (by rw [List.getD_eq_getElem?_getD, List.getElem?_eq_getElem hjl]; exact List.getElem_mem hjl))
      generalize ps.getD j sg0 = p at hc1 hc2 HS HBj
      clear hj hjn hjl
      go_wp2_with (go_at_call 68; refine (iwsig_any c w0 H p HBj.out.1 HBj.out.2 _ _ (HV.out.alloc _)).mono ?_; rintro e w2 ⟨rfl, h3⟩; have H3 := hid h3; clear h3)
      go_roundw
      case rel => exact ⟨j + 1, by have := HJ.out; omega, by go_num, by have := H3.out; rw [List.append_assoc, HS.out] at this; exact this⟩
      case measure => simp [intOf]; omega
set_option maxRecDepth 100000 in
set_option maxHeartbeats 1600000 in
theorem iwrequest_any (c : Nat) (w0 : World) (H : List (Nat × Obj)) (r : Rq) (hb : r.b < 18446744073709551616) (w : World) (l : List UInt8) (h : Pv c w0 H w l) :
    Calls Try.prog 42 #[.pointer (some ⟨c, 0, none⟩), .agg #[.int .i64 r.c, .int .i64 r.st, .int .i64 r.k, .string r.key, .float .f64 r.b, .int .i64 r.id]] w fun e w' => e = .returned (.tuple #[]) ∧ Pv c w0 H w' (l ++ rqX r) := by
  have H1 := hid (h.alloc (.cells #[.int .i64 r.c, .int .i64 r.st, .int .i64 r.k, .string r.key, .float .f64 r.b, .int .i64 r.id] 26))
  have HB := hid hb
  clear h hb
  go_enter Try.func42, Try.ntmps42
  go_wp2_with (first
    | (have := H2; go_at_call 43; refine (pvtext c w0 _ _ _ _ H2.out).mono ?_; rintro e w2 ⟨rfl, h3⟩; have H3 := hid h3; clear h3)
    | (go_at_call 65; refine (dtext_any r HB.out _).mono ?_; rintro e w1 ⟨rfl, h2⟩; have H2 := hid (H1.out.under h2); clear h2))
  go_end0
  exact ⟨rfl, H3.out⟩
set_option maxRecDepth 100000 in
set_option maxHeartbeats 1600000 in
theorem iwlink_any (c : Nat) (w0 : World) (hc : w0.heap.size ≤ c) (H : List (Nat × Obj)) (k : Ln) (a : Option Addr) (n cap : Nat) (a2 : Option Addr) (n2 cap2 : Nat) (hn : k.1.2.length = n) (hm : n ≤ maxLen) (hI : IntsIn w0 a k.1.2) (hn2 : k.2.length = n2) (hm2 : n2 < 256) (hb : ∀ p, p ∈ k.2 → 0 ≤ p.1 ∧ p.1 < 256) (hP : PairsIn w0 a2 k.2) (w : World) (l : List UInt8) (h : Pv c w0 H w l) :
    Calls Try.prog 46 #[.pointer (some ⟨c, 0, none⟩), .agg #[.int .i64 k.1.1, .slice a n cap, .slice a2 n2 cap2]] w fun e w' => e = .returned (.tuple #[]) ∧ Pv c w0 H w' (l ++ lnL k) := by
  have H1 : Hid (Pv c w0 ((w.heap.size, .cells #[.int .i64 k.1.1, .slice a n cap, .slice a2 n2 cap2] 63 (0, 0)) :: H) (w.alloc (.cells #[.int .i64 k.1.1, .slice a n cap, .slice a2 n2 cap2] 63)) l) := hid (h.push _)
  have HT : Hid (∀ u : World, Below c w0 u → Calls Try.prog 69 #[.agg #[.int .i64 k.1.1, .slice a n cap]] u fun e w' => e = .returned (.tuple #[.string (textC k.1.1 k.1.2), .int .i64 (textE k.1.1 k.1.2)]) ∧ Below u.heap.size u w') := hid (fun u hu => ctext_any k.1.1 a n cap k.1.2 hn hm u (hI.keep hu hc))
  have HS : Hid (∀ (H : List (Nat × Obj)) (u : World) (l : List UInt8), Pv c w0 H u l → Calls Try.prog 44 #[.pointer (some ⟨c, 0, none⟩), .slice a2 n2 cap2] u fun e w' => e = .returned (.tuple #[]) ∧ Pv c w0 H w' (l ++ sgsL k.2)) := hid (fun H u l hu => iwsigs_any c w0 hc H a2 n2 cap2 k.2 hn2 hm2 hb hP u l hu)
  clear h hc hn hm hI hn2 hm2 hb hP
  go_enter Try.func46, Try.ntmps46
  go_wp2_with (first
    | (have := H3; go_at_call 44; refine (HS.out _ _ _ H3.out).mono ?_; rintro e w3 ⟨rfl, h4⟩; have H4 := hid h4; clear h4)
    | (have := H2; go_at_call 43; refine (pvtext c w0 _ _ _ _ H2.out).mono ?_; rintro e w2 ⟨rfl, h3⟩; have H3 := hid h3; clear h3; have y2 := (H3.out.box (L := [.int .i64 k.1.1, .slice a n cap, .slice a2 n2 cap2])).cell 2 _ rfl)
    | (go_at_call 69; refine (HT.out _ H1.out.bel).mono ?_; rintro e w1 ⟨rfl, h2⟩; have H2 := hid (H1.out.under h2); clear h2; have y2 := (H2.out.box (L := [.int .i64 k.1.1, .slice a n cap, .slice a2 n2 cap2])).cell 2 _ rfl))
  go_end0
  exact ⟨rfl, by have := H4.out.pop; rw [List.append_assoc] at this; exact this⟩
end Go.Proofs.Ytfjcpghepkmbfaa

/- The program's writer of changes. -/
namespace Go.Proofs.Ytfjcpghepkmbfaa
open Go.RowKit

/-- What can be written. -/
def wSg (ps : List Sg) : Prop := ps.length < 256 ∧ ∀ p, p ∈ ps → 0 ≤ p.1 ∧ p.1 < 256
def wCt (c : Ct) : Prop := (0 ≤ c.1 ∧ c.1 < 256) ∧ (0 ≤ c.2.1 ∧ c.2.1 < 65536) ∧ c.2.2.1.b < 18446744073709551616 ∧ wSg c.2.2.2
def wCg (z : Cg) : Prop := (0 ≤ z.1 ∧ z.1 < 256) ∧ (0 ≤ z.2.1 ∧ z.2.1 < 256) ∧ (z.2.2.1.length < 256 ∧ ∀ x, x ∈ z.2.2.1 → wCt x) ∧ (0 ≤ z.2.2.2.1 ∧ z.2.2.2.1 < 256)
def wLn (k : Ln) : Prop := k.1.2.length ≤ maxLen ∧ wSg k.2
set_option maxRecDepth 100000 in
set_option maxHeartbeats 6400000 in
theorem iwchange_any {F : Nat → Prop} (c : Nat) (w0 : World) (hc : w0.heap.size ≤ c) (H : List (Nat × Obj)) (z : Cg) (a : Option Addr) (n cap : Nat) (hn : z.2.2.1.length = n) (hz : wCg z) (hR : Reads F w0 (.slice a n cap) (dCts z.2.2.1)) (w : World) (l : List UInt8) (h : Pv c w0 H w l) :
    Calls Try.prog 45 #[.pointer (some ⟨c, 0, none⟩), .agg #[.int .i64 z.1, .int .i64 z.2.1, .slice a n cap, .int .i64 z.2.2.2.1, .string z.2.2.2.2]] w fun e w' => e = .returned (.tuple #[]) ∧ Pv c w0 H w' (l ++ cgL z) := by
  obtain ⟨H1, eH1⟩ : ∃ H1, H1 = (w.heap.size, Obj.cells #[.int .i64 z.1, .int .i64 z.2.1, .slice a n cap, .int .i64 z.2.2.2.1, .string z.2.2.2.2] 70 (0, 0)) :: H := ⟨_, rfl⟩
  have P1 : Hid (Pv c w0 H1 (w.alloc (.cells #[.int .i64 z.1, .int .i64 z.2.1, .slice a n cap, .int .i64 z.2.2.2.1, .string z.2.2.2.2] 70)) l) := hid (by rw [eH1]; exact h.push _)
  have HBx : Hid (∀ (u : World) (l : List UInt8), Pv c w0 H1 u l → BxAt u w.heap.size [.int .i64 z.1, .int .i64 z.2.1, .slice a n cap, .int .i64 z.2.2.2.1, .string z.2.2.2.2] 70) := hid (fun u l hu => by rw [eH1] at hu; exact hu.box)
  have HPop : Hid (∀ (u : World) (l : List UInt8), Pv c w0 H1 u l → Pv c w0 H u l) := hid (fun u l hu => by rw [eH1] at hu; exact hu.pop)
  have HZ := hid hz
  have HR := hid hR
  have HC := hid hc
  have HN := hid hn
  have hn0 : (0 : Int) ≤ (n : Int) := Int.natCast_nonneg _
  have hn1 : (n : Int) < 256 := by have := hz.2.2.1.1; omega
  clear h hc hn hz hR eH1
  go_enter Try.func45, Try.ntmps45
  go_wp2_with (first
    | (have := P3; go_at_call 40; refine (pvbyte c w0 _ _ _ _ hn0 hn1 P3.out).mono ?_; rintro e w3 ⟨rfl, h4⟩; have P4 := hid h4; clear h4 y0 y1 y2 y3 y4; have y0 := (HBx.out _ _ P4.out).cell 0 _ rfl; have y1 := (HBx.out _ _ P4.out).cell 1 _ rfl; have y2 := (HBx.out _ _ P4.out).cell 2 _ rfl; have y3 := (HBx.out _ _ P4.out).cell 3 _ rfl; have y4 := (HBx.out _ _ P4.out).cell 4 _ rfl)
    | (have := P2; go_at_call 40; refine (pvbyte c w0 _ _ _ _ HZ.out.2.1.1 HZ.out.2.1.2 P2.out).mono ?_; rintro e w2 ⟨rfl, h3⟩; have P3 := hid h3; clear h3 y0 y1 y2 y3 y4; have y0 := (HBx.out _ _ P3.out).cell 0 _ rfl; have y1 := (HBx.out _ _ P3.out).cell 1 _ rfl; have y2 := (HBx.out _ _ P3.out).cell 2 _ rfl; have y3 := (HBx.out _ _ P3.out).cell 3 _ rfl; have y4 := (HBx.out _ _ P3.out).cell 4 _ rfl)
    | (go_at_call 40; refine (pvbyte c w0 _ _ _ _ HZ.out.1.1 HZ.out.1.2 P1.out).mono ?_; rintro e w1 ⟨rfl, h2⟩; have P2 := hid h2; clear h2; have y0 := (HBx.out _ _ P2.out).cell 0 _ rfl; have y1 := (HBx.out _ _ P2.out).cell 1 _ rfl; have y2 := (HBx.out _ _ P2.out).cell 2 _ rfl; have y3 := (HBx.out _ _ P2.out).cell 3 _ rfl; have y4 := (HBx.out _ _ P2.out).cell 4 _ rfl))
  clear y0 y1 y2 y3 y4
  go_loopw [22] (fun i wr => ∃ j : Nat, j ≤ n ∧ i = .int .i64 (j : Int) ∧ Pv c w0 H1 wr (l ++ be 1 z.1.toNat ++ be 1 z.2.1.toNat ++ be 1 n ++ (z.2.2.1.take j).flatMap ctL))
    (fun i _ => ((n : Int) - intOf i).toNat)
  case atStart => exact ⟨0, Nat.zero_le _, rfl, by have := P4.out; simpa using this⟩
  case round =>
    obtain ⟨j, hj, rfl, hpv⟩ := hrel
    have HV := hid hpv
    clear hpv
    have hj0 : (0 : Int) ≤ (j : Int) := Int.natCast_nonneg _
    by_cases hjn : j = n
    · have hj1 : ¬ ((j : Int) < (n : Int)) := by omega
      have HE : Hid (j = n) := hid hjn
      clear hj hjn
      have y0 := (HBx.out _ _ HV.out).cell 0 _ rfl; have y1 := (HBx.out _ _ HV.out).cell 1 _ rfl; have y2 := (HBx.out _ _ HV.out).cell 2 _ rfl; have y3 := (HBx.out _ _ HV.out).cell 3 _ rfl; have y4 := (HBx.out _ _ HV.out).cell 4 _ rfl
      go_wp2_with (go_at_call 68; refine (iwsig_any c w0 _ z.2.2.2 HZ.out.2.2.2.1 HZ.out.2.2.2.2 _ _ HV.out).mono ?_; rintro e w5 ⟨rfl, h5⟩; have P5 := hid h5; clear h5 y0 y1 y2 y3 y4)
      go_end0
      refine ⟨rfl, ?_⟩
      have := HPop.out _ _ P5.out
      rw [HE.out, ← HN.out, List.take_length] at this
      simp only [cgL, lsL, List.append_assoc] at this ⊢
      exact this
    · have hj1 : (j : Int) < (n : Int) := by omega
      have hjl : j < z.2.2.1.length := by have := HN.out; omega
      obtain ⟨g, off, cp, a8, kc, hv, hP, hg, hcl⟩ := ct_at HR.out j hjl
      cases hv
      have hcr : ∀ (q : Nat) (u : Value), (ctC (z.2.2.1.getD j ct0) (.slice a8 (z.2.2.1.getD j ct0).2.2.2.length kc))[q]? = some u → wr.cell? ⟨g, off + j * 9 + q, none⟩ = some u := fun q u hq => (World.cell?_of_block (a := ⟨g, off + j * 9 + q, none⟩) (HV.out.bel.block g (Nat.lt_of_lt_of_le hg HC.out))).trans (hcl q u hq)
      have HJ := hid (And.intro hj hjn)
      have HS := hid (flat_snoc (f := ctL) (d := ct0) j hjl)
      have HBj := hid (HZ.out.2.2.1.2 (z.2.2.1.getD j ct0) (by rw [List.getD_eq_getElem?_getD, List.getElem?_eq_getElem hjl]; exact List.getElem_mem hjl))
      generalize z.2.2.1.getD j ct0 = y at hcr hP HS HBj
      have HP := hid hP
      have k0 : wr.cell? ⟨g, off + j * 9, none⟩ = some (.int .i64 y.1) := hcr 0 _ rfl
      have k1 : wr.cell? ⟨g, off + j * 9 + 1, none⟩ = some (.int .i64 y.2.1) := hcr 1 _ rfl
      have k2 : wr.cell? ⟨g, off + j * 9 + 2, none⟩ = some (.int .i64 y.2.2.1.c) := hcr 2 _ rfl
      have k3 : wr.cell? ⟨g, off + j * 9 + 3, none⟩ = some (.int .i64 y.2.2.1.st) := hcr 3 _ rfl
      have k4 : wr.cell? ⟨g, off + j * 9 + 4, none⟩ = some (.int .i64 y.2.2.1.k) := hcr 4 _ rfl
      have k5 : wr.cell? ⟨g, off + j * 9 + 5, none⟩ = some (.string y.2.2.1.key) := hcr 5 _ rfl
      have k6 : wr.cell? ⟨g, off + j * 9 + 6, none⟩ = some (.float .f64 y.2.2.1.b) := hcr 6 _ rfl
      have k7 : wr.cell? ⟨g, off + j * 9 + 7, none⟩ = some (.int .i64 y.2.2.1.id) := hcr 7 _ rfl
      have k8 : wr.cell? ⟨g, off + j * 9 + 8, none⟩ = some (.slice a8 y.2.2.2.length kc) := hcr 8 _ rfl
      clear hj hjn hjl hP hg hcl hcr
      go_wp2_with (first
        | (have := Q4; go_at_call 44; refine (iwsigs_any c w0 HC.out _ a8 _ kc y.2.2.2 rfl HBj.out.2.2.2.1 HBj.out.2.2.2.2 HP.out _ _ Q4.out).mono ?_; rintro e v4 ⟨rfl, h5⟩; have Q5 := hid h5; clear h5 x0 x1 x2 x3 x4 x5 x6 x7 x8)
        | (have := Q3; go_at_call 42; refine (iwrequest_any c w0 _ y.2.2.1 HBj.out.2.2.1 _ _ Q3.out).mono ?_; rintro e v3 ⟨rfl, h4⟩; have Q4 := hid h4; clear h4 x0 x1 x2 x3 x4 x5 x6 x7 x8; have x0 := (Q4.out.box (L := [.int .i64 y.1, .int .i64 y.2.1, .int .i64 y.2.2.1.c, .int .i64 y.2.2.1.st, .int .i64 y.2.2.1.k, .string y.2.2.1.key, .float .f64 y.2.2.1.b, .int .i64 y.2.2.1.id, .slice a8 y.2.2.2.length kc])).cell 0 _ rfl; have x1 := (Q4.out.box (L := [.int .i64 y.1, .int .i64 y.2.1, .int .i64 y.2.2.1.c, .int .i64 y.2.2.1.st, .int .i64 y.2.2.1.k, .string y.2.2.1.key, .float .f64 y.2.2.1.b, .int .i64 y.2.2.1.id, .slice a8 y.2.2.2.length kc])).cell 1 _ rfl; have x2 := (Q4.out.box (L := [.int .i64 y.1, .int .i64 y.2.1, .int .i64 y.2.2.1.c, .int .i64 y.2.2.1.st, .int .i64 y.2.2.1.k, .string y.2.2.1.key, .float .f64 y.2.2.1.b, .int .i64 y.2.2.1.id, .slice a8 y.2.2.2.length kc])).cell 2 _ rfl; have x3 := (Q4.out.box (L := [.int .i64 y.1, .int .i64 y.2.1, .int .i64 y.2.2.1.c, .int .i64 y.2.2.1.st, .int .i64 y.2.2.1.k, .string y.2.2.1.key, .float .f64 y.2.2.1.b, .int .i64 y.2.2.1.id, .slice a8 y.2.2.2.length kc])).cell 3 _ rfl; have x4 := (Q4.out.box (L := [.int .i64 y.1, .int .i64 y.2.1, .int .i64 y.2.2.1.c, .int .i64 y.2.2.1.st, .int .i64 y.2.2.1.k, .string y.2.2.1.key, .float .f64 y.2.2.1.b, .int .i64 y.2.2.1.id, .slice a8 y.2.2.2.length kc])).cell 4 _ rfl; have x5 := (Q4.out.box (L := [.int .i64 y.1, .int .i64 y.2.1, .int .i64 y.2.2.1.c, .int .i64 y.2.2.1.st, .int .i64 y.2.2.1.k, .string y.2.2.1.key, .float .f64 y.2.2.1.b, .int .i64 y.2.2.1.id, .slice a8 y.2.2.2.length kc])).cell 5 _ rfl; have x6 := (Q4.out.box (L := [.int .i64 y.1, .int .i64 y.2.1, .int .i64 y.2.2.1.c, .int .i64 y.2.2.1.st, .int .i64 y.2.2.1.k, .string y.2.2.1.key, .float .f64 y.2.2.1.b, .int .i64 y.2.2.1.id, .slice a8 y.2.2.2.length kc])).cell 6 _ rfl; have x7 := (Q4.out.box (L := [.int .i64 y.1, .int .i64 y.2.1, .int .i64 y.2.2.1.c, .int .i64 y.2.2.1.st, .int .i64 y.2.2.1.k, .string y.2.2.1.key, .float .f64 y.2.2.1.b, .int .i64 y.2.2.1.id, .slice a8 y.2.2.2.length kc])).cell 7 _ rfl; have x8 := (Q4.out.box (L := [.int .i64 y.1, .int .i64 y.2.1, .int .i64 y.2.2.1.c, .int .i64 y.2.2.1.st, .int .i64 y.2.2.1.k, .string y.2.2.1.key, .float .f64 y.2.2.1.b, .int .i64 y.2.2.1.id, .slice a8 y.2.2.2.length kc])).cell 8 _ rfl)
        | (have := Q2; go_at_call 41; refine (pvword c w0 _ _ _ _ HBj.out.2.1.1 HBj.out.2.1.2 Q2.out).mono ?_; rintro e v2 ⟨rfl, h3⟩; have Q3 := hid h3; clear h3 x0 x1 x2 x3 x4 x5 x6 x7 x8; have x0 := (Q3.out.box (L := [.int .i64 y.1, .int .i64 y.2.1, .int .i64 y.2.2.1.c, .int .i64 y.2.2.1.st, .int .i64 y.2.2.1.k, .string y.2.2.1.key, .float .f64 y.2.2.1.b, .int .i64 y.2.2.1.id, .slice a8 y.2.2.2.length kc])).cell 0 _ rfl; have x1 := (Q3.out.box (L := [.int .i64 y.1, .int .i64 y.2.1, .int .i64 y.2.2.1.c, .int .i64 y.2.2.1.st, .int .i64 y.2.2.1.k, .string y.2.2.1.key, .float .f64 y.2.2.1.b, .int .i64 y.2.2.1.id, .slice a8 y.2.2.2.length kc])).cell 1 _ rfl; have x2 := (Q3.out.box (L := [.int .i64 y.1, .int .i64 y.2.1, .int .i64 y.2.2.1.c, .int .i64 y.2.2.1.st, .int .i64 y.2.2.1.k, .string y.2.2.1.key, .float .f64 y.2.2.1.b, .int .i64 y.2.2.1.id, .slice a8 y.2.2.2.length kc])).cell 2 _ rfl; have x3 := (Q3.out.box (L := [.int .i64 y.1, .int .i64 y.2.1, .int .i64 y.2.2.1.c, .int .i64 y.2.2.1.st, .int .i64 y.2.2.1.k, .string y.2.2.1.key, .float .f64 y.2.2.1.b, .int .i64 y.2.2.1.id, .slice a8 y.2.2.2.length kc])).cell 3 _ rfl; have x4 := (Q3.out.box (L := [.int .i64 y.1, .int .i64 y.2.1, .int .i64 y.2.2.1.c, .int .i64 y.2.2.1.st, .int .i64 y.2.2.1.k, .string y.2.2.1.key, .float .f64 y.2.2.1.b, .int .i64 y.2.2.1.id, .slice a8 y.2.2.2.length kc])).cell 4 _ rfl; have x5 := (Q3.out.box (L := [.int .i64 y.1, .int .i64 y.2.1, .int .i64 y.2.2.1.c, .int .i64 y.2.2.1.st, .int .i64 y.2.2.1.k, .string y.2.2.1.key, .float .f64 y.2.2.1.b, .int .i64 y.2.2.1.id, .slice a8 y.2.2.2.length kc])).cell 5 _ rfl; have x6 := (Q3.out.box (L := [.int .i64 y.1, .int .i64 y.2.1, .int .i64 y.2.2.1.c, .int .i64 y.2.2.1.st, .int .i64 y.2.2.1.k, .string y.2.2.1.key, .float .f64 y.2.2.1.b, .int .i64 y.2.2.1.id, .slice a8 y.2.2.2.length kc])).cell 6 _ rfl; have x7 := (Q3.out.box (L := [.int .i64 y.1, .int .i64 y.2.1, .int .i64 y.2.2.1.c, .int .i64 y.2.2.1.st, .int .i64 y.2.2.1.k, .string y.2.2.1.key, .float .f64 y.2.2.1.b, .int .i64 y.2.2.1.id, .slice a8 y.2.2.2.length kc])).cell 7 _ rfl; have x8 := (Q3.out.box (L := [.int .i64 y.1, .int .i64 y.2.1, .int .i64 y.2.2.1.c, .int .i64 y.2.2.1.st, .int .i64 y.2.2.1.k, .string y.2.2.1.key, .float .f64 y.2.2.1.b, .int .i64 y.2.2.1.id, .slice a8 y.2.2.2.length kc])).cell 8 _ rfl)
        | (have := Q1; go_at_call 40; refine (pvbyte c w0 _ _ _ _ HBj.out.1.1 HBj.out.1.2 Q1.out).mono ?_; rintro e v1 ⟨rfl, h2⟩; have Q2 := hid h2; clear h2 x0 x1 x2 x3 x4 x5 x6 x7 x8; have x0 := (Q2.out.box (L := [.int .i64 y.1, .int .i64 y.2.1, .int .i64 y.2.2.1.c, .int .i64 y.2.2.1.st, .int .i64 y.2.2.1.k, .string y.2.2.1.key, .float .f64 y.2.2.1.b, .int .i64 y.2.2.1.id, .slice a8 y.2.2.2.length kc])).cell 0 _ rfl; have x1 := (Q2.out.box (L := [.int .i64 y.1, .int .i64 y.2.1, .int .i64 y.2.2.1.c, .int .i64 y.2.2.1.st, .int .i64 y.2.2.1.k, .string y.2.2.1.key, .float .f64 y.2.2.1.b, .int .i64 y.2.2.1.id, .slice a8 y.2.2.2.length kc])).cell 1 _ rfl; have x2 := (Q2.out.box (L := [.int .i64 y.1, .int .i64 y.2.1, .int .i64 y.2.2.1.c, .int .i64 y.2.2.1.st, .int .i64 y.2.2.1.k, .string y.2.2.1.key, .float .f64 y.2.2.1.b, .int .i64 y.2.2.1.id, .slice a8 y.2.2.2.length kc])).cell 2 _ rfl; have x3 := (Q2.out.box (L := [.int .i64 y.1, .int .i64 y.2.1, .int .i64 y.2.2.1.c, .int .i64 y.2.2.1.st, .int .i64 y.2.2.1.k, .string y.2.2.1.key, .float .f64 y.2.2.1.b, .int .i64 y.2.2.1.id, .slice a8 y.2.2.2.length kc])).cell 3 _ rfl; have x4 := (Q2.out.box (L := [.int .i64 y.1, .int .i64 y.2.1, .int .i64 y.2.2.1.c, .int .i64 y.2.2.1.st, .int .i64 y.2.2.1.k, .string y.2.2.1.key, .float .f64 y.2.2.1.b, .int .i64 y.2.2.1.id, .slice a8 y.2.2.2.length kc])).cell 4 _ rfl; have x5 := (Q2.out.box (L := [.int .i64 y.1, .int .i64 y.2.1, .int .i64 y.2.2.1.c, .int .i64 y.2.2.1.st, .int .i64 y.2.2.1.k, .string y.2.2.1.key, .float .f64 y.2.2.1.b, .int .i64 y.2.2.1.id, .slice a8 y.2.2.2.length kc])).cell 5 _ rfl; have x6 := (Q2.out.box (L := [.int .i64 y.1, .int .i64 y.2.1, .int .i64 y.2.2.1.c, .int .i64 y.2.2.1.st, .int .i64 y.2.2.1.k, .string y.2.2.1.key, .float .f64 y.2.2.1.b, .int .i64 y.2.2.1.id, .slice a8 y.2.2.2.length kc])).cell 6 _ rfl; have x7 := (Q2.out.box (L := [.int .i64 y.1, .int .i64 y.2.1, .int .i64 y.2.2.1.c, .int .i64 y.2.2.1.st, .int .i64 y.2.2.1.k, .string y.2.2.1.key, .float .f64 y.2.2.1.b, .int .i64 y.2.2.1.id, .slice a8 y.2.2.2.length kc])).cell 7 _ rfl; have x8 := (Q2.out.box (L := [.int .i64 y.1, .int .i64 y.2.1, .int .i64 y.2.2.1.c, .int .i64 y.2.2.1.st, .int .i64 y.2.2.1.k, .string y.2.2.1.key, .float .f64 y.2.2.1.b, .int .i64 y.2.2.1.id, .slice a8 y.2.2.2.length kc])).cell 8 _ rfl)
        | (refine wl_store_blk rfl 72 _ _ rfl wr.heap.size 0 rfl #[.int .i64 y.1, .int .i64 y.2.1, .int .i64 y.2.2.1.c, .int .i64 y.2.2.1.st, .int .i64 y.2.2.1.k, .string y.2.2.1.key, .float .f64 y.2.2.1.b, .int .i64 y.2.2.1.id, .slice a8 y.2.2.2.length kc] rfl [.int .i64 0, .int .i64 0, .int .i64 0, .int .i64 0, .int .i64 0, .string ⟨#[]⟩, .float .f64 0, .int .i64 0, .slice none 0 0] 72 (heap_alloc_last wr _) (by simp) (by kernel_rfl) (by simp [Value.oneCell']) ?_; intro wx Hz; have Q1 : Hid (Pv c w0 ((wr.heap.size, .cells #[.int .i64 y.1, .int .i64 y.2.1, .int .i64 y.2.2.1.c, .int .i64 y.2.2.1.st, .int .i64 y.2.2.1.k, .string y.2.2.1.key, .float .f64 y.2.2.1.b, .int .i64 y.2.2.1.id, .slice a8 y.2.2.2.length kc] 72 (0, 0)) :: H1) wx _) := hid (HV.out.put (Hz.out.2.below ((Below.refl wr.heap.size wr).alloc (Nat.le_refl _) _) (Nat.le_refl _)) Hz.out.1); clear Hz k0 k1 k2 k3 k4 k5 k6 k7 k8; have x0 := (Q1.out.box (L := [.int .i64 y.1, .int .i64 y.2.1, .int .i64 y.2.2.1.c, .int .i64 y.2.2.1.st, .int .i64 y.2.2.1.k, .string y.2.2.1.key, .float .f64 y.2.2.1.b, .int .i64 y.2.2.1.id, .slice a8 y.2.2.2.length kc])).cell 0 _ rfl; have x1 := (Q1.out.box (L := [.int .i64 y.1, .int .i64 y.2.1, .int .i64 y.2.2.1.c, .int .i64 y.2.2.1.st, .int .i64 y.2.2.1.k, .string y.2.2.1.key, .float .f64 y.2.2.1.b, .int .i64 y.2.2.1.id, .slice a8 y.2.2.2.length kc])).cell 1 _ rfl; have x2 := (Q1.out.box (L := [.int .i64 y.1, .int .i64 y.2.1, .int .i64 y.2.2.1.c, .int .i64 y.2.2.1.st, .int .i64 y.2.2.1.k, .string y.2.2.1.key, .float .f64 y.2.2.1.b, .int .i64 y.2.2.1.id, .slice a8 y.2.2.2.length kc])).cell 2 _ rfl; have x3 := (Q1.out.box (L := [.int .i64 y.1, .int .i64 y.2.1, .int .i64 y.2.2.1.c, .int .i64 y.2.2.1.st, .int .i64 y.2.2.1.k, .string y.2.2.1.key, .float .f64 y.2.2.1.b, .int .i64 y.2.2.1.id, .slice a8 y.2.2.2.length kc])).cell 3 _ rfl; have x4 := (Q1.out.box (L := [.int .i64 y.1, .int .i64 y.2.1, .int .i64 y.2.2.1.c, .int .i64 y.2.2.1.st, .int .i64 y.2.2.1.k, .string y.2.2.1.key, .float .f64 y.2.2.1.b, .int .i64 y.2.2.1.id, .slice a8 y.2.2.2.length kc])).cell 4 _ rfl; have x5 := (Q1.out.box (L := [.int .i64 y.1, .int .i64 y.2.1, .int .i64 y.2.2.1.c, .int .i64 y.2.2.1.st, .int .i64 y.2.2.1.k, .string y.2.2.1.key, .float .f64 y.2.2.1.b, .int .i64 y.2.2.1.id, .slice a8 y.2.2.2.length kc])).cell 5 _ rfl; have x6 := (Q1.out.box (L := [.int .i64 y.1, .int .i64 y.2.1, .int .i64 y.2.2.1.c, .int .i64 y.2.2.1.st, .int .i64 y.2.2.1.k, .string y.2.2.1.key, .float .f64 y.2.2.1.b, .int .i64 y.2.2.1.id, .slice a8 y.2.2.2.length kc])).cell 6 _ rfl; have x7 := (Q1.out.box (L := [.int .i64 y.1, .int .i64 y.2.1, .int .i64 y.2.2.1.c, .int .i64 y.2.2.1.st, .int .i64 y.2.2.1.k, .string y.2.2.1.key, .float .f64 y.2.2.1.b, .int .i64 y.2.2.1.id, .slice a8 y.2.2.2.length kc])).cell 7 _ rfl; have x8 := (Q1.out.box (L := [.int .i64 y.1, .int .i64 y.2.1, .int .i64 y.2.2.1.c, .int .i64 y.2.2.1.st, .int .i64 y.2.2.1.k, .string y.2.2.1.key, .float .f64 y.2.2.1.b, .int .i64 y.2.2.1.id, .slice a8 y.2.2.2.length kc])).cell 8 _ rfl))
      go_roundw
      case rel => exact ⟨j + 1, by have := HJ.out; omega, by go_num, by have := Q5.out.pop; rw [← HS.out]; simp only [ctL, List.append_assoc] at this ⊢; exact this⟩
      case measure => simp [intOf]; omega
end Go.Proofs.Ytfjcpghepkmbfaa

/- The program's writer of messages. -/
namespace Go.Proofs.Ytfjcpghepkmbfaa
open Go.RowKit

structure wMs (m : Ms) : Prop where
  k : 0 ≤ m.k ∧ m.k < 256
  ep : 0 ≤ m.ep ∧ m.ep < 65536
  v : 0 ≤ m.v ∧ m.v < 256
  sl : 0 ≤ m.sl ∧ m.sl < 65536
  rq : m.rq.b < 18446744073709551616
  rs : m.rs.2 < 18446744073709551616
  nx : m.nx.length < 256 ∧ ∀ x, x ∈ m.nx → 0 ≤ x ∧ x < 256
  sg : wSg m.sg
  cg : m.cg.length < 256 ∧ ∀ x, x ∈ m.cg → wCg x
  ln : m.ln.length < 256 ∧ ∀ x, x ∈ m.ln → wLn x
set_option maxRecDepth 100000 in
set_option maxHeartbeats 12800000 in
theorem iwmsg_any {F : Nat → Prop} (c : Nat) (w0 : World) (hc : w0.heap.size ≤ c) (H : List (Nat × Obj)) (m : Ms) (hz : wMs m) (a13 a14 a15 a16 : Option Addr) (c13 c14 c15 c16 : Nat) (hL : MsL F w0 m (.slice a13 m.nx.length c13) (.slice a14 m.sg.length c14) (.slice a15 m.cg.length c15) (.slice a16 m.ln.length c16)) (w : World) (l : List UInt8) (h : Pv c w0 H w l) :
    Calls Try.prog 17 #[.pointer (some ⟨c, 0, none⟩), .agg #[.int .i64 m.k, .int .i64 m.ep, .int .i64 m.v, .int .i64 m.sl, .int .i64 m.rq.c, .int .i64 m.rq.st, .int .i64 m.rq.k, .string m.rq.key, .float .f64 m.rq.b, .int .i64 m.rq.id, .int .i64 m.rs.1, .float .f64 m.rs.2, .string m.tx, .slice a13 m.nx.length c13, .slice a14 m.sg.length c14, .slice a15 m.cg.length c15, .slice a16 m.ln.length c16]] w fun e w' => e = .returned (.tuple #[]) ∧ Pv c w0 H w' (l ++ msL m) := by
  obtain ⟨H1, eH1⟩ : ∃ H1, H1 = (w.heap.size, Obj.cells #[.int .i64 m.k, .int .i64 m.ep, .int .i64 m.v, .int .i64 m.sl, .int .i64 m.rq.c, .int .i64 m.rq.st, .int .i64 m.rq.k, .string m.rq.key, .float .f64 m.rq.b, .int .i64 m.rq.id, .int .i64 m.rs.1, .float .f64 m.rs.2, .string m.tx, .slice a13 m.nx.length c13, .slice a14 m.sg.length c14, .slice a15 m.cg.length c15, .slice a16 m.ln.length c16] 34 (0, 0)) :: H := ⟨_, rfl⟩
  have P1 : Hid (Pv c w0 H1 (w.alloc (.cells #[.int .i64 m.k, .int .i64 m.ep, .int .i64 m.v, .int .i64 m.sl, .int .i64 m.rq.c, .int .i64 m.rq.st, .int .i64 m.rq.k, .string m.rq.key, .float .f64 m.rq.b, .int .i64 m.rq.id, .int .i64 m.rs.1, .float .f64 m.rs.2, .string m.tx, .slice a13 m.nx.length c13, .slice a14 m.sg.length c14, .slice a15 m.cg.length c15, .slice a16 m.ln.length c16] 34)) l) := hid (by rw [eH1]; exact h.push _)
  have HBx : Hid (∀ (u : World) (l : List UInt8), Pv c w0 H1 u l → BxAt u w.heap.size [.int .i64 m.k, .int .i64 m.ep, .int .i64 m.v, .int .i64 m.sl, .int .i64 m.rq.c, .int .i64 m.rq.st, .int .i64 m.rq.k, .string m.rq.key, .float .f64 m.rq.b, .int .i64 m.rq.id, .int .i64 m.rs.1, .float .f64 m.rs.2, .string m.tx, .slice a13 m.nx.length c13, .slice a14 m.sg.length c14, .slice a15 m.cg.length c15, .slice a16 m.ln.length c16] 34) := hid (fun u l hu => by rw [eH1] at hu; exact hu.box)
  have HPop : Hid (∀ (u : World) (l : List UInt8), Pv c w0 H1 u l → Pv c w0 H u l) := hid (fun u l hu => by rw [eH1] at hu; exact hu.pop)
  have HZ := hid hz
  have HL := hid hL
  have HC := hid hc
  have HN : Hid ((0 : Int) ≤ (m.nx.length : Int) ∧ (m.nx.length : Int) < 256 ∧ (0 : Int) ≤ (m.cg.length : Int) ∧ (m.cg.length : Int) < 256 ∧ (0 : Int) ≤ (m.ln.length : Int) ∧ (m.ln.length : Int) < 256) := hid (by have := hz.nx.1; have := hz.cg.1; have := hz.ln.1; omega)
  have hn13 : (m.nx.length : Int) < 256 := HN.out.2.1
  have hn15 : (m.cg.length : Int) < 256 := HN.out.2.2.2.1
  have hn16 : (m.ln.length : Int) < 256 := HN.out.2.2.2.2.2
  clear h hc hz hL eH1
  go_enter Try.func17, Try.ntmps17
  go_wp2_with (first
    | (have := P9; go_at_call 40; refine (pvbyte c w0 _ _ _ _ HN.out.1 HN.out.2.1 P9.out).mono ?_; rintro e w9 ⟨rfl, hx⟩; have P10 := hid hx; clear hx y0 y1 y2 y3 y4 y5 y6 y7 y8 y9 y10 y11 y12 y13 y14 y15 y16; have y0 := (HBx.out _ _ P10.out).cell 0 _ rfl; have y1 := (HBx.out _ _ P10.out).cell 1 _ rfl; have y2 := (HBx.out _ _ P10.out).cell 2 _ rfl; have y3 := (HBx.out _ _ P10.out).cell 3 _ rfl; have y4 := (HBx.out _ _ P10.out).cell 4 _ rfl; have y5 := (HBx.out _ _ P10.out).cell 5 _ rfl; have y6 := (HBx.out _ _ P10.out).cell 6 _ rfl; have y7 := (HBx.out _ _ P10.out).cell 7 _ rfl; have y8 := (HBx.out _ _ P10.out).cell 8 _ rfl; have y9 := (HBx.out _ _ P10.out).cell 9 _ rfl; have y10 := (HBx.out _ _ P10.out).cell 10 _ rfl; have y11 := (HBx.out _ _ P10.out).cell 11 _ rfl; have y12 := (HBx.out _ _ P10.out).cell 12 _ rfl; have y13 := (HBx.out _ _ P10.out).cell 13 _ rfl; have y14 := (HBx.out _ _ P10.out).cell 14 _ rfl; have y15 := (HBx.out _ _ P10.out).cell 15 _ rfl; have y16 := (HBx.out _ _ P10.out).cell 16 _ rfl)
    | (have := P8; go_at_call 43; refine (pvtext c w0 _ _ _ _ P8.out).mono ?_; rintro e w8 ⟨rfl, hx⟩; have P9 := hid hx; clear hx y0 y1 y2 y3 y4 y5 y6 y7 y8 y9 y10 y11 y12 y13 y14 y15 y16; have y0 := (HBx.out _ _ P9.out).cell 0 _ rfl; have y1 := (HBx.out _ _ P9.out).cell 1 _ rfl; have y2 := (HBx.out _ _ P9.out).cell 2 _ rfl; have y3 := (HBx.out _ _ P9.out).cell 3 _ rfl; have y4 := (HBx.out _ _ P9.out).cell 4 _ rfl; have y5 := (HBx.out _ _ P9.out).cell 5 _ rfl; have y6 := (HBx.out _ _ P9.out).cell 6 _ rfl; have y7 := (HBx.out _ _ P9.out).cell 7 _ rfl; have y8 := (HBx.out _ _ P9.out).cell 8 _ rfl; have y9 := (HBx.out _ _ P9.out).cell 9 _ rfl; have y10 := (HBx.out _ _ P9.out).cell 10 _ rfl; have y11 := (HBx.out _ _ P9.out).cell 11 _ rfl; have y12 := (HBx.out _ _ P9.out).cell 12 _ rfl; have y13 := (HBx.out _ _ P9.out).cell 13 _ rfl; have y14 := (HBx.out _ _ P9.out).cell 14 _ rfl; have y15 := (HBx.out _ _ P9.out).cell 15 _ rfl; have y16 := (HBx.out _ _ P9.out).cell 16 _ rfl)
    | (have := P7; go_at_call 43; refine (pvtext c w0 _ _ _ _ P7.out).mono ?_; rintro e w7 ⟨rfl, hx⟩; have P8 := hid hx; clear hx y0 y1 y2 y3 y4 y5 y6 y7 y8 y9 y10 y11 y12 y13 y14 y15 y16; have y0 := (HBx.out _ _ P8.out).cell 0 _ rfl; have y1 := (HBx.out _ _ P8.out).cell 1 _ rfl; have y2 := (HBx.out _ _ P8.out).cell 2 _ rfl; have y3 := (HBx.out _ _ P8.out).cell 3 _ rfl; have y4 := (HBx.out _ _ P8.out).cell 4 _ rfl; have y5 := (HBx.out _ _ P8.out).cell 5 _ rfl; have y6 := (HBx.out _ _ P8.out).cell 6 _ rfl; have y7 := (HBx.out _ _ P8.out).cell 7 _ rfl; have y8 := (HBx.out _ _ P8.out).cell 8 _ rfl; have y9 := (HBx.out _ _ P8.out).cell 9 _ rfl; have y10 := (HBx.out _ _ P8.out).cell 10 _ rfl; have y11 := (HBx.out _ _ P8.out).cell 11 _ rfl; have y12 := (HBx.out _ _ P8.out).cell 12 _ rfl; have y13 := (HBx.out _ _ P8.out).cell 13 _ rfl; have y14 := (HBx.out _ _ P8.out).cell 14 _ rfl; have y15 := (HBx.out _ _ P8.out).cell 15 _ rfl; have y16 := (HBx.out _ _ P8.out).cell 16 _ rfl)
    | (have := P6; go_at_call 42; refine (iwrequest_any c w0 _ m.rq HZ.out.rq _ _ P6.out).mono ?_; rintro e w6 ⟨rfl, hx⟩; have P7 := hid hx; clear hx y0 y1 y2 y3 y4 y5 y6 y7 y8 y9 y10 y11 y12 y13 y14 y15 y16; have y0 := (HBx.out _ _ P7.out).cell 0 _ rfl; have y1 := (HBx.out _ _ P7.out).cell 1 _ rfl; have y2 := (HBx.out _ _ P7.out).cell 2 _ rfl; have y3 := (HBx.out _ _ P7.out).cell 3 _ rfl; have y4 := (HBx.out _ _ P7.out).cell 4 _ rfl; have y5 := (HBx.out _ _ P7.out).cell 5 _ rfl; have y6 := (HBx.out _ _ P7.out).cell 6 _ rfl; have y7 := (HBx.out _ _ P7.out).cell 7 _ rfl; have y8 := (HBx.out _ _ P7.out).cell 8 _ rfl; have y9 := (HBx.out _ _ P7.out).cell 9 _ rfl; have y10 := (HBx.out _ _ P7.out).cell 10 _ rfl; have y11 := (HBx.out _ _ P7.out).cell 11 _ rfl; have y12 := (HBx.out _ _ P7.out).cell 12 _ rfl; have y13 := (HBx.out _ _ P7.out).cell 13 _ rfl; have y14 := (HBx.out _ _ P7.out).cell 14 _ rfl; have y15 := (HBx.out _ _ P7.out).cell 15 _ rfl; have y16 := (HBx.out _ _ P7.out).cell 16 _ rfl)
    | (have := P5; go_at_call 41; refine (pvword c w0 _ _ _ _ HZ.out.sl.1 HZ.out.sl.2 P5.out).mono ?_; rintro e w5 ⟨rfl, hx⟩; have P6 := hid hx; clear hx y0 y1 y2 y3 y4 y5 y6 y7 y8 y9 y10 y11 y12 y13 y14 y15 y16; have y0 := (HBx.out _ _ P6.out).cell 0 _ rfl; have y1 := (HBx.out _ _ P6.out).cell 1 _ rfl; have y2 := (HBx.out _ _ P6.out).cell 2 _ rfl; have y3 := (HBx.out _ _ P6.out).cell 3 _ rfl; have y4 := (HBx.out _ _ P6.out).cell 4 _ rfl; have y5 := (HBx.out _ _ P6.out).cell 5 _ rfl; have y6 := (HBx.out _ _ P6.out).cell 6 _ rfl; have y7 := (HBx.out _ _ P6.out).cell 7 _ rfl; have y8 := (HBx.out _ _ P6.out).cell 8 _ rfl; have y9 := (HBx.out _ _ P6.out).cell 9 _ rfl; have y10 := (HBx.out _ _ P6.out).cell 10 _ rfl; have y11 := (HBx.out _ _ P6.out).cell 11 _ rfl; have y12 := (HBx.out _ _ P6.out).cell 12 _ rfl; have y13 := (HBx.out _ _ P6.out).cell 13 _ rfl; have y14 := (HBx.out _ _ P6.out).cell 14 _ rfl; have y15 := (HBx.out _ _ P6.out).cell 15 _ rfl; have y16 := (HBx.out _ _ P6.out).cell 16 _ rfl)
    | (have := P4; go_at_call 40; refine (pvbyte c w0 _ _ _ _ HZ.out.v.1 HZ.out.v.2 P4.out).mono ?_; rintro e w4 ⟨rfl, hx⟩; have P5 := hid hx; clear hx y0 y1 y2 y3 y4 y5 y6 y7 y8 y9 y10 y11 y12 y13 y14 y15 y16; have y0 := (HBx.out _ _ P5.out).cell 0 _ rfl; have y1 := (HBx.out _ _ P5.out).cell 1 _ rfl; have y2 := (HBx.out _ _ P5.out).cell 2 _ rfl; have y3 := (HBx.out _ _ P5.out).cell 3 _ rfl; have y4 := (HBx.out _ _ P5.out).cell 4 _ rfl; have y5 := (HBx.out _ _ P5.out).cell 5 _ rfl; have y6 := (HBx.out _ _ P5.out).cell 6 _ rfl; have y7 := (HBx.out _ _ P5.out).cell 7 _ rfl; have y8 := (HBx.out _ _ P5.out).cell 8 _ rfl; have y9 := (HBx.out _ _ P5.out).cell 9 _ rfl; have y10 := (HBx.out _ _ P5.out).cell 10 _ rfl; have y11 := (HBx.out _ _ P5.out).cell 11 _ rfl; have y12 := (HBx.out _ _ P5.out).cell 12 _ rfl; have y13 := (HBx.out _ _ P5.out).cell 13 _ rfl; have y14 := (HBx.out _ _ P5.out).cell 14 _ rfl; have y15 := (HBx.out _ _ P5.out).cell 15 _ rfl; have y16 := (HBx.out _ _ P5.out).cell 16 _ rfl)
    | (have := P3; go_at_call 41; refine (pvword c w0 _ _ _ _ HZ.out.ep.1 HZ.out.ep.2 P3.out).mono ?_; rintro e w3 ⟨rfl, hx⟩; have P4 := hid hx; clear hx y0 y1 y2 y3 y4 y5 y6 y7 y8 y9 y10 y11 y12 y13 y14 y15 y16; have y0 := (HBx.out _ _ P4.out).cell 0 _ rfl; have y1 := (HBx.out _ _ P4.out).cell 1 _ rfl; have y2 := (HBx.out _ _ P4.out).cell 2 _ rfl; have y3 := (HBx.out _ _ P4.out).cell 3 _ rfl; have y4 := (HBx.out _ _ P4.out).cell 4 _ rfl; have y5 := (HBx.out _ _ P4.out).cell 5 _ rfl; have y6 := (HBx.out _ _ P4.out).cell 6 _ rfl; have y7 := (HBx.out _ _ P4.out).cell 7 _ rfl; have y8 := (HBx.out _ _ P4.out).cell 8 _ rfl; have y9 := (HBx.out _ _ P4.out).cell 9 _ rfl; have y10 := (HBx.out _ _ P4.out).cell 10 _ rfl; have y11 := (HBx.out _ _ P4.out).cell 11 _ rfl; have y12 := (HBx.out _ _ P4.out).cell 12 _ rfl; have y13 := (HBx.out _ _ P4.out).cell 13 _ rfl; have y14 := (HBx.out _ _ P4.out).cell 14 _ rfl; have y15 := (HBx.out _ _ P4.out).cell 15 _ rfl; have y16 := (HBx.out _ _ P4.out).cell 16 _ rfl)
    | (have := P2; go_at_call 40; refine (pvbyte c w0 _ _ _ _ HZ.out.k.1 HZ.out.k.2 P2.out).mono ?_; rintro e w2 ⟨rfl, hx⟩; have P3 := hid hx; clear hx y0 y1 y2 y3 y4 y5 y6 y7 y8 y9 y10 y11 y12 y13 y14 y15 y16; have y0 := (HBx.out _ _ P3.out).cell 0 _ rfl; have y1 := (HBx.out _ _ P3.out).cell 1 _ rfl; have y2 := (HBx.out _ _ P3.out).cell 2 _ rfl; have y3 := (HBx.out _ _ P3.out).cell 3 _ rfl; have y4 := (HBx.out _ _ P3.out).cell 4 _ rfl; have y5 := (HBx.out _ _ P3.out).cell 5 _ rfl; have y6 := (HBx.out _ _ P3.out).cell 6 _ rfl; have y7 := (HBx.out _ _ P3.out).cell 7 _ rfl; have y8 := (HBx.out _ _ P3.out).cell 8 _ rfl; have y9 := (HBx.out _ _ P3.out).cell 9 _ rfl; have y10 := (HBx.out _ _ P3.out).cell 10 _ rfl; have y11 := (HBx.out _ _ P3.out).cell 11 _ rfl; have y12 := (HBx.out _ _ P3.out).cell 12 _ rfl; have y13 := (HBx.out _ _ P3.out).cell 13 _ rfl; have y14 := (HBx.out _ _ P3.out).cell 14 _ rfl; have y15 := (HBx.out _ _ P3.out).cell 15 _ rfl; have y16 := (HBx.out _ _ P3.out).cell 16 _ rfl)
    | (go_at_call 39; refine (dresultText_any _ _ HZ.out.rs _).mono ?_; rintro e w1 ⟨rfl, hx⟩; have P2 := hid (P1.out.under hx); clear hx; have y0 := (HBx.out _ _ P2.out).cell 0 _ rfl; have y1 := (HBx.out _ _ P2.out).cell 1 _ rfl; have y2 := (HBx.out _ _ P2.out).cell 2 _ rfl; have y3 := (HBx.out _ _ P2.out).cell 3 _ rfl; have y4 := (HBx.out _ _ P2.out).cell 4 _ rfl; have y5 := (HBx.out _ _ P2.out).cell 5 _ rfl; have y6 := (HBx.out _ _ P2.out).cell 6 _ rfl; have y7 := (HBx.out _ _ P2.out).cell 7 _ rfl; have y8 := (HBx.out _ _ P2.out).cell 8 _ rfl; have y9 := (HBx.out _ _ P2.out).cell 9 _ rfl; have y10 := (HBx.out _ _ P2.out).cell 10 _ rfl; have y11 := (HBx.out _ _ P2.out).cell 11 _ rfl; have y12 := (HBx.out _ _ P2.out).cell 12 _ rfl; have y13 := (HBx.out _ _ P2.out).cell 13 _ rfl; have y14 := (HBx.out _ _ P2.out).cell 14 _ rfl; have y15 := (HBx.out _ _ P2.out).cell 15 _ rfl; have y16 := (HBx.out _ _ P2.out).cell 16 _ rfl))
  clear y0 y1 y2 y3 y4 y5 y6 y7 y8 y9 y10 y11 y12 y13 y14 y15 y16
  clear P1 P2 P3 P4 P5 P6 P7 P8 P9
  go_loopw [53] (fun i wr => ∃ j : Nat, j ≤ m.nx.length ∧ i = .int .i64 (j : Int) ∧ Pv c w0 H1 wr (l ++ be 1 m.k.toNat ++ be 2 m.ep.toNat ++ be 1 m.v.toNat ++ be 2 m.sl.toNat ++ rqX m.rq ++ txL (rsT m.rs.1 m.rs.2) ++ txL m.tx ++ be 1 m.nx.length ++ (m.nx.take j).flatMap oneL))
    (fun i _ => ((m.nx.length : Int) - intOf i).toNat)
  case atStart => exact ⟨0, Nat.zero_le _, rfl, by have := P10.out; simpa using this⟩
  case round =>
    obtain ⟨j, hj, rfl, hpv⟩ := hrel
    have HV := hid hpv
    clear hpv
    have hj0 : (0 : Int) ≤ (j : Int) := Int.natCast_nonneg _
    by_cases hjn : j = m.nx.length
    · have hj1 : ¬ ((j : Int) < (m.nx.length : Int)) := by omega
      have HE : Hid (j = m.nx.length) := hid hjn
      clear hj hjn
      have y0 := (HBx.out _ _ HV.out).cell 0 _ rfl; have y1 := (HBx.out _ _ HV.out).cell 1 _ rfl; have y2 := (HBx.out _ _ HV.out).cell 2 _ rfl; have y3 := (HBx.out _ _ HV.out).cell 3 _ rfl; have y4 := (HBx.out _ _ HV.out).cell 4 _ rfl; have y5 := (HBx.out _ _ HV.out).cell 5 _ rfl; have y6 := (HBx.out _ _ HV.out).cell 6 _ rfl; have y7 := (HBx.out _ _ HV.out).cell 7 _ rfl; have y8 := (HBx.out _ _ HV.out).cell 8 _ rfl; have y9 := (HBx.out _ _ HV.out).cell 9 _ rfl; have y10 := (HBx.out _ _ HV.out).cell 10 _ rfl; have y11 := (HBx.out _ _ HV.out).cell 11 _ rfl; have y12 := (HBx.out _ _ HV.out).cell 12 _ rfl; have y13 := (HBx.out _ _ HV.out).cell 13 _ rfl; have y14 := (HBx.out _ _ HV.out).cell 14 _ rfl; have y15 := (HBx.out _ _ HV.out).cell 15 _ rfl; have y16 := (HBx.out _ _ HV.out).cell 16 _ rfl
      obtain ⟨A1, eA1⟩ : ∃ A1, A1 = l ++ be 1 m.k.toNat ++ be 2 m.ep.toNat ++ be 1 m.v.toNat ++ be 2 m.sl.toNat ++ rqX m.rq ++ txL (rsT m.rs.1 m.rs.2) ++ txL m.tx ++ be 1 m.nx.length ++ m.nx.flatMap oneL := ⟨_, rfl⟩
      have S0 : Hid (Pv c w0 H1 wr A1) := hid (by have := HV.out; rw [HE.out, List.take_length] at this; rw [eA1]; exact this)
      have HA1 := hid eA1
      clear eA1
      go_wp2_with (first
        | (have := S1; go_at_call 40; refine (pvbyte c w0 _ _ _ _ HN.out.2.2.1 HN.out.2.2.2.1 S1.out).mono ?_; rintro e u2 ⟨rfl, hx⟩; have S2 := hid hx; clear hx y0 y1 y2 y3 y4 y5 y6 y7 y8 y9 y10 y11 y12 y13 y14 y15 y16; have y0 := (HBx.out _ _ S2.out).cell 0 _ rfl; have y1 := (HBx.out _ _ S2.out).cell 1 _ rfl; have y2 := (HBx.out _ _ S2.out).cell 2 _ rfl; have y3 := (HBx.out _ _ S2.out).cell 3 _ rfl; have y4 := (HBx.out _ _ S2.out).cell 4 _ rfl; have y5 := (HBx.out _ _ S2.out).cell 5 _ rfl; have y6 := (HBx.out _ _ S2.out).cell 6 _ rfl; have y7 := (HBx.out _ _ S2.out).cell 7 _ rfl; have y8 := (HBx.out _ _ S2.out).cell 8 _ rfl; have y9 := (HBx.out _ _ S2.out).cell 9 _ rfl; have y10 := (HBx.out _ _ S2.out).cell 10 _ rfl; have y11 := (HBx.out _ _ S2.out).cell 11 _ rfl; have y12 := (HBx.out _ _ S2.out).cell 12 _ rfl; have y13 := (HBx.out _ _ S2.out).cell 13 _ rfl; have y14 := (HBx.out _ _ S2.out).cell 14 _ rfl; have y15 := (HBx.out _ _ S2.out).cell 15 _ rfl; have y16 := (HBx.out _ _ S2.out).cell 16 _ rfl)
        | (go_at_call 44; refine (iwsigs_any c w0 HC.out _ a14 _ c14 m.sg rfl HZ.out.sg.1 HZ.out.sg.2 (slice_pairs HL.out.sg) _ _ S0.out).mono ?_; rintro e u1 ⟨rfl, hx⟩; have S1 := hid hx; clear hx y0 y1 y2 y3 y4 y5 y6 y7 y8 y9 y10 y11 y12 y13 y14 y15 y16; have y0 := (HBx.out _ _ S1.out).cell 0 _ rfl; have y1 := (HBx.out _ _ S1.out).cell 1 _ rfl; have y2 := (HBx.out _ _ S1.out).cell 2 _ rfl; have y3 := (HBx.out _ _ S1.out).cell 3 _ rfl; have y4 := (HBx.out _ _ S1.out).cell 4 _ rfl; have y5 := (HBx.out _ _ S1.out).cell 5 _ rfl; have y6 := (HBx.out _ _ S1.out).cell 6 _ rfl; have y7 := (HBx.out _ _ S1.out).cell 7 _ rfl; have y8 := (HBx.out _ _ S1.out).cell 8 _ rfl; have y9 := (HBx.out _ _ S1.out).cell 9 _ rfl; have y10 := (HBx.out _ _ S1.out).cell 10 _ rfl; have y11 := (HBx.out _ _ S1.out).cell 11 _ rfl; have y12 := (HBx.out _ _ S1.out).cell 12 _ rfl; have y13 := (HBx.out _ _ S1.out).cell 13 _ rfl; have y14 := (HBx.out _ _ S1.out).cell 14 _ rfl; have y15 := (HBx.out _ _ S1.out).cell 15 _ rfl; have y16 := (HBx.out _ _ S1.out).cell 16 _ rfl))
      clear y0 y1 y2 y3 y4 y5 y6 y7 y8 y9 y10 y11 y12 y13 y14 y15 y16 hj0 hj1
      clear HV HE S0 S1
      go_loopw [73] (fun i wr => ∃ j : Nat, j ≤ m.cg.length ∧ i = .int .i64 (j : Int) ∧ Pv c w0 H1 wr (A1 ++ sgsL m.sg ++ be 1 m.cg.length ++ (m.cg.take j).flatMap cgL))
        (fun i _ => ((m.cg.length : Int) - intOf i).toNat)
      case atStart => exact ⟨0, Nat.zero_le _, rfl, by have := S2.out; simpa using this⟩
      case round =>
        obtain ⟨j, hj, rfl, hpv⟩ := hrel
        have HV := hid hpv
        clear hpv
        have hj0 : (0 : Int) ≤ (j : Int) := Int.natCast_nonneg _
        by_cases hjn : j = m.cg.length
        · have hj1 : ¬ ((j : Int) < (m.cg.length : Int)) := by omega
          have HE : Hid (j = m.cg.length) := hid hjn
          clear hj hjn
          have y0 := (HBx.out _ _ HV.out).cell 0 _ rfl; have y1 := (HBx.out _ _ HV.out).cell 1 _ rfl; have y2 := (HBx.out _ _ HV.out).cell 2 _ rfl; have y3 := (HBx.out _ _ HV.out).cell 3 _ rfl; have y4 := (HBx.out _ _ HV.out).cell 4 _ rfl; have y5 := (HBx.out _ _ HV.out).cell 5 _ rfl; have y6 := (HBx.out _ _ HV.out).cell 6 _ rfl; have y7 := (HBx.out _ _ HV.out).cell 7 _ rfl; have y8 := (HBx.out _ _ HV.out).cell 8 _ rfl; have y9 := (HBx.out _ _ HV.out).cell 9 _ rfl; have y10 := (HBx.out _ _ HV.out).cell 10 _ rfl; have y11 := (HBx.out _ _ HV.out).cell 11 _ rfl; have y12 := (HBx.out _ _ HV.out).cell 12 _ rfl; have y13 := (HBx.out _ _ HV.out).cell 13 _ rfl; have y14 := (HBx.out _ _ HV.out).cell 14 _ rfl; have y15 := (HBx.out _ _ HV.out).cell 15 _ rfl; have y16 := (HBx.out _ _ HV.out).cell 16 _ rfl
          obtain ⟨A2, eA2⟩ : ∃ A2, A2 = A1 ++ sgsL m.sg ++ be 1 m.cg.length ++ m.cg.flatMap cgL := ⟨_, rfl⟩
          have R0 : Hid (Pv c w0 H1 wr A2) := hid (by have := HV.out; rw [HE.out, List.take_length] at this; rw [eA2]; exact this)
          have HA2 := hid eA2
          clear eA2
          go_wp2_with (go_at_call 40; refine (pvbyte c w0 _ _ _ _ HN.out.2.2.2.2.1 HN.out.2.2.2.2.2 R0.out).mono ?_; rintro e u1 ⟨rfl, hx⟩; have R1 := hid hx; clear hx y0 y1 y2 y3 y4 y5 y6 y7 y8 y9 y10 y11 y12 y13 y14 y15 y16; have y0 := (HBx.out _ _ R1.out).cell 0 _ rfl; have y1 := (HBx.out _ _ R1.out).cell 1 _ rfl; have y2 := (HBx.out _ _ R1.out).cell 2 _ rfl; have y3 := (HBx.out _ _ R1.out).cell 3 _ rfl; have y4 := (HBx.out _ _ R1.out).cell 4 _ rfl; have y5 := (HBx.out _ _ R1.out).cell 5 _ rfl; have y6 := (HBx.out _ _ R1.out).cell 6 _ rfl; have y7 := (HBx.out _ _ R1.out).cell 7 _ rfl; have y8 := (HBx.out _ _ R1.out).cell 8 _ rfl; have y9 := (HBx.out _ _ R1.out).cell 9 _ rfl; have y10 := (HBx.out _ _ R1.out).cell 10 _ rfl; have y11 := (HBx.out _ _ R1.out).cell 11 _ rfl; have y12 := (HBx.out _ _ R1.out).cell 12 _ rfl; have y13 := (HBx.out _ _ R1.out).cell 13 _ rfl; have y14 := (HBx.out _ _ R1.out).cell 14 _ rfl; have y15 := (HBx.out _ _ R1.out).cell 15 _ rfl; have y16 := (HBx.out _ _ R1.out).cell 16 _ rfl)
          clear y0 y1 y2 y3 y4 y5 y6 y7 y8 y9 y10 y11 y12 y13 y14 y15 y16 hj0 hj1
          clear HV HE R0
          go_loopw [89] (fun i wr => ∃ j : Nat, j ≤ m.ln.length ∧ i = .int .i64 (j : Int) ∧ Pv c w0 H1 wr (A2 ++ be 1 m.ln.length ++ (m.ln.take j).flatMap lnL))
            (fun i _ => ((m.ln.length : Int) - intOf i).toNat)
          case atStart => exact ⟨0, Nat.zero_le _, rfl, by have := R1.out; simpa using this⟩
          case round =>
            obtain ⟨j, hj, rfl, hpv⟩ := hrel
            have HV := hid hpv
            clear hpv
            have hj0 : (0 : Int) ≤ (j : Int) := Int.natCast_nonneg _
            by_cases hjn : j = m.ln.length
            · have hj1 : ¬ ((j : Int) < (m.ln.length : Int)) := by omega
              have HE : Hid (j = m.ln.length) := hid hjn
              clear hj hjn
              have y0 := (HBx.out _ _ HV.out).cell 0 _ rfl; have y1 := (HBx.out _ _ HV.out).cell 1 _ rfl; have y2 := (HBx.out _ _ HV.out).cell 2 _ rfl; have y3 := (HBx.out _ _ HV.out).cell 3 _ rfl; have y4 := (HBx.out _ _ HV.out).cell 4 _ rfl; have y5 := (HBx.out _ _ HV.out).cell 5 _ rfl; have y6 := (HBx.out _ _ HV.out).cell 6 _ rfl; have y7 := (HBx.out _ _ HV.out).cell 7 _ rfl; have y8 := (HBx.out _ _ HV.out).cell 8 _ rfl; have y9 := (HBx.out _ _ HV.out).cell 9 _ rfl; have y10 := (HBx.out _ _ HV.out).cell 10 _ rfl; have y11 := (HBx.out _ _ HV.out).cell 11 _ rfl; have y12 := (HBx.out _ _ HV.out).cell 12 _ rfl; have y13 := (HBx.out _ _ HV.out).cell 13 _ rfl; have y14 := (HBx.out _ _ HV.out).cell 14 _ rfl; have y15 := (HBx.out _ _ HV.out).cell 15 _ rfl; have y16 := (HBx.out _ _ HV.out).cell 16 _ rfl
              go_wp2
              go_end0
              refine ⟨rfl, ?_⟩
              have := HPop.out _ _ HV.out
              rw [HE.out, List.take_length] at this
              rw [HA2.out, HA1.out] at this
              simp only [msL, lsL, rsX, List.append_assoc] at this ⊢
              exact this
            · have hj1 : (j : Int) < (m.ln.length : Int) := by omega
              have hjl : j < m.ln.length := by omega
              obtain ⟨g, off, cp, a1, k1, a2, k2, hv, hIP, hg, hcl⟩ := ln_at HL.out.ln j hjl
              cases hv
              have hcr : ∀ (q : Nat) (u : Value), (lnC (m.ln.getD j ln0) (.slice a1 (m.ln.getD j ln0).1.2.length k1) (.slice a2 (m.ln.getD j ln0).2.length k2))[q]? = some u → wr.cell? ⟨g, off + j * 3 + q, none⟩ = some u := fun q u hq => (World.cell?_of_block (a := ⟨g, off + j * 3 + q, none⟩) (HV.out.bel.block g (Nat.lt_of_lt_of_le hg HC.out))).trans (hcl q u hq)
              have HJ := hid (And.intro hj hjn)
              have HS := hid (flat_snoc (f := lnL) (d := ln0) j hjl)
              have HBj := hid (HZ.out.ln.2 (m.ln.getD j ln0) (by rw [List.getD_eq_getElem?_getD, List.getElem?_eq_getElem hjl]; exact List.getElem_mem hjl))
              generalize m.ln.getD j ln0 = y at hcr hIP HS HBj
              have HP := hid hIP
              have d0 : wr.cell? ⟨g, off + j * 3, none⟩ = some (.int .i64 y.1.1) := hcr 0 _ rfl
              have d1 : wr.cell? ⟨g, off + j * 3 + 1, none⟩ = some (.slice a1 y.1.2.length k1) := hcr 1 _ rfl
              have d2 : wr.cell? ⟨g, off + j * 3 + 2, none⟩ = some (.slice a2 y.2.length k2) := hcr 2 _ rfl
              clear hj hjn hjl hIP hg hcl hcr
              go_wp2_with (first
                | (have := Q1; go_at_call 46; refine (iwlink_any c w0 HC.out _ y a1 _ k1 a2 _ k2 rfl HBj.out.1 HP.out.1 rfl HBj.out.2.1 HBj.out.2.2 HP.out.2 _ _ Q1.out).mono ?_; rintro e v1 ⟨rfl, h5⟩; have Q5 := hid h5; clear h5)
                | (refine wl_store_blk rfl 63 _ _ rfl wr.heap.size 0 rfl #[.int .i64 y.1.1, .slice a1 y.1.2.length k1, .slice a2 y.2.length k2] rfl [.int .i64 0, .slice none 0 0, .slice none 0 0] 63 (heap_alloc_last wr _) (by simp) (by kernel_rfl) (by simp [Value.oneCell']) ?_; intro wx Hz; have Q1 : Hid (Pv c w0 ((wr.heap.size, .cells #[.int .i64 y.1.1, .slice a1 y.1.2.length k1, .slice a2 y.2.length k2] 63 (0, 0)) :: H1) wx _) := hid (HV.out.put (Hz.out.2.below ((Below.refl wr.heap.size wr).alloc (Nat.le_refl _) _) (Nat.le_refl _)) Hz.out.1); clear Hz d0 d1 d2; have x0 := (Q1.out.box (L := [.int .i64 y.1.1, .slice a1 y.1.2.length k1, .slice a2 y.2.length k2])).cell 0 _ rfl; have x1 := (Q1.out.box (L := [.int .i64 y.1.1, .slice a1 y.1.2.length k1, .slice a2 y.2.length k2])).cell 1 _ rfl; have x2 := (Q1.out.box (L := [.int .i64 y.1.1, .slice a1 y.1.2.length k1, .slice a2 y.2.length k2])).cell 2 _ rfl))
              go_roundw
              case rel => exact ⟨j + 1, by have := HJ.out; omega, by go_num, by have := Q5.out.pop; rw [← HS.out]; simp only [List.append_assoc] at this ⊢; exact this⟩
              case measure => simp [intOf]; omega

        · have hj1 : (j : Int) < (m.cg.length : Int) := by omega
          have hjl : j < m.cg.length := by omega
          obtain ⟨g, off, cp, a8, n8, k8, hv, hRd, hg, hcl⟩ := cg_at HL.out.cg j hjl
          cases hv
          obtain ⟨_, _, hf⟩ := Reads.form hRd
          have hn8 : (m.cg.getD j cg0).2.2.1.length = n8 := by injection hf with _ h2 _; rw [h2, List.length_map]
          have hcr : ∀ (q : Nat) (u : Value), (cgC (m.cg.getD j cg0) (.slice a8 n8 k8))[q]? = some u → wr.cell? ⟨g, off + j * 5 + q, none⟩ = some u := fun q u hq => (World.cell?_of_block (a := ⟨g, off + j * 5 + q, none⟩) (HV.out.bel.block g (Nat.lt_of_lt_of_le hg HC.out))).trans (hcl q u hq)
          have HJ := hid (And.intro hj hjn)
          have HS := hid (flat_snoc (f := cgL) (d := cg0) j hjl)
          have HBj := hid (HZ.out.cg.2 (m.cg.getD j cg0) (by rw [List.getD_eq_getElem?_getD, List.getElem?_eq_getElem hjl]; exact List.getElem_mem hjl))
          generalize m.cg.getD j cg0 = y at hcr hRd HS HBj hn8
          have HP := hid (And.intro hRd hn8)
          have d0 : wr.cell? ⟨g, off + j * 5, none⟩ = some (.int .i64 y.1) := hcr 0 _ rfl
          have d1 : wr.cell? ⟨g, off + j * 5 + 1, none⟩ = some (.int .i64 y.2.1) := hcr 1 _ rfl
          have d2 : wr.cell? ⟨g, off + j * 5 + 2, none⟩ = some (.slice a8 n8 k8) := hcr 2 _ rfl
          have d3 : wr.cell? ⟨g, off + j * 5 + 3, none⟩ = some (.int .i64 y.2.2.2.1) := hcr 3 _ rfl
          have d4 : wr.cell? ⟨g, off + j * 5 + 4, none⟩ = some (.string y.2.2.2.2) := hcr 4 _ rfl
          clear hj hjn hjl hRd hg hcl hcr hf hn8
          go_wp2_with (first
            | (have := Q1; go_at_call 45; refine (iwchange_any c w0 HC.out _ y a8 n8 k8 HP.out.2 HBj.out HP.out.1 _ _ Q1.out).mono ?_; rintro e v1 ⟨rfl, h5⟩; have Q5 := hid h5; clear h5)
            | (refine wl_store_blk rfl 70 _ _ rfl wr.heap.size 0 rfl #[.int .i64 y.1, .int .i64 y.2.1, .slice a8 n8 k8, .int .i64 y.2.2.2.1, .string y.2.2.2.2] rfl [.int .i64 0, .int .i64 0, .slice none 0 0, .int .i64 0, .string ⟨#[]⟩] 70 (heap_alloc_last wr _) (by simp) (by kernel_rfl) (by simp [Value.oneCell']) ?_; intro wx Hz; have Q1 : Hid (Pv c w0 ((wr.heap.size, .cells #[.int .i64 y.1, .int .i64 y.2.1, .slice a8 n8 k8, .int .i64 y.2.2.2.1, .string y.2.2.2.2] 70 (0, 0)) :: H1) wx _) := hid (HV.out.put (Hz.out.2.below ((Below.refl wr.heap.size wr).alloc (Nat.le_refl _) _) (Nat.le_refl _)) Hz.out.1); clear Hz d0 d1 d2 d3 d4; have x0 := (Q1.out.box (L := [.int .i64 y.1, .int .i64 y.2.1, .slice a8 n8 k8, .int .i64 y.2.2.2.1, .string y.2.2.2.2])).cell 0 _ rfl; have x1 := (Q1.out.box (L := [.int .i64 y.1, .int .i64 y.2.1, .slice a8 n8 k8, .int .i64 y.2.2.2.1, .string y.2.2.2.2])).cell 1 _ rfl; have x2 := (Q1.out.box (L := [.int .i64 y.1, .int .i64 y.2.1, .slice a8 n8 k8, .int .i64 y.2.2.2.1, .string y.2.2.2.2])).cell 2 _ rfl; have x3 := (Q1.out.box (L := [.int .i64 y.1, .int .i64 y.2.1, .slice a8 n8 k8, .int .i64 y.2.2.2.1, .string y.2.2.2.2])).cell 3 _ rfl; have x4 := (Q1.out.box (L := [.int .i64 y.1, .int .i64 y.2.1, .slice a8 n8 k8, .int .i64 y.2.2.2.1, .string y.2.2.2.2])).cell 4 _ rfl))
          go_roundw
          case rel => exact ⟨j + 1, by have := HJ.out; omega, by go_num, by have := Q5.out.pop; rw [← HS.out]; simp only [List.append_assoc] at this ⊢; exact this⟩
          case measure => simp [intOf]; omega

    · have hj1 : (j : Int) < (m.nx.length : Int) := by omega
      have hjl : j < m.nx.length := by omega
      obtain ⟨g, off, rfl, hc1⟩ : ∃ g off, a13 = some ⟨g, off, none⟩ ∧ wr.cell? ⟨g, off + j, none⟩ = some (.int .i64 (m.nx.getD j 0)) := by
        rcases (slice_ints HL.out.nx).keep HV.out.bel HC.out with e | ⟨g, off, ha, hg, hc⟩
        · rw [e] at hjl; simp at hjl
        · exact ⟨g, off, ha, hc j _ (by simp [hjl])⟩
      have HJ := hid (And.intro hj hjn)
      have HS := hid (flat_snoc (f := oneL) (d := (0 : Int)) j hjl)
      have HBj := hid (HZ.out.nx.2 (m.nx.getD j 0) (by rw [List.getD_eq_getElem?_getD, List.getElem?_eq_getElem hjl]; exact List.getElem_mem hjl))
      generalize m.nx.getD j 0 = y at hc1 HS HBj
      clear hj hjn hjl
      go_wp2_with (go_at_call 40; refine (pvbyte c w0 _ _ _ _ HBj.out.1 HBj.out.2 HV.out).mono ?_; rintro e v1 ⟨rfl, h5⟩; have Q5 := hid h5; clear h5)
      go_roundw
      case rel => exact ⟨j + 1, by have := HJ.out; omega, by go_num, by have := Q5.out; rw [← HS.out]; simp only [oneL, List.append_assoc] at this ⊢; exact this⟩
      case measure => simp [intOf]; omega
end Go.Proofs.Ytfjcpghepkmbfaa
