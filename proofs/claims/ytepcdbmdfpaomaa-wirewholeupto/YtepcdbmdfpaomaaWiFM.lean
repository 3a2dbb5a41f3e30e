/- The program's tests of certificates and changes. -/
import Derived.Test.YtepcdbmdfpaomaaWiEM
import Derived.BigQuiet
namespace Go.Proofs.Ytepcdbmdfpaomaa
open Go.RowKit

/-- A variable of these cells. -/
def BxAt (w : World) (b : Nat) (L : List Value) (T : TypeId) : Prop := w.heap[b]? = some (.cells L.toArray T (0, 0))
theorem BxAt.keep {w w' : World} {b : Nat} {L : List Value} {T : TypeId} (h : BxAt w b L T) (hb : Below w.heap.size w w') : BxAt w' b L T := (hb.block b (lt_of_blk h)).trans h
theorem BxAt.cell {w : World} {b : Nat} {L : List Value} {T : TypeId} (h : BxAt w b L T) (j : Nat) (v : Value) (hv : L[j]? = some v) : w.cell? ⟨b, j, none⟩ = some v := cell_at h j v hv
def ctC (c : Ct) (v : Value) : List Value := [.int .i64 c.1, .int .i64 c.2.1, .int .i64 c.2.2.1.c, .int .i64 c.2.2.1.st, .int .i64 c.2.2.1.k, .string c.2.2.1.key, .float .f64 c.2.2.1.b, .int .i64 c.2.2.1.id, v]
def cgC (c : Cg) (v : Value) : List Value := [.int .i64 c.1, .int .i64 c.2.1, v, .int .i64 c.2.2.2.1, .string c.2.2.2.2]
set_option maxRecDepth 100000 in
set_option maxHeartbeats 3200000 in
theorem icert_any (ep : Int) (h0 : 0 ≤ ep) (h1 : ep ≤ 60) (c : Ct) (a : Option Addr) (n cap : Nat) (hn : c.2.2.2.length = n) (hm : n ≤ maxLen) (w : World) (hP : PairsIn w a c.2.2.2) :
    Calls Try.prog 96 #[.int .i64 ep, .agg #[.int .i64 c.1, .int .i64 c.2.1, .int .i64 c.2.2.1.c, .int .i64 c.2.2.1.st, .int .i64 c.2.2.1.k, .string c.2.2.1.key, .float .f64 c.2.2.1.b, .int .i64 c.2.2.1.id, .slice a n cap]] w fun e w' => e = .returned (.bool (ctB ep c)) ∧ Below w.heap.size w w' := by
  have H0 : Hid (BxAt (w.alloc (.cells #[.int .i64 c.1, .int .i64 c.2.1, .int .i64 c.2.2.1.c, .int .i64 c.2.2.1.st, .int .i64 c.2.2.1.k, .string c.2.2.1.key, .float .f64 c.2.2.1.b, .int .i64 c.2.2.1.id, .slice a n cap] 72)) w.heap.size [.int .i64 c.1, .int .i64 c.2.1, .int .i64 c.2.2.1.c, .int .i64 c.2.2.1.st, .int .i64 c.2.2.1.k, .string c.2.2.1.key, .float .f64 c.2.2.1.b, .int .i64 c.2.2.1.id, .slice a n cap] 72 ∧ Below w.heap.size w (w.alloc (.cells #[.int .i64 c.1, .int .i64 c.2.1, .int .i64 c.2.2.1.c, .int .i64 c.2.2.1.st, .int .i64 c.2.2.1.k, .string c.2.2.1.key, .float .f64 c.2.2.1.b, .int .i64 c.2.2.1.id, .slice a n cap] 72))) := hid ⟨heap_alloc_last w _, (Below.refl w.heap.size w).alloc (Nat.le_refl _) _⟩
  have y0 := H0.out.1.cell 0 _ rfl; have y1 := H0.out.1.cell 1 _ rfl; have y2 := H0.out.1.cell 2 _ rfl; have y3 := H0.out.1.cell 3 _ rfl; have y4 := H0.out.1.cell 4 _ rfl; have y5 := H0.out.1.cell 5 _ rfl; have y6 := H0.out.1.cell 6 _ rfl; have y7 := H0.out.1.cell 7 _ rfl; have y8 := H0.out.1.cell 8 _ rfl
  obtain ⟨B1, e1⟩ : ∃ B, B = inB c.1 0 15 := ⟨_, rfl⟩
  have HT1 : Hid (∀ u : World, Below w.heap.size w u → Calls Try.prog 57 #[.int .i64 c.1] u fun e w' => e = .returned (.bool B1) ∧ Below u.heap.size u w') := hid (fun u hu => by rw [e1]; exact (iview_any _ u).mono fun e w' ⟨h1, h2⟩ => ⟨h1, by rw [h2]; exact Below.refl _ _⟩)
  obtain ⟨B2, e2⟩ : ∃ B, B = ofB ep c.2.1 := ⟨_, rfl⟩
  have HT2 : Hid (∀ u : World, Below w.heap.size w u → Calls Try.prog 58 #[.int .i64 ep, .int .i64 c.2.1] u fun e w' => e = .returned (.bool B2) ∧ Below u.heap.size u w') := hid (fun u hu => by rw [e2]; exact (iof_any ep _ h0 h1 u).mono fun e w' ⟨h1, h2⟩ => ⟨h1, by rw [h2]; exact Below.refl _ _⟩)
  obtain ⟨B3, e3⟩ : ∃ B, B = askB c.2.2.1 := ⟨_, rfl⟩
  have HT3 : Hid (∀ u : World, Below w.heap.size w u → Calls Try.prog 31 #[.agg #[.int .i64 c.2.2.1.c, .int .i64 c.2.2.1.st, .int .i64 c.2.2.1.k, .string c.2.2.1.key, .float .f64 c.2.2.1.b, .int .i64 c.2.2.1.id]] u fun e w' => e = .returned (.bool B3) ∧ Below u.heap.size u w') := hid (fun u hu => by rw [e3]; exact ideed_any _ u)
  obtain ⟨B4, e4⟩ : ∃ B, B = sigsB c.2.2.2 := ⟨_, rfl⟩
  have HT4 : Hid (∀ u : World, Below w.heap.size w u → Calls Try.prog 38 #[.slice a n cap] u fun e w' => e = .returned (.bool B4) ∧ Below u.heap.size u w') := hid (fun u hu => by rw [e4]; exact ifitSigs_any a n cap _ hn hm u (hP.keep hu (Nat.le_refl _)))
  rw [show ctB ep c = ((B1 && B2) && (B3 && B4)) by rw [e1, e2, e3, e4]; rfl]
  clear e1 e2 e3 e4 hP hn hm h0 h1
  cases B1 with
  | false =>
    go_enter Try.func96, Try.ntmps96
    go_wp2_with (first
      | (have := H0; go_at_call 57; refine (HT1.out _ H0.out.2).mono ?_; rintro e w1 ⟨rfl, hb⟩; have H1 := hid (And.intro (H0.out.1.keep hb) (H0.out.2.trans (hb.mono H0.out.2.size))); clear hb y0 y1 y2 y3 y4 y5 y6 y7 y8; have y0 := H1.out.1.cell 0 _ rfl; have y1 := H1.out.1.cell 1 _ rfl; have y2 := H1.out.1.cell 2 _ rfl; have y3 := H1.out.1.cell 3 _ rfl; have y4 := H1.out.1.cell 4 _ rfl; have y5 := H1.out.1.cell 5 _ rfl; have y6 := H1.out.1.cell 6 _ rfl; have y7 := H1.out.1.cell 7 _ rfl; have y8 := H1.out.1.cell 8 _ rfl))
    go_ret
    exact ⟨by simp, H1.out.2⟩
  | true =>
    cases B2 with
    | false =>
      go_enter Try.func96, Try.ntmps96
      go_wp2_with (first
        | (have := H1; go_at_call 58; refine (HT2.out _ H1.out.2).mono ?_; rintro e w2 ⟨rfl, hb⟩; have H2 := hid (And.intro (H1.out.1.keep hb) (H1.out.2.trans (hb.mono H1.out.2.size))); clear hb y0 y1 y2 y3 y4 y5 y6 y7 y8; have y0 := H2.out.1.cell 0 _ rfl; have y1 := H2.out.1.cell 1 _ rfl; have y2 := H2.out.1.cell 2 _ rfl; have y3 := H2.out.1.cell 3 _ rfl; have y4 := H2.out.1.cell 4 _ rfl; have y5 := H2.out.1.cell 5 _ rfl; have y6 := H2.out.1.cell 6 _ rfl; have y7 := H2.out.1.cell 7 _ rfl; have y8 := H2.out.1.cell 8 _ rfl)
        | (have := H0; go_at_call 57; refine (HT1.out _ H0.out.2).mono ?_; rintro e w1 ⟨rfl, hb⟩; have H1 := hid (And.intro (H0.out.1.keep hb) (H0.out.2.trans (hb.mono H0.out.2.size))); clear hb y0 y1 y2 y3 y4 y5 y6 y7 y8; have y0 := H1.out.1.cell 0 _ rfl; have y1 := H1.out.1.cell 1 _ rfl; have y2 := H1.out.1.cell 2 _ rfl; have y3 := H1.out.1.cell 3 _ rfl; have y4 := H1.out.1.cell 4 _ rfl; have y5 := H1.out.1.cell 5 _ rfl; have y6 := H1.out.1.cell 6 _ rfl; have y7 := H1.out.1.cell 7 _ rfl; have y8 := H1.out.1.cell 8 _ rfl))
      go_ret
      exact ⟨by simp, H2.out.2⟩
    | true =>
      cases B3 with
      | false =>
        go_enter Try.func96, Try.ntmps96
        go_wp2_with (first
          | (have := H2; go_at_call 31; refine (HT3.out _ H2.out.2).mono ?_; rintro e w3 ⟨rfl, hb⟩; have H3 := hid (And.intro (H2.out.1.keep hb) (H2.out.2.trans (hb.mono H2.out.2.size))); clear hb y0 y1 y2 y3 y4 y5 y6 y7 y8; have y0 := H3.out.1.cell 0 _ rfl; have y1 := H3.out.1.cell 1 _ rfl; have y2 := H3.out.1.cell 2 _ rfl; have y3 := H3.out.1.cell 3 _ rfl; have y4 := H3.out.1.cell 4 _ rfl; have y5 := H3.out.1.cell 5 _ rfl; have y6 := H3.out.1.cell 6 _ rfl; have y7 := H3.out.1.cell 7 _ rfl; have y8 := H3.out.1.cell 8 _ rfl)
          | (have := H1; go_at_call 58; refine (HT2.out _ H1.out.2).mono ?_; rintro e w2 ⟨rfl, hb⟩; have H2 := hid (And.intro (H1.out.1.keep hb) (H1.out.2.trans (hb.mono H1.out.2.size))); clear hb y0 y1 y2 y3 y4 y5 y6 y7 y8; have y0 := H2.out.1.cell 0 _ rfl; have y1 := H2.out.1.cell 1 _ rfl; have y2 := H2.out.1.cell 2 _ rfl; have y3 := H2.out.1.cell 3 _ rfl; have y4 := H2.out.1.cell 4 _ rfl; have y5 := H2.out.1.cell 5 _ rfl; have y6 := H2.out.1.cell 6 _ rfl; have y7 := H2.out.1.cell 7 _ rfl; have y8 := H2.out.1.cell 8 _ rfl)
          | (have := H0; go_at_call 57; refine (HT1.out _ H0.out.2).mono ?_; rintro e w1 ⟨rfl, hb⟩; have H1 := hid (And.intro (H0.out.1.keep hb) (H0.out.2.trans (hb.mono H0.out.2.size))); clear hb y0 y1 y2 y3 y4 y5 y6 y7 y8; have y0 := H1.out.1.cell 0 _ rfl; have y1 := H1.out.1.cell 1 _ rfl; have y2 := H1.out.1.cell 2 _ rfl; have y3 := H1.out.1.cell 3 _ rfl; have y4 := H1.out.1.cell 4 _ rfl; have y5 := H1.out.1.cell 5 _ rfl; have y6 := H1.out.1.cell 6 _ rfl; have y7 := H1.out.1.cell 7 _ rfl; have y8 := H1.out.1.cell 8 _ rfl))
        go_ret
        exact ⟨by simp, H3.out.2⟩
      | true =>
        cases B4 with
        | false =>
          go_enter Try.func96, Try.ntmps96
          go_wp2_with (first
            | (have := H3; go_at_call 38; refine (HT4.out _ H3.out.2).mono ?_; rintro e w4 ⟨rfl, hb⟩; have H4 := hid (And.intro (H3.out.1.keep hb) (H3.out.2.trans (hb.mono H3.out.2.size))); clear hb y0 y1 y2 y3 y4 y5 y6 y7 y8; have y0 := H4.out.1.cell 0 _ rfl; have y1 := H4.out.1.cell 1 _ rfl; have y2 := H4.out.1.cell 2 _ rfl; have y3 := H4.out.1.cell 3 _ rfl; have y4 := H4.out.1.cell 4 _ rfl; have y5 := H4.out.1.cell 5 _ rfl; have y6 := H4.out.1.cell 6 _ rfl; have y7 := H4.out.1.cell 7 _ rfl; have y8 := H4.out.1.cell 8 _ rfl)
            | (have := H2; go_at_call 31; refine (HT3.out _ H2.out.2).mono ?_; rintro e w3 ⟨rfl, hb⟩; have H3 := hid (And.intro (H2.out.1.keep hb) (H2.out.2.trans (hb.mono H2.out.2.size))); clear hb y0 y1 y2 y3 y4 y5 y6 y7 y8; have y0 := H3.out.1.cell 0 _ rfl; have y1 := H3.out.1.cell 1 _ rfl; have y2 := H3.out.1.cell 2 _ rfl; have y3 := H3.out.1.cell 3 _ rfl; have y4 := H3.out.1.cell 4 _ rfl; have y5 := H3.out.1.cell 5 _ rfl; have y6 := H3.out.1.cell 6 _ rfl; have y7 := H3.out.1.cell 7 _ rfl; have y8 := H3.out.1.cell 8 _ rfl)
            | (have := H1; go_at_call 58; refine (HT2.out _ H1.out.2).mono ?_; rintro e w2 ⟨rfl, hb⟩; have H2 := hid (And.intro (H1.out.1.keep hb) (H1.out.2.trans (hb.mono H1.out.2.size))); clear hb y0 y1 y2 y3 y4 y5 y6 y7 y8; have y0 := H2.out.1.cell 0 _ rfl; have y1 := H2.out.1.cell 1 _ rfl; have y2 := H2.out.1.cell 2 _ rfl; have y3 := H2.out.1.cell 3 _ rfl; have y4 := H2.out.1.cell 4 _ rfl; have y5 := H2.out.1.cell 5 _ rfl; have y6 := H2.out.1.cell 6 _ rfl; have y7 := H2.out.1.cell 7 _ rfl; have y8 := H2.out.1.cell 8 _ rfl)
            | (have := H0; go_at_call 57; refine (HT1.out _ H0.out.2).mono ?_; rintro e w1 ⟨rfl, hb⟩; have H1 := hid (And.intro (H0.out.1.keep hb) (H0.out.2.trans (hb.mono H0.out.2.size))); clear hb y0 y1 y2 y3 y4 y5 y6 y7 y8; have y0 := H1.out.1.cell 0 _ rfl; have y1 := H1.out.1.cell 1 _ rfl; have y2 := H1.out.1.cell 2 _ rfl; have y3 := H1.out.1.cell 3 _ rfl; have y4 := H1.out.1.cell 4 _ rfl; have y5 := H1.out.1.cell 5 _ rfl; have y6 := H1.out.1.cell 6 _ rfl; have y7 := H1.out.1.cell 7 _ rfl; have y8 := H1.out.1.cell 8 _ rfl))
          go_ret
          exact ⟨by simp, H4.out.2⟩
        | true =>
          go_enter Try.func96, Try.ntmps96
          go_wp2_with (first
            | (have := H3; go_at_call 38; refine (HT4.out _ H3.out.2).mono ?_; rintro e w4 ⟨rfl, hb⟩; have H4 := hid (And.intro (H3.out.1.keep hb) (H3.out.2.trans (hb.mono H3.out.2.size))); clear hb y0 y1 y2 y3 y4 y5 y6 y7 y8; have y0 := H4.out.1.cell 0 _ rfl; have y1 := H4.out.1.cell 1 _ rfl; have y2 := H4.out.1.cell 2 _ rfl; have y3 := H4.out.1.cell 3 _ rfl; have y4 := H4.out.1.cell 4 _ rfl; have y5 := H4.out.1.cell 5 _ rfl; have y6 := H4.out.1.cell 6 _ rfl; have y7 := H4.out.1.cell 7 _ rfl; have y8 := H4.out.1.cell 8 _ rfl)
            | (have := H2; go_at_call 31; refine (HT3.out _ H2.out.2).mono ?_; rintro e w3 ⟨rfl, hb⟩; have H3 := hid (And.intro (H2.out.1.keep hb) (H2.out.2.trans (hb.mono H2.out.2.size))); clear hb y0 y1 y2 y3 y4 y5 y6 y7 y8; have y0 := H3.out.1.cell 0 _ rfl; have y1 := H3.out.1.cell 1 _ rfl; have y2 := H3.out.1.cell 2 _ rfl; have y3 := H3.out.1.cell 3 _ rfl; have y4 := H3.out.1.cell 4 _ rfl; have y5 := H3.out.1.cell 5 _ rfl; have y6 := H3.out.1.cell 6 _ rfl; have y7 := H3.out.1.cell 7 _ rfl; have y8 := H3.out.1.cell 8 _ rfl)
            | (have := H1; go_at_call 58; refine (HT2.out _ H1.out.2).mono ?_; rintro e w2 ⟨rfl, hb⟩; have H2 := hid (And.intro (H1.out.1.keep hb) (H1.out.2.trans (hb.mono H1.out.2.size))); clear hb y0 y1 y2 y3 y4 y5 y6 y7 y8; have y0 := H2.out.1.cell 0 _ rfl; have y1 := H2.out.1.cell 1 _ rfl; have y2 := H2.out.1.cell 2 _ rfl; have y3 := H2.out.1.cell 3 _ rfl; have y4 := H2.out.1.cell 4 _ rfl; have y5 := H2.out.1.cell 5 _ rfl; have y6 := H2.out.1.cell 6 _ rfl; have y7 := H2.out.1.cell 7 _ rfl; have y8 := H2.out.1.cell 8 _ rfl)
            | (have := H0; go_at_call 57; refine (HT1.out _ H0.out.2).mono ?_; rintro e w1 ⟨rfl, hb⟩; have H1 := hid (And.intro (H0.out.1.keep hb) (H0.out.2.trans (hb.mono H0.out.2.size))); clear hb y0 y1 y2 y3 y4 y5 y6 y7 y8; have y0 := H1.out.1.cell 0 _ rfl; have y1 := H1.out.1.cell 1 _ rfl; have y2 := H1.out.1.cell 2 _ rfl; have y3 := H1.out.1.cell 3 _ rfl; have y4 := H1.out.1.cell 4 _ rfl; have y5 := H1.out.1.cell 5 _ rfl; have y6 := H1.out.1.cell 6 _ rfl; have y7 := H1.out.1.cell 7 _ rfl; have y8 := H1.out.1.cell 8 _ rfl))
          go_ret
          exact ⟨by simp, H4.out.2⟩
theorem ct_at {F : Nat → Prop} {w : World} {v : Value} {l : List Ct} (h : Reads F w v (dCts l)) (j : Nat) (hj : j < l.length) :
    ∃ g off cap a k, v = .slice (some ⟨g, off, none⟩) l.length cap ∧ PairsIn w a (l.getD j ct0).2.2.2 ∧ g < w.heap.size ∧ ∀ (q : Nat) (u : Value), (ctC (l.getD j ct0) (.slice a (l.getD j ct0).2.2.2.length k))[q]? = some u → w.cell? ⟨g, off + j * 9 + q, none⟩ = some u := by
  have hx : (l.map dCt)[j]? = some (dCt (l.getD j ct0)) := by rw [List.getElem?_map]; simp [hj]
  obtain ⟨g, off, cap, hv, _, hg, _, hc⟩ := h.at j _ hx
  obtain ⟨u8, k8, r8⟩ := hc 8 _ rfl
  obtain ⟨a, k, rfl, hp, _⟩ := reads_pairs r8
  rw [List.length_map] at hv
  refine ⟨g, off, cap, a, k, hv, hp, hg, fun q u hq => ?_⟩
  match q, hq with
  | 0, hq => obtain ⟨x, k0, r0⟩ := hc 0 _ rfl; rw [r0.int] at k0; cases hq; exact k0
  | 1, hq => obtain ⟨x, k0, r0⟩ := hc 1 _ rfl; rw [r0.int] at k0; cases hq; exact k0
  | 2, hq => obtain ⟨x, k0, r0⟩ := hc 2 _ rfl; rw [r0.int] at k0; cases hq; exact k0
  | 3, hq => obtain ⟨x, k0, r0⟩ := hc 3 _ rfl; rw [r0.int] at k0; cases hq; exact k0
  | 4, hq => obtain ⟨x, k0, r0⟩ := hc 4 _ rfl; rw [r0.int] at k0; cases hq; exact k0
  | 5, hq => obtain ⟨x, k0, r0⟩ := hc 5 _ rfl; rw [r0.str] at k0; cases hq; exact k0
  | 6, hq => obtain ⟨x, k0, r0⟩ := hc 6 _ rfl; rw [r0.flt] at k0; cases hq; exact k0
  | 7, hq => obtain ⟨x, k0, r0⟩ := hc 7 _ rfl; rw [r0.int] at k0; cases hq; exact k0
  | 8, hq => cases hq; exact k8
  | q + 9, hq => cases hq
end Go.Proofs.Ytepcdbmdfpaomaa
