/- The program's tests of changes. -/
import Derived.Test.YtepcdbmdfpaomaaWiGM
namespace Go.Proofs.Ytepcdbmdfpaomaa
open Go.RowKit
set_option maxRecDepth 100000 in
set_option maxHeartbeats 3200000 in
theorem ichange_any {F : Nat → Prop} (ep : Int) (h0 : 0 ≤ ep) (h1 : ep ≤ 60) (c : Cg) (a : Option Addr) (n cap : Nat) (hl : c.2.2.1.length ≤ maxLen) (hb : ∀ x, x ∈ c.2.2.1 → ctR x) (w : World) (hR : Reads F w (.slice a n cap) (dCts c.2.2.1)) :
    Calls Try.prog 60 #[.int .i64 ep, .agg #[.int .i64 c.1, .int .i64 c.2.1, .slice a n cap, .int .i64 c.2.2.2.1, .string c.2.2.2.2]] w fun e w' => e = .returned (.bool (cgB ep c)) ∧ Below w.heap.size w w' := by
  have H0 : Hid (BxAt (w.alloc (.cells #[.int .i64 c.1, .int .i64 c.2.1, .slice a n cap, .int .i64 c.2.2.2.1, .string c.2.2.2.2] 70)) w.heap.size [.int .i64 c.1, .int .i64 c.2.1, .slice a n cap, .int .i64 c.2.2.2.1, .string c.2.2.2.2] 70 ∧ Below w.heap.size w (w.alloc (.cells #[.int .i64 c.1, .int .i64 c.2.1, .slice a n cap, .int .i64 c.2.2.2.1, .string c.2.2.2.2] 70))) := hid ⟨heap_alloc_last w _, (Below.refl w.heap.size w).alloc (Nat.le_refl _) _⟩
  have y0 := H0.out.1.cell 0 _ rfl; have y1 := H0.out.1.cell 1 _ rfl; have y2 := H0.out.1.cell 2 _ rfl; have y3 := H0.out.1.cell 3 _ rfl; have y4 := H0.out.1.cell 4 _ rfl
  obtain ⟨B1, e1⟩ : ∃ B, B = inB c.1 0 15 := ⟨_, rfl⟩
  have HT1 : Hid (∀ u : World, Below w.heap.size w u → Calls Try.prog 26 #[.int .i64 c.1, .int .i64 0, .int .i64 15] u fun e w' => e = .returned (.bool B1) ∧ Below u.heap.size u w') := hid (fun u hu => by rw [e1]; exact (iwithin_any _ _ _ u).mono fun e w' ⟨h1, h2⟩ => ⟨h1, by rw [h2]; exact Below.refl _ _⟩)
  obtain ⟨B2, e2⟩ : ∃ B, B = inB c.2.1 1 15 := ⟨_, rfl⟩
  have HT2 : Hid (∀ u : World, Below w.heap.size w u → Calls Try.prog 26 #[.int .i64 c.2.1, .int .i64 1, .int .i64 15] u fun e w' => e = .returned (.bool B2) ∧ Below u.heap.size u w') := hid (fun u hu => by rw [e2]; exact (iwithin_any _ _ _ u).mono fun e w' ⟨h1, h2⟩ => ⟨h1, by rw [h2]; exact Below.refl _ _⟩)
  obtain ⟨B3, e3⟩ : ∃ B, B = ctsB ep c.2.2.1 := ⟨_, rfl⟩
  have HT3 : Hid (∀ u : World, Below w.heap.size w u → Calls Try.prog 84 #[.int .i64 ep, .slice a n cap] u fun e w' => e = .returned (.bool B3) ∧ Below u.heap.size u w') := hid (fun u hu => by rw [e3]; exact icerts_any ep h0 h1 _ _ hl hb u (hR.under hu (Nat.le_refl _)))
  obtain ⟨B4, e4⟩ : ∃ B, B = sigB c.2.2.2 := ⟨_, rfl⟩
  have HT4 : Hid (∀ u : World, Below w.heap.size w u → Calls Try.prog 61 #[.agg #[.int .i64 c.2.2.2.1, .string c.2.2.2.2]] u fun e w' => e = .returned (.bool B4) ∧ Below u.heap.size u w') := hid (fun u hu => by rw [e4]; exact isig_any _ u)
  rw [show cgB ep c = ((B1 && B2) && (B3 && B4)) by rw [e1, e2, e3, e4]; rfl]
  clear e1 e2 e3 e4 hR hl hb h0 h1
  cases B1 with
  | false =>
    go_enter Try.func60, Try.ntmps60
    go_wp2_with (first
      | (have := H0; go_at_call 26; refine (HT1.out _ H0.out.2).mono ?_; rintro e w1 ⟨rfl, hb⟩; have H1 := hid (And.intro (H0.out.1.keep hb) (H0.out.2.trans (hb.mono H0.out.2.size))); clear hb y0 y1 y2 y3 y4; have y0 := H1.out.1.cell 0 _ rfl; have y1 := H1.out.1.cell 1 _ rfl; have y2 := H1.out.1.cell 2 _ rfl; have y3 := H1.out.1.cell 3 _ rfl; have y4 := H1.out.1.cell 4 _ rfl))
    go_ret
    exact ⟨by simp, H1.out.2⟩
  | true =>
    cases B2 with
    | false =>
      go_enter Try.func60, Try.ntmps60
      go_wp2_with (first
        | (have := H1; go_at_call 26; refine (HT2.out _ H1.out.2).mono ?_; rintro e w2 ⟨rfl, hb⟩; have H2 := hid (And.intro (H1.out.1.keep hb) (H1.out.2.trans (hb.mono H1.out.2.size))); clear hb y0 y1 y2 y3 y4; have y0 := H2.out.1.cell 0 _ rfl; have y1 := H2.out.1.cell 1 _ rfl; have y2 := H2.out.1.cell 2 _ rfl; have y3 := H2.out.1.cell 3 _ rfl; have y4 := H2.out.1.cell 4 _ rfl)
        | (have := H0; go_at_call 26; refine (HT1.out _ H0.out.2).mono ?_; rintro e w1 ⟨rfl, hb⟩; have H1 := hid (And.intro (H0.out.1.keep hb) (H0.out.2.trans (hb.mono H0.out.2.size))); clear hb y0 y1 y2 y3 y4; have y0 := H1.out.1.cell 0 _ rfl; have y1 := H1.out.1.cell 1 _ rfl; have y2 := H1.out.1.cell 2 _ rfl; have y3 := H1.out.1.cell 3 _ rfl; have y4 := H1.out.1.cell 4 _ rfl))
      go_ret
      exact ⟨by simp, H2.out.2⟩
    | true =>
      cases B3 with
      | false =>
        go_enter Try.func60, Try.ntmps60
        go_wp2_with (first
          | (have := H2; go_at_call 84; refine (HT3.out _ H2.out.2).mono ?_; rintro e w3 ⟨rfl, hb⟩; have H3 := hid (And.intro (H2.out.1.keep hb) (H2.out.2.trans (hb.mono H2.out.2.size))); clear hb y0 y1 y2 y3 y4; have y0 := H3.out.1.cell 0 _ rfl; have y1 := H3.out.1.cell 1 _ rfl; have y2 := H3.out.1.cell 2 _ rfl; have y3 := H3.out.1.cell 3 _ rfl; have y4 := H3.out.1.cell 4 _ rfl)
          | (have := H1; go_at_call 26; refine (HT2.out _ H1.out.2).mono ?_; rintro e w2 ⟨rfl, hb⟩; have H2 := hid (And.intro (H1.out.1.keep hb) (H1.out.2.trans (hb.mono H1.out.2.size))); clear hb y0 y1 y2 y3 y4; have y0 := H2.out.1.cell 0 _ rfl; have y1 := H2.out.1.cell 1 _ rfl; have y2 := H2.out.1.cell 2 _ rfl; have y3 := H2.out.1.cell 3 _ rfl; have y4 := H2.out.1.cell 4 _ rfl)
          | (have := H0; go_at_call 26; refine (HT1.out _ H0.out.2).mono ?_; rintro e w1 ⟨rfl, hb⟩; have H1 := hid (And.intro (H0.out.1.keep hb) (H0.out.2.trans (hb.mono H0.out.2.size))); clear hb y0 y1 y2 y3 y4; have y0 := H1.out.1.cell 0 _ rfl; have y1 := H1.out.1.cell 1 _ rfl; have y2 := H1.out.1.cell 2 _ rfl; have y3 := H1.out.1.cell 3 _ rfl; have y4 := H1.out.1.cell 4 _ rfl))
        go_ret
        exact ⟨by simp, H3.out.2⟩
      | true =>
        cases B4 with
        | false =>
          go_enter Try.func60, Try.ntmps60
          go_wp2_with (first
            | (have := H3; go_at_call 61; refine (HT4.out _ H3.out.2).mono ?_; rintro e w4 ⟨rfl, hb⟩; have H4 := hid (And.intro (H3.out.1.keep hb) (H3.out.2.trans (hb.mono H3.out.2.size))); clear hb y0 y1 y2 y3 y4; have y0 := H4.out.1.cell 0 _ rfl; have y1 := H4.out.1.cell 1 _ rfl; have y2 := H4.out.1.cell 2 _ rfl; have y3 := H4.out.1.cell 3 _ rfl; have y4 := H4.out.1.cell 4 _ rfl)
            | (have := H2; go_at_call 84; refine (HT3.out _ H2.out.2).mono ?_; rintro e w3 ⟨rfl, hb⟩; have H3 := hid (And.intro (H2.out.1.keep hb) (H2.out.2.trans (hb.mono H2.out.2.size))); clear hb y0 y1 y2 y3 y4; have y0 := H3.out.1.cell 0 _ rfl; have y1 := H3.out.1.cell 1 _ rfl; have y2 := H3.out.1.cell 2 _ rfl; have y3 := H3.out.1.cell 3 _ rfl; have y4 := H3.out.1.cell 4 _ rfl)
            | (have := H1; go_at_call 26; refine (HT2.out _ H1.out.2).mono ?_; rintro e w2 ⟨rfl, hb⟩; have H2 := hid (And.intro (H1.out.1.keep hb) (H1.out.2.trans (hb.mono H1.out.2.size))); clear hb y0 y1 y2 y3 y4; have y0 := H2.out.1.cell 0 _ rfl; have y1 := H2.out.1.cell 1 _ rfl; have y2 := H2.out.1.cell 2 _ rfl; have y3 := H2.out.1.cell 3 _ rfl; have y4 := H2.out.1.cell 4 _ rfl)
            | (have := H0; go_at_call 26; refine (HT1.out _ H0.out.2).mono ?_; rintro e w1 ⟨rfl, hb⟩; have H1 := hid (And.intro (H0.out.1.keep hb) (H0.out.2.trans (hb.mono H0.out.2.size))); clear hb y0 y1 y2 y3 y4; have y0 := H1.out.1.cell 0 _ rfl; have y1 := H1.out.1.cell 1 _ rfl; have y2 := H1.out.1.cell 2 _ rfl; have y3 := H1.out.1.cell 3 _ rfl; have y4 := H1.out.1.cell 4 _ rfl))
          go_ret
          exact ⟨by simp, H4.out.2⟩
        | true =>
          go_enter Try.func60, Try.ntmps60
          go_wp2_with (first
            | (have := H3; go_at_call 61; refine (HT4.out _ H3.out.2).mono ?_; rintro e w4 ⟨rfl, hb⟩; have H4 := hid (And.intro (H3.out.1.keep hb) (H3.out.2.trans (hb.mono H3.out.2.size))); clear hb y0 y1 y2 y3 y4; have y0 := H4.out.1.cell 0 _ rfl; have y1 := H4.out.1.cell 1 _ rfl; have y2 := H4.out.1.cell 2 _ rfl; have y3 := H4.out.1.cell 3 _ rfl; have y4 := H4.out.1.cell 4 _ rfl)
            | (have := H2; go_at_call 84; refine (HT3.out _ H2.out.2).mono ?_; rintro e w3 ⟨rfl, hb⟩; have H3 := hid (And.intro (H2.out.1.keep hb) (H2.out.2.trans (hb.mono H2.out.2.size))); clear hb y0 y1 y2 y3 y4; have y0 := H3.out.1.cell 0 _ rfl; have y1 := H3.out.1.cell 1 _ rfl; have y2 := H3.out.1.cell 2 _ rfl; have y3 := H3.out.1.cell 3 _ rfl; have y4 := H3.out.1.cell 4 _ rfl)
            | (have := H1; go_at_call 26; refine (HT2.out _ H1.out.2).mono ?_; rintro e w2 ⟨rfl, hb⟩; have H2 := hid (And.intro (H1.out.1.keep hb) (H1.out.2.trans (hb.mono H1.out.2.size))); clear hb y0 y1 y2 y3 y4; have y0 := H2.out.1.cell 0 _ rfl; have y1 := H2.out.1.cell 1 _ rfl; have y2 := H2.out.1.cell 2 _ rfl; have y3 := H2.out.1.cell 3 _ rfl; have y4 := H2.out.1.cell 4 _ rfl)
            | (have := H0; go_at_call 26; refine (HT1.out _ H0.out.2).mono ?_; rintro e w1 ⟨rfl, hb⟩; have H1 := hid (And.intro (H0.out.1.keep hb) (H0.out.2.trans (hb.mono H0.out.2.size))); clear hb y0 y1 y2 y3 y4; have y0 := H1.out.1.cell 0 _ rfl; have y1 := H1.out.1.cell 1 _ rfl; have y2 := H1.out.1.cell 2 _ rfl; have y3 := H1.out.1.cell 3 _ rfl; have y4 := H1.out.1.cell 4 _ rfl))
          go_ret
          exact ⟨by simp, H4.out.2⟩
end Go.Proofs.Ytepcdbmdfpaomaa
