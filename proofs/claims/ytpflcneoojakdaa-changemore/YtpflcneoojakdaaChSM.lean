/- Rows of requests; the document's Same. -/
import Derived.Test.YtpflcneoojakdaaGtAM
import Derived.Test.YtpflcneoojakdaaKd1
import Derived.Test.YtpflcneoojakdaaHlAM
namespace Go.Proofs.Ytpflcneoojakdaa
open Go.RowKit

/-- The requests rs from a on. -/
def RqsIn (w : World) (a : Option Addr) (rs : List Rq) : Prop :=
  rs = [] ∨ ∃ g, a = some ⟨g, 0, none⟩ ∧ g < w.heap.size ∧ ∀ (j : Nat) (r : Rq), rs[j]? = some r → ∀ (q : Nat) (u : Value), q < 6 → (rqC r)[q]? = some u → w.cell? ⟨g, j * 6 + q, none⟩ = some u
theorem RqsIn.keep {w w' : World} {a : Option Addr} {rs : List Rq} (h : RqsIn w a rs) (hb : Below w.heap.size w w') : RqsIn w' a rs := by
  rcases h with h | ⟨g, ha, hg, hc⟩
  · exact .inl h
  · exact .inr ⟨g, ha, Nat.lt_of_lt_of_le hg hb.size, fun j r hr q u hq hu => (hb.cell (p := ⟨g, j * 6 + q, none⟩) hg).trans (hc j r hr q u hq hu)⟩
theorem rqs_box {w : World} {g : Nat} {rs : List Rq} {T : TypeId} (h : BxAt w g (rC rs) T) : RqsIn w (some ⟨g, 0, none⟩) rs :=
  .inr ⟨g, rfl, lt_of_blk h, fun j r hr q u hq hu => h.cell (j * 6 + q) u (by rw [rC, row_at rqC_len hr q hq]; exact hu)⟩
theorem rqs_own {w : World} {B n : Nat} {u : Value} {rs : List Rq} {T : TypeId} (hn : n = rs.length) (h : w.ownsRow B T 6 u n (rC rs)) : ∃ a c, u = .slice a rs.length c ∧ RqsIn w a rs := by
  subst hn
  rcases h.2 with ⟨hv, h0⟩ | ⟨g, cap, cur, hv, _, hh, _⟩
  · obtain rfl := List.eq_nil_of_length_eq_zero h0
    exact ⟨none, 0, hv, .inl rfl⟩
  · refine ⟨_, cap, hv, .inr ⟨g, rfl, ?_, fun j r hr q u2 hq hu => ?_⟩⟩
    · exact lt_of_blk hh
    · have := h.cells (g := g) (by rw [hv]; rfl) (j * 6 + q) u2 (by rw [rC, row_at rqC_len hr q hq]; exact hu)
      rw [Addr.add_lit, Nat.zero_add] at this
      exact this
def q0R : Rq := zeroQ
set_option maxRecDepth 100000 in
set_option maxHeartbeats 1600000 in
theorem wsame16_yes (a : Option Addr) (ca : Nat) (b : Option Addr) (cb n : Nat) (xs ys : List Rq) (ha : xs.length = n) (hbl : ys.length = n) (hm : n ≤ 1000) (hw : ∀ j, j < n → wholeB (xs.getD j q0R) (ys.getD j q0R) = true) (w : World) (hA : RqsIn w a xs) (hB : RqsIn w b ys) :
    Calls Try.prog 16 #[.slice a n ca, .slice b n cb] w fun e w' => e = .returned (.bool true) ∧ Below w.heap.size w w' := by
  have HA := hid (And.intro hA (And.intro hB (And.intro ha hbl)))
  have HW := hid hw
  have hmi : (n : Int) ≤ 1000 := by omega
  have hbn : ((n : Int) != (n : Int)) = false := by simp
  clear hA hB hw ha hbl hm
  go_enter Try.func16, Try.ntmps16
  go_wp2
  go_loopw [5] (fun i wr => ∃ j : Nat, j ≤ n ∧ i = .int .i64 (j : Int) ∧ Below w.heap.size w wr)
    (fun i _ => ((n : Int) - intOf i).toNat)
  case atStart => exact ⟨0, Nat.zero_le _, rfl, Below.refl _ _⟩
  case round =>
    obtain ⟨j, hj, rfl, hb⟩ := hrel
    have HB := hid hb
    clear hb
    have hj0 : (0 : Int) ≤ (j : Int) := Int.natCast_nonneg _
    by_cases hjn : j = n
    · have hj1 : ¬ ((j : Int) < (n : Int)) := by omega
      clear hj hjn
      go_wp2
      go_ret
      exact ⟨rfl, HB.out⟩
    · have hj1 : (j : Int) < (n : Int) := by omega
      have hja : xs[j]? = some (xs.getD j q0R) := by have := HA.out.2.2.1; rw [List.getD_eq_getElem?_getD, List.getElem?_eq_getElem (by omega)]; rfl
      have hjb : ys[j]? = some (ys.getD j q0R) := by have := HA.out.2.2.2; rw [List.getD_eq_getElem?_getD, List.getElem?_eq_getElem (by omega)]; rfl
      have hwj := HW.out j (by omega)
      obtain ⟨ga, rfl, hga, hca⟩ : ∃ g, a = some ⟨g, 0, none⟩ ∧ g < wr.heap.size ∧ ∀ (q : Nat) (u : Value), q < 6 → (rqC (xs.getD j q0R))[q]? = some u → wr.cell? ⟨g, j * 6 + q, none⟩ = some u := by
        rcases HA.out.1.keep HB.out with h | ⟨g, h1, h2, h3⟩
        · rw [h] at hja; simp at hja
        · exact ⟨g, h1, h2, h3 j _ hja⟩
      obtain ⟨gb, rfl, hgb, hcb⟩ : ∃ g, b = some ⟨g, 0, none⟩ ∧ g < wr.heap.size ∧ ∀ (q : Nat) (u : Value), q < 6 → (rqC (ys.getD j q0R))[q]? = some u → wr.cell? ⟨g, j * 6 + q, none⟩ = some u := by
        rcases HA.out.2.1.keep HB.out with h | ⟨g, h1, h2, h3⟩
        · rw [h] at hjb; simp at hjb
        · exact ⟨g, h1, h2, h3 j _ hjb⟩
      generalize xs.getD j q0R = x at hca hwj
      generalize ys.getD j q0R = y at hcb hwj
      have HWh : Hid (∀ u : World, Below wr.heap.size wr u → Calls Try.prog 17 #[.agg #[.int .i64 x.c, .int .i64 x.st, .int .i64 x.k, .string x.key, .float .f64 x.b, .int .i64 x.id], .agg #[.int .i64 y.c, .int .i64 y.st, .int .i64 y.k, .string y.key, .float .f64 y.b, .int .i64 y.id]] u fun e w' => e = .returned (.bool true) ∧ Below u.heap.size u w') := hid (fun u _ => by have := qwhole_any x y u; rw [hwj] at this; exact this)
      have HJ := hid (And.intro hj hjn)
      have a0 : ∀ c : Cls wr, c.1.cell? ⟨ga, j * 6, none⟩ = some (.int .i64 x.c) := fun c => (c.2.cell (p := ⟨ga, j * 6, none⟩) hga).trans (hca 0 _ (by decide) rfl)
      have a1 : ∀ c : Cls wr, c.1.cell? ⟨ga, j * 6 + 1, none⟩ = some (.int .i64 x.st) := fun c => (c.2.cell (p := ⟨ga, j * 6 + 1, none⟩) hga).trans (hca 1 _ (by decide) rfl)
      have a2 : ∀ c : Cls wr, c.1.cell? ⟨ga, j * 6 + 2, none⟩ = some (.int .i64 x.k) := fun c => (c.2.cell (p := ⟨ga, j * 6 + 2, none⟩) hga).trans (hca 2 _ (by decide) rfl)
      have a3 : ∀ c : Cls wr, c.1.cell? ⟨ga, j * 6 + 3, none⟩ = some (.string x.key) := fun c => (c.2.cell (p := ⟨ga, j * 6 + 3, none⟩) hga).trans (hca 3 _ (by decide) rfl)
      have a4 : ∀ c : Cls wr, c.1.cell? ⟨ga, j * 6 + 4, none⟩ = some (.float .f64 x.b) := fun c => (c.2.cell (p := ⟨ga, j * 6 + 4, none⟩) hga).trans (hca 4 _ (by decide) rfl)
      have a5 : ∀ c : Cls wr, c.1.cell? ⟨ga, j * 6 + 5, none⟩ = some (.int .i64 x.id) := fun c => (c.2.cell (p := ⟨ga, j * 6 + 5, none⟩) hga).trans (hca 5 _ (by decide) rfl)
      have b0 : ∀ c : Cls wr, c.1.cell? ⟨gb, j * 6, none⟩ = some (.int .i64 y.c) := fun c => (c.2.cell (p := ⟨gb, j * 6, none⟩) hgb).trans (hcb 0 _ (by decide) rfl)
      have b1 : ∀ c : Cls wr, c.1.cell? ⟨gb, j * 6 + 1, none⟩ = some (.int .i64 y.st) := fun c => (c.2.cell (p := ⟨gb, j * 6 + 1, none⟩) hgb).trans (hcb 1 _ (by decide) rfl)
      have b2 : ∀ c : Cls wr, c.1.cell? ⟨gb, j * 6 + 2, none⟩ = some (.int .i64 y.k) := fun c => (c.2.cell (p := ⟨gb, j * 6 + 2, none⟩) hgb).trans (hcb 2 _ (by decide) rfl)
      have b3 : ∀ c : Cls wr, c.1.cell? ⟨gb, j * 6 + 3, none⟩ = some (.string y.key) := fun c => (c.2.cell (p := ⟨gb, j * 6 + 3, none⟩) hgb).trans (hcb 3 _ (by decide) rfl)
      have b4 : ∀ c : Cls wr, c.1.cell? ⟨gb, j * 6 + 4, none⟩ = some (.float .f64 y.b) := fun c => (c.2.cell (p := ⟨gb, j * 6 + 4, none⟩) hgb).trans (hcb 4 _ (by decide) rfl)
      have b5 : ∀ c : Cls wr, c.1.cell? ⟨gb, j * 6 + 5, none⟩ = some (.int .i64 y.id) := fun c => (c.2.cell (p := ⟨gb, j * 6 + 5, none⟩) hgb).trans (hcb 5 _ (by decide) rfl)
      clear hj hjn hja hjb hwj hga hca hgb hcb
      haveI := Cls.ne wr
      go_wp2_with fail
      refine wp_region_cls wr (by kernel_rfl) (by kernel_rfl) ?_
      repeat (go_big_quiet_step ((go_at_call 17; exact Cls.of _ (fun u hu => HWh.out u hu))))
      refine wpQuiet_nil ?_
      rintro _ ⟨c, rfl⟩
      go_wp2
      go_roundw
      case rel => exact ⟨j + 1, by have := HJ.out; omega, by go_num, HB.out.trans (c.2.mono HB.out.size)⟩
      case measure => simp [intOf]; omega
end Go.Proofs.Ytpflcneoojakdaa
