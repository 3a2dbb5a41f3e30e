/- The program's answer of what is picked: own, requests. -/
import Derived.Test.YthoofboegchodaaChFM
import Derived.Test.YthoofboegchodaaKd1
import Derived.Test.YthoofboegchodaaDsIM
namespace Go.Proofs.Ythoofboegchodaa
open Go.RowKit

theorem own_norm {r : Rq} (h : askB r = true) (hb : r.b < 18446744073709551616) : rdR (rqT r) = normR r ∧ (rqT r).size ≤ 34 := by
  cases hr : rightB r with
  | true =>
    obtain ⟨h1, h2, h3⟩ := read_back hr hb
    refine ⟨?_, rq_size hr⟩
    rw [rdR, h3, h1]
    show rdq (rqT r) = _
    rw [h2]
    rfl
  | false =>
    have hn : nullB r = true := by rw [askB, hr] at h; exact h
    have hz := null_zero hn
    have ht := (norm_alike r).2.2
    rw [hz] at ht
    rw [← ht, hz, zero_text]
    exact ⟨by rfl, by decide⟩
set_option maxRecDepth 100000 in
set_option maxHeartbeats 1600000 in
theorem zown_any (r : Rq) (ha : askB r = true) (hb : r.b < 18446744073709551616) (w : World) : Calls Try.prog 76 #[.agg #[.int .i64 r.c, .int .i64 r.st, .int .i64 r.k, .string r.key, .float .f64 r.b, .int .i64 r.id]] w fun e w' => e = .returned (.agg #[.int .i64 (normR r).c, .int .i64 (normR r).st, .int .i64 (normR r).k, .string (normR r).key, .float .f64 (normR r).b, .int .i64 (normR r).id]) ∧ Below w.heap.size w w' := by
  obtain ⟨hn, hs⟩ := own_norm ha hb
  obtain ⟨wa, ea⟩ : ∃ wa, wa = (w.alloc (.cells #[.int .i64 r.c, .int .i64 r.st, .int .i64 r.k, .string r.key, .float .f64 r.b, .int .i64 r.id] 49)).alloc (.cells #[.int .i64 0, .int .i64 0, .int .i64 0, .string ⟨#[]⟩, .float .f64 0, .int .i64 0] 49) := ⟨_, rfl⟩
  have hba : Below w.heap.size w wa := by rw [ea]; exact ((Below.refl _ _).alloc (Nat.le_refl _) _).alloc (by simp) _
  have hX1 : RqAt wa w.heap.size r := by rw [ea]; exact (Below.heap_alloc _ _ _ (by simp)).trans (heap_alloc_last w _)
  have hX2 : RqAt wa (w.heap.size + 1) zeroQ := by
    rw [ea]
    have h := heap_alloc_last (w.alloc (.cells #[.int .i64 r.c, .int .i64 r.st, .int .i64 r.k, .string r.key, .float .f64 r.b, .int .i64 r.id] 49)) (.cells #[.int .i64 0, .int .i64 0, .int .i64 0, .string ⟨#[]⟩, .float .f64 0, .int .i64 0] 49)
    rw [show (w.alloc (.cells #[.int .i64 r.c, .int .i64 r.st, .int .i64 r.k, .string r.key, .float .f64 r.b, .int .i64 r.id] 49)).heap.size = w.heap.size + 1 by simp] at h
    exact h
  have H0 := hid (And.intro hX1 (And.intro hX2 hba))
  have HEa := hid ea
  have HT : Hid (∀ u : World, Calls Try.prog 60 #[.agg #[.int .i64 r.c, .int .i64 r.st, .int .i64 r.k, .string r.key, .float .f64 r.b, .int .i64 r.id]] u fun e w' => e = .returned (.tuple #[.string (rqT r), .int .i64 (rqE r)]) ∧ Below u.heap.size u w') := hid (fun u => dtext_any r hb u)
  have HR : Hid (∀ u : World, Calls Try.prog 92 #[.string (rqT r)] u fun e w' => e = .returned (.tuple #[.agg #[.int .i64 (rdR (rqT r)).c, .int .i64 (rdR (rqT r)).st, .int .i64 (rdR (rqT r)).k, .string (rdR (rqT r)).key, .float .f64 (rdR (rqT r)).b, .int .i64 (rdR (rqT r)).id], .int .i64 (rdE (rqT r))]) ∧ Below u.heap.size u w') := hid (fun u => dread_any (rqT r) (by omega) u)
  rw [hn] at HR
  generalize rdE (rqT r) = er at HR
  generalize rqT r = tx at HT HR
  generalize rqE r = e2 at HT
  generalize normR r = q at HR ⊢
  clear hn hs ha hb ea hba hX1 hX2
  obtain ⟨⟨y0, y1⟩, y2, y3, y4, y5⟩ := H0.out.1.cells
  go_enter Try.func76, Try.ntmps76
  go_wp2_with fail
  rw [← HEa.out]
  go_wp2_with (first
    | (have := H3; refine wl_store_rq rfl _ _ rfl (w.heap.size + 1) rfl zeroQ q rfl H3.out.1 ?_; intro w4 Hq; go_must (have H4 : Hid (RqAt w4 (w.heap.size + 1) q ∧ Below w.heap.size w w4) := hid ⟨Hq.out.1, Hq.out.2.below H3.out.2.2.1 (by omega)⟩); clear Hq)
    | (have := H2; refine wl_store_rq rfl _ _ rfl w2.heap.size rfl zeroQ q rfl (heap_alloc_last w2 _) ?_; intro w3 Hq; go_must (have hb3 := Hq.out.2.below ((Below.refl w2.heap.size w2).alloc (Nat.le_refl _) _) (Nat.le_refl _); have H3 : Hid (RqAt w3 (w.heap.size + 1) zeroQ ∧ RqAt w3 w2.heap.size q ∧ Below w.heap.size w w3 ∧ True) := hid ⟨H2.out.2.1.keep hb3, Hq.out.1, H2.out.2.2.trans (hb3.mono H2.out.2.2.size), trivial⟩); clear Hq hb3; obtain ⟨⟨x0, x1⟩, x2, x3, x4, x5⟩ := H3.out.2.1.cells)
    | (have := H1; go_at_call 92; go_must (refine (HR.out _).mono ?_); rintro e w2 ⟨rfl, hb⟩; have H2 : Hid (RqAt w2 w.heap.size r ∧ RqAt w2 (w.heap.size + 1) zeroQ ∧ Below w.heap.size w w2) := hid ⟨H1.out.1.keep hb, H1.out.2.1.keep hb, H1.out.2.2.trans (hb.mono H1.out.2.2.size)⟩; clear hb)
    | (go_at_call 60; go_must (refine (HT.out _).mono ?_); rintro e w1 ⟨rfl, hb⟩; have H1 : Hid (RqAt w1 w.heap.size r ∧ RqAt w1 (w.heap.size + 1) zeroQ ∧ Below w.heap.size w w1) := hid ⟨H0.out.1.keep hb, H0.out.2.1.keep hb, H0.out.2.2.trans (hb.mono H0.out.2.2.size)⟩; clear hb y0 y1 y2 y3 y4 y5))
  refine ret_oneD (s := 2) (ad := ⟨w.heap.size + 1, 0, none⟩) rfl rfl (load_rq _ _ q H4.out.1) rfl ?_
  exact ⟨rfl, H4.out.2⟩
end Go.Proofs.Ythoofboegchodaa
