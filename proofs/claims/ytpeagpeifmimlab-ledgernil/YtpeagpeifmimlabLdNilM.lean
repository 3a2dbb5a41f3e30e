/- The law: a ledger that is not there. -/
import Derived.Test.YtpeagpeifmimlabMx7
import Derived.Test.YtpeagpeifmimlabMx2
import Derived.Test.YtpeagpeifmimlabCoH
namespace Go.Proofs.Ytpeagpeifmimlab
open Go.RowKit

theorem same_zero : sameS 0 0 0 0 = true := by decide
set_option maxRecDepth 100000 in
set_option maxHeartbeats 6400000 in
theorem ldnil_any (q : Rq) (key : ByteArray) (z : Int) (w : World) :
    Calls Try.prog 3 #[.agg #[.int .i64 q.c, .int .i64 q.st, .int .i64 q.k, .string q.key, .int .u64 (q.b : Int), .int .i64 q.id], .string key, .int .i64 z] w fun r w' => r = .returned (.bool true) ∧ Below w.heap.size w w' := by
  have HSm : Hid (∀ u, Calls Try.prog 9 #[.agg #[.int .i64 0, .float .f64 0], .agg #[.int .i64 0, .float .f64 0]] u fun e w' => e = .returned (.bool true) ∧ Below u.heap.size u w') := hid (fun u => by
    have := qsameResult_any 0 0 0 0 u
    rw [same_zero] at this
    exact this)
  have hax := (Below.refl w.heap.size w).alloc (Nat.le_refl _) (.cells #[.int .i64 q.c, .int .i64 q.st, .int .i64 q.k, .string q.key, .int .u64 (q.b : Int), .int .i64 q.id] 24)
  have H0 : Hid (AkAt (w.alloc (.cells #[.int .i64 q.c, .int .i64 q.st, .int .i64 q.k, .string q.key, .int .u64 (q.b : Int), .int .i64 q.id] 24)) w.heap.size q ∧ Below w.heap.size w (w.alloc (.cells #[.int .i64 q.c, .int .i64 q.st, .int .i64 q.k, .string q.key, .int .u64 (q.b : Int), .int .i64 q.id] 24))) := hid ⟨heap_alloc_last w _, hax⟩
  clear hax
  go_enter Try.func3, Try.ntmps3
  go_wp2_with (first
    | (go_at_call 4; refine (elives_any _).mono ?_; rintro e w1 ⟨rfl, hb⟩; have H1 := hid (And.intro (H0.out.1.keep hb) (H0.out.2.trans (hb.mono H0.out.2.size))); clear hb; obtain ⟨⟨z0, z1⟩, z2, z3, z4, z5⟩ := H1.out.1.cells)
    | (go_at_call 6; refine (drequest_any q _).mono ?_; rintro e w2 ⟨rfl, hb⟩; have H2 := hid (H1.out.2.trans (hb.mono H1.out.2.size)); clear hb z0 z1 z2 z3 z4 z5)
    | (go_at_call 5; refine (gdo_nil q _).mono ?_; rintro e w3 ⟨rfl, hb⟩; have H3 := hid (H2.out.trans (hb.mono H2.out.size)); clear hb)
    | (go_at_call 7; refine (gget_nil key _).mono ?_; rintro e w5 ⟨rfl, hw⟩; replace hw := hw.symm; subst hw)
    | (go_at_call 8; refine (glast_nil z _).mono ?_; rintro e w6 ⟨rfl, hb⟩; have H6 := hid (And.intro (H4.out.1.keep hb) (H4.out.2.trans (hb.mono H4.out.2.size))); clear hb)
    | (have := H6
       refine wl_store_rs rfl _ _ rfl w6.heap.size rfl 0 0 0 0 rfl (heap_alloc_last w6 _) ?_
       intro w7 Hz
       have hax := (Below.refl w6.heap.size w6).alloc (Nat.le_refl _) (.cells #[.int .i64 0, .float .f64 0] 29)
       have H7 : Hid (RsAt w7 w3.heap.size 0 0 ∧ RsAt w7 w6.heap.size 0 0 ∧ Below w.heap.size w w7) := hid ⟨(H6.out.1.keep hax).one Hz.out.2 (Nat.ne_of_lt (lt_of_blk H6.out.1)), Hz.out.1, Hz.out.2.below (H6.out.2.trans (hax.mono H6.out.2.size)) H6.out.2.size⟩
       clear hax
       obtain ⟨x0, x1⟩ := H7.out.1.cells
       obtain ⟨y0, y1⟩ := H7.out.2.1.cells)
    | (have := H3
       refine wl_store_rs rfl _ _ rfl w3.heap.size rfl 0 0 0 0 rfl (heap_alloc_last w3 _) ?_
       intro w4 Hz
       have hax := (Below.refl w3.heap.size w3).alloc (Nat.le_refl _) (.cells #[.int .i64 0, .float .f64 0] 29)
       have H4 : Hid (RsAt w4 w3.heap.size 0 0 ∧ Below w.heap.size w w4) := hid ⟨Hz.out.1, Hz.out.2.below (H3.out.trans (hax.mono H3.out.size)) H3.out.size⟩
       clear hax)
    | (go_at_call 10; refine (gturn_nil _).mono ?_; rintro e wq ⟨rfl, hw⟩; replace hw := hw.symm; subst hw)
    | (go_at_call 13; refine (gnext_nil _).mono ?_; rintro e wq ⟨rfl, hw⟩; replace hw := hw.symm; subst hw)
    | (go_at_call 14; refine (gdone_nil _).mono ?_; rintro e wq ⟨rfl, hw⟩; replace hw := hw.symm; subst hw)
    | (go_at_call 16; refine (gtext_nil _).mono ?_; rintro e wq ⟨rfl, hw⟩; replace hw := hw.symm; subst hw)
    | (go_at_call 17; refine (gcopy_nil _).mono ?_; rintro e wq ⟨rfl, hw⟩; replace hw := hw.symm; subst hw)
    | (go_at_call 12; refine (gconf_nil _).mono ?_; rintro e w9 ⟨rfl, hb⟩; have H9 := hid (And.intro (H8.out.1.keep hb) (H8.out.2.trans (hb.mono H8.out.2.size))); clear hb)
    | (go_at_call 11; refine (vsame_yes 0 none none 0 0 0 [] rfl (Nat.zero_le _) _ (.inl rfl) (.inl rfl)).mono ?_; rintro e w10 ⟨rfl, hb⟩; have H10 := hid (And.intro (H9.out.1.keep hb) (H9.out.2.trans (hb.mono H9.out.2.size))); clear hb)
    | (go_at_call 15; refine (gfull_nil _).mono ?_; rintro e w11 ⟨rfl, hb⟩; have H11 := hid (And.intro (H10.out.1.keep hb) (H10.out.2.trans (hb.mono H10.out.2.size))); clear hb; obtain ⟨y0, y1⟩ := H11.out.1.cells)
    | (have := H11; go_at_call 9; refine (HSm.out _).mono ?_; rintro e w12 ⟨rfl, hb⟩; have H12 := hid (H11.out.2.trans (hb.mono H11.out.2.size)); clear hb)
    | (go_at_call 9; refine (HSm.out _).mono ?_; rintro e w8 ⟨rfl, hb⟩; have H8 := hid (And.intro (H7.out.2.1.keep hb) (H7.out.2.2.trans (hb.mono H7.out.2.2.size))); clear hb x0 x1 y0 y1))
  go_ret
  exact ⟨rfl, H12.out⟩
end Go.Proofs.Ytpeagpeifmimlab
