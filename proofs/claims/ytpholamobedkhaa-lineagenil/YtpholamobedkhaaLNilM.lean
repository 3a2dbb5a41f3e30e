/- The law: a tracker that is not there. -/
import Derived.Test.YtpholamobedkhaaMg13
namespace Go.Proofs.Ytpholamobedkhaa
open Go.RowKit

set_option maxRecDepth 100000 in
theorem lknowsN_any (w : World) : Calls Try.prog 37 #[.pointer none] w fun r w' => r = .returned (.bool true) ∧ Below w.heap.size w w' := by
  go_enter Try.func37, Try.ntmps37
  go_wp2
  go_ret
  exact ⟨rfl, Below.refl _ _⟩
set_option maxRecDepth 100000 in
theorem lepochN_any (w : World) : Calls Try.prog 18 #[.pointer none] w fun r w' => r = .returned (.int .i64 0) ∧ Below w.heap.size w w' := by
  go_enter Try.func18, Try.ntmps18
  go_wp2_with (go_at_call 37; refine (lknowsN_any _).mono ?_; rintro e w1 ⟨rfl, hb1⟩; have H1 := hid hb1; clear hb1)
  go_ret
  exact ⟨rfl, H1.out⟩
set_option maxRecDepth 100000 in
theorem lchainN_any (w : World) : Calls Try.prog 17 #[.pointer none] w fun r w' => r = .returned (.slice none 0 0) ∧ Below w.heap.size w w' := by
  go_enter Try.func17, Try.ntmps17
  go_wp2_with (go_at_call 37; refine (lknowsN_any _).mono ?_; rintro e w1 ⟨rfl, hb1⟩; have H1 := hid hb1; clear hb1)
  go_ret
  exact ⟨rfl, H1.out⟩
set_option maxRecDepth 100000 in
theorem ltakeN_any (a : Option Addr) (n c : Nat) (w : World) : Calls Try.prog 21 #[.pointer none, .slice a n c] w fun r w' => r = .returned (.int .i64 1) ∧ Below w.heap.size w w' := by
  go_enter Try.func21, Try.ntmps21
  go_wp2_with (go_at_call 37; refine (lknowsN_any _).mono ?_; rintro e w1 ⟨rfl, hb1⟩; have H1 := hid hb1; clear hb1)
  go_ret
  exact ⟨rfl, H1.out⟩
set_option maxRecDepth 100000 in
theorem laddN_any (w : World) : Calls Try.prog 25 #[.pointer none, .agg #[.int .i64 0, .slice none 0 0, .slice none 0 0]] w fun r w' => r = .returned (.int .i64 1) ∧ Below w.heap.size w w' := by
  have HA : Hid (Below w.heap.size w (w.alloc (.cells #[.int .i64 0, .slice none 0 0, .slice none 0 0] 27))) := hid ((Below.refl _ _).alloc (Nat.le_refl _) _)
  go_enter Try.func25, Try.ntmps25
  go_wp2_with (go_at_call 37; refine (lknowsN_any _).mono ?_; rintro e w1 ⟨rfl, hb1⟩; have H1 := hid (HA.out.trans (hb1.mono HA.out.size)); clear hb1)
  go_ret
  exact ⟨rfl, H1.out⟩
set_option maxRecDepth 100000 in
theorem latN_any (e : Int) (w : World) : Calls Try.prog 24 #[.pointer none, .int .i64 e] w fun r w' => r = .returned (.tuple #[.agg #[.int .i64 0, .slice none 0 0], .bool false]) ∧ Below w.heap.size w w' := by
  have hA : Below w.heap.size w (w.alloc (.cells #[.int .i64 0, .slice none 0 0] 24)) := (Below.refl _ _).alloc (Nat.le_refl _) _
  have H0 : Hid (CfAt (w.alloc (.cells #[.int .i64 0, .slice none 0 0] 24)) w.heap.size 0 (.slice none 0 0) ∧ Below w.heap.size w (w.alloc (.cells #[.int .i64 0, .slice none 0 0] 24))) := hid ⟨heap_alloc_last w _, hA⟩
  clear hA
  go_enter Try.func24, Try.ntmps24
  go_wp2_with (go_at_call 37; refine (lknowsN_any _).mono ?_; rintro e w1 ⟨rfl, hb1⟩; have H1 := hid (And.intro (H0.out.1.keep hb1) (H0.out.2.trans (hb1.mono H0.out.2.size))); clear hb1; have r0 := H1.out.1.cells.1; have r1 := H1.out.1.cells.2; have f0 := free_at H1.out.1 0; have f1 := free_at H1.out.1 1)
  refine ret_pair (s := 4) (s2 := 5) (ad := ⟨w.heap.size, 0, none⟩) rfl rfl (load_conf _ _ (.int .i64 0) (.slice none 0 0) (store_two H1.out.1).1 (store_two H1.out.1).2) rfl rfl ?_
  exact ⟨rfl, (H1.out.2.setCell (p := ⟨w.heap.size, 0, none⟩) (Nat.le_refl _) (.int .i64 0)).setCell (p := ⟨w.heap.size, 1, none⟩) (Nat.le_refl _) (.slice none 0 0)⟩
set_option maxRecDepth 100000 in
set_option maxHeartbeats 3200000 in
theorem lnil_any (a : Option Addr) (n c : Nat) (e : Int) (w : World) :
    Calls Try.prog 8 #[.slice a n c, .int .i64 e] w fun r w' => r = .returned (.bool true) ∧ Below w.heap.size w w' := by
  go_enter Try.func8, Try.ntmps8
  go_wp2_with (first
    | (go_at_call 9; refine (jlives_any _).mono ?_; rintro r w1 ⟨rfl, hb1⟩; have H1 := hid hb1; clear hb1)
    | (go_at_call 24; refine (latN_any _ _).mono ?_; rintro r w2 ⟨rfl, hb2⟩
       have hA := (Below.refl w2.heap.size w2).alloc (Nat.le_refl _) (.cells #[.int .i64 0, .slice none 0 0] 24)
       have H2 : Hid (CfAt (w2.alloc (.cells #[.int .i64 0, .slice none 0 0] 24)) w2.heap.size 0 (.slice none 0 0) ∧ Below w.heap.size w (w2.alloc (.cells #[.int .i64 0, .slice none 0 0] 24))) := hid ⟨heap_alloc_last w2 _, (H1.out.trans (hb2.mono H1.out.size)).trans (hA.mono (Nat.le_trans H1.out.size hb2.size))⟩
       clear hb2 hA)
    | (go_at_call 21; refine (ltakeN_any _ _ _ _).mono ?_; rintro r w3 ⟨rfl, hb3⟩; have H3 := hid (And.intro (H2.out.1.keep hb3) (H2.out.2.trans (hb3.mono H2.out.2.size))); clear hb3)
    | (go_at_call 25; refine (laddN_any _).mono ?_; rintro r w4 ⟨rfl, hb4⟩; have H4 := hid (And.intro (H3.out.1.keep hb4) (H3.out.2.trans (hb4.mono H3.out.2.size))); clear hb4)
    | (go_at_call 18; refine (lepochN_any _).mono ?_; rintro r w5 ⟨rfl, hb5⟩; have H5 := hid (And.intro (H4.out.1.keep hb5) (H4.out.2.trans (hb5.mono H4.out.2.size))); clear hb5)
    | (go_at_call 17; refine (lchainN_any _).mono ?_; rintro r w6 ⟨rfl, hb6⟩; have H6 := hid (And.intro (H5.out.1.keep hb6) (H5.out.2.trans (hb6.mono H5.out.2.size))); clear hb6; have z0 := H6.out.1.cells.1; have z1 := H6.out.1.cells.2)
    | (go_at_call 20; refine (vsame_eq 0 none none 0 0 0 [] rfl (Nat.zero_le _) _ (.inl rfl) (.inl rfl)).mono ?_; rintro r w7 ⟨rfl, hb7⟩; have H7 := hid (H6.out.2.trans (hb7.mono H6.out.2.size)); clear hb7))
  go_ret
  exact ⟨rfl, H7.out⟩
end Go.Proofs.Ytpholamobedkhaa
