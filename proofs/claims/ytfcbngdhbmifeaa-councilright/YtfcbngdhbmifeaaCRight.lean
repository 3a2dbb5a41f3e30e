/- CouncilRight: the walk. -/
import Derived.Test.YtfcbngdhbmifeaaCoL
namespace Go.Proofs.Ytfcbngdhbmifeaa
open Go.RowKit

set_option maxRecDepth 100000 in
set_option maxHeartbeats 1600000 in
theorem councilRight_walk (ep : Int) (a : Option Addr) (n cap : Nat) (l : List Int) (hn : l.length = n) (hm : n ≤ maxLen) (id : Int) (w : World) (hI : IntsIn w a l) :
    Calls Try.prog 5 #[.agg #[.int .i64 ep, .slice a n cap], .int .i64 id] w fun e w' => e = .returned (.bool true) ∧ Below w.heap.size w w' := by
  obtain ⟨R, eR⟩ : ∃ R, R = rightC ep l := ⟨_, rfl⟩
  obtain ⟨Z, eZ⟩ : ∃ Z, Z = hasM l id := ⟨_, rfl⟩
  have HR : Hid (∀ u : World, IntsIn u a l → Calls Try.prog 17 #[.agg #[.int .i64 ep, .slice a n cap]] u fun e w' => e = .returned (.bool R) ∧ Below u.heap.size u w') := hid (fun u hu => by rw [eR]; exact cright_any ep a n cap l hn hm u hu)
  have HV : Hid (∀ u : World, IntsIn u a l → Calls Try.prog 18 #[.agg #[.int .i64 ep, .slice a n cap]] u fun e w' => e = .returned (.bool R) ∧ Below u.heap.size u w') := hid (fun u hu => by rw [eR]; exact vright_any ep a n cap l hn hm u hu)
  have HH : Hid (∀ u : World, IntsIn u a l → Calls Try.prog 19 #[.agg #[.int .i64 ep, .slice a n cap], .int .i64 id] u fun e w' => e = .returned (.bool Z) ∧ Below u.heap.size u w') := hid (fun u hu => by rw [eZ]; exact chas_any ep a n cap l hn hm id u hu)
  have HW : Hid (∀ u : World, IntsIn u a l → Calls Try.prog 20 #[.slice a n cap, .int .i64 id] u fun e w' => e = .returned (.bool Z) ∧ Below u.heap.size u w') := hid (fun u hu => by
    rw [eZ]
    exact (vhas_any a n cap l hn hm id u hu).mono fun _ _ ⟨he, hw⟩ => ⟨he, by rw [hw]; exact Below.refl _ _⟩)
  have HF := hid (conf_cells w (.int .i64 ep) (.slice a n cap))
  have HJ := hid (hI.alloc (.cells #[.int .i64 ep, .slice a n cap] 30))
  clear hI hn hm eR eZ
  go_enter Try.func5, Try.ntmps5
  go_wp2_with (go_at_call 9; refine (clives_any _).mono ?_; rintro e w1 ⟨rfl, hb1⟩; have H1 := hid hb1; clear hb1; obtain ⟨c1, d1⟩ := conf_stay HF.out H1.out (by simp))
  clear c1 d1
  have HK := hid (fun x : Cls w1 => (HJ.out.keep H1.out (Nat.le_refl _)).keep x.2 (Nat.le_refl _))
  have d0 : ∀ x : Cls w1, x.1.cell? ⟨w.heap.size, 0, none⟩ = some (.int .i64 ep) := fun x => (conf_stay HF.out (H1.out.trans (x.2.mono H1.out.size)) (by simp)).1
  have d1 : ∀ x : Cls w1, x.1.cell? ⟨w.heap.size, 1, none⟩ = some (.slice a n cap) := fun x => (conf_stay HF.out (H1.out.trans (x.2.mono H1.out.size)) (by simp)).2
  haveI := Cls.ne w1
  refine wp_region_cls w1 (by kernel_rfl) (by kernel_rfl) ?_
  repeat (go_big_quiet_step ((first
    | (go_at_call 17; exact Cls.of _ (fun u hu => HR.out u (HK.out ⟨u, hu⟩)))
    | (go_at_call 18; exact Cls.of _ (fun u hu => HV.out u (HK.out ⟨u, hu⟩)))
    | (go_at_call 19; exact Cls.of _ (fun u hu => HH.out u (HK.out ⟨u, hu⟩)))
    | (go_at_call 20; exact Cls.of _ (fun u hu => HW.out u (HK.out ⟨u, hu⟩))))))
  refine wpQuiet_nil ?_
  rintro _ ⟨x, rfl⟩
  go_wp2
  go_ret
  exact ⟨rfl, ((Below.refl w.heap.size w).alloc (Nat.le_refl _) _).trans ((H1.out.trans (x.2.mono H1.out.size)).mono (by simp))⟩
end Go.Proofs.Ytfcbngdhbmifeaa
