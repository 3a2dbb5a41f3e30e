/- Which changes are right, by both. -/
import Derived.Test.YtpflcneoojakdaaChLM
import Derived.Test.YtpflcneoojakdaaChIM
namespace Go.Proofs.Ytpflcneoojakdaa
open Go.RowKit

set_option maxRecDepth 100000 in
set_option maxHeartbeats 1600000 in
theorem changeRight_walk {F : Nat → Prop} (ep : Int) (am : Option Addr) (nm cm : Nat) (m : List Int) (hn : m.length = nm) (hm : nm ≤ maxLen) (z : Cg) (a : Option Addr) (n cap : Nat) (hz : cgR z) (w : World) (hI : IntsIn w am m) (hR : Reads F w (.slice a n cap) (dCts z.2.2.1)) :
    Calls Try.prog 4 #[.agg #[.int .i64 ep, .slice am nm cm], .agg #[.int .i64 z.1, .int .i64 z.2.1, .slice a n cap, .int .i64 z.2.2.2.1, .string z.2.2.2.2]] w fun e w' => e = .returned (.bool true) ∧ Below w.heap.size w w' := by
  obtain ⟨wa, ea⟩ : ∃ wa, wa = (w.alloc (.cells #[.int .i64 ep, .slice am nm cm] 34)).alloc (.cells #[.int .i64 z.1, .int .i64 z.2.1, .slice a n cap, .int .i64 z.2.2.2.1, .string z.2.2.2.2] 26) := ⟨_, rfl⟩
  have hba : Below w.heap.size w wa := by rw [ea]; exact ((Below.refl _ _).alloc (Nat.le_refl _) _).alloc (by simp) _
  have hX1 : BxAt wa w.heap.size [.int .i64 ep, .slice am nm cm] 34 := by rw [ea]; exact (Below.heap_alloc _ _ _ (by simp)).trans (heap_alloc_last w _)
  have hX2 : BxAt wa (w.heap.size + 1) [.int .i64 z.1, .int .i64 z.2.1, .slice a n cap, .int .i64 z.2.2.2.1, .string z.2.2.2.2] 26 := by rw [ea]; exact alloc_two _ _ _
  have HB := hid hba
  have HEa := hid ea
  have HX : Hid (∀ u : World, Below wa.heap.size wa u → Calls Try.prog 12 #[.agg #[.int .i64 ep, .slice am nm cm], .agg #[.int .i64 z.1, .int .i64 z.2.1, .slice a n cap, .int .i64 z.2.2.2.1, .string z.2.2.2.2]] u fun e w' => e = .returned (.int .i64 (riE ep m z)) ∧ Below u.heap.size u w') := hid (fun u hu => zright_any ep am nm cm m hn hm z a n cap hz u ((hI.keep hba (Nat.le_refl _)).keep hu (Nat.le_refl _)) ((hR.under hba (Nat.le_refl _)).under hu (Nat.le_refl _)))
  have HY : Hid (∀ u : World, Below wa.heap.size wa u → Calls Try.prog 13 #[.agg #[.int .i64 ep, .slice am nm cm], .agg #[.int .i64 z.1, .int .i64 z.2.1, .slice a n cap, .int .i64 z.2.2.2.1, .string z.2.2.2.2]] u fun e w' => e = .returned (.int .i64 (riE ep m z)) ∧ Below u.heap.size u w') := hid (fun u hu => wright16_any ep am nm cm m hn hm z a n cap hz u ((hI.keep hba (Nat.le_refl _)).keep hu (Nat.le_refl _)) ((hR.under hba (Nat.le_refl _)).under hu (Nat.le_refl _)))
  have HL : Hid (∀ u : World, Below wa.heap.size wa u → Calls Try.prog 9 #[] u fun e w' => e = .returned (.bool true) ∧ Below u.heap.size u w') := hid (fun u _ => ulives_any u)
  generalize riE ep m z = er at HX HY
  have x0 : ∀ x : Cls wa, x.1.cell? ⟨w.heap.size, 0, none⟩ = some (.int .i64 ep) := fun x => (hX1.keep x.2).cell 0 _ rfl
  have x1 : ∀ x : Cls wa, x.1.cell? ⟨w.heap.size, 1, none⟩ = some (.slice am nm cm) := fun x => (hX1.keep x.2).cell 1 _ rfl
  have y0 : ∀ x : Cls wa, x.1.cell? ⟨w.heap.size + 1, 0, none⟩ = some (.int .i64 z.1) := fun x => (hX2.keep x.2).cell 0 _ rfl
  have y1 : ∀ x : Cls wa, x.1.cell? ⟨w.heap.size + 1, 1, none⟩ = some (.int .i64 z.2.1) := fun x => (hX2.keep x.2).cell 1 _ rfl
  have y2 : ∀ x : Cls wa, x.1.cell? ⟨w.heap.size + 1, 2, none⟩ = some (.slice a n cap) := fun x => (hX2.keep x.2).cell 2 _ rfl
  have y3 : ∀ x : Cls wa, x.1.cell? ⟨w.heap.size + 1, 3, none⟩ = some (.int .i64 z.2.2.2.1) := fun x => (hX2.keep x.2).cell 3 _ rfl
  have y4 : ∀ x : Cls wa, x.1.cell? ⟨w.heap.size + 1, 4, none⟩ = some (.string z.2.2.2.2) := fun x => (hX2.keep x.2).cell 4 _ rfl
  clear hn hm hz hI hR ea hba hX1 hX2
  haveI := Cls.ne wa
  go_enter Try.func4, Try.ntmps4
  go_wp2_with fail
  rw [← HEa.out]
  refine wp_region_cls wa (by kernel_rfl) (by kernel_rfl) ?_
  repeat (go_big_quiet_step ((first
    | (go_at_call 9; exact Cls.of _ (fun u hu => HL.out u hu))
    | (go_at_call 12; exact Cls.of _ (fun u hu => HX.out u hu))
    | (go_at_call 13; exact Cls.of _ (fun u hu => HY.out u hu)))))
  refine wpQuiet_nil ?_
  rintro _ ⟨x, rfl⟩
  go_wp2
  go_ret
  exact ⟨by simp, HB.out.trans (x.2.mono HB.out.size)⟩
end Go.Proofs.Ytpflcneoojakdaa
