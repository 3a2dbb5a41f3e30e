/- The program's Right. -/
import Derived.Test.YthoofboegchodaaChCM
import Derived.Test.YthoofboegchodaaKg1
import Derived.Test.YthoofboegchodaaKd1
namespace Go.Proofs.Ythoofboegchodaa
open Go.RowKit

theorem alloc_two (w : World) (o p : Obj) : ((w.alloc o).alloc p).heap[w.heap.size + 1]? = some p := by
  have h := heap_alloc_last (w.alloc o) p
  rw [show (w.alloc o).heap.size = w.heap.size + 1 by simp] at h
  exact h
set_option maxRecDepth 100000 in
set_option maxHeartbeats 3200000 in
theorem zproved_any (ep : Int) (am : Option Addr) (nm cm : Nat) (m : List Int) (hn : m.length = nm) (hm : nm ≤ maxLen) (y : Ct) (a8 : Option Addr) (kc : Nat) (hi : ep ≤ 9223372036854775807 ∧ y.1 ≤ 9223372036854775807 ∧ y.2.1 ≤ 9223372036854775807) (hb : y.2.2.1.b < 18446744073709551616) (hs : y.2.2.2.length ≤ maxLen) (w : World) (hI : IntsIn w am m) (hP : PairsIn w a8 y.2.2.2) :
    Calls Try.prog 42 #[.agg #[.int .i64 ep, .slice am nm cm], .agg #[.int .i64 y.1, .int .i64 y.2.1, .int .i64 y.2.2.1.c, .int .i64 y.2.2.1.st, .int .i64 y.2.2.1.k, .string y.2.2.1.key, .float .f64 y.2.2.1.b, .int .i64 y.2.2.1.id, .slice a8 y.2.2.2.length kc]] w fun e w' => e = .returned (.bool (provesB ep m (prT ep y.1 y.2.1 y.2.2.1) y.2.2.2)) ∧ Below w.heap.size w w' := by
  obtain ⟨wa, ea⟩ : ∃ wa, wa = (w.alloc (.cells #[.int .i64 ep, .slice am nm cm] 34)).alloc (.cells #[.int .i64 y.1, .int .i64 y.2.1, .int .i64 y.2.2.1.c, .int .i64 y.2.2.1.st, .int .i64 y.2.2.1.k, .string y.2.2.1.key, .float .f64 y.2.2.1.b, .int .i64 y.2.2.1.id, .slice a8 y.2.2.2.length kc] 52) := ⟨_, rfl⟩
  have hba : Below w.heap.size w wa := by rw [ea]; exact ((Below.refl _ _).alloc (Nat.le_refl _) _).alloc (by simp) _
  have hX1 : BxAt wa w.heap.size [.int .i64 ep, .slice am nm cm] 34 := by rw [ea]; exact (Below.heap_alloc _ _ _ (by simp)).trans (heap_alloc_last w _)
  have hX2 : BxAt wa (w.heap.size + 1) [.int .i64 y.1, .int .i64 y.2.1, .int .i64 y.2.2.1.c, .int .i64 y.2.2.1.st, .int .i64 y.2.2.1.k, .string y.2.2.1.key, .float .f64 y.2.2.1.b, .int .i64 y.2.2.1.id, .slice a8 y.2.2.2.length kc] 52 := by rw [ea]; exact alloc_two _ _ _
  have H0 := hid (And.intro hX1 (And.intro hX2 hba))
  have HEa := hid ea
  have HT : Hid (∀ u : World, Calls Try.prog 69 #[.int .i64 ep, .int .i64 y.1, .int .i64 y.2.1, .agg #[.int .i64 y.2.2.1.c, .int .i64 y.2.2.1.st, .int .i64 y.2.2.1.k, .string y.2.2.1.key, .float .f64 y.2.2.1.b, .int .i64 y.2.2.1.id]] u fun e w' => e = .returned (.tuple #[.string (prT ep y.1 y.2.1 y.2.2.1), .int .i64 (prE ep y.1 y.2.1 y.2.2.1)]) ∧ Below u.heap.size u w') := hid (fun u => dprepared_any ep y.1 y.2.1 hi y.2.2.1 hb u)
  have HV : Hid (∀ u : World, Below w.heap.size w u → Calls Try.prog 70 #[.agg #[.int .i64 ep, .slice am nm cm], .string (prT ep y.1 y.2.1 y.2.2.1), .slice a8 y.2.2.2.length kc] u fun e w' => e = .returned (.bool (provesB ep m (prT ep y.1 y.2.1 y.2.2.1) y.2.2.2)) ∧ Below u.heap.size u w') := hid (fun u hu => tproves_any ep am nm cm m hn hm _ a8 _ kc y.2.2.2 rfl hs u (hI.keep hu (Nat.le_refl _)) (hP.keep hu (Nat.le_refl _)))
  clear hn hm hi hb hs hI hP ea hba hX1 hX2
  generalize prT ep y.1 y.2.1 y.2.2.1 = tx at HT HV ⊢
  generalize prE ep y.1 y.2.1 y.2.2.1 = er at HT
  have x0 := H0.out.1.cell 0 _ rfl; have x1 := H0.out.1.cell 1 _ rfl
  have y0 := H0.out.2.1.cell 0 _ rfl; have y1 := H0.out.2.1.cell 1 _ rfl; have y2 := H0.out.2.1.cell 2 _ rfl; have y3 := H0.out.2.1.cell 3 _ rfl; have y4 := H0.out.2.1.cell 4 _ rfl; have y5 := H0.out.2.1.cell 5 _ rfl; have y6 := H0.out.2.1.cell 6 _ rfl; have y7 := H0.out.2.1.cell 7 _ rfl; have y8 := H0.out.2.1.cell 8 _ rfl
  go_enter Try.func42, Try.ntmps42
  go_wp2_with fail
  rw [← HEa.out]
  go_wp2_with (first
    | (have := H1; go_at_call 70; go_must (refine (HV.out _ H1.out.2.2).mono ?_); rintro e w2 ⟨rfl, hb⟩; have H2 := hid (H1.out.2.2.trans (hb.mono H1.out.2.2.size)); clear hb)
    | (go_at_call 69; go_must (refine (HT.out _).mono ?_); rintro e w1 ⟨rfl, hb⟩; have H1 := hid (And.intro (H0.out.1.keep hb) (And.intro (H0.out.2.1.keep hb) (H0.out.2.2.trans (hb.mono H0.out.2.2.size)))); clear hb x0 x1 y0 y1 y2 y3 y4 y5 y6 y7 y8; have x0 := H1.out.1.cell 0 _ rfl; have x1 := H1.out.1.cell 1 _ rfl; have y0 := H1.out.2.1.cell 0 _ rfl; have y1 := H1.out.2.1.cell 1 _ rfl; have y2 := H1.out.2.1.cell 2 _ rfl; have y3 := H1.out.2.1.cell 3 _ rfl; have y4 := H1.out.2.1.cell 4 _ rfl; have y5 := H1.out.2.1.cell 5 _ rfl; have y6 := H1.out.2.1.cell 6 _ rfl; have y7 := H1.out.2.1.cell 7 _ rfl; have y8 := H1.out.2.1.cell 8 _ rfl))
  go_ret
  exact ⟨rfl, H2.out⟩
set_option maxRecDepth 100000 in
set_option maxHeartbeats 6400000 in
theorem zright_any {F : Nat → Prop} (ep : Int) (am : Option Addr) (nm cm : Nat) (m : List Int) (hn : m.length = nm) (hm : nm ≤ maxLen) (z : Cg) (a : Option Addr) (n cap : Nat) (hz : cgR z) (w : World) (hI : IntsIn w am m) (hR : Reads F w (.slice a n cap) (dCts z.2.2.1)) :
    Calls Try.prog 12 #[.agg #[.int .i64 ep, .slice am nm cm], .agg #[.int .i64 z.1, .int .i64 z.2.1, .slice a n cap, .int .i64 z.2.2.2.1, .string z.2.2.2.2]] w fun e w' => e = .returned (.int .i64 (riE ep m z)) ∧ Below w.heap.size w w' := by
  obtain ⟨V, eV⟩ : ∃ V, V = riE ep m z := ⟨_, rfl⟩
  rw [← eV]
  obtain ⟨wa, ea⟩ : ∃ wa, wa = (w.alloc (.cells #[.int .i64 ep, .slice am nm cm] 34)).alloc (.cells #[.int .i64 z.1, .int .i64 z.2.1, .slice a n cap, .int .i64 z.2.2.2.1, .string z.2.2.2.2] 26) := ⟨_, rfl⟩
  have hba : Below w.heap.size w wa := by rw [ea]; exact ((Below.refl _ _).alloc (Nat.le_refl _) _).alloc (by simp) _
  have hX1 : BxAt wa w.heap.size [.int .i64 ep, .slice am nm cm] 34 := by rw [ea]; exact (Below.heap_alloc _ _ _ (by simp)).trans (heap_alloc_last w _)
  have hX2 : BxAt wa (w.heap.size + 1) [.int .i64 z.1, .int .i64 z.2.1, .slice a n cap, .int .i64 z.2.2.2.1, .string z.2.2.2.2] 26 := by rw [ea]; exact alloc_two _ _ _
  have H0 := hid (And.intro hX1 (And.intro hX2 hba))
  have HEa := hid ea
  have hnl : z.2.2.1.length = n := by
    obtain ⟨ad, cp, hv⟩ := hR.form
    rw [List.length_map] at hv
    cases hv
    rfl
  obtain ⟨B1, e1⟩ : ∃ B, B = rightC ep m := ⟨_, rfl⟩
  have HRi : Hid (∀ u : World, Below w.heap.size w u → Calls Try.prog 19 #[.agg #[.int .i64 ep, .slice am nm cm]] u fun e w' => e = .returned (.bool B1) ∧ Below u.heap.size u w') := hid (fun u hu => by rw [e1]; exact cright_any ep am nm cm m hn hm u (hI.keep hu (Nat.le_refl _)))
  obtain ⟨TX, eT⟩ : ∃ T, T = chT ep z := ⟨_, rfl⟩
  obtain ⟨E, eE⟩ : ∃ E, E = chE ep z := ⟨_, rfl⟩
  have HTx : Hid (∀ u : World, Below w.heap.size w u → Calls Try.prog 10 #[.int .i64 ep, .agg #[.int .i64 z.1, .int .i64 z.2.1, .slice a n cap, .int .i64 z.2.2.2.1, .string z.2.2.2.2]] u fun e w' => e = .returned (.tuple #[.string TX, .int .i64 E]) ∧ Below u.heap.size u w') := hid (fun u hu => by rw [eT, eE]; exact ztext_any ep z a n cap hz.2.1.1 hz.2.1.2 u (hR.under hu (Nat.le_refl _)))
  obtain ⟨B2, e2⟩ : ∃ B, B = hasM m z.1 := ⟨_, rfl⟩
  have HHa : Hid (∀ u : World, Below w.heap.size w u → Calls Try.prog 41 #[.agg #[.int .i64 ep, .slice am nm cm], .int .i64 z.1] u fun e w' => e = .returned (.bool B2) ∧ Below u.heap.size u w') := hid (fun u hu => by rw [e2]; exact chas_any ep am nm cm m hn hm z.1 u (hI.keep hu (Nat.le_refl _)))
  have HPr : Hid (∀ (y : Ct) (a8 : Option Addr) (kc : Nat) (u : World), ctR y → (ep ≤ 9223372036854775807) → Below w.heap.size w u → PairsIn u a8 y.2.2.2 → Calls Try.prog 42 #[.agg #[.int .i64 ep, .slice am nm cm], .agg #[.int .i64 y.1, .int .i64 y.2.1, .int .i64 y.2.2.1.c, .int .i64 y.2.2.1.st, .int .i64 y.2.2.1.k, .string y.2.2.1.key, .float .f64 y.2.2.1.b, .int .i64 y.2.2.1.id, .slice a8 y.2.2.2.length kc]] u fun e w' => e = .returned (.bool (provesB ep m (prT ep y.1 y.2.1 y.2.2.1) y.2.2.2)) ∧ Below u.heap.size u w') := hid (fun y a8 kc u hy he hu hp => zproved_any ep am nm cm m hn hm y a8 kc ⟨he, hy.1.1.2, hy.1.2.2⟩ hy.2.1.2.2.2 hy.2.2.1 u (hI.keep hu (Nat.le_refl _)) hp)
  have HZ := hid hz
  have HR := hid hR
  clear hn hm hz hI hR ea hba hX1 hX2
  have x0 := H0.out.1.cell 0 _ rfl; have x1 := H0.out.1.cell 1 _ rfl
  have y0 := H0.out.2.1.cell 0 _ rfl; have y1 := H0.out.2.1.cell 1 _ rfl; have y2 := H0.out.2.1.cell 2 _ rfl; have y3 := H0.out.2.1.cell 3 _ rfl; have y4 := H0.out.2.1.cell 4 _ rfl
  cases B1 with
  | false =>
    have hV : V = 1 := by rw [eV, riE, if_neg (by rw [← e1]; decide)]
    subst hV
    clear eV e1 eT eE e2 HTx HHa HPr HZ HR hnl
    go_enter Try.func12, Try.ntmps12
    go_wp2_with fail
    rw [← HEa.out]
    go_wp2_with (first
      | (go_at_call 19; go_must (refine (HRi.out _ H0.out.2.2).mono ?_); rintro e w1 ⟨rfl, hb⟩; have H1 : Hid (BxAt w1 w.heap.size [.int .i64 ep, .slice am nm cm] 34 ∧ BxAt w1 (w.heap.size + 1) [.int .i64 z.1, .int .i64 z.2.1, .slice a n cap, .int .i64 z.2.2.2.1, .string z.2.2.2.2] 26 ∧ Below w.heap.size w w1) := hid ⟨H0.out.1.keep hb, H0.out.2.1.keep hb, H0.out.2.2.trans (hb.mono H0.out.2.2.size)⟩; clear hb; clear x0 x1 y0 y1 y2 y3 y4; have x0 := H1.out.1.cell 0 _ rfl; have x1 := H1.out.1.cell 1 _ rfl; have y0 := H1.out.2.1.cell 0 _ rfl; have y1 := H1.out.2.1.cell 1 _ rfl; have y2 := H1.out.2.1.cell 2 _ rfl; have y3 := H1.out.2.1.cell 3 _ rfl; have y4 := H1.out.2.1.cell 4 _ rfl))
    go_ret
    exact ⟨rfl, H1.out.2.2⟩
  | true =>
    by_cases hE : ¬ E = 0
    · have hV : V = E := by rw [eV, riE, if_pos e1.symm, ← eE, if_neg hE]
      have hEb : (E != 0) = true := by simpa using hE
      subst hV
      clear eV e1 eT eE e2 HHa HPr HZ HR hnl hE
      go_enter Try.func12, Try.ntmps12
      go_wp2_with fail
      rw [← HEa.out]
      go_wp2_with (first
        | (have := H1; go_at_call 10; go_must (refine (HTx.out _ H1.out.2.2).mono ?_); rintro e w2 ⟨rfl, hb⟩; have H2 : Hid (BxAt w2 w.heap.size [.int .i64 ep, .slice am nm cm] 34 ∧ BxAt w2 (w.heap.size + 1) [.int .i64 z.1, .int .i64 z.2.1, .slice a n cap, .int .i64 z.2.2.2.1, .string z.2.2.2.2] 26 ∧ Below w.heap.size w w2) := hid ⟨H1.out.1.keep hb, H1.out.2.1.keep hb, H1.out.2.2.trans (hb.mono H1.out.2.2.size)⟩; clear hb; clear x0 x1 y0 y1 y2 y3 y4; have x0 := H2.out.1.cell 0 _ rfl; have x1 := H2.out.1.cell 1 _ rfl; have y0 := H2.out.2.1.cell 0 _ rfl; have y1 := H2.out.2.1.cell 1 _ rfl; have y2 := H2.out.2.1.cell 2 _ rfl; have y3 := H2.out.2.1.cell 3 _ rfl; have y4 := H2.out.2.1.cell 4 _ rfl)
        | (go_at_call 19; go_must (refine (HRi.out _ H0.out.2.2).mono ?_); rintro e w1 ⟨rfl, hb⟩; have H1 : Hid (BxAt w1 w.heap.size [.int .i64 ep, .slice am nm cm] 34 ∧ BxAt w1 (w.heap.size + 1) [.int .i64 z.1, .int .i64 z.2.1, .slice a n cap, .int .i64 z.2.2.2.1, .string z.2.2.2.2] 26 ∧ Below w.heap.size w w1) := hid ⟨H0.out.1.keep hb, H0.out.2.1.keep hb, H0.out.2.2.trans (hb.mono H0.out.2.2.size)⟩; clear hb; clear x0 x1 y0 y1 y2 y3 y4; have x0 := H1.out.1.cell 0 _ rfl; have x1 := H1.out.1.cell 1 _ rfl; have y0 := H1.out.2.1.cell 0 _ rfl; have y1 := H1.out.2.1.cell 1 _ rfl; have y2 := H1.out.2.1.cell 2 _ rfl; have y3 := H1.out.2.1.cell 3 _ rfl; have y4 := H1.out.2.1.cell 4 _ rfl))
      go_ret
      exact ⟨rfl, H2.out.2.2⟩
    have hE : E = 0 := Classical.not_not.1 hE
    subst hE
    have hep : ep ≤ 9223372036854775807 := by
      have := inB_iff (fi_parts (chE_ok eE.symm).1).1
      omega
    have hn4 : n ≤ 4 := by
      have := (cts_parts (fi_parts (chE_ok eE.symm).1).2.2.2).1
      omega
    cases B2 with
    | false =>
      have hV : V = 8 := by rw [eV, riE, if_pos e1.symm, ← eE, if_pos rfl, if_neg (by rw [← e2]; decide)]
      subst hV
      clear eV e1 eT eE e2 HPr HZ HR hnl hep hn4
      go_enter Try.func12, Try.ntmps12
      go_wp2_with fail
      rw [← HEa.out]
      go_wp2_with (first
        | (have := H2; go_at_call 41; go_must (refine (HHa.out _ H2.out.2.2).mono ?_); rintro e w3 ⟨rfl, hb⟩; have H3 : Hid (BxAt w3 w.heap.size [.int .i64 ep, .slice am nm cm] 34 ∧ BxAt w3 (w.heap.size + 1) [.int .i64 z.1, .int .i64 z.2.1, .slice a n cap, .int .i64 z.2.2.2.1, .string z.2.2.2.2] 26 ∧ Below w.heap.size w w3) := hid ⟨H2.out.1.keep hb, H2.out.2.1.keep hb, H2.out.2.2.trans (hb.mono H2.out.2.2.size)⟩; clear hb; clear x0 x1 y0 y1 y2 y3 y4; have x0 := H3.out.1.cell 0 _ rfl; have x1 := H3.out.1.cell 1 _ rfl; have y0 := H3.out.2.1.cell 0 _ rfl; have y1 := H3.out.2.1.cell 1 _ rfl; have y2 := H3.out.2.1.cell 2 _ rfl; have y3 := H3.out.2.1.cell 3 _ rfl; have y4 := H3.out.2.1.cell 4 _ rfl)
        | (have := H1; go_at_call 10; go_must (refine (HTx.out _ H1.out.2.2).mono ?_); rintro e w2 ⟨rfl, hb⟩; have H2 : Hid (BxAt w2 w.heap.size [.int .i64 ep, .slice am nm cm] 34 ∧ BxAt w2 (w.heap.size + 1) [.int .i64 z.1, .int .i64 z.2.1, .slice a n cap, .int .i64 z.2.2.2.1, .string z.2.2.2.2] 26 ∧ Below w.heap.size w w2) := hid ⟨H1.out.1.keep hb, H1.out.2.1.keep hb, H1.out.2.2.trans (hb.mono H1.out.2.2.size)⟩; clear hb; clear x0 x1 y0 y1 y2 y3 y4; have x0 := H2.out.1.cell 0 _ rfl; have x1 := H2.out.1.cell 1 _ rfl; have y0 := H2.out.2.1.cell 0 _ rfl; have y1 := H2.out.2.1.cell 1 _ rfl; have y2 := H2.out.2.1.cell 2 _ rfl; have y3 := H2.out.2.1.cell 3 _ rfl; have y4 := H2.out.2.1.cell 4 _ rfl)
        | (go_at_call 19; go_must (refine (HRi.out _ H0.out.2.2).mono ?_); rintro e w1 ⟨rfl, hb⟩; have H1 : Hid (BxAt w1 w.heap.size [.int .i64 ep, .slice am nm cm] 34 ∧ BxAt w1 (w.heap.size + 1) [.int .i64 z.1, .int .i64 z.2.1, .slice a n cap, .int .i64 z.2.2.2.1, .string z.2.2.2.2] 26 ∧ Below w.heap.size w w1) := hid ⟨H0.out.1.keep hb, H0.out.2.1.keep hb, H0.out.2.2.trans (hb.mono H0.out.2.2.size)⟩; clear hb; clear x0 x1 y0 y1 y2 y3 y4; have x0 := H1.out.1.cell 0 _ rfl; have x1 := H1.out.1.cell 1 _ rfl; have y0 := H1.out.2.1.cell 0 _ rfl; have y1 := H1.out.2.1.cell 1 _ rfl; have y2 := H1.out.2.1.cell 2 _ rfl; have y3 := H1.out.2.1.cell 3 _ rfl; have y4 := H1.out.2.1.cell 4 _ rfl))
      go_ret
      exact ⟨rfl, H3.out.2.2⟩
    | true =>
      have HV1 : Hid (V = if ceE ep m z.2.1 z.2.2.1 = 0 then (if z.2.2.2 = (z.1, TX) then 0 else 16) else ceE ep m z.2.1 z.2.2.1) := hid (by rw [eV, riE, if_pos e1.symm, ← eE, if_pos rfl, if_pos e2.symm, ← eT])
      have HN := hid hnl
      have HE := hid hep
      have hni : (n : Int) ≤ 4 := by omega
      clear eV e1 eT eE e2 hnl hep hn4
      go_enter Try.func12, Try.ntmps12
      go_wp2_with fail
      rw [← HEa.out]
      go_wp2_with (first
        | (have := H2; go_at_call 41; go_must (refine (HHa.out _ H2.out.2.2).mono ?_); rintro e w3 ⟨rfl, hb⟩; have H3 : Hid (BxAt w3 w.heap.size [.int .i64 ep, .slice am nm cm] 34 ∧ BxAt w3 (w.heap.size + 1) [.int .i64 z.1, .int .i64 z.2.1, .slice a n cap, .int .i64 z.2.2.2.1, .string z.2.2.2.2] 26 ∧ Below w.heap.size w w3) := hid ⟨H2.out.1.keep hb, H2.out.2.1.keep hb, H2.out.2.2.trans (hb.mono H2.out.2.2.size)⟩; clear hb; clear x0 x1 y0 y1 y2 y3 y4; have x0 := H3.out.1.cell 0 _ rfl; have x1 := H3.out.1.cell 1 _ rfl; have y0 := H3.out.2.1.cell 0 _ rfl; have y1 := H3.out.2.1.cell 1 _ rfl; have y2 := H3.out.2.1.cell 2 _ rfl; have y3 := H3.out.2.1.cell 3 _ rfl; have y4 := H3.out.2.1.cell 4 _ rfl)
        | (have := H1; go_at_call 10; go_must (refine (HTx.out _ H1.out.2.2).mono ?_); rintro e w2 ⟨rfl, hb⟩; have H2 : Hid (BxAt w2 w.heap.size [.int .i64 ep, .slice am nm cm] 34 ∧ BxAt w2 (w.heap.size + 1) [.int .i64 z.1, .int .i64 z.2.1, .slice a n cap, .int .i64 z.2.2.2.1, .string z.2.2.2.2] 26 ∧ Below w.heap.size w w2) := hid ⟨H1.out.1.keep hb, H1.out.2.1.keep hb, H1.out.2.2.trans (hb.mono H1.out.2.2.size)⟩; clear hb; clear x0 x1 y0 y1 y2 y3 y4; have x0 := H2.out.1.cell 0 _ rfl; have x1 := H2.out.1.cell 1 _ rfl; have y0 := H2.out.2.1.cell 0 _ rfl; have y1 := H2.out.2.1.cell 1 _ rfl; have y2 := H2.out.2.1.cell 2 _ rfl; have y3 := H2.out.2.1.cell 3 _ rfl; have y4 := H2.out.2.1.cell 4 _ rfl)
        | (go_at_call 19; go_must (refine (HRi.out _ H0.out.2.2).mono ?_); rintro e w1 ⟨rfl, hb⟩; have H1 : Hid (BxAt w1 w.heap.size [.int .i64 ep, .slice am nm cm] 34 ∧ BxAt w1 (w.heap.size + 1) [.int .i64 z.1, .int .i64 z.2.1, .slice a n cap, .int .i64 z.2.2.2.1, .string z.2.2.2.2] 26 ∧ Below w.heap.size w w1) := hid ⟨H0.out.1.keep hb, H0.out.2.1.keep hb, H0.out.2.2.trans (hb.mono H0.out.2.2.size)⟩; clear hb; clear x0 x1 y0 y1 y2 y3 y4; have x0 := H1.out.1.cell 0 _ rfl; have x1 := H1.out.1.cell 1 _ rfl; have y0 := H1.out.2.1.cell 0 _ rfl; have y1 := H1.out.2.1.cell 1 _ rfl; have y2 := H1.out.2.1.cell 2 _ rfl; have y3 := H1.out.2.1.cell 3 _ rfl; have y4 := H1.out.2.1.cell 4 _ rfl))
      clear x0 x1 y0 y1 y2 y3 y4
      go_loopw [30] (fun i wr => ∃ j : Nat, j ≤ n ∧ i = .int .i64 (j : Int) ∧ ceE ep m z.2.1 (z.2.2.1.take j) = 0 ∧ Below w3.heap.size w3 wr)
        (fun i _ => ((n : Int) - intOf i).toNat)
      case atStart => exact ⟨0, Nat.zero_le _, rfl, rfl, Below.refl _ _⟩
      case round =>
        obtain ⟨j, hj, rfl, hok, hB⟩ := hrel
        have H4 : Hid (BxAt wr w.heap.size [.int .i64 ep, .slice am nm cm] 34 ∧ BxAt wr (w.heap.size + 1) [.int .i64 z.1, .int .i64 z.2.1, .slice a n cap, .int .i64 z.2.2.2.1, .string z.2.2.2.2] 26 ∧ Below w.heap.size w wr) := hid ⟨H3.out.1.keep hB, H3.out.2.1.keep hB, H3.out.2.2.trans (hB.mono H3.out.2.2.size)⟩
        have HB := hid hB
        have HOk := hid hok
        clear hok hB
        have x0 := H4.out.1.cell 0 _ rfl; have x1 := H4.out.1.cell 1 _ rfl
        have y0 := H4.out.2.1.cell 0 _ rfl; have y1 := H4.out.2.1.cell 1 _ rfl; have y2 := H4.out.2.1.cell 2 _ rfl; have y3 := H4.out.2.1.cell 3 _ rfl; have y4 := H4.out.2.1.cell 4 _ rfl
        have hj0 : (0 : Int) ≤ (j : Int) := Int.natCast_nonneg _
        by_cases hjn : j = n
        · have hj1 : ¬ ((j : Int) < (n : Int)) := by omega
          have hce : ceE ep m z.2.1 z.2.2.1 = 0 := by
            have := HOk.out
            rw [hjn, ← HN.out, List.take_length] at this
            exact this
          have HV2 : Hid (V = if z.2.2.2 = (z.1, TX) then 0 else 16) := hid (by rw [HV1.out, if_pos hce])
          clear hj hjn hce
          by_cases hb1 : z.2.2.2.1 = z.1
          · have hbb1 : (z.2.2.2.1 == z.1) = true := by simpa using hb1
            by_cases hb2 : z.2.2.2.2 = TX
            · have hbb2 : (z.2.2.2.2.toList == TX.toList) = true := by rw [hb2]; simp
              have HV3 : Hid (V = 0) := hid (by rw [HV2.out, if_pos (Prod.ext hb1 hb2)])
              clear hb1 hb2
              go_wp2
              go_ret
              exact ⟨by rw [HV3.out]; rfl, H4.out.2.2⟩
            · have hbb2 : (z.2.2.2.2.toList == TX.toList) = false := by
                cases e : (z.2.2.2.2.toList == TX.toList) with
                | false => rfl
                | true => simp only [ByteArray.toList_eq, beq_iff_eq] at e; exact absurd (bytes_eq e) hb2
              have HV3 : Hid (V = 16) := hid (by rw [HV2.out, if_neg (fun e => hb2 (congrArg Prod.snd e))])
              clear hb1 hb2
              go_wp2
              go_ret
              exact ⟨by rw [HV3.out]; rfl, H4.out.2.2⟩
          · have hbb1 : (z.2.2.2.1 == z.1) = false := by simpa using hb1
            have HV3 : Hid (V = 16) := hid (by rw [HV2.out, if_neg (fun e => hb1 (congrArg Prod.fst e))])
            clear hb1
            go_wp2
            go_ret
            exact ⟨by rw [HV3.out]; rfl, H4.out.2.2⟩
        · have hj1 : (j : Int) < (n : Int) := by omega
          have hjl : j < z.2.2.1.length := by have := HN.out; omega
          have hR2 := HR.out
          rw [← HN.out] at hR2
          obtain ⟨g, off, cp, a8, kc, hv, hP, hg, hcl⟩ := ct_at (hR2.under H4.out.2.2 (Nat.le_refl _)) j hjl
          cases hv
          have HJ := hid (And.intro hj hjn)
          obtain ⟨hs1, hs2⟩ := ceE_step ep m z.2.1 z.2.2.1 j HOk.out hjl
          have HS1 := hid hs1
          have HS2 := hid hs2
          have HBj := hid (HZ.out.2.1.2 (z.2.2.1.getD j ct0) (by rw [List.getD_eq_getElem?_getD, List.getElem?_eq_getElem hjl]; exact List.getElem_mem hjl))
          generalize z.2.2.1.getD j ct0 = y at hcl hP HS1 HBj
          have HP := hid hP
          have k0 : wr.cell? ⟨g, off + j * 9, none⟩ = some (.int .i64 y.1) := hcl 0 _ rfl
          have k1 : wr.cell? ⟨g, off + j * 9 + 1, none⟩ = some (.int .i64 y.2.1) := hcl 1 _ rfl
          have k2 : wr.cell? ⟨g, off + j * 9 + 2, none⟩ = some (.int .i64 y.2.2.1.c) := hcl 2 _ rfl
          have k3 : wr.cell? ⟨g, off + j * 9 + 3, none⟩ = some (.int .i64 y.2.2.1.st) := hcl 3 _ rfl
          have k4 : wr.cell? ⟨g, off + j * 9 + 4, none⟩ = some (.int .i64 y.2.2.1.k) := hcl 4 _ rfl
          have k5 : wr.cell? ⟨g, off + j * 9 + 5, none⟩ = some (.string y.2.2.1.key) := hcl 5 _ rfl
          have k6 : wr.cell? ⟨g, off + j * 9 + 6, none⟩ = some (.float .f64 y.2.2.1.b) := hcl 6 _ rfl
          have k7 : wr.cell? ⟨g, off + j * 9 + 7, none⟩ = some (.int .i64 y.2.2.1.id) := hcl 7 _ rfl
          have k8 : wr.cell? ⟨g, off + j * 9 + 8, none⟩ = some (.slice a8 y.2.2.2.length kc) := hcl 8 _ rfl
          clear hj hjn hjl hP hg hcl hs1 hs2 hR2
          by_cases hvw : z.2.1 ≤ y.1
          · have HV2 : Hid (V = 13) := hid (by
              have h1 := HS1.out
              rw [if_pos hvw] at h1
              have h2 := HS2.out (by rw [h1]; decide)
              rw [HV1.out, if_neg (by rw [h2, h1]; decide), h2, h1])
            go_wp2_with (refine wl_store_blk rfl 52 _ _ rfl wr.heap.size 0 rfl #[.int .i64 y.1, .int .i64 y.2.1, .int .i64 y.2.2.1.c, .int .i64 y.2.2.1.st, .int .i64 y.2.2.1.k, .string y.2.2.1.key, .float .f64 y.2.2.1.b, .int .i64 y.2.2.1.id, .slice a8 y.2.2.2.length kc] rfl [.int .i64 0, .int .i64 0, .int .i64 0, .int .i64 0, .int .i64 0, .string ⟨#[]⟩, .float .f64 0, .int .i64 0, .slice none 0 0] 52 (heap_alloc_last wr _) (by simp) (by kernel_rfl) (by simp [Value.oneCell']) ?_; intro w5 Hz; go_must (have hb5 := Hz.out.2.below ((Below.refl wr.heap.size wr).alloc (Nat.le_refl _) _) (Nat.le_refl _); have H5 : Hid (BxAt w5 w.heap.size [.int .i64 ep, .slice am nm cm] 34 ∧ BxAt w5 (w.heap.size + 1) [.int .i64 z.1, .int .i64 z.2.1, .slice (some ⟨g, off, none⟩) n cap, .int .i64 z.2.2.2.1, .string z.2.2.2.2] 26 ∧ Below w.heap.size w w5 ∧ BxAt w5 wr.heap.size [.int .i64 y.1, .int .i64 y.2.1, .int .i64 y.2.2.1.c, .int .i64 y.2.2.1.st, .int .i64 y.2.2.1.k, .string y.2.2.1.key, .float .f64 y.2.2.1.b, .int .i64 y.2.2.1.id, .slice a8 y.2.2.2.length kc] 52 ∧ Below wr.heap.size wr w5) := hid ⟨H4.out.1.keep hb5, H4.out.2.1.keep hb5, H4.out.2.2.trans (hb5.mono H4.out.2.2.size), Hz.out.1, hb5⟩); clear Hz hb5 k0 k1 k2 k3 k4 k5 k6 k7 k8 x0 x1 y0 y1 y2 y3 y4; have x0 := H5.out.1.cell 0 _ rfl; have x1 := H5.out.1.cell 1 _ rfl; have y0 := H5.out.2.1.cell 0 _ rfl; have y1 := H5.out.2.1.cell 1 _ rfl; have y2 := H5.out.2.1.cell 2 _ rfl; have y3 := H5.out.2.1.cell 3 _ rfl; have y4 := H5.out.2.1.cell 4 _ rfl; have u0 := H5.out.2.2.2.1.cell 0 _ rfl; have u1 := H5.out.2.2.2.1.cell 1 _ rfl; have u2 := H5.out.2.2.2.1.cell 2 _ rfl; have u3 := H5.out.2.2.2.1.cell 3 _ rfl; have u4 := H5.out.2.2.2.1.cell 4 _ rfl; have u5 := H5.out.2.2.2.1.cell 5 _ rfl; have u6 := H5.out.2.2.2.1.cell 6 _ rfl; have u7 := H5.out.2.2.2.1.cell 7 _ rfl; have u8 := H5.out.2.2.2.1.cell 8 _ rfl)
            go_ret
            exact ⟨by rw [HV2.out]; rfl, H5.out.2.2.1⟩
          · have hvw2 : y.1 < z.2.1 := by omega
            cases hpb : provesB ep m (prT ep y.1 y.2.1 y.2.2.1) y.2.2.2 with
            | false =>
              have HV2 : Hid (V = 15) := hid (by
                have h1 := HS1.out
                rw [if_neg hvw, if_neg (by rw [hpb]; decide)] at h1
                have h2 := HS2.out (by rw [h1]; decide)
                rw [HV1.out, if_neg (by rw [h2, h1]; decide), h2, h1])
              have HQ : Hid (∀ u : World, Below w.heap.size w u → Below wr.heap.size wr u → Calls Try.prog 42 #[.agg #[.int .i64 ep, .slice am nm cm], .agg #[.int .i64 y.1, .int .i64 y.2.1, .int .i64 y.2.2.1.c, .int .i64 y.2.2.1.st, .int .i64 y.2.2.1.k, .string y.2.2.1.key, .float .f64 y.2.2.1.b, .int .i64 y.2.2.1.id, .slice a8 y.2.2.2.length kc]] u fun e w' => e = .returned (.bool false) ∧ Below u.heap.size u w') := hid (fun u h1 h2 => by
                have := HPr.out y a8 kc u HBj.out HE.out h1 (HP.out.keep h2 (Nat.le_refl _))
                rw [hpb] at this
                exact this)
              clear hpb
              go_wp2_with (first
                | (go_at_call 42; go_must (refine (HQ.out _ H5.out.2.2.1 H5.out.2.2.2.2).mono ?_); rintro e w6 ⟨rfl, hb⟩; have H6 := hid (H5.out.2.2.1.trans (hb.mono H5.out.2.2.1.size)); clear hb)
                | (refine wl_store_blk rfl 52 _ _ rfl wr.heap.size 0 rfl #[.int .i64 y.1, .int .i64 y.2.1, .int .i64 y.2.2.1.c, .int .i64 y.2.2.1.st, .int .i64 y.2.2.1.k, .string y.2.2.1.key, .float .f64 y.2.2.1.b, .int .i64 y.2.2.1.id, .slice a8 y.2.2.2.length kc] rfl [.int .i64 0, .int .i64 0, .int .i64 0, .int .i64 0, .int .i64 0, .string ⟨#[]⟩, .float .f64 0, .int .i64 0, .slice none 0 0] 52 (heap_alloc_last wr _) (by simp) (by kernel_rfl) (by simp [Value.oneCell']) ?_; intro w5 Hz; go_must (have hb5 := Hz.out.2.below ((Below.refl wr.heap.size wr).alloc (Nat.le_refl _) _) (Nat.le_refl _); have H5 : Hid (BxAt w5 w.heap.size [.int .i64 ep, .slice am nm cm] 34 ∧ BxAt w5 (w.heap.size + 1) [.int .i64 z.1, .int .i64 z.2.1, .slice (some ⟨g, off, none⟩) n cap, .int .i64 z.2.2.2.1, .string z.2.2.2.2] 26 ∧ Below w.heap.size w w5 ∧ BxAt w5 wr.heap.size [.int .i64 y.1, .int .i64 y.2.1, .int .i64 y.2.2.1.c, .int .i64 y.2.2.1.st, .int .i64 y.2.2.1.k, .string y.2.2.1.key, .float .f64 y.2.2.1.b, .int .i64 y.2.2.1.id, .slice a8 y.2.2.2.length kc] 52 ∧ Below wr.heap.size wr w5) := hid ⟨H4.out.1.keep hb5, H4.out.2.1.keep hb5, H4.out.2.2.trans (hb5.mono H4.out.2.2.size), Hz.out.1, hb5⟩); clear Hz hb5 k0 k1 k2 k3 k4 k5 k6 k7 k8 x0 x1 y0 y1 y2 y3 y4; have x0 := H5.out.1.cell 0 _ rfl; have x1 := H5.out.1.cell 1 _ rfl; have y0 := H5.out.2.1.cell 0 _ rfl; have y1 := H5.out.2.1.cell 1 _ rfl; have y2 := H5.out.2.1.cell 2 _ rfl; have y3 := H5.out.2.1.cell 3 _ rfl; have y4 := H5.out.2.1.cell 4 _ rfl; have u0 := H5.out.2.2.2.1.cell 0 _ rfl; have u1 := H5.out.2.2.2.1.cell 1 _ rfl; have u2 := H5.out.2.2.2.1.cell 2 _ rfl; have u3 := H5.out.2.2.2.1.cell 3 _ rfl; have u4 := H5.out.2.2.2.1.cell 4 _ rfl; have u5 := H5.out.2.2.2.1.cell 5 _ rfl; have u6 := H5.out.2.2.2.1.cell 6 _ rfl; have u7 := H5.out.2.2.2.1.cell 7 _ rfl; have u8 := H5.out.2.2.2.1.cell 8 _ rfl))
              go_ret
              exact ⟨by rw [HV2.out]; rfl, H6.out⟩
            | true =>
              have HO2 : Hid (ceE ep m z.2.1 (z.2.2.1.take (j + 1)) = 0) := hid (by
                have h1 := HS1.out
                rw [if_neg hvw, if_pos hpb] at h1
                exact h1)
              have HQ : Hid (∀ u : World, Below w.heap.size w u → Below wr.heap.size wr u → Calls Try.prog 42 #[.agg #[.int .i64 ep, .slice am nm cm], .agg #[.int .i64 y.1, .int .i64 y.2.1, .int .i64 y.2.2.1.c, .int .i64 y.2.2.1.st, .int .i64 y.2.2.1.k, .string y.2.2.1.key, .float .f64 y.2.2.1.b, .int .i64 y.2.2.1.id, .slice a8 y.2.2.2.length kc]] u fun e w' => e = .returned (.bool true) ∧ Below u.heap.size u w') := hid (fun u h1 h2 => by
                have := HPr.out y a8 kc u HBj.out HE.out h1 (HP.out.keep h2 (Nat.le_refl _))
                rw [hpb] at this
                exact this)
              clear hpb
              go_wp2_with (first
                | (go_at_call 42; go_must (refine (HQ.out _ H5.out.2.2.1 H5.out.2.2.2.2).mono ?_); rintro e w6 ⟨rfl, hb⟩; have H6 := hid (HB.out.trans ((H5.out.2.2.2.2.trans (hb.mono H5.out.2.2.2.2.size)).mono HB.out.size)); clear hb)
                | (refine wl_store_blk rfl 52 _ _ rfl wr.heap.size 0 rfl #[.int .i64 y.1, .int .i64 y.2.1, .int .i64 y.2.2.1.c, .int .i64 y.2.2.1.st, .int .i64 y.2.2.1.k, .string y.2.2.1.key, .float .f64 y.2.2.1.b, .int .i64 y.2.2.1.id, .slice a8 y.2.2.2.length kc] rfl [.int .i64 0, .int .i64 0, .int .i64 0, .int .i64 0, .int .i64 0, .string ⟨#[]⟩, .float .f64 0, .int .i64 0, .slice none 0 0] 52 (heap_alloc_last wr _) (by simp) (by kernel_rfl) (by simp [Value.oneCell']) ?_; intro w5 Hz; go_must (have hb5 := Hz.out.2.below ((Below.refl wr.heap.size wr).alloc (Nat.le_refl _) _) (Nat.le_refl _); have H5 : Hid (BxAt w5 w.heap.size [.int .i64 ep, .slice am nm cm] 34 ∧ BxAt w5 (w.heap.size + 1) [.int .i64 z.1, .int .i64 z.2.1, .slice (some ⟨g, off, none⟩) n cap, .int .i64 z.2.2.2.1, .string z.2.2.2.2] 26 ∧ Below w.heap.size w w5 ∧ BxAt w5 wr.heap.size [.int .i64 y.1, .int .i64 y.2.1, .int .i64 y.2.2.1.c, .int .i64 y.2.2.1.st, .int .i64 y.2.2.1.k, .string y.2.2.1.key, .float .f64 y.2.2.1.b, .int .i64 y.2.2.1.id, .slice a8 y.2.2.2.length kc] 52 ∧ Below wr.heap.size wr w5) := hid ⟨H4.out.1.keep hb5, H4.out.2.1.keep hb5, H4.out.2.2.trans (hb5.mono H4.out.2.2.size), Hz.out.1, hb5⟩); clear Hz hb5 k0 k1 k2 k3 k4 k5 k6 k7 k8 x0 x1 y0 y1 y2 y3 y4; have x0 := H5.out.1.cell 0 _ rfl; have x1 := H5.out.1.cell 1 _ rfl; have y0 := H5.out.2.1.cell 0 _ rfl; have y1 := H5.out.2.1.cell 1 _ rfl; have y2 := H5.out.2.1.cell 2 _ rfl; have y3 := H5.out.2.1.cell 3 _ rfl; have y4 := H5.out.2.1.cell 4 _ rfl; have u0 := H5.out.2.2.2.1.cell 0 _ rfl; have u1 := H5.out.2.2.2.1.cell 1 _ rfl; have u2 := H5.out.2.2.2.1.cell 2 _ rfl; have u3 := H5.out.2.2.2.1.cell 3 _ rfl; have u4 := H5.out.2.2.2.1.cell 4 _ rfl; have u5 := H5.out.2.2.2.1.cell 5 _ rfl; have u6 := H5.out.2.2.2.1.cell 6 _ rfl; have u7 := H5.out.2.2.2.1.cell 7 _ rfl; have u8 := H5.out.2.2.2.1.cell 8 _ rfl))
              go_roundw
              case rel => exact ⟨j + 1, by have := HJ.out; omega, by go_num, HO2.out, H6.out⟩
              case measure => simp [intOf]; omega
end Go.Proofs.Ythoofboegchodaa
