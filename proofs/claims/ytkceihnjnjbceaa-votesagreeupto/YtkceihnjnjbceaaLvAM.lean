/- The program's Valid: which link is good behind a configuration. -/
import Derived.Test.YtkceihnjnjbceaaLiAM
import Derived.Test.YtkceihnjnjbceaaTsDM
import Derived.Test.YtkceihnjnjbceaaKd1
namespace Go.Proofs.Ytkceihnjnjbceaa
open Go.RowKit

set_option maxRecDepth 100000 in
set_option maxHeartbeats 3200000 in
theorem lvalid_any (ep : Int) (a : Option Addr) (n cap : Nat) (l : List Int) (hn : l.length = n) (hm : n ≤ maxLen) (e2 : Int) (a2 : Option Addr) (n2 c2 : Nat) (l2 : List Int) (hn2 : l2.length = n2) (hm2 : n2 ≤ maxLen) (b : Option Addr) (m cp : Nat) (ss : List (Int × ByteArray)) (hsn : ss.length = m) (hsm : m ≤ maxLen) (w : World) (hI : IntsIn w a l) (hI2 : IntsIn w a2 l2) (hP : PairsIn w b ss) :
    Calls Try.prog 22 #[.agg #[.int .i64 ep, .slice a n cap], .agg #[.int .i64 e2, .slice a2 n2 c2, .slice b m cp]] w fun e w' => e = .returned (.int .i64 (validE ep l e2 l2 ss)) ∧ Below w.heap.size w w' := by
  have HR : Hid (∀ (B : Bool), rightC ep l = B → ∀ u : World, IntsIn u a l → Calls Try.prog 27 #[.agg #[.int .i64 ep, .slice a n cap]] u fun e w' => e = .returned (.bool B) ∧ Below u.heap.size u w') := hid (fun B hB u hu => by rw [← hB]; exact cright_any ep a n cap l hn hm u hu)
  have HT : Hid (∀ (E : Int), textE e2 l2 = E → ∀ u : World, IntsIn u a2 l2 → Calls Try.prog 30 #[.agg #[.int .i64 e2, .slice a2 n2 c2]] u fun e w' => e = .returned (.tuple #[.string (textC e2 l2), .int .i64 E]) ∧ Below u.heap.size u w') := hid (fun E hE u hu => by rw [← hE]; exact ctext_any e2 a2 n2 c2 l2 hn2 hm2 u hu)
  have HPv : Hid (∀ (B : Bool), provesB ep l (textC e2 l2) ss = B → ∀ u : World, IntsIn u a l → PairsIn u b ss → Calls Try.prog 23 #[.agg #[.int .i64 ep, .slice a n cap], .string (textC e2 l2), .slice b m cp] u fun e w' => e = .returned (.bool B) ∧ Below u.heap.size u w') := hid (fun B hB u hu hv => by rw [← hB]; exact tproves_any ep a n cap l hn hm (textC e2 l2) b m cp ss hsn hsm u hu hv)
  have H0 : Hid (VaSt w ep (.slice a n cap) e2 (.slice a2 n2 c2) (.slice b m cp) ((w.alloc (.cells #[.int .i64 ep, .slice a n cap] 24)).alloc (.cells #[.int .i64 e2, .slice a2 n2 c2, .slice b m cp] 49))) := hid
    ⟨(Below.heap_alloc _ _ _ (by simp)).trans (heap_alloc_last w _), snd_alloc w _ _, ((Below.refl _ _).alloc (Nat.le_refl _) _).alloc (by simp) _⟩
  have HD : Hid (∀ u : World, Below w.heap.size w u → IntsIn u a l ∧ IntsIn u a2 l2 ∧ PairsIn u b ss) := hid (fun u hu => ⟨hI.keep hu (Nat.le_refl _), hI2.keep hu (Nat.le_refl _), hP.keep hu (Nat.le_refl _)⟩)
  clear hI hI2 hP hn hm hn2 hm2 hsn hsm
  cases hr : rightC ep l with
  | false =>
    rw [show validE ep l e2 l2 ss = 1 by rw [validE, if_pos hr]]
    have HRb := hid (HR.out false hr)
    clear hr
    go_enter Try.func22, Try.ntmps22
    go_wp2_with (go_at_call 27; refine (HRb.out _ (by exact (HD.out _ H0.out.bel).1)).mono ?_; rintro e w1 ⟨rfl, hb1⟩; have H1 := hid (H0.out.keep hb1); clear hb1)
    go_ret
    exact ⟨rfl, H1.out.bel⟩
  | true =>
    have HRb := hid (HR.out true hr)
    have hep : 0 ≤ ep ∧ ep ≤ 60 := (right_mem hr).1
    have hep0 := hep.1
    have hep1 := hep.2
    clear hep
    cases hr2 : rightC e2 l2 with
    | false =>
      rw [show validE ep l e2 l2 ss = 1 by rw [validE, if_neg (by rw [hr]; decide), if_pos hr2]]
      have HTb := hid (HT.out 1 (by rw [textE, hr2]; rfl))
      clear hr hr2
      generalize textC e2 l2 = T at HTb
      go_enter Try.func22, Try.ntmps22
      go_wp2_with (first
        | (go_at_call 27; refine (HRb.out _ (by exact (HD.out _ H0.out.bel).1)).mono ?_; rintro e w1 ⟨rfl, hb1⟩; have H1 := hid (H0.out.keep hb1); clear hb1; have z0 := H1.out.ln.cells.1; have z1 := H1.out.ln.cells.2.1)
        | (go_at_call 30; refine (HTb.out _ (by exact (HD.out _ H1.out.bel).2.1)).mono ?_; rintro e w2 ⟨rfl, hb2⟩; have H2 := hid (H1.out.keep hb2); clear hb2; have y0 := H2.out.ln.cells.1; have y1 := (cell_two H2.out.old).1; have y2 := (cell_two H2.out.old).2; have y3 := H2.out.ln.cells.2.2))
      go_ret
      exact ⟨rfl, H2.out.bel⟩
    | true =>
      have HTb := hid (HT.out 0 (by rw [textE, hr2]; rfl))
      have he2 : e2 ≤ 60 := (right_mem hr2).1.2
      by_cases hz : e2 = ep + 1
      · have hzb : (e2 != ep + 1) = false := by simp [hz]
        have HV : Hid (∀ B, provesB ep l (textC e2 l2) ss = B → validE ep l e2 l2 ss = if B = false then 15 else 0) := hid (fun B hB => by rw [validE, if_neg (by rw [hr]; decide), if_neg (by rw [hr2]; decide), if_neg (fun h => h hz), hB])
        clear hr hr2 hz
        cases hp : provesB ep l (textC e2 l2) ss with
        | false =>
          rw [HV.out false hp, if_pos rfl]
          have HPb := hid (HPv.out false hp)
          clear hp
          generalize textC e2 l2 = T at HTb HPb
          go_enter Try.func22, Try.ntmps22
          go_wp2_with (first
            | (go_at_call 27; refine (HRb.out _ (by exact (HD.out _ H0.out.bel).1)).mono ?_; rintro e w1 ⟨rfl, hb1⟩; have H1 := hid (H0.out.keep hb1); clear hb1; have z0 := H1.out.ln.cells.1; have z1 := H1.out.ln.cells.2.1)
            | (go_at_call 30; refine (HTb.out _ (by exact (HD.out _ H1.out.bel).2.1)).mono ?_; rintro e w2 ⟨rfl, hb2⟩; have H2 := hid (H1.out.keep hb2); clear hb2; have y0 := H2.out.ln.cells.1; have y1 := (cell_two H2.out.old).1; have y2 := (cell_two H2.out.old).2; have y3 := H2.out.ln.cells.2.2)
            | (go_at_call 23; refine (HPb.out _ (by exact (HD.out _ H2.out.bel).1) (by exact (HD.out _ H2.out.bel).2.2)).mono ?_; rintro e w3 ⟨rfl, hb3⟩; have H3 := hid (H2.out.keep hb3); clear hb3))
          go_ret
          exact ⟨rfl, H3.out.bel⟩
        | true =>
          rw [HV.out true hp, if_neg (by decide)]
          have HPb := hid (HPv.out true hp)
          clear hp
          generalize textC e2 l2 = T at HTb HPb
          go_enter Try.func22, Try.ntmps22
          go_wp2_with (first
            | (go_at_call 27; refine (HRb.out _ (by exact (HD.out _ H0.out.bel).1)).mono ?_; rintro e w1 ⟨rfl, hb1⟩; have H1 := hid (H0.out.keep hb1); clear hb1; have z0 := H1.out.ln.cells.1; have z1 := H1.out.ln.cells.2.1)
            | (go_at_call 30; refine (HTb.out _ (by exact (HD.out _ H1.out.bel).2.1)).mono ?_; rintro e w2 ⟨rfl, hb2⟩; have H2 := hid (H1.out.keep hb2); clear hb2; have y0 := H2.out.ln.cells.1; have y1 := (cell_two H2.out.old).1; have y2 := (cell_two H2.out.old).2; have y3 := H2.out.ln.cells.2.2)
            | (go_at_call 23; refine (HPb.out _ (by exact (HD.out _ H2.out.bel).1) (by exact (HD.out _ H2.out.bel).2.2)).mono ?_; rintro e w3 ⟨rfl, hb3⟩; have H3 := hid (H2.out.keep hb3); clear hb3))
          go_ret
          exact ⟨rfl, H3.out.bel⟩
      · have hzb : (e2 != ep + 1) = true := by simpa using hz
        rw [show validE ep l e2 l2 ss = 12 by rw [validE, if_neg (by rw [hr]; decide), if_neg (by rw [hr2]; decide), if_pos hz]]
        clear hr hr2 hz
        generalize textC e2 l2 = T at HTb
        go_enter Try.func22, Try.ntmps22
        go_wp2_with (first
          | (go_at_call 27; refine (HRb.out _ (by exact (HD.out _ H0.out.bel).1)).mono ?_; rintro e w1 ⟨rfl, hb1⟩; have H1 := hid (H0.out.keep hb1); clear hb1; have z0 := H1.out.ln.cells.1; have z1 := H1.out.ln.cells.2.1)
          | (go_at_call 30; refine (HTb.out _ (by exact (HD.out _ H1.out.bel).2.1)).mono ?_; rintro e w2 ⟨rfl, hb2⟩; have H2 := hid (H1.out.keep hb2); clear hb2; have y0 := H2.out.ln.cells.1; have y1 := (cell_two H2.out.old).1; have y2 := (cell_two H2.out.old).2; have y3 := H2.out.ln.cells.2.2))
        go_ret
        exact ⟨rfl, H2.out.bel⟩
end Go.Proofs.Ytkceihnjnjbceaa
