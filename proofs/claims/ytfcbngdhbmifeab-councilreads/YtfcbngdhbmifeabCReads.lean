/- CouncilReads: the walk. -/
import Derived.Test.YtfcbngdhbmifeabCTexts
import Derived.Test.YtfcbngdhbmifeabCoJ
import Derived.Test.YtfcbngdhbmifeabGnJ
namespace Go.Proofs.Ytfcbngdhbmifeab
open Go.RowKit

/-- Two configurations side by side stay. -/
theorem two_stay {w u : World} {x y x2 y2 : Value} (h : Below ((w.alloc (.cells #[x, y] 24)).alloc (.cells #[x2, y2] 24)).heap.size ((w.alloc (.cells #[x, y] 24)).alloc (.cells #[x2, y2] 24)) u) :
    (u.cell? ⟨w.heap.size, 0, none⟩ = some x ∧ u.cell? ⟨w.heap.size, 1, none⟩ = some y) ∧ u.cell? ⟨w.heap.size + 1, 0, none⟩ = some x2 ∧ u.cell? ⟨w.heap.size + 1, 1, none⟩ = some y2 :=
  ⟨conf_stay ((Below.heap_alloc (w.alloc (.cells #[x, y] 24)) (.cells #[x2, y2] 24) w.heap.size (by simp)).trans (conf_cells w x y)) h (by simp; omega),
   conf_stay (snd_alloc w (.cells #[x, y] 24) (.cells #[x2, y2] 24)) h (by simp)⟩
/-- Unlike texts are told apart. -/
theorem text_ne {x y : ByteArray} (h : ¬ x = y) : (x.toList == y.toList) = false := by
  rw [beq_eq_false_iff_ne, ByteArray.toList_eq, ByteArray.toList_eq]
  intro he
  exact h (ByteArray.ext (Array.toList_inj.1 he))
set_option maxRecDepth 100000 in
set_option maxHeartbeats 3200000 in
theorem creads_An (ep : Int) (a : Option Addr) (n cap : Nat) (l : List Int) (hn : l.length = n) (hm : n ≤ maxLen) (ep2 : Int) (a2 : Option Addr) (n2 cap2 : Nat) (l2 : List Int) (hn2 : l2.length = n2) (hm2 : n2 ≤ maxLen) (t : ByteArray) (w : World) (hI : IntsIn w a l) (hI2 : IntsIn w a2 l2) (hr : rightC ep l = false) (hb : readB t = false) :
    Calls Try.prog 4 #[.agg #[.int .i64 ep, .slice a n cap], .agg #[.int .i64 ep2, .slice a2 n2 cap2], .string t] w fun e w' => e = .returned (.bool true) ∧ Below w.heap.size w w' := by
  have H0 : Hid (Below w.heap.size w ((w.alloc (.cells #[.int .i64 ep, .slice a n cap] 24)).alloc (.cells #[.int .i64 ep2, .slice a2 n2 cap2] 24))) := hid (((Below.refl w.heap.size w).alloc (Nat.le_refl _) _).alloc (by simp) _)
  have HJ1 := hid ((hI.alloc (.cells #[.int .i64 ep, .slice a n cap] 24)).alloc (.cells #[.int .i64 ep2, .slice a2 n2 cap2] 24))
  have HJ2 := hid ((hI2.alloc (.cells #[.int .i64 ep, .slice a n cap] 24)).alloc (.cells #[.int .i64 ep2, .slice a2 n2 cap2] 24))
  have HC1 : Hid (∀ u : World, IntsIn u a l → Calls Try.prog 6 #[.agg #[.int .i64 ep, .slice a n cap]] u fun e w' => e = .returned (.tuple #[.string ⟨#[]⟩, .int .i64 1]) ∧ Below u.heap.size u w') := hid (fun u hu => by have := ctext_any ep a n cap l hn hm u hu; rwa [textC, textE, hr] at this)
  obtain ⟨S2, eS2⟩ : ∃ S2, S2 = textC ep2 l2 := ⟨_, rfl⟩
  obtain ⟨E2, eE2⟩ : ∃ E2, E2 = textE ep2 l2 := ⟨_, rfl⟩
  have HC2 : Hid (∀ u : World, IntsIn u a2 l2 → Calls Try.prog 6 #[.agg #[.int .i64 ep2, .slice a2 n2 cap2]] u fun e w' => e = .returned (.tuple #[.string S2, .int .i64 E2]) ∧ Below u.heap.size u w') := hid (fun u hu => by rw [eS2, eE2]; exact ctext_any ep2 a2 n2 cap2 l2 hn2 hm2 u hu)
  have HR1 : Hid (∀ u : World, IntsIn u a l → Calls Try.prog 11 #[.agg #[.int .i64 ep, .slice a n cap]] u fun e w' => e = .returned (.bool false) ∧ Below u.heap.size u w') := hid (fun u hu => by have := cright_any ep a n cap l hn hm u hu; rwa [hr] at this)
  obtain ⟨M, eM⟩ : ∃ M, M = readM t := ⟨_, rfl⟩
  obtain ⟨N, eN⟩ : ∃ N, N = M.length := ⟨_, rfl⟩
  obtain ⟨Z, eZ⟩ : ∃ Z, Z = readZ t := ⟨_, rfl⟩
  have hNm : N ≤ maxLen := by rw [eN, eM]; exact readM_le t
  have HD2 : Hid (∀ u : World, Calls Try.prog 8 #[.string t] u fun e w' => ∃ ad cp, e = .returned (.tuple #[.agg #[.int .i64 Z, .slice ad N cp], .int .i64 5]) ∧ IntsIn w' ad M ∧ Below u.heap.size u w') := hid (fun u => (cread_any t u).mono fun e w' ⟨v, hee, ho⟩ => by
    obtain ⟨ad, cp, hv, hi⟩ := own_ints ho.own
    exact ⟨ad, cp, by rw [hee, hv, eZ, eN, eM, readE, hb]; rfl, by rw [eM]; exact hi, ho.bel⟩)
  clear hr eS2 eE2 hb eM eN eZ hNm hn hm hn2 hm2 hI hI2
  go_enter Try.func4, Try.ntmps4
  go_wp2_with (first
    | (go_at_call 5; refine (clives_any _).mono ?_; rintro e w1 ⟨rfl, hb1⟩; have H1 := hid hb1; clear hb1; obtain ⟨⟨c1, d1⟩, c2, d2⟩ := two_stay H1.out)
    | (go_at_call 6; have := H2; refine (HC2.out _ (HJ2.out.keep H2.out (Nat.le_refl _))).mono ?_; rintro e w3 ⟨rfl, hb3⟩; have H3 := hid (H2.out.trans (hb3.mono H2.out.size)); clear hb3; clear c1 d1 c2 d2; obtain ⟨⟨c1, d1⟩, c2, d2⟩ := two_stay H3.out)
    | (go_at_call 6; refine (HC1.out _ (HJ1.out.keep H1.out (Nat.le_refl _))).mono ?_; rintro e w2 ⟨rfl, hb2⟩; have H2 := hid (H1.out.trans (hb2.mono H1.out.size)); clear hb2; clear c1 d1 c2 d2; obtain ⟨⟨c1, d1⟩, c2, d2⟩ := two_stay H2.out)
    | (go_at_call 11; refine (HR1.out _ (HJ1.out.keep H3.out (Nat.le_refl _))).mono ?_; rintro e w4 ⟨rfl, hb4⟩; have H4 := hid (H3.out.trans (hb4.mono H3.out.size)); clear hb4; clear c1 d1 c2 d2; obtain ⟨⟨c1, d1⟩, c2, d2⟩ := two_stay H4.out)
    | (go_at_call 8; refine (HD2.out _).mono ?_; rintro e w8 ⟨ad8, cp8, rfl, hi8, hb8⟩; have H8 := hid (And.intro hi8 (H4.out.trans (hb8.mono H4.out.size))); clear hi8 hb8))
  go_ret
  have k1 := H0.out.trans (H8.out.2.mono H0.out.size)
  exact ⟨rfl, by first | exact k1 | exact k1.alloc k1.size _⟩
set_option maxRecDepth 100000 in
set_option maxHeartbeats 3200000 in
theorem creads_Ay (ep : Int) (a : Option Addr) (n cap : Nat) (l : List Int) (hn : l.length = n) (hm : n ≤ maxLen) (ep2 : Int) (a2 : Option Addr) (n2 cap2 : Nat) (l2 : List Int) (hn2 : l2.length = n2) (hm2 : n2 ≤ maxLen) (t : ByteArray) (w : World) (hI : IntsIn w a l) (hI2 : IntsIn w a2 l2) (hr : rightC ep l = false) (hb : readB t = true) :
    Calls Try.prog 4 #[.agg #[.int .i64 ep, .slice a n cap], .agg #[.int .i64 ep2, .slice a2 n2 cap2], .string t] w fun e w' => e = .returned (.bool true) ∧ Below w.heap.size w w' := by
  have H0 : Hid (Below w.heap.size w ((w.alloc (.cells #[.int .i64 ep, .slice a n cap] 24)).alloc (.cells #[.int .i64 ep2, .slice a2 n2 cap2] 24))) := hid (((Below.refl w.heap.size w).alloc (Nat.le_refl _) _).alloc (by simp) _)
  have HJ1 := hid ((hI.alloc (.cells #[.int .i64 ep, .slice a n cap] 24)).alloc (.cells #[.int .i64 ep2, .slice a2 n2 cap2] 24))
  have HJ2 := hid ((hI2.alloc (.cells #[.int .i64 ep, .slice a n cap] 24)).alloc (.cells #[.int .i64 ep2, .slice a2 n2 cap2] 24))
  have HC1 : Hid (∀ u : World, IntsIn u a l → Calls Try.prog 6 #[.agg #[.int .i64 ep, .slice a n cap]] u fun e w' => e = .returned (.tuple #[.string ⟨#[]⟩, .int .i64 1]) ∧ Below u.heap.size u w') := hid (fun u hu => by have := ctext_any ep a n cap l hn hm u hu; rwa [textC, textE, hr] at this)
  obtain ⟨S2, eS2⟩ : ∃ S2, S2 = textC ep2 l2 := ⟨_, rfl⟩
  obtain ⟨E2, eE2⟩ : ∃ E2, E2 = textE ep2 l2 := ⟨_, rfl⟩
  have HC2 : Hid (∀ u : World, IntsIn u a2 l2 → Calls Try.prog 6 #[.agg #[.int .i64 ep2, .slice a2 n2 cap2]] u fun e w' => e = .returned (.tuple #[.string S2, .int .i64 E2]) ∧ Below u.heap.size u w') := hid (fun u hu => by rw [eS2, eE2]; exact ctext_any ep2 a2 n2 cap2 l2 hn2 hm2 u hu)
  have HR1 : Hid (∀ u : World, IntsIn u a l → Calls Try.prog 11 #[.agg #[.int .i64 ep, .slice a n cap]] u fun e w' => e = .returned (.bool false) ∧ Below u.heap.size u w') := hid (fun u hu => by have := cright_any ep a n cap l hn hm u hu; rwa [hr] at this)
  obtain ⟨M, eM⟩ : ∃ M, M = readM t := ⟨_, rfl⟩
  obtain ⟨N, eN⟩ : ∃ N, N = M.length := ⟨_, rfl⟩
  obtain ⟨Z, eZ⟩ : ∃ Z, Z = readZ t := ⟨_, rfl⟩
  have hNm : N ≤ maxLen := by rw [eN, eM]; exact readM_le t
  have HD2 : Hid (∀ u : World, Calls Try.prog 8 #[.string t] u fun e w' => ∃ ad cp, e = .returned (.tuple #[.agg #[.int .i64 Z, .slice ad N cp], .int .i64 0]) ∧ IntsIn w' ad M ∧ Below u.heap.size u w') := hid (fun u => (cread_any t u).mono fun e w' ⟨v, hee, ho⟩ => by
    obtain ⟨ad, cp, hv, hi⟩ := own_ints ho.own
    exact ⟨ad, cp, by rw [hee, hv, eZ, eN, eM, readE, hb]; rfl, by rw [eM]; exact hi, ho.bel⟩)
  have HT2 : Hid (∀ (u : World) (ad : Option Addr) (cp : Nat), IntsIn u ad M → Calls Try.prog 6 #[.agg #[.int .i64 Z, .slice ad N cp]] u fun e w' => e = .returned (.tuple #[.string t, .int .i64 0]) ∧ Below u.heap.size u w') := hid (fun u ad cp hu => by
    obtain ⟨k1, k2⟩ := text_read t hb
    rw [← eZ, ← eM] at k1 k2
    have := ctext_any Z ad N cp M eN.symm hNm u hu
    rwa [k2, textE, k1] at this)
  have HR2 : Hid (∀ (u : World) (ad : Option Addr) (cp : Nat), IntsIn u ad M → Calls Try.prog 11 #[.agg #[.int .i64 Z, .slice ad N cp]] u fun e w' => e = .returned (.bool true) ∧ Below u.heap.size u w') := hid (fun u ad cp hu => by
    obtain ⟨k1, k2⟩ := text_read t hb
    rw [← eZ, ← eM] at k1
    have := cright_any Z ad N cp M eN.symm hNm u hu
    rwa [k1] at this)
  clear hr eS2 eE2 hb eM eN eZ hNm hn hm hn2 hm2 hI hI2
  go_enter Try.func4, Try.ntmps4
  go_wp2_with (first
    | (go_at_call 5; refine (clives_any _).mono ?_; rintro e w1 ⟨rfl, hb1⟩; have H1 := hid hb1; clear hb1; obtain ⟨⟨c1, d1⟩, c2, d2⟩ := two_stay H1.out)
    | (go_at_call 6; have := H8; refine (HT2.out _ _ _ (by exact H8.out.1.alloc _)).mono ?_; rintro e w9 ⟨rfl, hb9⟩; have H9 := hid hb9; clear hb9; obtain ⟨z0, z1⟩ := conf_stay (conf_cells w8 (.int .i64 Z) (.slice ad8 N cp8)) H9.out (by simp))
    | (go_at_call 11; have := H8; refine (HR2.out _ _ _ (by exact (H8.out.1.alloc _).keep H9.out (Nat.le_refl _))).mono ?_; rintro e w10 ⟨rfl, hb10⟩; have H10 := hid hb10; clear hb10)
    | (go_at_call 6; have := H2; refine (HC2.out _ (HJ2.out.keep H2.out (Nat.le_refl _))).mono ?_; rintro e w3 ⟨rfl, hb3⟩; have H3 := hid (H2.out.trans (hb3.mono H2.out.size)); clear hb3; clear c1 d1 c2 d2; obtain ⟨⟨c1, d1⟩, c2, d2⟩ := two_stay H3.out)
    | (go_at_call 6; refine (HC1.out _ (HJ1.out.keep H1.out (Nat.le_refl _))).mono ?_; rintro e w2 ⟨rfl, hb2⟩; have H2 := hid (H1.out.trans (hb2.mono H1.out.size)); clear hb2; clear c1 d1 c2 d2; obtain ⟨⟨c1, d1⟩, c2, d2⟩ := two_stay H2.out)
    | (go_at_call 11; refine (HR1.out _ (HJ1.out.keep H3.out (Nat.le_refl _))).mono ?_; rintro e w4 ⟨rfl, hb4⟩; have H4 := hid (H3.out.trans (hb4.mono H3.out.size)); clear hb4; clear c1 d1 c2 d2; obtain ⟨⟨c1, d1⟩, c2, d2⟩ := two_stay H4.out)
    | (go_at_call 8; refine (HD2.out _).mono ?_; rintro e w8 ⟨ad8, cp8, rfl, hi8, hb8⟩; have H8 := hid (And.intro hi8 (H4.out.trans (hb8.mono H4.out.size))); clear hi8 hb8))
  go_ret
  have k1 := H0.out.trans (H8.out.2.mono H0.out.size)
  have k2 := (k1.alloc k1.size (.cells #[.int .i64 Z, .slice ad8 N cp8] 24)).trans (H9.out.mono (by have := k1.size; simp; omega))
  exact ⟨rfl, k2.trans (H10.out.mono k2.size)⟩
set_option maxRecDepth 100000 in
set_option maxHeartbeats 3200000 in
theorem creads_Bn (ep : Int) (a : Option Addr) (n cap : Nat) (l : List Int) (hn : l.length = n) (hm : n ≤ maxLen) (ep2 : Int) (a2 : Option Addr) (n2 cap2 : Nat) (l2 : List Int) (hn2 : l2.length = n2) (hm2 : n2 ≤ maxLen) (t : ByteArray) (w : World) (hI : IntsIn w a l) (hI2 : IntsIn w a2 l2) (hr : rightC ep l = true) (hr2 : rightC ep2 l2 = false) (hb : readB t = false) :
    Calls Try.prog 4 #[.agg #[.int .i64 ep, .slice a n cap], .agg #[.int .i64 ep2, .slice a2 n2 cap2], .string t] w fun e w' => e = .returned (.bool true) ∧ Below w.heap.size w w' := by
  have H0 : Hid (Below w.heap.size w ((w.alloc (.cells #[.int .i64 ep, .slice a n cap] 24)).alloc (.cells #[.int .i64 ep2, .slice a2 n2 cap2] 24))) := hid (((Below.refl w.heap.size w).alloc (Nat.le_refl _) _).alloc (by simp) _)
  have HJ1 := hid ((hI.alloc (.cells #[.int .i64 ep, .slice a n cap] 24)).alloc (.cells #[.int .i64 ep2, .slice a2 n2 cap2] 24))
  have HJ2 := hid ((hI2.alloc (.cells #[.int .i64 ep, .slice a n cap] 24)).alloc (.cells #[.int .i64 ep2, .slice a2 n2 cap2] 24))
  obtain ⟨S, eS⟩ : ∃ S, S = textC ep l := ⟨_, rfl⟩
  have HC1 : Hid (∀ u : World, IntsIn u a l → Calls Try.prog 6 #[.agg #[.int .i64 ep, .slice a n cap]] u fun e w' => e = .returned (.tuple #[.string S, .int .i64 0]) ∧ Below u.heap.size u w') := hid (fun u hu => by have := ctext_any ep a n cap l hn hm u hu; rwa [← eS, textE, hr] at this)
  obtain ⟨S2, eS2⟩ : ∃ S2, S2 = textC ep2 l2 := ⟨_, rfl⟩
  have HC2 : Hid (∀ u : World, IntsIn u a2 l2 → Calls Try.prog 6 #[.agg #[.int .i64 ep2, .slice a2 n2 cap2]] u fun e w' => e = .returned (.tuple #[.string S2, .int .i64 1]) ∧ Below u.heap.size u w') := hid (fun u hu => by have := ctext_any ep2 a2 n2 cap2 l2 hn2 hm2 u hu; rwa [← eS2, textE, hr2] at this)
  have HR1 : Hid (∀ u : World, IntsIn u a l → Calls Try.prog 11 #[.agg #[.int .i64 ep, .slice a n cap]] u fun e w' => e = .returned (.bool true) ∧ Below u.heap.size u w') := hid (fun u hu => by have := cright_any ep a n cap l hn hm u hu; rwa [hr] at this)
  have HD1 : Hid (∀ u : World, Calls Try.prog 8 #[.string S] u fun e w' => ∃ ad cp, e = .returned (.tuple #[.agg #[.int .i64 ep, .slice ad n cp], .int .i64 0]) ∧ IntsIn w' ad l ∧ Below u.heap.size u w') := hid (fun u => (cread_any S u).mono fun e w' ⟨v, hee, ho⟩ => by
    obtain ⟨k1, k2, k3⟩ := read_text ep l hr
    rw [← eS] at k1 k2 k3
    obtain ⟨ad, cp, hv, hi⟩ := own_ints ho.own
    exact ⟨ad, cp, by rw [hee, hv, k2, k3, hn, readE, k1]; rfl, by rw [← k3]; exact hi, ho.bel⟩)
  have HS1 : Hid (∀ (u : World) (ad : Option Addr) (cp : Nat), IntsIn u ad l → IntsIn u a l → Calls Try.prog 12 #[.slice ad n cp, .slice a n cap] u fun e w' => e = .returned (.bool true) ∧ Below u.heap.size u w') := hid (fun u ad cp h1 h2 => sameInts_any ad a n cp cap l hn hm u h1 h2)
  obtain ⟨M, eM⟩ : ∃ M, M = readM t := ⟨_, rfl⟩
  obtain ⟨N, eN⟩ : ∃ N, N = M.length := ⟨_, rfl⟩
  obtain ⟨Z, eZ⟩ : ∃ Z, Z = readZ t := ⟨_, rfl⟩
  have hNm : N ≤ maxLen := by rw [eN, eM]; exact readM_le t
  have HD2 : Hid (∀ u : World, Calls Try.prog 8 #[.string t] u fun e w' => ∃ ad cp, e = .returned (.tuple #[.agg #[.int .i64 Z, .slice ad N cp], .int .i64 5]) ∧ IntsIn w' ad M ∧ Below u.heap.size u w') := hid (fun u => (cread_any t u).mono fun e w' ⟨v, hee, ho⟩ => by
    obtain ⟨ad, cp, hv, hi⟩ := own_ints ho.own
    exact ⟨ad, cp, by rw [hee, hv, eZ, eN, eM, readE, hb]; rfl, by rw [eM]; exact hi, ho.bel⟩)
  clear hr hr2 eS eS2 hb eM eN eZ hNm hn hm hn2 hm2 hI hI2
  go_enter Try.func4, Try.ntmps4
  go_wp2_with (first
    | (go_at_call 5; refine (clives_any _).mono ?_; rintro e w1 ⟨rfl, hb1⟩; have H1 := hid hb1; clear hb1; obtain ⟨⟨c1, d1⟩, c2, d2⟩ := two_stay H1.out)
    | (go_at_call 6; have := H2; refine (HC2.out _ (HJ2.out.keep H2.out (Nat.le_refl _))).mono ?_; rintro e w3 ⟨rfl, hb3⟩; have H3 := hid (H2.out.trans (hb3.mono H2.out.size)); clear hb3; clear c1 d1 c2 d2; obtain ⟨⟨c1, d1⟩, c2, d2⟩ := two_stay H3.out)
    | (go_at_call 6; refine (HC1.out _ (HJ1.out.keep H1.out (Nat.le_refl _))).mono ?_; rintro e w2 ⟨rfl, hb2⟩; have H2 := hid (H1.out.trans (hb2.mono H1.out.size)); clear hb2; clear c1 d1 c2 d2; obtain ⟨⟨c1, d1⟩, c2, d2⟩ := two_stay H2.out)
    | (go_at_call 11; refine (HR1.out _ (HJ1.out.keep H3.out (Nat.le_refl _))).mono ?_; rintro e w4 ⟨rfl, hb4⟩; have H4 := hid (H3.out.trans (hb4.mono H3.out.size)); clear hb4; clear c1 d1 c2 d2; obtain ⟨⟨c1, d1⟩, c2, d2⟩ := two_stay H4.out)
    | (go_at_call 12; have := H6; refine (HS1.out _ _ _ (by exact H6.out.1.alloc _) (by exact HJ1.out.keep H6.out.2 (Nat.le_refl _))).mono ?_; rintro e w7 ⟨rfl, hb7⟩; have H7 := hid (H6.out.2.trans (hb7.mono H6.out.2.size)); clear hb7 c1 d1 c2 d2)
    | (go_at_call 8; have := H7; refine (HD2.out _).mono ?_; rintro e w8 ⟨ad8, cp8, rfl, hi8, hb8⟩; have H8 := hid (And.intro hi8 (H7.out.trans (hb8.mono H7.out.size))); clear hi8 hb8)
    | (go_at_call 8; refine (HD1.out _).mono ?_; rintro e w6 ⟨ad6, cp6, rfl, hi6, hb6⟩; have k6 := H4.out.trans (hb6.mono H4.out.size); have H6 := hid (And.intro hi6 (k6.alloc k6.size (.cells #[.int .i64 ep, .slice ad6 n cp6] 24))); clear hi6 hb6 k6; clear c1 d1 c2 d2; obtain ⟨⟨c1, d1⟩, c2, d2⟩ := two_stay H6.out.2))
  go_ret
  have k1 := H0.out.trans (H8.out.2.mono H0.out.size)
  exact ⟨rfl, by first | exact k1 | exact k1.alloc k1.size _⟩
set_option maxRecDepth 100000 in
set_option maxHeartbeats 3200000 in
theorem creads_By (ep : Int) (a : Option Addr) (n cap : Nat) (l : List Int) (hn : l.length = n) (hm : n ≤ maxLen) (ep2 : Int) (a2 : Option Addr) (n2 cap2 : Nat) (l2 : List Int) (hn2 : l2.length = n2) (hm2 : n2 ≤ maxLen) (t : ByteArray) (w : World) (hI : IntsIn w a l) (hI2 : IntsIn w a2 l2) (hr : rightC ep l = true) (hr2 : rightC ep2 l2 = false) (hb : readB t = true) :
    Calls Try.prog 4 #[.agg #[.int .i64 ep, .slice a n cap], .agg #[.int .i64 ep2, .slice a2 n2 cap2], .string t] w fun e w' => e = .returned (.bool true) ∧ Below w.heap.size w w' := by
  have H0 : Hid (Below w.heap.size w ((w.alloc (.cells #[.int .i64 ep, .slice a n cap] 24)).alloc (.cells #[.int .i64 ep2, .slice a2 n2 cap2] 24))) := hid (((Below.refl w.heap.size w).alloc (Nat.le_refl _) _).alloc (by simp) _)
  have HJ1 := hid ((hI.alloc (.cells #[.int .i64 ep, .slice a n cap] 24)).alloc (.cells #[.int .i64 ep2, .slice a2 n2 cap2] 24))
  have HJ2 := hid ((hI2.alloc (.cells #[.int .i64 ep, .slice a n cap] 24)).alloc (.cells #[.int .i64 ep2, .slice a2 n2 cap2] 24))
  obtain ⟨S, eS⟩ : ∃ S, S = textC ep l := ⟨_, rfl⟩
  have HC1 : Hid (∀ u : World, IntsIn u a l → Calls Try.prog 6 #[.agg #[.int .i64 ep, .slice a n cap]] u fun e w' => e = .returned (.tuple #[.string S, .int .i64 0]) ∧ Below u.heap.size u w') := hid (fun u hu => by have := ctext_any ep a n cap l hn hm u hu; rwa [← eS, textE, hr] at this)
  obtain ⟨S2, eS2⟩ : ∃ S2, S2 = textC ep2 l2 := ⟨_, rfl⟩
  have HC2 : Hid (∀ u : World, IntsIn u a2 l2 → Calls Try.prog 6 #[.agg #[.int .i64 ep2, .slice a2 n2 cap2]] u fun e w' => e = .returned (.tuple #[.string S2, .int .i64 1]) ∧ Below u.heap.size u w') := hid (fun u hu => by have := ctext_any ep2 a2 n2 cap2 l2 hn2 hm2 u hu; rwa [← eS2, textE, hr2] at this)
  have HR1 : Hid (∀ u : World, IntsIn u a l → Calls Try.prog 11 #[.agg #[.int .i64 ep, .slice a n cap]] u fun e w' => e = .returned (.bool true) ∧ Below u.heap.size u w') := hid (fun u hu => by have := cright_any ep a n cap l hn hm u hu; rwa [hr] at this)
  have HD1 : Hid (∀ u : World, Calls Try.prog 8 #[.string S] u fun e w' => ∃ ad cp, e = .returned (.tuple #[.agg #[.int .i64 ep, .slice ad n cp], .int .i64 0]) ∧ IntsIn w' ad l ∧ Below u.heap.size u w') := hid (fun u => (cread_any S u).mono fun e w' ⟨v, hee, ho⟩ => by
    obtain ⟨k1, k2, k3⟩ := read_text ep l hr
    rw [← eS] at k1 k2 k3
    obtain ⟨ad, cp, hv, hi⟩ := own_ints ho.own
    exact ⟨ad, cp, by rw [hee, hv, k2, k3, hn, readE, k1]; rfl, by rw [← k3]; exact hi, ho.bel⟩)
  have HS1 : Hid (∀ (u : World) (ad : Option Addr) (cp : Nat), IntsIn u ad l → IntsIn u a l → Calls Try.prog 12 #[.slice ad n cp, .slice a n cap] u fun e w' => e = .returned (.bool true) ∧ Below u.heap.size u w') := hid (fun u ad cp h1 h2 => sameInts_any ad a n cp cap l hn hm u h1 h2)
  obtain ⟨M, eM⟩ : ∃ M, M = readM t := ⟨_, rfl⟩
  obtain ⟨N, eN⟩ : ∃ N, N = M.length := ⟨_, rfl⟩
  obtain ⟨Z, eZ⟩ : ∃ Z, Z = readZ t := ⟨_, rfl⟩
  have hNm : N ≤ maxLen := by rw [eN, eM]; exact readM_le t
  have HD2 : Hid (∀ u : World, Calls Try.prog 8 #[.string t] u fun e w' => ∃ ad cp, e = .returned (.tuple #[.agg #[.int .i64 Z, .slice ad N cp], .int .i64 0]) ∧ IntsIn w' ad M ∧ Below u.heap.size u w') := hid (fun u => (cread_any t u).mono fun e w' ⟨v, hee, ho⟩ => by
    obtain ⟨ad, cp, hv, hi⟩ := own_ints ho.own
    exact ⟨ad, cp, by rw [hee, hv, eZ, eN, eM, readE, hb]; rfl, by rw [eM]; exact hi, ho.bel⟩)
  have HT2 : Hid (∀ (u : World) (ad : Option Addr) (cp : Nat), IntsIn u ad M → Calls Try.prog 6 #[.agg #[.int .i64 Z, .slice ad N cp]] u fun e w' => e = .returned (.tuple #[.string t, .int .i64 0]) ∧ Below u.heap.size u w') := hid (fun u ad cp hu => by
    obtain ⟨k1, k2⟩ := text_read t hb
    rw [← eZ, ← eM] at k1 k2
    have := ctext_any Z ad N cp M eN.symm hNm u hu
    rwa [k2, textE, k1] at this)
  have HR2 : Hid (∀ (u : World) (ad : Option Addr) (cp : Nat), IntsIn u ad M → Calls Try.prog 11 #[.agg #[.int .i64 Z, .slice ad N cp]] u fun e w' => e = .returned (.bool true) ∧ Below u.heap.size u w') := hid (fun u ad cp hu => by
    obtain ⟨k1, k2⟩ := text_read t hb
    rw [← eZ, ← eM] at k1
    have := cright_any Z ad N cp M eN.symm hNm u hu
    rwa [k1] at this)
  clear hr hr2 eS eS2 hb eM eN eZ hNm hn hm hn2 hm2 hI hI2
  go_enter Try.func4, Try.ntmps4
  go_wp2_with (first
    | (go_at_call 5; refine (clives_any _).mono ?_; rintro e w1 ⟨rfl, hb1⟩; have H1 := hid hb1; clear hb1; obtain ⟨⟨c1, d1⟩, c2, d2⟩ := two_stay H1.out)
    | (go_at_call 6; have := H8; refine (HT2.out _ _ _ (by exact H8.out.1.alloc _)).mono ?_; rintro e w9 ⟨rfl, hb9⟩; have H9 := hid hb9; clear hb9; obtain ⟨z0, z1⟩ := conf_stay (conf_cells w8 (.int .i64 Z) (.slice ad8 N cp8)) H9.out (by simp))
    | (go_at_call 11; have := H8; refine (HR2.out _ _ _ (by exact (H8.out.1.alloc _).keep H9.out (Nat.le_refl _))).mono ?_; rintro e w10 ⟨rfl, hb10⟩; have H10 := hid hb10; clear hb10)
    | (go_at_call 6; have := H2; refine (HC2.out _ (HJ2.out.keep H2.out (Nat.le_refl _))).mono ?_; rintro e w3 ⟨rfl, hb3⟩; have H3 := hid (H2.out.trans (hb3.mono H2.out.size)); clear hb3; clear c1 d1 c2 d2; obtain ⟨⟨c1, d1⟩, c2, d2⟩ := two_stay H3.out)
    | (go_at_call 6; refine (HC1.out _ (HJ1.out.keep H1.out (Nat.le_refl _))).mono ?_; rintro e w2 ⟨rfl, hb2⟩; have H2 := hid (H1.out.trans (hb2.mono H1.out.size)); clear hb2; clear c1 d1 c2 d2; obtain ⟨⟨c1, d1⟩, c2, d2⟩ := two_stay H2.out)
    | (go_at_call 11; refine (HR1.out _ (HJ1.out.keep H3.out (Nat.le_refl _))).mono ?_; rintro e w4 ⟨rfl, hb4⟩; have H4 := hid (H3.out.trans (hb4.mono H3.out.size)); clear hb4; clear c1 d1 c2 d2; obtain ⟨⟨c1, d1⟩, c2, d2⟩ := two_stay H4.out)
    | (go_at_call 12; have := H6; refine (HS1.out _ _ _ (by exact H6.out.1.alloc _) (by exact HJ1.out.keep H6.out.2 (Nat.le_refl _))).mono ?_; rintro e w7 ⟨rfl, hb7⟩; have H7 := hid (H6.out.2.trans (hb7.mono H6.out.2.size)); clear hb7 c1 d1 c2 d2)
    | (go_at_call 8; have := H7; refine (HD2.out _).mono ?_; rintro e w8 ⟨ad8, cp8, rfl, hi8, hb8⟩; have H8 := hid (And.intro hi8 (H7.out.trans (hb8.mono H7.out.size))); clear hi8 hb8)
    | (go_at_call 8; refine (HD1.out _).mono ?_; rintro e w6 ⟨ad6, cp6, rfl, hi6, hb6⟩; have k6 := H4.out.trans (hb6.mono H4.out.size); have H6 := hid (And.intro hi6 (k6.alloc k6.size (.cells #[.int .i64 ep, .slice ad6 n cp6] 24))); clear hi6 hb6 k6; clear c1 d1 c2 d2; obtain ⟨⟨c1, d1⟩, c2, d2⟩ := two_stay H6.out.2))
  go_ret
  have k1 := H0.out.trans (H8.out.2.mono H0.out.size)
  have k2 := (k1.alloc k1.size (.cells #[.int .i64 Z, .slice ad8 N cp8] 24)).trans (H9.out.mono (by have := k1.size; simp; omega))
  exact ⟨rfl, k2.trans (H10.out.mono k2.size)⟩
set_option maxRecDepth 100000 in
set_option maxHeartbeats 3200000 in
theorem creads_Cn (ep : Int) (a : Option Addr) (n cap : Nat) (l : List Int) (hn : l.length = n) (hm : n ≤ maxLen) (ep2 : Int) (a2 : Option Addr) (n2 cap2 : Nat) (l2 : List Int) (hn2 : l2.length = n2) (hm2 : n2 ≤ maxLen) (t : ByteArray) (w : World) (hI : IntsIn w a l) (hI2 : IntsIn w a2 l2) (hr : rightC ep l = true) (hr2 : rightC ep2 l2 = true) (he : ep = ep2) (hl : l = l2) (hb : readB t = false) :
    Calls Try.prog 4 #[.agg #[.int .i64 ep, .slice a n cap], .agg #[.int .i64 ep2, .slice a2 n2 cap2], .string t] w fun e w' => e = .returned (.bool true) ∧ Below w.heap.size w w' := by
  subst he
  have H0 : Hid (Below w.heap.size w ((w.alloc (.cells #[.int .i64 ep, .slice a n cap] 24)).alloc (.cells #[.int .i64 ep, .slice a2 n2 cap2] 24))) := hid (((Below.refl w.heap.size w).alloc (Nat.le_refl _) _).alloc (by simp) _)
  have HJ1 := hid ((hI.alloc (.cells #[.int .i64 ep, .slice a n cap] 24)).alloc (.cells #[.int .i64 ep, .slice a2 n2 cap2] 24))
  have HJ2 := hid ((hI2.alloc (.cells #[.int .i64 ep, .slice a n cap] 24)).alloc (.cells #[.int .i64 ep, .slice a2 n2 cap2] 24))
  obtain ⟨S, eS⟩ : ∃ S, S = textC ep l := ⟨_, rfl⟩
  have HC1 : Hid (∀ u : World, IntsIn u a l → Calls Try.prog 6 #[.agg #[.int .i64 ep, .slice a n cap]] u fun e w' => e = .returned (.tuple #[.string S, .int .i64 0]) ∧ Below u.heap.size u w') := hid (fun u hu => by have := ctext_any ep a n cap l hn hm u hu; rwa [← eS, textE, hr] at this)
  have hS2 : textC ep l2 = S := by rw [eS, hl]
  have HC2 : Hid (∀ u : World, IntsIn u a2 l2 → Calls Try.prog 6 #[.agg #[.int .i64 ep, .slice a2 n2 cap2]] u fun e w' => e = .returned (.tuple #[.string S, .int .i64 0]) ∧ Below u.heap.size u w') := hid (fun u hu => by have := ctext_any ep a2 n2 cap2 l2 hn2 hm2 u hu; rwa [hS2, textE, hr2] at this)
  have HR1 : Hid (∀ u : World, IntsIn u a l → Calls Try.prog 11 #[.agg #[.int .i64 ep, .slice a n cap]] u fun e w' => e = .returned (.bool true) ∧ Below u.heap.size u w') := hid (fun u hu => by have := cright_any ep a n cap l hn hm u hu; rwa [hr] at this)
  have HS : Hid (∀ u : World, IntsIn u a l → IntsIn u a2 l2 → Calls Try.prog 12 #[.slice a n cap, .slice a2 n2 cap2] u fun e w' => e = .returned (.bool true) ∧ Below u.heap.size u w') := hid (fun u h1 h2 => by have := sameInts_all a a2 n n2 cap cap2 l l2 hn hn2 hm u h1 h2; rwa [decide_eq_true hl] at this)
  have HD1 : Hid (∀ u : World, Calls Try.prog 8 #[.string S] u fun e w' => ∃ ad cp, e = .returned (.tuple #[.agg #[.int .i64 ep, .slice ad n cp], .int .i64 0]) ∧ IntsIn w' ad l ∧ Below u.heap.size u w') := hid (fun u => (cread_any S u).mono fun e w' ⟨v, hee, ho⟩ => by
    obtain ⟨k1, k2, k3⟩ := read_text ep l hr
    rw [← eS] at k1 k2 k3
    obtain ⟨ad, cp, hv, hi⟩ := own_ints ho.own
    exact ⟨ad, cp, by rw [hee, hv, k2, k3, hn, readE, k1]; rfl, by rw [← k3]; exact hi, ho.bel⟩)
  have HS1 : Hid (∀ (u : World) (ad : Option Addr) (cp : Nat), IntsIn u ad l → IntsIn u a l → Calls Try.prog 12 #[.slice ad n cp, .slice a n cap] u fun e w' => e = .returned (.bool true) ∧ Below u.heap.size u w') := hid (fun u ad cp h1 h2 => sameInts_any ad a n cp cap l hn hm u h1 h2)
  obtain ⟨M, eM⟩ : ∃ M, M = readM t := ⟨_, rfl⟩
  obtain ⟨N, eN⟩ : ∃ N, N = M.length := ⟨_, rfl⟩
  obtain ⟨Z, eZ⟩ : ∃ Z, Z = readZ t := ⟨_, rfl⟩
  have hNm : N ≤ maxLen := by rw [eN, eM]; exact readM_le t
  have HD2 : Hid (∀ u : World, Calls Try.prog 8 #[.string t] u fun e w' => ∃ ad cp, e = .returned (.tuple #[.agg #[.int .i64 Z, .slice ad N cp], .int .i64 5]) ∧ IntsIn w' ad M ∧ Below u.heap.size u w') := hid (fun u => (cread_any t u).mono fun e w' ⟨v, hee, ho⟩ => by
    obtain ⟨ad, cp, hv, hi⟩ := own_ints ho.own
    exact ⟨ad, cp, by rw [hee, hv, eZ, eN, eM, readE, hb]; rfl, by rw [eM]; exact hi, ho.bel⟩)
  clear hl hS2
  clear hr hr2 eS hb eM eN eZ hNm hn hm hn2 hm2 hI hI2
  go_enter Try.func4, Try.ntmps4
  go_wp2_with (first
    | (go_at_call 5; refine (clives_any _).mono ?_; rintro e w1 ⟨rfl, hb1⟩; have H1 := hid hb1; clear hb1; obtain ⟨⟨c1, d1⟩, c2, d2⟩ := two_stay H1.out)
    | (go_at_call 6; have := H2; refine (HC2.out _ (HJ2.out.keep H2.out (Nat.le_refl _))).mono ?_; rintro e w3 ⟨rfl, hb3⟩; have H3 := hid (H2.out.trans (hb3.mono H2.out.size)); clear hb3; clear c1 d1 c2 d2; obtain ⟨⟨c1, d1⟩, c2, d2⟩ := two_stay H3.out)
    | (go_at_call 6; refine (HC1.out _ (HJ1.out.keep H1.out (Nat.le_refl _))).mono ?_; rintro e w2 ⟨rfl, hb2⟩; have H2 := hid (H1.out.trans (hb2.mono H1.out.size)); clear hb2; clear c1 d1 c2 d2; obtain ⟨⟨c1, d1⟩, c2, d2⟩ := two_stay H2.out)
    | (go_at_call 11; refine (HR1.out _ (HJ1.out.keep H3.out (Nat.le_refl _))).mono ?_; rintro e w4 ⟨rfl, hb4⟩; have H4 := hid (H3.out.trans (hb4.mono H3.out.size)); clear hb4; clear c1 d1 c2 d2; obtain ⟨⟨c1, d1⟩, c2, d2⟩ := two_stay H4.out)
    | (go_at_call 12; have := H6; refine (HS1.out _ _ _ (by exact H6.out.1.alloc _) (by exact HJ1.out.keep H6.out.2 (Nat.le_refl _))).mono ?_; rintro e w7 ⟨rfl, hb7⟩; have H7 := hid (H6.out.2.trans (hb7.mono H6.out.2.size)); clear hb7 c1 d1 c2 d2)
    | (go_at_call 12; refine (HS.out _ (HJ1.out.keep H4.out (Nat.le_refl _)) (HJ2.out.keep H4.out (Nat.le_refl _))).mono ?_; rintro e w5 ⟨rfl, hb5⟩; have H5 := hid (H4.out.trans (hb5.mono H4.out.size)); clear hb5; clear c1 d1 c2 d2; obtain ⟨⟨c1, d1⟩, c2, d2⟩ := two_stay H5.out)
    | (go_at_call 8; have := H7; refine (HD2.out _).mono ?_; rintro e w8 ⟨ad8, cp8, rfl, hi8, hb8⟩; have H8 := hid (And.intro hi8 (H7.out.trans (hb8.mono H7.out.size))); clear hi8 hb8)
    | (go_at_call 8; refine (HD1.out _).mono ?_; rintro e w6 ⟨ad6, cp6, rfl, hi6, hb6⟩; have k6 := H5.out.trans (hb6.mono H5.out.size); have H6 := hid (And.intro hi6 (k6.alloc k6.size (.cells #[.int .i64 ep, .slice ad6 n cp6] 24))); clear hi6 hb6 k6; clear c1 d1 c2 d2; obtain ⟨⟨c1, d1⟩, c2, d2⟩ := two_stay H6.out.2))
  go_ret
  have k1 := H0.out.trans (H8.out.2.mono H0.out.size)
  exact ⟨rfl, by first | exact k1 | exact k1.alloc k1.size _⟩
set_option maxRecDepth 100000 in
set_option maxHeartbeats 3200000 in
theorem creads_Cy (ep : Int) (a : Option Addr) (n cap : Nat) (l : List Int) (hn : l.length = n) (hm : n ≤ maxLen) (ep2 : Int) (a2 : Option Addr) (n2 cap2 : Nat) (l2 : List Int) (hn2 : l2.length = n2) (hm2 : n2 ≤ maxLen) (t : ByteArray) (w : World) (hI : IntsIn w a l) (hI2 : IntsIn w a2 l2) (hr : rightC ep l = true) (hr2 : rightC ep2 l2 = true) (he : ep = ep2) (hl : l = l2) (hb : readB t = true) :
    Calls Try.prog 4 #[.agg #[.int .i64 ep, .slice a n cap], .agg #[.int .i64 ep2, .slice a2 n2 cap2], .string t] w fun e w' => e = .returned (.bool true) ∧ Below w.heap.size w w' := by
  subst he
  have H0 : Hid (Below w.heap.size w ((w.alloc (.cells #[.int .i64 ep, .slice a n cap] 24)).alloc (.cells #[.int .i64 ep, .slice a2 n2 cap2] 24))) := hid (((Below.refl w.heap.size w).alloc (Nat.le_refl _) _).alloc (by simp) _)
  have HJ1 := hid ((hI.alloc (.cells #[.int .i64 ep, .slice a n cap] 24)).alloc (.cells #[.int .i64 ep, .slice a2 n2 cap2] 24))
  have HJ2 := hid ((hI2.alloc (.cells #[.int .i64 ep, .slice a n cap] 24)).alloc (.cells #[.int .i64 ep, .slice a2 n2 cap2] 24))
  obtain ⟨S, eS⟩ : ∃ S, S = textC ep l := ⟨_, rfl⟩
  have HC1 : Hid (∀ u : World, IntsIn u a l → Calls Try.prog 6 #[.agg #[.int .i64 ep, .slice a n cap]] u fun e w' => e = .returned (.tuple #[.string S, .int .i64 0]) ∧ Below u.heap.size u w') := hid (fun u hu => by have := ctext_any ep a n cap l hn hm u hu; rwa [← eS, textE, hr] at this)
  have hS2 : textC ep l2 = S := by rw [eS, hl]
  have HC2 : Hid (∀ u : World, IntsIn u a2 l2 → Calls Try.prog 6 #[.agg #[.int .i64 ep, .slice a2 n2 cap2]] u fun e w' => e = .returned (.tuple #[.string S, .int .i64 0]) ∧ Below u.heap.size u w') := hid (fun u hu => by have := ctext_any ep a2 n2 cap2 l2 hn2 hm2 u hu; rwa [hS2, textE, hr2] at this)
  have HR1 : Hid (∀ u : World, IntsIn u a l → Calls Try.prog 11 #[.agg #[.int .i64 ep, .slice a n cap]] u fun e w' => e = .returned (.bool true) ∧ Below u.heap.size u w') := hid (fun u hu => by have := cright_any ep a n cap l hn hm u hu; rwa [hr] at this)
  have HS : Hid (∀ u : World, IntsIn u a l → IntsIn u a2 l2 → Calls Try.prog 12 #[.slice a n cap, .slice a2 n2 cap2] u fun e w' => e = .returned (.bool true) ∧ Below u.heap.size u w') := hid (fun u h1 h2 => by have := sameInts_all a a2 n n2 cap cap2 l l2 hn hn2 hm u h1 h2; rwa [decide_eq_true hl] at this)
  have HD1 : Hid (∀ u : World, Calls Try.prog 8 #[.string S] u fun e w' => ∃ ad cp, e = .returned (.tuple #[.agg #[.int .i64 ep, .slice ad n cp], .int .i64 0]) ∧ IntsIn w' ad l ∧ Below u.heap.size u w') := hid (fun u => (cread_any S u).mono fun e w' ⟨v, hee, ho⟩ => by
    obtain ⟨k1, k2, k3⟩ := read_text ep l hr
    rw [← eS] at k1 k2 k3
    obtain ⟨ad, cp, hv, hi⟩ := own_ints ho.own
    exact ⟨ad, cp, by rw [hee, hv, k2, k3, hn, readE, k1]; rfl, by rw [← k3]; exact hi, ho.bel⟩)
  have HS1 : Hid (∀ (u : World) (ad : Option Addr) (cp : Nat), IntsIn u ad l → IntsIn u a l → Calls Try.prog 12 #[.slice ad n cp, .slice a n cap] u fun e w' => e = .returned (.bool true) ∧ Below u.heap.size u w') := hid (fun u ad cp h1 h2 => sameInts_any ad a n cp cap l hn hm u h1 h2)
  obtain ⟨M, eM⟩ : ∃ M, M = readM t := ⟨_, rfl⟩
  obtain ⟨N, eN⟩ : ∃ N, N = M.length := ⟨_, rfl⟩
  obtain ⟨Z, eZ⟩ : ∃ Z, Z = readZ t := ⟨_, rfl⟩
  have hNm : N ≤ maxLen := by rw [eN, eM]; exact readM_le t
  have HD2 : Hid (∀ u : World, Calls Try.prog 8 #[.string t] u fun e w' => ∃ ad cp, e = .returned (.tuple #[.agg #[.int .i64 Z, .slice ad N cp], .int .i64 0]) ∧ IntsIn w' ad M ∧ Below u.heap.size u w') := hid (fun u => (cread_any t u).mono fun e w' ⟨v, hee, ho⟩ => by
    obtain ⟨ad, cp, hv, hi⟩ := own_ints ho.own
    exact ⟨ad, cp, by rw [hee, hv, eZ, eN, eM, readE, hb]; rfl, by rw [eM]; exact hi, ho.bel⟩)
  have HT2 : Hid (∀ (u : World) (ad : Option Addr) (cp : Nat), IntsIn u ad M → Calls Try.prog 6 #[.agg #[.int .i64 Z, .slice ad N cp]] u fun e w' => e = .returned (.tuple #[.string t, .int .i64 0]) ∧ Below u.heap.size u w') := hid (fun u ad cp hu => by
    obtain ⟨k1, k2⟩ := text_read t hb
    rw [← eZ, ← eM] at k1 k2
    have := ctext_any Z ad N cp M eN.symm hNm u hu
    rwa [k2, textE, k1] at this)
  have HR2 : Hid (∀ (u : World) (ad : Option Addr) (cp : Nat), IntsIn u ad M → Calls Try.prog 11 #[.agg #[.int .i64 Z, .slice ad N cp]] u fun e w' => e = .returned (.bool true) ∧ Below u.heap.size u w') := hid (fun u ad cp hu => by
    obtain ⟨k1, k2⟩ := text_read t hb
    rw [← eZ, ← eM] at k1
    have := cright_any Z ad N cp M eN.symm hNm u hu
    rwa [k1] at this)
  clear hl hS2
  clear hr hr2 eS hb eM eN eZ hNm hn hm hn2 hm2 hI hI2
  go_enter Try.func4, Try.ntmps4
  go_wp2_with (first
    | (go_at_call 5; refine (clives_any _).mono ?_; rintro e w1 ⟨rfl, hb1⟩; have H1 := hid hb1; clear hb1; obtain ⟨⟨c1, d1⟩, c2, d2⟩ := two_stay H1.out)
    | (go_at_call 6; have := H8; refine (HT2.out _ _ _ (by exact H8.out.1.alloc _)).mono ?_; rintro e w9 ⟨rfl, hb9⟩; have H9 := hid hb9; clear hb9; obtain ⟨z0, z1⟩ := conf_stay (conf_cells w8 (.int .i64 Z) (.slice ad8 N cp8)) H9.out (by simp))
    | (go_at_call 11; have := H8; refine (HR2.out _ _ _ (by exact (H8.out.1.alloc _).keep H9.out (Nat.le_refl _))).mono ?_; rintro e w10 ⟨rfl, hb10⟩; have H10 := hid hb10; clear hb10)
    | (go_at_call 6; have := H2; refine (HC2.out _ (HJ2.out.keep H2.out (Nat.le_refl _))).mono ?_; rintro e w3 ⟨rfl, hb3⟩; have H3 := hid (H2.out.trans (hb3.mono H2.out.size)); clear hb3; clear c1 d1 c2 d2; obtain ⟨⟨c1, d1⟩, c2, d2⟩ := two_stay H3.out)
    | (go_at_call 6; refine (HC1.out _ (HJ1.out.keep H1.out (Nat.le_refl _))).mono ?_; rintro e w2 ⟨rfl, hb2⟩; have H2 := hid (H1.out.trans (hb2.mono H1.out.size)); clear hb2; clear c1 d1 c2 d2; obtain ⟨⟨c1, d1⟩, c2, d2⟩ := two_stay H2.out)
    | (go_at_call 11; refine (HR1.out _ (HJ1.out.keep H3.out (Nat.le_refl _))).mono ?_; rintro e w4 ⟨rfl, hb4⟩; have H4 := hid (H3.out.trans (hb4.mono H3.out.size)); clear hb4; clear c1 d1 c2 d2; obtain ⟨⟨c1, d1⟩, c2, d2⟩ := two_stay H4.out)
    | (go_at_call 12; have := H6; refine (HS1.out _ _ _ (by exact H6.out.1.alloc _) (by exact HJ1.out.keep H6.out.2 (Nat.le_refl _))).mono ?_; rintro e w7 ⟨rfl, hb7⟩; have H7 := hid (H6.out.2.trans (hb7.mono H6.out.2.size)); clear hb7 c1 d1 c2 d2)
    | (go_at_call 12; refine (HS.out _ (HJ1.out.keep H4.out (Nat.le_refl _)) (HJ2.out.keep H4.out (Nat.le_refl _))).mono ?_; rintro e w5 ⟨rfl, hb5⟩; have H5 := hid (H4.out.trans (hb5.mono H4.out.size)); clear hb5; clear c1 d1 c2 d2; obtain ⟨⟨c1, d1⟩, c2, d2⟩ := two_stay H5.out)
    | (go_at_call 8; have := H7; refine (HD2.out _).mono ?_; rintro e w8 ⟨ad8, cp8, rfl, hi8, hb8⟩; have H8 := hid (And.intro hi8 (H7.out.trans (hb8.mono H7.out.size))); clear hi8 hb8)
    | (go_at_call 8; refine (HD1.out _).mono ?_; rintro e w6 ⟨ad6, cp6, rfl, hi6, hb6⟩; have k6 := H5.out.trans (hb6.mono H5.out.size); have H6 := hid (And.intro hi6 (k6.alloc k6.size (.cells #[.int .i64 ep, .slice ad6 n cp6] 24))); clear hi6 hb6 k6; clear c1 d1 c2 d2; obtain ⟨⟨c1, d1⟩, c2, d2⟩ := two_stay H6.out.2))
  go_ret
  have k1 := H0.out.trans (H8.out.2.mono H0.out.size)
  have k2 := (k1.alloc k1.size (.cells #[.int .i64 Z, .slice ad8 N cp8] 24)).trans (H9.out.mono (by have := k1.size; simp; omega))
  exact ⟨rfl, k2.trans (H10.out.mono k2.size)⟩
set_option maxRecDepth 100000 in
set_option maxHeartbeats 3200000 in
theorem creads_Dn (ep : Int) (a : Option Addr) (n cap : Nat) (l : List Int) (hn : l.length = n) (hm : n ≤ maxLen) (ep2 : Int) (a2 : Option Addr) (n2 cap2 : Nat) (l2 : List Int) (hn2 : l2.length = n2) (hm2 : n2 ≤ maxLen) (t : ByteArray) (w : World) (hI : IntsIn w a l) (hI2 : IntsIn w a2 l2) (hr : rightC ep l = true) (hr2 : rightC ep2 l2 = true) (he : ¬ ep = ep2) (hb : readB t = false) :
    Calls Try.prog 4 #[.agg #[.int .i64 ep, .slice a n cap], .agg #[.int .i64 ep2, .slice a2 n2 cap2], .string t] w fun e w' => e = .returned (.bool true) ∧ Below w.heap.size w w' := by
  have H0 : Hid (Below w.heap.size w ((w.alloc (.cells #[.int .i64 ep, .slice a n cap] 24)).alloc (.cells #[.int .i64 ep2, .slice a2 n2 cap2] 24))) := hid (((Below.refl w.heap.size w).alloc (Nat.le_refl _) _).alloc (by simp) _)
  have HJ1 := hid ((hI.alloc (.cells #[.int .i64 ep, .slice a n cap] 24)).alloc (.cells #[.int .i64 ep2, .slice a2 n2 cap2] 24))
  have HJ2 := hid ((hI2.alloc (.cells #[.int .i64 ep, .slice a n cap] 24)).alloc (.cells #[.int .i64 ep2, .slice a2 n2 cap2] 24))
  obtain ⟨S, eS⟩ : ∃ S, S = textC ep l := ⟨_, rfl⟩
  have HC1 : Hid (∀ u : World, IntsIn u a l → Calls Try.prog 6 #[.agg #[.int .i64 ep, .slice a n cap]] u fun e w' => e = .returned (.tuple #[.string S, .int .i64 0]) ∧ Below u.heap.size u w') := hid (fun u hu => by have := ctext_any ep a n cap l hn hm u hu; rwa [← eS, textE, hr] at this)
  obtain ⟨S2, eS2⟩ : ∃ S2, S2 = textC ep2 l2 := ⟨_, rfl⟩
  have HC2 : Hid (∀ u : World, IntsIn u a2 l2 → Calls Try.prog 6 #[.agg #[.int .i64 ep2, .slice a2 n2 cap2]] u fun e w' => e = .returned (.tuple #[.string S2, .int .i64 0]) ∧ Below u.heap.size u w') := hid (fun u hu => by have := ctext_any ep2 a2 n2 cap2 l2 hn2 hm2 u hu; rwa [← eS2, textE, hr2] at this)
  have hSS : (S.toList == S2.toList) = false := by
    rw [eS, eS2]
    refine text_ne (fun h => ?_)
    have := text_inj ep ep2 l l2 hr hr2 h
    exact he this.1
  have HR1 : Hid (∀ u : World, IntsIn u a l → Calls Try.prog 11 #[.agg #[.int .i64 ep, .slice a n cap]] u fun e w' => e = .returned (.bool true) ∧ Below u.heap.size u w') := hid (fun u hu => by have := cright_any ep a n cap l hn hm u hu; rwa [hr] at this)
  have HD1 : Hid (∀ u : World, Calls Try.prog 8 #[.string S] u fun e w' => ∃ ad cp, e = .returned (.tuple #[.agg #[.int .i64 ep, .slice ad n cp], .int .i64 0]) ∧ IntsIn w' ad l ∧ Below u.heap.size u w') := hid (fun u => (cread_any S u).mono fun e w' ⟨v, hee, ho⟩ => by
    obtain ⟨k1, k2, k3⟩ := read_text ep l hr
    rw [← eS] at k1 k2 k3
    obtain ⟨ad, cp, hv, hi⟩ := own_ints ho.own
    exact ⟨ad, cp, by rw [hee, hv, k2, k3, hn, readE, k1]; rfl, by rw [← k3]; exact hi, ho.bel⟩)
  have HS1 : Hid (∀ (u : World) (ad : Option Addr) (cp : Nat), IntsIn u ad l → IntsIn u a l → Calls Try.prog 12 #[.slice ad n cp, .slice a n cap] u fun e w' => e = .returned (.bool true) ∧ Below u.heap.size u w') := hid (fun u ad cp h1 h2 => sameInts_any ad a n cp cap l hn hm u h1 h2)
  obtain ⟨M, eM⟩ : ∃ M, M = readM t := ⟨_, rfl⟩
  obtain ⟨N, eN⟩ : ∃ N, N = M.length := ⟨_, rfl⟩
  obtain ⟨Z, eZ⟩ : ∃ Z, Z = readZ t := ⟨_, rfl⟩
  have hNm : N ≤ maxLen := by rw [eN, eM]; exact readM_le t
  have HD2 : Hid (∀ u : World, Calls Try.prog 8 #[.string t] u fun e w' => ∃ ad cp, e = .returned (.tuple #[.agg #[.int .i64 Z, .slice ad N cp], .int .i64 5]) ∧ IntsIn w' ad M ∧ Below u.heap.size u w') := hid (fun u => (cread_any t u).mono fun e w' ⟨v, hee, ho⟩ => by
    obtain ⟨ad, cp, hv, hi⟩ := own_ints ho.own
    exact ⟨ad, cp, by rw [hee, hv, eZ, eN, eM, readE, hb]; rfl, by rw [eM]; exact hi, ho.bel⟩)
  clear hr hr2 eS eS2 hb eM eN eZ hNm hn hm hn2 hm2 hI hI2
  go_enter Try.func4, Try.ntmps4
  go_wp2_with (first
    | (go_at_call 5; refine (clives_any _).mono ?_; rintro e w1 ⟨rfl, hb1⟩; have H1 := hid hb1; clear hb1; obtain ⟨⟨c1, d1⟩, c2, d2⟩ := two_stay H1.out)
    | (go_at_call 6; have := H2; refine (HC2.out _ (HJ2.out.keep H2.out (Nat.le_refl _))).mono ?_; rintro e w3 ⟨rfl, hb3⟩; have H3 := hid (H2.out.trans (hb3.mono H2.out.size)); clear hb3; clear c1 d1 c2 d2; obtain ⟨⟨c1, d1⟩, c2, d2⟩ := two_stay H3.out)
    | (go_at_call 6; refine (HC1.out _ (HJ1.out.keep H1.out (Nat.le_refl _))).mono ?_; rintro e w2 ⟨rfl, hb2⟩; have H2 := hid (H1.out.trans (hb2.mono H1.out.size)); clear hb2; clear c1 d1 c2 d2; obtain ⟨⟨c1, d1⟩, c2, d2⟩ := two_stay H2.out)
    | (go_at_call 11; refine (HR1.out _ (HJ1.out.keep H3.out (Nat.le_refl _))).mono ?_; rintro e w4 ⟨rfl, hb4⟩; have H4 := hid (H3.out.trans (hb4.mono H3.out.size)); clear hb4; clear c1 d1 c2 d2; obtain ⟨⟨c1, d1⟩, c2, d2⟩ := two_stay H4.out)
    | (go_at_call 12; have := H6; refine (HS1.out _ _ _ (by exact H6.out.1.alloc _) (by exact HJ1.out.keep H6.out.2 (Nat.le_refl _))).mono ?_; rintro e w7 ⟨rfl, hb7⟩; have H7 := hid (H6.out.2.trans (hb7.mono H6.out.2.size)); clear hb7 c1 d1 c2 d2)
    | (go_at_call 8; have := H7; refine (HD2.out _).mono ?_; rintro e w8 ⟨ad8, cp8, rfl, hi8, hb8⟩; have H8 := hid (And.intro hi8 (H7.out.trans (hb8.mono H7.out.size))); clear hi8 hb8)
    | (go_at_call 8; refine (HD1.out _).mono ?_; rintro e w6 ⟨ad6, cp6, rfl, hi6, hb6⟩; have k6 := H4.out.trans (hb6.mono H4.out.size); have H6 := hid (And.intro hi6 (k6.alloc k6.size (.cells #[.int .i64 ep, .slice ad6 n cp6] 24))); clear hi6 hb6 k6; clear c1 d1 c2 d2; obtain ⟨⟨c1, d1⟩, c2, d2⟩ := two_stay H6.out.2))
  go_ret
  have k1 := H0.out.trans (H8.out.2.mono H0.out.size)
  exact ⟨rfl, by first | exact k1 | exact k1.alloc k1.size _⟩
set_option maxRecDepth 100000 in
set_option maxHeartbeats 3200000 in
theorem creads_Dy (ep : Int) (a : Option Addr) (n cap : Nat) (l : List Int) (hn : l.length = n) (hm : n ≤ maxLen) (ep2 : Int) (a2 : Option Addr) (n2 cap2 : Nat) (l2 : List Int) (hn2 : l2.length = n2) (hm2 : n2 ≤ maxLen) (t : ByteArray) (w : World) (hI : IntsIn w a l) (hI2 : IntsIn w a2 l2) (hr : rightC ep l = true) (hr2 : rightC ep2 l2 = true) (he : ¬ ep = ep2) (hb : readB t = true) :
    Calls Try.prog 4 #[.agg #[.int .i64 ep, .slice a n cap], .agg #[.int .i64 ep2, .slice a2 n2 cap2], .string t] w fun e w' => e = .returned (.bool true) ∧ Below w.heap.size w w' := by
  have H0 : Hid (Below w.heap.size w ((w.alloc (.cells #[.int .i64 ep, .slice a n cap] 24)).alloc (.cells #[.int .i64 ep2, .slice a2 n2 cap2] 24))) := hid (((Below.refl w.heap.size w).alloc (Nat.le_refl _) _).alloc (by simp) _)
  have HJ1 := hid ((hI.alloc (.cells #[.int .i64 ep, .slice a n cap] 24)).alloc (.cells #[.int .i64 ep2, .slice a2 n2 cap2] 24))
  have HJ2 := hid ((hI2.alloc (.cells #[.int .i64 ep, .slice a n cap] 24)).alloc (.cells #[.int .i64 ep2, .slice a2 n2 cap2] 24))
  obtain ⟨S, eS⟩ : ∃ S, S = textC ep l := ⟨_, rfl⟩
  have HC1 : Hid (∀ u : World, IntsIn u a l → Calls Try.prog 6 #[.agg #[.int .i64 ep, .slice a n cap]] u fun e w' => e = .returned (.tuple #[.string S, .int .i64 0]) ∧ Below u.heap.size u w') := hid (fun u hu => by have := ctext_any ep a n cap l hn hm u hu; rwa [← eS, textE, hr] at this)
  obtain ⟨S2, eS2⟩ : ∃ S2, S2 = textC ep2 l2 := ⟨_, rfl⟩
  have HC2 : Hid (∀ u : World, IntsIn u a2 l2 → Calls Try.prog 6 #[.agg #[.int .i64 ep2, .slice a2 n2 cap2]] u fun e w' => e = .returned (.tuple #[.string S2, .int .i64 0]) ∧ Below u.heap.size u w') := hid (fun u hu => by have := ctext_any ep2 a2 n2 cap2 l2 hn2 hm2 u hu; rwa [← eS2, textE, hr2] at this)
  have hSS : (S.toList == S2.toList) = false := by
    rw [eS, eS2]
    refine text_ne (fun h => ?_)
    have := text_inj ep ep2 l l2 hr hr2 h
    exact he this.1
  have HR1 : Hid (∀ u : World, IntsIn u a l → Calls Try.prog 11 #[.agg #[.int .i64 ep, .slice a n cap]] u fun e w' => e = .returned (.bool true) ∧ Below u.heap.size u w') := hid (fun u hu => by have := cright_any ep a n cap l hn hm u hu; rwa [hr] at this)
  have HD1 : Hid (∀ u : World, Calls Try.prog 8 #[.string S] u fun e w' => ∃ ad cp, e = .returned (.tuple #[.agg #[.int .i64 ep, .slice ad n cp], .int .i64 0]) ∧ IntsIn w' ad l ∧ Below u.heap.size u w') := hid (fun u => (cread_any S u).mono fun e w' ⟨v, hee, ho⟩ => by
    obtain ⟨k1, k2, k3⟩ := read_text ep l hr
    rw [← eS] at k1 k2 k3
    obtain ⟨ad, cp, hv, hi⟩ := own_ints ho.own
    exact ⟨ad, cp, by rw [hee, hv, k2, k3, hn, readE, k1]; rfl, by rw [← k3]; exact hi, ho.bel⟩)
  have HS1 : Hid (∀ (u : World) (ad : Option Addr) (cp : Nat), IntsIn u ad l → IntsIn u a l → Calls Try.prog 12 #[.slice ad n cp, .slice a n cap] u fun e w' => e = .returned (.bool true) ∧ Below u.heap.size u w') := hid (fun u ad cp h1 h2 => sameInts_any ad a n cp cap l hn hm u h1 h2)
  obtain ⟨M, eM⟩ : ∃ M, M = readM t := ⟨_, rfl⟩
  obtain ⟨N, eN⟩ : ∃ N, N = M.length := ⟨_, rfl⟩
  obtain ⟨Z, eZ⟩ : ∃ Z, Z = readZ t := ⟨_, rfl⟩
  have hNm : N ≤ maxLen := by rw [eN, eM]; exact readM_le t
  have HD2 : Hid (∀ u : World, Calls Try.prog 8 #[.string t] u fun e w' => ∃ ad cp, e = .returned (.tuple #[.agg #[.int .i64 Z, .slice ad N cp], .int .i64 0]) ∧ IntsIn w' ad M ∧ Below u.heap.size u w') := hid (fun u => (cread_any t u).mono fun e w' ⟨v, hee, ho⟩ => by
    obtain ⟨ad, cp, hv, hi⟩ := own_ints ho.own
    exact ⟨ad, cp, by rw [hee, hv, eZ, eN, eM, readE, hb]; rfl, by rw [eM]; exact hi, ho.bel⟩)
  have HT2 : Hid (∀ (u : World) (ad : Option Addr) (cp : Nat), IntsIn u ad M → Calls Try.prog 6 #[.agg #[.int .i64 Z, .slice ad N cp]] u fun e w' => e = .returned (.tuple #[.string t, .int .i64 0]) ∧ Below u.heap.size u w') := hid (fun u ad cp hu => by
    obtain ⟨k1, k2⟩ := text_read t hb
    rw [← eZ, ← eM] at k1 k2
    have := ctext_any Z ad N cp M eN.symm hNm u hu
    rwa [k2, textE, k1] at this)
  have HR2 : Hid (∀ (u : World) (ad : Option Addr) (cp : Nat), IntsIn u ad M → Calls Try.prog 11 #[.agg #[.int .i64 Z, .slice ad N cp]] u fun e w' => e = .returned (.bool true) ∧ Below u.heap.size u w') := hid (fun u ad cp hu => by
    obtain ⟨k1, k2⟩ := text_read t hb
    rw [← eZ, ← eM] at k1
    have := cright_any Z ad N cp M eN.symm hNm u hu
    rwa [k1] at this)
  clear hr hr2 eS eS2 hb eM eN eZ hNm hn hm hn2 hm2 hI hI2
  go_enter Try.func4, Try.ntmps4
  go_wp2_with (first
    | (go_at_call 5; refine (clives_any _).mono ?_; rintro e w1 ⟨rfl, hb1⟩; have H1 := hid hb1; clear hb1; obtain ⟨⟨c1, d1⟩, c2, d2⟩ := two_stay H1.out)
    | (go_at_call 6; have := H8; refine (HT2.out _ _ _ (by exact H8.out.1.alloc _)).mono ?_; rintro e w9 ⟨rfl, hb9⟩; have H9 := hid hb9; clear hb9; obtain ⟨z0, z1⟩ := conf_stay (conf_cells w8 (.int .i64 Z) (.slice ad8 N cp8)) H9.out (by simp))
    | (go_at_call 11; have := H8; refine (HR2.out _ _ _ (by exact (H8.out.1.alloc _).keep H9.out (Nat.le_refl _))).mono ?_; rintro e w10 ⟨rfl, hb10⟩; have H10 := hid hb10; clear hb10)
    | (go_at_call 6; have := H2; refine (HC2.out _ (HJ2.out.keep H2.out (Nat.le_refl _))).mono ?_; rintro e w3 ⟨rfl, hb3⟩; have H3 := hid (H2.out.trans (hb3.mono H2.out.size)); clear hb3; clear c1 d1 c2 d2; obtain ⟨⟨c1, d1⟩, c2, d2⟩ := two_stay H3.out)
    | (go_at_call 6; refine (HC1.out _ (HJ1.out.keep H1.out (Nat.le_refl _))).mono ?_; rintro e w2 ⟨rfl, hb2⟩; have H2 := hid (H1.out.trans (hb2.mono H1.out.size)); clear hb2; clear c1 d1 c2 d2; obtain ⟨⟨c1, d1⟩, c2, d2⟩ := two_stay H2.out)
    | (go_at_call 11; refine (HR1.out _ (HJ1.out.keep H3.out (Nat.le_refl _))).mono ?_; rintro e w4 ⟨rfl, hb4⟩; have H4 := hid (H3.out.trans (hb4.mono H3.out.size)); clear hb4; clear c1 d1 c2 d2; obtain ⟨⟨c1, d1⟩, c2, d2⟩ := two_stay H4.out)
    | (go_at_call 12; have := H6; refine (HS1.out _ _ _ (by exact H6.out.1.alloc _) (by exact HJ1.out.keep H6.out.2 (Nat.le_refl _))).mono ?_; rintro e w7 ⟨rfl, hb7⟩; have H7 := hid (H6.out.2.trans (hb7.mono H6.out.2.size)); clear hb7 c1 d1 c2 d2)
    | (go_at_call 8; have := H7; refine (HD2.out _).mono ?_; rintro e w8 ⟨ad8, cp8, rfl, hi8, hb8⟩; have H8 := hid (And.intro hi8 (H7.out.trans (hb8.mono H7.out.size))); clear hi8 hb8)
    | (go_at_call 8; refine (HD1.out _).mono ?_; rintro e w6 ⟨ad6, cp6, rfl, hi6, hb6⟩; have k6 := H4.out.trans (hb6.mono H4.out.size); have H6 := hid (And.intro hi6 (k6.alloc k6.size (.cells #[.int .i64 ep, .slice ad6 n cp6] 24))); clear hi6 hb6 k6; clear c1 d1 c2 d2; obtain ⟨⟨c1, d1⟩, c2, d2⟩ := two_stay H6.out.2))
  go_ret
  have k1 := H0.out.trans (H8.out.2.mono H0.out.size)
  have k2 := (k1.alloc k1.size (.cells #[.int .i64 Z, .slice ad8 N cp8] 24)).trans (H9.out.mono (by have := k1.size; simp; omega))
  exact ⟨rfl, k2.trans (H10.out.mono k2.size)⟩
set_option maxRecDepth 100000 in
set_option maxHeartbeats 3200000 in
theorem creads_En (ep : Int) (a : Option Addr) (n cap : Nat) (l : List Int) (hn : l.length = n) (hm : n ≤ maxLen) (ep2 : Int) (a2 : Option Addr) (n2 cap2 : Nat) (l2 : List Int) (hn2 : l2.length = n2) (hm2 : n2 ≤ maxLen) (t : ByteArray) (w : World) (hI : IntsIn w a l) (hI2 : IntsIn w a2 l2) (hr : rightC ep l = true) (hr2 : rightC ep2 l2 = true) (he : ep = ep2) (hl : ¬ l = l2) (hb : readB t = false) :
    Calls Try.prog 4 #[.agg #[.int .i64 ep, .slice a n cap], .agg #[.int .i64 ep2, .slice a2 n2 cap2], .string t] w fun e w' => e = .returned (.bool true) ∧ Below w.heap.size w w' := by
  subst he
  have H0 : Hid (Below w.heap.size w ((w.alloc (.cells #[.int .i64 ep, .slice a n cap] 24)).alloc (.cells #[.int .i64 ep, .slice a2 n2 cap2] 24))) := hid (((Below.refl w.heap.size w).alloc (Nat.le_refl _) _).alloc (by simp) _)
  have HJ1 := hid ((hI.alloc (.cells #[.int .i64 ep, .slice a n cap] 24)).alloc (.cells #[.int .i64 ep, .slice a2 n2 cap2] 24))
  have HJ2 := hid ((hI2.alloc (.cells #[.int .i64 ep, .slice a n cap] 24)).alloc (.cells #[.int .i64 ep, .slice a2 n2 cap2] 24))
  obtain ⟨S, eS⟩ : ∃ S, S = textC ep l := ⟨_, rfl⟩
  have HC1 : Hid (∀ u : World, IntsIn u a l → Calls Try.prog 6 #[.agg #[.int .i64 ep, .slice a n cap]] u fun e w' => e = .returned (.tuple #[.string S, .int .i64 0]) ∧ Below u.heap.size u w') := hid (fun u hu => by have := ctext_any ep a n cap l hn hm u hu; rwa [← eS, textE, hr] at this)
  obtain ⟨S2, eS2⟩ : ∃ S2, S2 = textC ep l2 := ⟨_, rfl⟩
  have HC2 : Hid (∀ u : World, IntsIn u a2 l2 → Calls Try.prog 6 #[.agg #[.int .i64 ep, .slice a2 n2 cap2]] u fun e w' => e = .returned (.tuple #[.string S2, .int .i64 0]) ∧ Below u.heap.size u w') := hid (fun u hu => by have := ctext_any ep a2 n2 cap2 l2 hn2 hm2 u hu; rwa [← eS2, textE, hr2] at this)
  have hSS : (S.toList == S2.toList) = false := by
    rw [eS, eS2]
    refine text_ne (fun h => ?_)
    have := text_inj ep ep l l2 hr hr2 h
    exact hl this.2
  have HR1 : Hid (∀ u : World, IntsIn u a l → Calls Try.prog 11 #[.agg #[.int .i64 ep, .slice a n cap]] u fun e w' => e = .returned (.bool true) ∧ Below u.heap.size u w') := hid (fun u hu => by have := cright_any ep a n cap l hn hm u hu; rwa [hr] at this)
  have HS : Hid (∀ u : World, IntsIn u a l → IntsIn u a2 l2 → Calls Try.prog 12 #[.slice a n cap, .slice a2 n2 cap2] u fun e w' => e = .returned (.bool false) ∧ Below u.heap.size u w') := hid (fun u h1 h2 => by have := sameInts_all a a2 n n2 cap cap2 l l2 hn hn2 hm u h1 h2; rwa [decide_eq_false hl] at this)
  have HD1 : Hid (∀ u : World, Calls Try.prog 8 #[.string S] u fun e w' => ∃ ad cp, e = .returned (.tuple #[.agg #[.int .i64 ep, .slice ad n cp], .int .i64 0]) ∧ IntsIn w' ad l ∧ Below u.heap.size u w') := hid (fun u => (cread_any S u).mono fun e w' ⟨v, hee, ho⟩ => by
    obtain ⟨k1, k2, k3⟩ := read_text ep l hr
    rw [← eS] at k1 k2 k3
    obtain ⟨ad, cp, hv, hi⟩ := own_ints ho.own
    exact ⟨ad, cp, by rw [hee, hv, k2, k3, hn, readE, k1]; rfl, by rw [← k3]; exact hi, ho.bel⟩)
  have HS1 : Hid (∀ (u : World) (ad : Option Addr) (cp : Nat), IntsIn u ad l → IntsIn u a l → Calls Try.prog 12 #[.slice ad n cp, .slice a n cap] u fun e w' => e = .returned (.bool true) ∧ Below u.heap.size u w') := hid (fun u ad cp h1 h2 => sameInts_any ad a n cp cap l hn hm u h1 h2)
  obtain ⟨M, eM⟩ : ∃ M, M = readM t := ⟨_, rfl⟩
  obtain ⟨N, eN⟩ : ∃ N, N = M.length := ⟨_, rfl⟩
  obtain ⟨Z, eZ⟩ : ∃ Z, Z = readZ t := ⟨_, rfl⟩
  have hNm : N ≤ maxLen := by rw [eN, eM]; exact readM_le t
  have HD2 : Hid (∀ u : World, Calls Try.prog 8 #[.string t] u fun e w' => ∃ ad cp, e = .returned (.tuple #[.agg #[.int .i64 Z, .slice ad N cp], .int .i64 5]) ∧ IntsIn w' ad M ∧ Below u.heap.size u w') := hid (fun u => (cread_any t u).mono fun e w' ⟨v, hee, ho⟩ => by
    obtain ⟨ad, cp, hv, hi⟩ := own_ints ho.own
    exact ⟨ad, cp, by rw [hee, hv, eZ, eN, eM, readE, hb]; rfl, by rw [eM]; exact hi, ho.bel⟩)
  clear hr hr2 eS eS2 hl hb eM eN eZ hNm hn hm hn2 hm2 hI hI2
  go_enter Try.func4, Try.ntmps4
  go_wp2_with (first
    | (go_at_call 5; refine (clives_any _).mono ?_; rintro e w1 ⟨rfl, hb1⟩; have H1 := hid hb1; clear hb1; obtain ⟨⟨c1, d1⟩, c2, d2⟩ := two_stay H1.out)
    | (go_at_call 6; have := H2; refine (HC2.out _ (HJ2.out.keep H2.out (Nat.le_refl _))).mono ?_; rintro e w3 ⟨rfl, hb3⟩; have H3 := hid (H2.out.trans (hb3.mono H2.out.size)); clear hb3; clear c1 d1 c2 d2; obtain ⟨⟨c1, d1⟩, c2, d2⟩ := two_stay H3.out)
    | (go_at_call 6; refine (HC1.out _ (HJ1.out.keep H1.out (Nat.le_refl _))).mono ?_; rintro e w2 ⟨rfl, hb2⟩; have H2 := hid (H1.out.trans (hb2.mono H1.out.size)); clear hb2; clear c1 d1 c2 d2; obtain ⟨⟨c1, d1⟩, c2, d2⟩ := two_stay H2.out)
    | (go_at_call 11; refine (HR1.out _ (HJ1.out.keep H3.out (Nat.le_refl _))).mono ?_; rintro e w4 ⟨rfl, hb4⟩; have H4 := hid (H3.out.trans (hb4.mono H3.out.size)); clear hb4; clear c1 d1 c2 d2; obtain ⟨⟨c1, d1⟩, c2, d2⟩ := two_stay H4.out)
    | (go_at_call 12; have := H6; refine (HS1.out _ _ _ (by exact H6.out.1.alloc _) (by exact HJ1.out.keep H6.out.2 (Nat.le_refl _))).mono ?_; rintro e w7 ⟨rfl, hb7⟩; have H7 := hid (H6.out.2.trans (hb7.mono H6.out.2.size)); clear hb7 c1 d1 c2 d2)
    | (go_at_call 12; refine (HS.out _ (HJ1.out.keep H4.out (Nat.le_refl _)) (HJ2.out.keep H4.out (Nat.le_refl _))).mono ?_; rintro e w5 ⟨rfl, hb5⟩; have H5 := hid (H4.out.trans (hb5.mono H4.out.size)); clear hb5; clear c1 d1 c2 d2; obtain ⟨⟨c1, d1⟩, c2, d2⟩ := two_stay H5.out)
    | (go_at_call 8; have := H7; refine (HD2.out _).mono ?_; rintro e w8 ⟨ad8, cp8, rfl, hi8, hb8⟩; have H8 := hid (And.intro hi8 (H7.out.trans (hb8.mono H7.out.size))); clear hi8 hb8)
    | (go_at_call 8; refine (HD1.out _).mono ?_; rintro e w6 ⟨ad6, cp6, rfl, hi6, hb6⟩; have k6 := H5.out.trans (hb6.mono H5.out.size); have H6 := hid (And.intro hi6 (k6.alloc k6.size (.cells #[.int .i64 ep, .slice ad6 n cp6] 24))); clear hi6 hb6 k6; clear c1 d1 c2 d2; obtain ⟨⟨c1, d1⟩, c2, d2⟩ := two_stay H6.out.2))
  go_ret
  have k1 := H0.out.trans (H8.out.2.mono H0.out.size)
  exact ⟨rfl, by first | exact k1 | exact k1.alloc k1.size _⟩
set_option maxRecDepth 100000 in
set_option maxHeartbeats 3200000 in
theorem creads_Ey (ep : Int) (a : Option Addr) (n cap : Nat) (l : List Int) (hn : l.length = n) (hm : n ≤ maxLen) (ep2 : Int) (a2 : Option Addr) (n2 cap2 : Nat) (l2 : List Int) (hn2 : l2.length = n2) (hm2 : n2 ≤ maxLen) (t : ByteArray) (w : World) (hI : IntsIn w a l) (hI2 : IntsIn w a2 l2) (hr : rightC ep l = true) (hr2 : rightC ep2 l2 = true) (he : ep = ep2) (hl : ¬ l = l2) (hb : readB t = true) :
    Calls Try.prog 4 #[.agg #[.int .i64 ep, .slice a n cap], .agg #[.int .i64 ep2, .slice a2 n2 cap2], .string t] w fun e w' => e = .returned (.bool true) ∧ Below w.heap.size w w' := by
  subst he
  have H0 : Hid (Below w.heap.size w ((w.alloc (.cells #[.int .i64 ep, .slice a n cap] 24)).alloc (.cells #[.int .i64 ep, .slice a2 n2 cap2] 24))) := hid (((Below.refl w.heap.size w).alloc (Nat.le_refl _) _).alloc (by simp) _)
  have HJ1 := hid ((hI.alloc (.cells #[.int .i64 ep, .slice a n cap] 24)).alloc (.cells #[.int .i64 ep, .slice a2 n2 cap2] 24))
  have HJ2 := hid ((hI2.alloc (.cells #[.int .i64 ep, .slice a n cap] 24)).alloc (.cells #[.int .i64 ep, .slice a2 n2 cap2] 24))
  obtain ⟨S, eS⟩ : ∃ S, S = textC ep l := ⟨_, rfl⟩
  have HC1 : Hid (∀ u : World, IntsIn u a l → Calls Try.prog 6 #[.agg #[.int .i64 ep, .slice a n cap]] u fun e w' => e = .returned (.tuple #[.string S, .int .i64 0]) ∧ Below u.heap.size u w') := hid (fun u hu => by have := ctext_any ep a n cap l hn hm u hu; rwa [← eS, textE, hr] at this)
  obtain ⟨S2, eS2⟩ : ∃ S2, S2 = textC ep l2 := ⟨_, rfl⟩
  have HC2 : Hid (∀ u : World, IntsIn u a2 l2 → Calls Try.prog 6 #[.agg #[.int .i64 ep, .slice a2 n2 cap2]] u fun e w' => e = .returned (.tuple #[.string S2, .int .i64 0]) ∧ Below u.heap.size u w') := hid (fun u hu => by have := ctext_any ep a2 n2 cap2 l2 hn2 hm2 u hu; rwa [← eS2, textE, hr2] at this)
  have hSS : (S.toList == S2.toList) = false := by
    rw [eS, eS2]
    refine text_ne (fun h => ?_)
    have := text_inj ep ep l l2 hr hr2 h
    exact hl this.2
  have HR1 : Hid (∀ u : World, IntsIn u a l → Calls Try.prog 11 #[.agg #[.int .i64 ep, .slice a n cap]] u fun e w' => e = .returned (.bool true) ∧ Below u.heap.size u w') := hid (fun u hu => by have := cright_any ep a n cap l hn hm u hu; rwa [hr] at this)
  have HS : Hid (∀ u : World, IntsIn u a l → IntsIn u a2 l2 → Calls Try.prog 12 #[.slice a n cap, .slice a2 n2 cap2] u fun e w' => e = .returned (.bool false) ∧ Below u.heap.size u w') := hid (fun u h1 h2 => by have := sameInts_all a a2 n n2 cap cap2 l l2 hn hn2 hm u h1 h2; rwa [decide_eq_false hl] at this)
  have HD1 : Hid (∀ u : World, Calls Try.prog 8 #[.string S] u fun e w' => ∃ ad cp, e = .returned (.tuple #[.agg #[.int .i64 ep, .slice ad n cp], .int .i64 0]) ∧ IntsIn w' ad l ∧ Below u.heap.size u w') := hid (fun u => (cread_any S u).mono fun e w' ⟨v, hee, ho⟩ => by
    obtain ⟨k1, k2, k3⟩ := read_text ep l hr
    rw [← eS] at k1 k2 k3
    obtain ⟨ad, cp, hv, hi⟩ := own_ints ho.own
    exact ⟨ad, cp, by rw [hee, hv, k2, k3, hn, readE, k1]; rfl, by rw [← k3]; exact hi, ho.bel⟩)
  have HS1 : Hid (∀ (u : World) (ad : Option Addr) (cp : Nat), IntsIn u ad l → IntsIn u a l → Calls Try.prog 12 #[.slice ad n cp, .slice a n cap] u fun e w' => e = .returned (.bool true) ∧ Below u.heap.size u w') := hid (fun u ad cp h1 h2 => sameInts_any ad a n cp cap l hn hm u h1 h2)
  obtain ⟨M, eM⟩ : ∃ M, M = readM t := ⟨_, rfl⟩
  obtain ⟨N, eN⟩ : ∃ N, N = M.length := ⟨_, rfl⟩
  obtain ⟨Z, eZ⟩ : ∃ Z, Z = readZ t := ⟨_, rfl⟩
  have hNm : N ≤ maxLen := by rw [eN, eM]; exact readM_le t
  have HD2 : Hid (∀ u : World, Calls Try.prog 8 #[.string t] u fun e w' => ∃ ad cp, e = .returned (.tuple #[.agg #[.int .i64 Z, .slice ad N cp], .int .i64 0]) ∧ IntsIn w' ad M ∧ Below u.heap.size u w') := hid (fun u => (cread_any t u).mono fun e w' ⟨v, hee, ho⟩ => by
    obtain ⟨ad, cp, hv, hi⟩ := own_ints ho.own
    exact ⟨ad, cp, by rw [hee, hv, eZ, eN, eM, readE, hb]; rfl, by rw [eM]; exact hi, ho.bel⟩)
  have HT2 : Hid (∀ (u : World) (ad : Option Addr) (cp : Nat), IntsIn u ad M → Calls Try.prog 6 #[.agg #[.int .i64 Z, .slice ad N cp]] u fun e w' => e = .returned (.tuple #[.string t, .int .i64 0]) ∧ Below u.heap.size u w') := hid (fun u ad cp hu => by
    obtain ⟨k1, k2⟩ := text_read t hb
    rw [← eZ, ← eM] at k1 k2
    have := ctext_any Z ad N cp M eN.symm hNm u hu
    rwa [k2, textE, k1] at this)
  have HR2 : Hid (∀ (u : World) (ad : Option Addr) (cp : Nat), IntsIn u ad M → Calls Try.prog 11 #[.agg #[.int .i64 Z, .slice ad N cp]] u fun e w' => e = .returned (.bool true) ∧ Below u.heap.size u w') := hid (fun u ad cp hu => by
    obtain ⟨k1, k2⟩ := text_read t hb
    rw [← eZ, ← eM] at k1
    have := cright_any Z ad N cp M eN.symm hNm u hu
    rwa [k1] at this)
  clear hr hr2 eS eS2 hl hb eM eN eZ hNm hn hm hn2 hm2 hI hI2
  go_enter Try.func4, Try.ntmps4
  go_wp2_with (first
    | (go_at_call 5; refine (clives_any _).mono ?_; rintro e w1 ⟨rfl, hb1⟩; have H1 := hid hb1; clear hb1; obtain ⟨⟨c1, d1⟩, c2, d2⟩ := two_stay H1.out)
    | (go_at_call 6; have := H8; refine (HT2.out _ _ _ (by exact H8.out.1.alloc _)).mono ?_; rintro e w9 ⟨rfl, hb9⟩; have H9 := hid hb9; clear hb9; obtain ⟨z0, z1⟩ := conf_stay (conf_cells w8 (.int .i64 Z) (.slice ad8 N cp8)) H9.out (by simp))
    | (go_at_call 11; have := H8; refine (HR2.out _ _ _ (by exact (H8.out.1.alloc _).keep H9.out (Nat.le_refl _))).mono ?_; rintro e w10 ⟨rfl, hb10⟩; have H10 := hid hb10; clear hb10)
    | (go_at_call 6; have := H2; refine (HC2.out _ (HJ2.out.keep H2.out (Nat.le_refl _))).mono ?_; rintro e w3 ⟨rfl, hb3⟩; have H3 := hid (H2.out.trans (hb3.mono H2.out.size)); clear hb3; clear c1 d1 c2 d2; obtain ⟨⟨c1, d1⟩, c2, d2⟩ := two_stay H3.out)
    | (go_at_call 6; refine (HC1.out _ (HJ1.out.keep H1.out (Nat.le_refl _))).mono ?_; rintro e w2 ⟨rfl, hb2⟩; have H2 := hid (H1.out.trans (hb2.mono H1.out.size)); clear hb2; clear c1 d1 c2 d2; obtain ⟨⟨c1, d1⟩, c2, d2⟩ := two_stay H2.out)
    | (go_at_call 11; refine (HR1.out _ (HJ1.out.keep H3.out (Nat.le_refl _))).mono ?_; rintro e w4 ⟨rfl, hb4⟩; have H4 := hid (H3.out.trans (hb4.mono H3.out.size)); clear hb4; clear c1 d1 c2 d2; obtain ⟨⟨c1, d1⟩, c2, d2⟩ := two_stay H4.out)
    | (go_at_call 12; have := H6; refine (HS1.out _ _ _ (by exact H6.out.1.alloc _) (by exact HJ1.out.keep H6.out.2 (Nat.le_refl _))).mono ?_; rintro e w7 ⟨rfl, hb7⟩; have H7 := hid (H6.out.2.trans (hb7.mono H6.out.2.size)); clear hb7 c1 d1 c2 d2)
    | (go_at_call 12; refine (HS.out _ (HJ1.out.keep H4.out (Nat.le_refl _)) (HJ2.out.keep H4.out (Nat.le_refl _))).mono ?_; rintro e w5 ⟨rfl, hb5⟩; have H5 := hid (H4.out.trans (hb5.mono H4.out.size)); clear hb5; clear c1 d1 c2 d2; obtain ⟨⟨c1, d1⟩, c2, d2⟩ := two_stay H5.out)
    | (go_at_call 8; have := H7; refine (HD2.out _).mono ?_; rintro e w8 ⟨ad8, cp8, rfl, hi8, hb8⟩; have H8 := hid (And.intro hi8 (H7.out.trans (hb8.mono H7.out.size))); clear hi8 hb8)
    | (go_at_call 8; refine (HD1.out _).mono ?_; rintro e w6 ⟨ad6, cp6, rfl, hi6, hb6⟩; have k6 := H5.out.trans (hb6.mono H5.out.size); have H6 := hid (And.intro hi6 (k6.alloc k6.size (.cells #[.int .i64 ep, .slice ad6 n cp6] 24))); clear hi6 hb6 k6; clear c1 d1 c2 d2; obtain ⟨⟨c1, d1⟩, c2, d2⟩ := two_stay H6.out.2))
  go_ret
  have k1 := H0.out.trans (H8.out.2.mono H0.out.size)
  have k2 := (k1.alloc k1.size (.cells #[.int .i64 Z, .slice ad8 N cp8] 24)).trans (H9.out.mono (by have := k1.size; simp; omega))
  exact ⟨rfl, k2.trans (H10.out.mono k2.size)⟩
theorem councilReads_walk (ep : Int) (a : Option Addr) (n cap : Nat) (l : List Int) (hn : l.length = n) (hm : n ≤ maxLen) (ep2 : Int) (a2 : Option Addr) (n2 cap2 : Nat) (l2 : List Int) (hn2 : l2.length = n2) (hm2 : n2 ≤ maxLen) (t : ByteArray) (w : World) (hI : IntsIn w a l) (hI2 : IntsIn w a2 l2) :
    Calls Try.prog 4 #[.agg #[.int .i64 ep, .slice a n cap], .agg #[.int .i64 ep2, .slice a2 n2 cap2], .string t] w fun e w' => e = .returned (.bool true) ∧ Below w.heap.size w w' := by
  cases hb : readB t with
  | false =>
    cases hr : rightC ep l with
    | false => exact creads_An ep a n cap l hn hm ep2 a2 n2 cap2 l2 hn2 hm2 t w hI hI2 hr hb
    | true =>
      cases hr2 : rightC ep2 l2 with
      | false => exact creads_Bn ep a n cap l hn hm ep2 a2 n2 cap2 l2 hn2 hm2 t w hI hI2 hr hr2 hb
      | true =>
        by_cases he : ep = ep2
        · by_cases hl : l = l2
          · exact creads_Cn ep a n cap l hn hm ep2 a2 n2 cap2 l2 hn2 hm2 t w hI hI2 hr hr2 he hl hb
          · exact creads_En ep a n cap l hn hm ep2 a2 n2 cap2 l2 hn2 hm2 t w hI hI2 hr hr2 he hl hb
        · exact creads_Dn ep a n cap l hn hm ep2 a2 n2 cap2 l2 hn2 hm2 t w hI hI2 hr hr2 he hb
  | true =>
    cases hr : rightC ep l with
    | false => exact creads_Ay ep a n cap l hn hm ep2 a2 n2 cap2 l2 hn2 hm2 t w hI hI2 hr hb
    | true =>
      cases hr2 : rightC ep2 l2 with
      | false => exact creads_By ep a n cap l hn hm ep2 a2 n2 cap2 l2 hn2 hm2 t w hI hI2 hr hr2 hb
      | true =>
        by_cases he : ep = ep2
        · by_cases hl : l = l2
          · exact creads_Cy ep a n cap l hn hm ep2 a2 n2 cap2 l2 hn2 hm2 t w hI hI2 hr hr2 he hl hb
          · exact creads_Ey ep a n cap l hn hm ep2 a2 n2 cap2 l2 hn2 hm2 t w hI hI2 hr hr2 he hl hb
        · exact creads_Dy ep a n cap l hn hm ep2 a2 n2 cap2 l2 hn2 hm2 t w hI hI2 hr hr2 he hb
end Go.Proofs.Ytfcbngdhbmifeab
