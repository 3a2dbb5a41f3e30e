/- The document's tally: Add. -/
import Derived.Test.YtclfphffbfdimaaVPbM
import Derived.Deep.DeepMust
namespace Go.Proofs.Ytclfphffbfdimaa
open Go.RowKit

set_option maxRecDepth 100000 in
set_option maxHeartbeats 3200000 in
theorem waddT_arg (R : Nat → Prop) (g : Nat) (am : Option Addr) (cm : Nat) (y : Value) (ep : Int) (l : List Int) (xs : List RtM) (hml : l.length ≤ 10) (f : Int) (t : ByteArray) (ht : t.size ≤ 140737488355328) (b : Option Addr) (k cp : Nat) (nx : List Int) (hk : nx.length = k) (hkm : k ≤ maxLen) (a2 : Option Addr) (n2 c2 : Nat) (sg : List (Int × ByteArray)) (hn2 : sg.length = n2) (hm2 : n2 ≤ maxLen) (w : World) (h : DtA R w g am cm y ep l xs) (hN : IntsIn w b nx) (hP : PairsIn w a2 sg) (h1 : voB ep l t nx = false) :
    Calls Try.prog 16 #[.pointer (some ⟨g, 0, none⟩), .int .i64 f, .string t, .slice b k cp, .slice a2 n2 c2] w fun e w' => e = .returned (.int .i64 1) ∧ Below w.heap.size w w' := by
  have hl3 : (l.length : Nat) ≤ maxLen := by unfold maxLen; omega
  have c0 := cell_at (L := [_, _, _]) h.blk 0 _ rfl
  have c1 := cell_at (L := [_, _, _]) h.blk 1 _ rfl
  have HT := hid h
  have HN := hid hN
  have HP := hid hP
  have HX : Hid (∀ u : World, Below w.heap.size w u → Calls Try.prog 11 #[.agg #[.int .i64 ep, .slice am l.length cm], .string t, .slice b k cp] u fun e w' => e = .returned (.tuple #[.string (voS ep l t nx), .string (voC ep l t nx), .int .i64 (voE ep l t nx)]) ∧ Below w.heap.size w w') := hid (fun u hu => (wtexts_any ep am _ cm l rfl hl3 t ht b k cp nx hk hkm u (HT.out.im.keep hu (Nat.le_refl _)) (HN.out.keep hu (Nat.le_refl _))).mono fun e w' ⟨h1, h2⟩ => ⟨h1, hu.trans (h2.mono hu.size)⟩)
  have HH : Hid (∀ u : World, Below w.heap.size w u → Calls Try.prog 24 #[.slice am l.length cm, .int .i64 f] u fun e w' => e = .returned (.bool (hasM l f)) ∧ Below w.heap.size w w') := hid (fun u hu => (vhas_any am _ cm l rfl hl3 f u (HT.out.im.keep hu (Nat.le_refl _))).mono fun e w' ⟨h1, h2⟩ => ⟨h1, h2 ▸ hu⟩)
  have HQ : Hid (∀ (u : World) (x z : ByteArray) (q : Nat) (cq : Nat), Below w.heap.size w u → PairsIn u (some ⟨q, 0, none⟩) (twoS f x z) → Calls Try.prog 40 #[.slice a2 n2 c2, .slice (some ⟨q, 0, none⟩) 2 cq] u fun e w' => e = .returned (.bool (decide (sg = twoS f x z))) ∧ Below w.heap.size w w') := hid (fun u x z q cq hu hp => (wsame_dec a2 _ n2 2 c2 cq sg (twoS f x z) hn2 rfl hm2 (by decide) u (HP.out.keep hu (Nat.le_refl _)) hp).mono fun e w' ⟨h1, h2⟩ => ⟨h1, hu.trans (h2.mono hu.size)⟩)
  have HG := hid (lt_of_blk h.blk)
  rw [show voE ep l t nx = 1 by rw [voE, h1]; rfl] at HX
  clear h1
  clear h hN hP
  go_enter Try.func16, Try.ntmps16
  go_wp2_with (first
    | (go_at_call 11; go_must (refine (HX.out _ (Below.refl _ _)).mono ?_; rintro e w1 ⟨rfl, hb1⟩; have H1 := hid hb1; have d0 := (hb1.cell (p := ⟨g, 0, none⟩) HG.out).trans c0; have d1 := (hb1.cell (p := ⟨g, 1, none⟩) HG.out).trans c1; clear hb1)))
  go_ret
  exact ⟨rfl, H1.out⟩
set_option maxRecDepth 100000 in
set_option maxHeartbeats 3200000 in
theorem waddT_absent (R : Nat → Prop) (g : Nat) (am : Option Addr) (cm : Nat) (y : Value) (ep : Int) (l : List Int) (xs : List RtM) (hml : l.length ≤ 10) (f : Int) (t : ByteArray) (ht : t.size ≤ 140737488355328) (b : Option Addr) (k cp : Nat) (nx : List Int) (hk : nx.length = k) (hkm : k ≤ maxLen) (a2 : Option Addr) (n2 c2 : Nat) (sg : List (Int × ByteArray)) (hn2 : sg.length = n2) (hm2 : n2 ≤ maxLen) (w : World) (h : DtA R w g am cm y ep l xs) (hN : IntsIn w b nx) (hP : PairsIn w a2 sg) (h1 : voB ep l t nx = true) (h2 : hasM l f = false) :
    Calls Try.prog 16 #[.pointer (some ⟨g, 0, none⟩), .int .i64 f, .string t, .slice b k cp, .slice a2 n2 c2] w fun e w' => e = .returned (.int .i64 8) ∧ Below w.heap.size w w' := by
  have hl3 : (l.length : Nat) ≤ maxLen := by unfold maxLen; omega
  have c0 := cell_at (L := [_, _, _]) h.blk 0 _ rfl
  have c1 := cell_at (L := [_, _, _]) h.blk 1 _ rfl
  have HT := hid h
  have HN := hid hN
  have HP := hid hP
  have HX : Hid (∀ u : World, Below w.heap.size w u → Calls Try.prog 11 #[.agg #[.int .i64 ep, .slice am l.length cm], .string t, .slice b k cp] u fun e w' => e = .returned (.tuple #[.string (voS ep l t nx), .string (voC ep l t nx), .int .i64 (voE ep l t nx)]) ∧ Below w.heap.size w w') := hid (fun u hu => (wtexts_any ep am _ cm l rfl hl3 t ht b k cp nx hk hkm u (HT.out.im.keep hu (Nat.le_refl _)) (HN.out.keep hu (Nat.le_refl _))).mono fun e w' ⟨h1, h2⟩ => ⟨h1, hu.trans (h2.mono hu.size)⟩)
  have HH : Hid (∀ u : World, Below w.heap.size w u → Calls Try.prog 24 #[.slice am l.length cm, .int .i64 f] u fun e w' => e = .returned (.bool (hasM l f)) ∧ Below w.heap.size w w') := hid (fun u hu => (vhas_any am _ cm l rfl hl3 f u (HT.out.im.keep hu (Nat.le_refl _))).mono fun e w' ⟨h1, h2⟩ => ⟨h1, h2 ▸ hu⟩)
  have HQ : Hid (∀ (u : World) (x z : ByteArray) (q : Nat) (cq : Nat), Below w.heap.size w u → PairsIn u (some ⟨q, 0, none⟩) (twoS f x z) → Calls Try.prog 40 #[.slice a2 n2 c2, .slice (some ⟨q, 0, none⟩) 2 cq] u fun e w' => e = .returned (.bool (decide (sg = twoS f x z))) ∧ Below w.heap.size w w') := hid (fun u x z q cq hu hp => (wsame_dec a2 _ n2 2 c2 cq sg (twoS f x z) hn2 rfl hm2 (by decide) u (HP.out.keep hu (Nat.le_refl _)) hp).mono fun e w' ⟨h1, h2⟩ => ⟨h1, hu.trans (h2.mono hu.size)⟩)
  have HG := hid (lt_of_blk h.blk)
  rw [show voE ep l t nx = 0 by rw [voE, h1]; rfl] at HX
  clear h1
  rw [h2] at HH
  clear h2
  clear h hN hP
  go_enter Try.func16, Try.ntmps16
  go_wp2_with (first
    | (go_at_call 11; go_must (refine (HX.out _ (Below.refl _ _)).mono ?_; rintro e w1 ⟨rfl, hb1⟩; have H1 := hid hb1; have d0 := (hb1.cell (p := ⟨g, 0, none⟩) HG.out).trans c0; have d1 := (hb1.cell (p := ⟨g, 1, none⟩) HG.out).trans c1; clear hb1))
    | (go_at_call 24; go_must (refine (HH.out _ H1.out).mono ?_; rintro e w2 ⟨rfl, hb2⟩; have H2 := hid hb2; clear hb2)))
  go_ret
  exact ⟨rfl, H2.out⟩
set_option maxRecDepth 100000 in
set_option maxHeartbeats 3200000 in
theorem waddT_sig (R : Nat → Prop) (g : Nat) (am : Option Addr) (cm : Nat) (y : Value) (ep : Int) (l : List Int) (xs : List RtM) (hml : l.length ≤ 10) (f : Int) (t : ByteArray) (ht : t.size ≤ 140737488355328) (b : Option Addr) (k cp : Nat) (nx : List Int) (hk : nx.length = k) (hkm : k ≤ maxLen) (a2 : Option Addr) (n2 c2 : Nat) (sg : List (Int × ByteArray)) (hn2 : sg.length = n2) (hm2 : n2 ≤ maxLen) (w : World) (h : DtA R w g am cm y ep l xs) (hN : IntsIn w b nx) (hP : PairsIn w a2 sg) (h1 : voB ep l t nx = true) (h2 : hasM l f = true) (h3 : ¬ sg = twoS f (voS ep l t nx) (voC ep l t nx)) :
    Calls Try.prog 16 #[.pointer (some ⟨g, 0, none⟩), .int .i64 f, .string t, .slice b k cp, .slice a2 n2 c2] w fun e w' => e = .returned (.int .i64 16) ∧ Below w.heap.size w w' := by
  have hl3 : (l.length : Nat) ≤ maxLen := by unfold maxLen; omega
  have c0 := cell_at (L := [_, _, _]) h.blk 0 _ rfl
  have c1 := cell_at (L := [_, _, _]) h.blk 1 _ rfl
  have HT := hid h
  have HN := hid hN
  have HP := hid hP
  have HX : Hid (∀ u : World, Below w.heap.size w u → Calls Try.prog 11 #[.agg #[.int .i64 ep, .slice am l.length cm], .string t, .slice b k cp] u fun e w' => e = .returned (.tuple #[.string (voS ep l t nx), .string (voC ep l t nx), .int .i64 (voE ep l t nx)]) ∧ Below w.heap.size w w') := hid (fun u hu => (wtexts_any ep am _ cm l rfl hl3 t ht b k cp nx hk hkm u (HT.out.im.keep hu (Nat.le_refl _)) (HN.out.keep hu (Nat.le_refl _))).mono fun e w' ⟨h1, h2⟩ => ⟨h1, hu.trans (h2.mono hu.size)⟩)
  have HH : Hid (∀ u : World, Below w.heap.size w u → Calls Try.prog 24 #[.slice am l.length cm, .int .i64 f] u fun e w' => e = .returned (.bool (hasM l f)) ∧ Below w.heap.size w w') := hid (fun u hu => (vhas_any am _ cm l rfl hl3 f u (HT.out.im.keep hu (Nat.le_refl _))).mono fun e w' ⟨h1, h2⟩ => ⟨h1, h2 ▸ hu⟩)
  have HQ : Hid (∀ (u : World) (x z : ByteArray) (q : Nat) (cq : Nat), Below w.heap.size w u → PairsIn u (some ⟨q, 0, none⟩) (twoS f x z) → Calls Try.prog 40 #[.slice a2 n2 c2, .slice (some ⟨q, 0, none⟩) 2 cq] u fun e w' => e = .returned (.bool (decide (sg = twoS f x z))) ∧ Below w.heap.size w w') := hid (fun u x z q cq hu hp => (wsame_dec a2 _ n2 2 c2 cq sg (twoS f x z) hn2 rfl hm2 (by decide) u (HP.out.keep hu (Nat.le_refl _)) hp).mono fun e w' ⟨h1, h2⟩ => ⟨h1, hu.trans (h2.mono hu.size)⟩)
  have HG := hid (lt_of_blk h.blk)
  rw [show voE ep l t nx = 0 by rw [voE, h1]; rfl] at HX
  clear h1
  rw [h2] at HH
  clear h2
  obtain ⟨x, ex⟩ : ∃ x, x = voS ep l t nx := ⟨_, rfl⟩
  obtain ⟨z, ez⟩ : ∃ z, z = voC ep l t nx := ⟨_, rfl⟩
  rw [← ex, ← ez] at HX h3
  have HQ2 : Hid (∀ (u : World) (q : Nat) (cq : Nat), Below w.heap.size w u → PairsIn u (some ⟨q, 0, none⟩) (twoS f x z) → Calls Try.prog 40 #[.slice a2 n2 c2, .slice (some ⟨q, 0, none⟩) 2 cq] u fun e w' => e = .returned (.bool false) ∧ Below w.heap.size w w') := hid (fun u q cq hu hp => by have := HQ.out u x z q cq hu hp; rwa [decide_eq_false h3] at this)
  clear h3 HQ ex ez
  clear h hN hP
  go_enter Try.func16, Try.ntmps16
  go_wp2_with (first
    | (go_at_call 11; go_must (refine (HX.out _ (Below.refl _ _)).mono ?_; rintro e w1 ⟨rfl, hb1⟩; have H1 := hid hb1; have d0 := (hb1.cell (p := ⟨g, 0, none⟩) HG.out).trans c0; have d1 := (hb1.cell (p := ⟨g, 1, none⟩) HG.out).trans c1; clear hb1))
    | (go_at_call 24; go_must (refine (HH.out _ H1.out).mono ?_; rintro e w2 ⟨rfl, hb2⟩; have H2 := hid hb2; clear hb2))
    | (go_at_call 40; go_must (refine (HQ2.out _ _ _ (by exact (H2.out.alloc H2.out.size _)) (by exact two_pairs _ _ _ _)).mono ?_; rintro e w3 ⟨rfl, hb3⟩; have H3 := hid hb3; clear hb3)))
  go_ret
  exact ⟨rfl, H3.out⟩
/-- Nothing has turned but the blocks D. -/
structure OutP (D : Nat → Prop) (w w' : World) : Prop where
  os : w'.os = w.os
  tape : w'.tape = w.tape
  output : w'.output = w.output
  size : w.heap.size ≤ w'.heap.size
  block : ∀ k, k < w.heap.size → ¬ D k → w'.heap[k]? = w.heap[k]?
/-- What a vote leaves. -/
def DtTo (R : Nat → Prop) (w w' : World) (g : Nat) (am : Option Addr) (cm : Nat) (y : Value) (ep : Int) (l : List Int) (xs : List RtM) (r : Rv) : Prop := ∃ R' y' x, x.1 = r ∧ DtA R' w' g am cm y' ep l (xs ++ [x]) ∧ (∀ k, fpD R' g y' k → fpD R g y k ∨ w.heap.size ≤ k) ∧ OutP (fpD R g y) w w'
set_option maxRecDepth 100000 in
set_option maxHeartbeats 6400000 in
theorem waddT_same (R : Nat → Prop) (g : Nat) (am : Option Addr) (cm : Nat) (y : Value) (ep : Int) (l : List Int) (xs : List RtM) (hml : l.length ≤ 10) (f : Int) (t : ByteArray) (ht : t.size ≤ 140737488355328) (b : Option Addr) (k cp : Nat) (nx : List Int) (hk : nx.length = k) (hkm : k ≤ maxLen) (a2 : Option Addr) (n2 c2 : Nat) (sg : List (Int × ByteArray)) (hn2 : sg.length = n2) (hm2 : n2 ≤ maxLen) (w : World) (h : DtA R w g am cm y ep l xs) (hN : IntsIn w b nx) (hP : PairsIn w a2 sg) (hsame : ∃ r ∈ xs, r.1.1 = f) (hx10 : xs.length ≤ 1000) (h1 : voB ep l t nx = true) (h2 : hasM l f = true) (h3 : sg = twoS f (voS ep l t nx) (voC ep l t nx)) :
    Calls Try.prog 16 #[.pointer (some ⟨g, 0, none⟩), .int .i64 f, .string t, .slice b k cp, .slice a2 n2 c2] w fun e w' => e = .returned (.int .i64 7) ∧ Below w.heap.size w w' := by
  have HS := hid hsame
  clear hsame
  have hl3 : (l.length : Nat) ≤ maxLen := by unfold maxLen; omega
  have c0 := cell_at (L := [_, _, _]) h.blk 0 _ rfl
  have c1 := cell_at (L := [_, _, _]) h.blk 1 _ rfl
  have HT := hid h
  have HN := hid hN
  have HP := hid hP
  have HX : Hid (∀ u : World, Below w.heap.size w u → Calls Try.prog 11 #[.agg #[.int .i64 ep, .slice am l.length cm], .string t, .slice b k cp] u fun e w' => e = .returned (.tuple #[.string (voS ep l t nx), .string (voC ep l t nx), .int .i64 (voE ep l t nx)]) ∧ Below w.heap.size w w') := hid (fun u hu => (wtexts_any ep am _ cm l rfl hl3 t ht b k cp nx hk hkm u (HT.out.im.keep hu (Nat.le_refl _)) (HN.out.keep hu (Nat.le_refl _))).mono fun e w' ⟨h1, h2⟩ => ⟨h1, hu.trans (h2.mono hu.size)⟩)
  have HH : Hid (∀ u : World, Below w.heap.size w u → Calls Try.prog 24 #[.slice am l.length cm, .int .i64 f] u fun e w' => e = .returned (.bool (hasM l f)) ∧ Below w.heap.size w w') := hid (fun u hu => (vhas_any am _ cm l rfl hl3 f u (HT.out.im.keep hu (Nat.le_refl _))).mono fun e w' ⟨h1, h2⟩ => ⟨h1, h2 ▸ hu⟩)
  have HQ : Hid (∀ (u : World) (x z : ByteArray) (q : Nat) (cq : Nat), Below w.heap.size w u → PairsIn u (some ⟨q, 0, none⟩) (twoS f x z) → Calls Try.prog 40 #[.slice a2 n2 c2, .slice (some ⟨q, 0, none⟩) 2 cq] u fun e w' => e = .returned (.bool (decide (sg = twoS f x z))) ∧ Below w.heap.size w w') := hid (fun u x z q cq hu hp => (wsame_dec a2 _ n2 2 c2 cq sg (twoS f x z) hn2 rfl hm2 (by decide) u (HP.out.keep hu (Nat.le_refl _)) hp).mono fun e w' ⟨h1, h2⟩ => ⟨h1, hu.trans (h2.mono hu.size)⟩)
  have HG := hid (lt_of_blk h.blk)
  have q2 := cell_at (L := [_, _, _]) h.blk 2 _ rfl
  have hys : ∃ af cf, y = .slice af xs.length cf := by
    rcases h.row.2 with ⟨hv, h0⟩ | ⟨gg, cap2, cur, hv, _⟩
    · exact ⟨none, 0, by rw [hv, h0]⟩
    · exact ⟨_, _, hv⟩
  obtain ⟨af, cf, rfl⟩ := hys
  rw [show voE ep l t nx = 0 by rw [voE, h1]; rfl] at HX
  clear h1
  rw [h2] at HH
  clear h2
  obtain ⟨x, ex⟩ : ∃ x, x = voS ep l t nx := ⟨_, rfl⟩
  obtain ⟨z, ez⟩ : ∃ z, z = voC ep l t nx := ⟨_, rfl⟩
  rw [← ex, ← ez] at HX h3
  have HQ2 : Hid (∀ (u : World) (q : Nat) (cq : Nat), Below w.heap.size w u → PairsIn u (some ⟨q, 0, none⟩) (twoS f x z) → Calls Try.prog 40 #[.slice a2 n2 c2, .slice (some ⟨q, 0, none⟩) 2 cq] u fun e w' => e = .returned (.bool true) ∧ Below w.heap.size w w') := hid (fun u q cq hu hp => by have := HQ.out u x z q cq hu hp; rwa [decide_eq_true h3] at this)
  clear h3 HQ ex ez
  have hx1k : (xs.length : Int) ≤ 1000 := by omega
  clear h hN hP
  go_enter Try.func16, Try.ntmps16
  go_wp2_with (first
    | (go_at_call 11; go_must (refine (HX.out _ (Below.refl _ _)).mono ?_; rintro e w1 ⟨rfl, hb1⟩; have H1 := hid hb1; have d0 := (hb1.cell (p := ⟨g, 0, none⟩) HG.out).trans c0; have d1 := (hb1.cell (p := ⟨g, 1, none⟩) HG.out).trans c1; clear hb1))
    | (go_at_call 24; go_must (refine (HH.out _ H1.out).mono ?_; rintro e w2 ⟨rfl, hb2⟩; have H2 := hid hb2; clear hb2))
    | (go_at_call 40; go_must (refine (HQ2.out _ _ _ (by exact (H2.out.alloc H2.out.size _)) (by exact two_pairs _ _ _ _)).mono ?_; rintro e w3 ⟨rfl, hb3⟩; have H3 := hid hb3; clear hb3)))
  clear c0 c1 q2 d0 d1
  go_loopw [14] (fun i wr => ∃ j : Nat, j ≤ xs.length ∧ i = .int .i64 (j : Int) ∧ Below w.heap.size w wr ∧ ∀ i r, i < j → xs[i]? = some r → r.1.1 ≠ f) (fun i _ => ((xs.length : Int) - intOf i).toNat)
  case atStart => exact ⟨0, by omega, rfl, H3.out, fun i r hi => absurd hi (by omega)⟩
  case round =>
    obtain ⟨j, hj, rfl, hb, hno⟩ := hrel
    have hd := HT.out.stay hb.size (fun k hk => hb.block k (HT.out.lt k hk))
    have q2 := cell_at (L := [_, _, _]) hd.blk 2 _ rfl
    have hj0 : (0 : Int) ≤ (j : Int) := Int.natCast_nonneg _
    by_cases hjn : j = xs.length
    · exfalso
      obtain ⟨r, hr, e⟩ := HS.out
      obtain ⟨i, hi, rfl⟩ := List.getElem_of_mem hr
      exact hno i _ (by omega) (List.getElem?_eq_getElem hi) e
    · have hj1 : (j : Int) < (xs.length : Int) := by omega
      obtain ⟨r, hr⟩ : ∃ r, xs[j]? = some r := ⟨_, List.getElem?_eq_getElem (by omega)⟩
      have hat := rtC_at xs j r hr
      have haf : ∃ gf, af = some ⟨gf, 0, none⟩ := by
        rcases hd.row.2 with ⟨hv, h0⟩ | ⟨gg, cap2, cur, hv, _⟩
        · exact absurd h0 (by omega)
        · cases hv; exact ⟨gg, rfl⟩
      obtain ⟨gf, rfl⟩ := haf
      have m0 := hd.row.cells (g := gf) rfl _ _ hat.1
      rw [Addr.add_lit, Nat.zero_add] at m0
      have HB := hid (And.intro hb (And.intro hno (And.intro hr (And.intro hj hjn))))
      obtain ⟨F0, eF⟩ : ∃ F0, F0 = r.1.1 := ⟨_, rfl⟩
      rw [← eF] at m0
      have HF := hid eF
      clear hb hd hno hj hjn hr hat eF
      by_cases he : F0 = f
      · subst he
        go_wp2
        go_ret
        exact ⟨rfl, HB.out.1⟩
      · have hbe : (F0 == f) = false := by simpa using he
        go_wp2
        go_roundw
        case rel => exact ⟨j + 1, by have := HB.out.2.2.2; omega, by go_num, HB.out.1, fun i r' hi hr' => by
          by_cases e : i = j
          · subst e
            have := HB.out.2.2.1
            rw [hr'] at this
            cases this
            rw [← HF.out]; exact he
          · exact HB.out.2.1 i r' (by omega) hr'⟩
        case measure => simp [intOf]; omega
end Go.Proofs.Ytclfphffbfdimaa
