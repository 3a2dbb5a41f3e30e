/- Public keys, signatures, and what a signature leads to. -/
import Derived.Test.YtebhkifjommpjaaOtF
namespace Go.Proofs.Ytebhkifjommpjaa
open Go.RowKit

/-- Is it a leaf? -/
def leafB (n : Int) : Bool := decide (0 ≤ n ∧ n < 256)
theorem leafB_yes {n : Int} (h0 : 0 ≤ n) (h1 : n < 256) : leafB n = true := decide_eq_true ⟨h0, h1⟩
theorem leafB_no {n : Int} (h : ¬ (0 ≤ n ∧ n < 256)) : leafB n = false := decide_eq_false h
def leafE (n : Int) : Int := if leafB n then 0 else 1
def pubS (seed : ByteArray) (n : Int) : ByteArray := if leafB n then ⟨(pubB seed n.toNat).toArray⟩ else ⟨#[]⟩
def signS (seed : ByteArray) (n : Int) (text : ByteArray) : ByteArray := if leafB n then ⟨(signB seed n.toNat text).toArray⟩ else ⟨#[]⟩
def sigOk (sig : ByteArray) : Bool := decide (sig.size = 560)
def recS (text sig : ByteArray) : ByteArray := if sigOk sig then ⟨(recB text sig).toArray⟩ else ⟨#[]⟩
theorem leaf_nat {n : Int} (h : leafB n = true) : ∃ k : Nat, n = (k : Int) ∧ k < 256 := by
  have := of_decide_eq_true h
  exact ⟨n.toNat, by omega, by omega⟩

theorem isLeaf_any (n : Int) (w : World) : Calls Try.prog 37 #[.int .i64 n] w fun e w' => e = .returned (.bool (leafB n)) ∧ w' = w := by
  by_cases h0 : 0 ≤ n
  · by_cases h1 : n < 256
    · rw [leafB_yes h0 h1]
      go_enter Try.func37, Try.ntmps37
      go_wp2
      go_ret
      exact ⟨rfl, rfl⟩
    · rw [leafB_no (fun h => h1 h.2)]
      go_enter Try.func37, Try.ntmps37
      go_wp2
      go_ret
      exact ⟨rfl, rfl⟩
  · rw [leafB_no (fun h => h0 h.1)]
    go_enter Try.func37, Try.ntmps37
    go_wp2
    go_ret
    exact ⟨rfl, rfl⟩
theorem isLeaf_at (n : Int) (b : Bool) (h : leafB n = b) (w : World) : Calls Try.prog 37 #[.int .i64 n] w fun e w' => e = .returned (.bool b) ∧ w' = w := by
  rw [← h]
  exact isLeaf_any n w

theorem begins_at (seed : ByteArray) (hs : seed.size ≤ 1000000) (leaf : Nat) (hl : leaf < 256) (u : World) :
    Calls Try.prog 39 #[.string seed, .int .i64 (leaf : Int)] u fun e w' => ∃ g, e = .returned (.slice (some ⟨g, 0, none⟩) 35 35) ∧ StrsIn w' (some ⟨g, 0, none⟩) (begL seed leaf) ∧ Below u.heap.size u w' :=
  (begins_le seed hs leaf hl u).mono fun _ _ h => ⟨_, h⟩
theorem pieces_at (sig : ByteArray) (hs : sig.size = 560) (u : World) :
    Calls Try.prog 50 #[.string sig] u fun e w' => ∃ g, e = .returned (.slice (some ⟨g, 0, none⟩) 35 35) ∧ StrsIn w' (some ⟨g, 0, none⟩) (pieL sig) ∧ Below u.heap.size u w' :=
  (pieces_any sig hs u).mono fun _ _ h => ⟨_, h⟩

set_option maxRecDepth 100000 in
set_option maxHeartbeats 1600000 in
theorem opublic_le (seed : ByteArray) (hs : seed.size ≤ 1000000) (n : Int) (w : World) :
    Calls Try.prog 22 #[.string seed, .int .i64 n] w fun e w' => e = .returned (.tuple #[.string (pubS seed n), .int .i64 (leafE n)]) ∧ Below w.heap.size w w' := by
  cases hb : leafB n with
  | false =>
    have HB := hid hb
    rw [show pubS seed n = ⟨#[]⟩ by unfold pubS; rw [hb]; rfl, show leafE n = 1 by unfold leafE; rw [hb]; rfl]
    clear hb hs
    go_enter Try.func22, Try.ntmps22
    go_wp2_with (go_at_call 37; refine (isLeaf_at _ _ (by exact HB.out) _).mono ?_; rintro e wx ⟨rfl, rfl⟩)
    go_ret2
    exact ⟨rfl, Below.refl _ _⟩
  | true =>
    have HB := hid hb
    obtain ⟨leaf, rfl, hl⟩ := leaf_nat hb
    obtain ⟨Y, eY⟩ : ∃ Y : ByteArray, Y = ⟨(chB (fun _ => 15) (begS seed leaf) 35).toArray⟩ := ⟨_, rfl⟩
    have hY : Y.size = 560 := by rw [eY, mk_size, chB_len _ _ _ (fun i _ => begS_size _ _ _)]
    obtain ⟨T, eT⟩ : ∃ T, T = shaS Y := ⟨_, rfl⟩
    rw [show pubS seed (leaf : Int) = T by unfold pubS; rw [hb, eT, eY, Int.toNat_natCast]; rfl, show leafE (leaf : Int) = 0 by unfold leafE; rw [hb]; rfl]
    have HG : Hid (∀ u : World, Calls Try.prog 39 #[.string seed, .int .i64 (leaf : Int)] u fun e w' => e = .returned (.slice (some ⟨u.heap.size, 0, none⟩) 35 35) ∧ StrsIn w' (some ⟨u.heap.size, 0, none⟩) (begL seed leaf) ∧ Below u.heap.size u w') := hid (begins_le seed hs leaf hl)
    have HW : Hid (∀ (u : World) (g : Nat), StrsIn u (some ⟨g, 0, none⟩) (begL seed leaf) → Calls Try.prog 38 #[.slice (some ⟨g, 0, none⟩) 35 35, .func (.func 40) #[] #[]] u fun e w' => e = .returned (.string Y) ∧ Below u.heap.size u w') := hid (fun u g hS => by
      rw [eY]
      exact walked_public (begL seed leaf) (begS seed leaf) (fun _ => 15) g u (begL_len _ _) (fun j hj => begL_get _ _ _ hj) (fun j _ => begS_size _ _ _) (fun _ _ => Nat.le_refl _) hS (fun j _ v _ => public1_any j v))
    have HS : Hid (∀ (u : World) (g : Nat), g = u.heap.size → Calls Try.prog 41 #[.slice (some ⟨g, 0, none⟩) 1 1] (u.alloc (.cells #[.string Y] 9)) fun e w' => e = .returned (.string T) ∧ Below u.heap.size u w') := hid (fun u g hg => by rw [eT]; exact sum_one Y (by omega) u g hg)
    clear eY eT hY hs hl hb
    go_enter Try.func22, Try.ntmps22
    go_wp2_with (first
      | (go_at_call 37; refine (isLeaf_at _ _ (by exact HB.out) _).mono ?_; rintro e wx ⟨rfl, rfl⟩)
      | (go_at_call 39; refine (HG.out _).mono ?_; rintro e w1 ⟨rfl, hs1, hb1⟩; have H1 := hid (And.intro hs1 hb1); clear hs1 hb1)
      | (go_at_call 38; refine (HW.out _ _ (by exact H1.out.1)).mono ?_; rintro e w2 ⟨rfl, hb2⟩; have H2 := hid (H1.out.2.trans (hb2.mono H1.out.2.size)); clear hb2)
      | (go_at_call 41; refine (HS.out _ _ (by simp)).mono ?_; rintro e w3 ⟨rfl, hb3⟩; have H3 := hid (H2.out.trans (hb3.mono H2.out.size)); clear hb3))
    go_ret2
    exact ⟨rfl, H3.out⟩

set_option maxRecDepth 100000 in
set_option maxHeartbeats 1600000 in
theorem osign_le (seed : ByteArray) (hs : seed.size ≤ 1000000) (n : Int) (t : ByteArray) (ht : t.size ≤ 1000000) (w : World) :
    Calls Try.prog 29 #[.string seed, .int .i64 n, .string t] w fun e w' => e = .returned (.tuple #[.string (signS seed n t), .int .i64 (leafE n)]) ∧ Below w.heap.size w w' := by
  cases hb : leafB n with
  | false =>
    have HB := hid hb
    rw [show signS seed n t = ⟨#[]⟩ by unfold signS; rw [hb]; rfl, show leafE n = 1 by unfold leafE; rw [hb]; rfl]
    clear hb hs ht
    go_enter Try.func29, Try.ntmps29
    go_wp2_with (go_at_call 37; refine (isLeaf_at _ _ (by exact HB.out) _).mono ?_; rintro e wx ⟨rfl, rfl⟩)
    go_ret2
    exact ⟨rfl, Below.refl _ _⟩
  | true =>
    have HB := hid hb
    obtain ⟨leaf, rfl, hl⟩ := leaf_nat hb
    obtain ⟨Y, eY⟩ : ∃ Y : ByteArray, Y = ⟨(signB seed leaf t).toArray⟩ := ⟨_, rfl⟩
    rw [show signS seed (leaf : Int) t = Y by unfold signS; rw [hb, eY, Int.toNat_natCast]; rfl, show leafE (leaf : Int) = 0 by unfold leafE; rw [hb]; rfl]
    have HD : Hid (∀ u : World, Calls Try.prog 44 #[.string t] u fun e w' => ∃ g cap, e = .returned (.slice (some ⟨g, 0, none⟩) 35 cap) ∧ u.heap.size ≤ g ∧ g < w'.heap.size ∧ IntsIn w' (some ⟨g, 0, none⟩) (nI (txtN t)) ∧ Below u.heap.size u w') := hid (odigits_le t ht)
    have HG : Hid (∀ u : World, Calls Try.prog 39 #[.string seed, .int .i64 (leaf : Int)] u fun e w' => ∃ g, e = .returned (.slice (some ⟨g, 0, none⟩) 35 35) ∧ StrsIn w' (some ⟨g, 0, none⟩) (begL seed leaf) ∧ Below u.heap.size u w') := hid (begins_at seed hs leaf hl)
    have HW : Hid (∀ (u : World) (g b gd cap : Nat), StrsIn u (some ⟨g, 0, none⟩) (begL seed leaf) → b < u.heap.size → u.cell? ⟨b, 0, none⟩ = some (.slice (some ⟨gd, 0, none⟩) 35 cap) → IntsIn u (some ⟨gd, 0, none⟩) (nI (txtN t)) → Calls Try.prog 38 #[.slice (some ⟨g, 0, none⟩) 35 35, .func (.func 45) #[] #[.pointer (some ⟨b, 0, none⟩)]] u fun e w' => e = .returned (.string Y) ∧ Below u.heap.size u w') := hid (fun u g b gd cap hS hbl hcb hI => by
      rw [eY]
      exact walked_sign b (begL seed leaf) (begS seed leaf) (fun i => (txtN t).getD i 0) g u (begL_len _ _) (fun j hj => begL_get _ _ _ hj) (fun j _ => begS_size _ _ _) (fun j _ => by have := txtN_lt t j; omega) hS
        (fun j hj v hv => sign1_any b gd cap j _ (by omega) v ((hv.cell (p := ⟨b, 0, none⟩) hbl).trans hcb) ((hv.cell (p := ⟨gd, j, none⟩) (dig_cell hI j hj).1).trans (dig_cell hI j hj).2)))
    clear eY hs ht hl hb
    go_enter Try.func29, Try.ntmps29
    go_wp2_with (first
      | (go_at_call 37; refine (isLeaf_at _ _ (by exact HB.out) _).mono ?_; rintro e wx ⟨rfl, rfl⟩)
      | (go_at_call 44; refine (HD.out _).mono ?_; rintro e w1 ⟨gd, cap, rfl, hgl, hg1, hi1, hb1⟩; have H1 := hid (And.intro hg1 (And.intro hi1 hb1)); clear hgl hg1 hi1 hb1)
      | (go_at_call 39; refine (HG.out _).mono ?_; rintro e w2 ⟨g2, rfl, hs2, hb2⟩
         have hc2 : w2.cell? ⟨w1.heap.size, 0, none⟩ = some (.slice (some ⟨gd, 0, none⟩) 35 cap) := (hb2.cell (p := ⟨w1.heap.size, 0, none⟩) (by simp)).trans (cell_at (L := [.slice (some ⟨gd, 0, none⟩) 35 cap]) (t := 63) (fr := (0, 0)) (heap_alloc_last w1 _) 0 _ rfl)
         have hw2 : Below w1.heap.size w1 w2 := ((Below.refl _ _).alloc (Nat.le_refl _) _).trans (hb2.mono (by simp))
         have hz2 : w1.heap.size < w2.heap.size := Nat.lt_of_lt_of_le (by simp) hb2.size
         have H2 := hid (And.intro hs2 (And.intro hz2 (And.intro hc2 (And.intro (H1.out.2.1.keep hw2 (Nat.le_refl _)) (H1.out.2.2.trans (hw2.mono H1.out.2.2.size))))))
         clear hs2 hb2 hc2 hw2 hz2)
      | (go_at_call 38; refine (HW.out _ _ _ _ _ (by exact H2.out.1) (by exact H2.out.2.1) (by exact H2.out.2.2.1) (by exact H2.out.2.2.2.1)).mono ?_; rintro e w3 ⟨rfl, hb3⟩; have H3 := hid (H2.out.2.2.2.2.trans (hb3.mono H2.out.2.2.2.2.size)); clear hb3))
    go_ret2
    exact ⟨rfl, H3.out⟩

set_option maxRecDepth 100000 in
set_option maxHeartbeats 1600000 in
theorem orecover_le (t : ByteArray) (ht : t.size ≤ 1000000) (sig : ByteArray) (w : World) :
    Calls Try.prog 33 #[.string t, .string sig] w fun e w' => e = .returned (.tuple #[.string (recS t sig), .bool (sigOk sig)]) ∧ Below w.heap.size w w' := by
  by_cases hs : sig.size = 560
  · have hb : sigOk sig = true := decide_eq_true hs
    obtain ⟨Y, eY⟩ : ∃ Y : ByteArray, Y = ⟨(chB (fun i => 15 - (txtN t).getD i 0) (pieceS sig) 35).toArray⟩ := ⟨_, rfl⟩
    have hY : Y.size = 560 := by rw [eY, mk_size, chB_len _ _ _ (fun i hi => pieceS_size sig i hs hi)]
    obtain ⟨T, eT⟩ : ∃ T, T = shaS Y := ⟨_, rfl⟩
    rw [show recS t sig = T by unfold recS; rw [hb, eT, eY]; rfl, hb]
    have hz : (sig.size : Int) = 560 := by omega
    have HS : Hid (∀ (u : World) (g : Nat), g = u.heap.size → Calls Try.prog 41 #[.slice (some ⟨g, 0, none⟩) 1 1] (u.alloc (.cells #[.string Y] 9)) fun e w' => e = .returned (.string T) ∧ Below u.heap.size u w') := hid (fun u g hg => by rw [eT]; exact sum_one Y (by omega) u g hg)
    have HD : Hid (∀ u : World, Calls Try.prog 44 #[.string t] u fun e w' => ∃ g cap, e = .returned (.slice (some ⟨g, 0, none⟩) 35 cap) ∧ u.heap.size ≤ g ∧ g < w'.heap.size ∧ IntsIn w' (some ⟨g, 0, none⟩) (nI (txtN t)) ∧ Below u.heap.size u w') := hid (odigits_le t ht)
    have HG : Hid (∀ u : World, Calls Try.prog 50 #[.string sig] u fun e w' => ∃ g, e = .returned (.slice (some ⟨g, 0, none⟩) 35 35) ∧ StrsIn w' (some ⟨g, 0, none⟩) (pieL sig) ∧ Below u.heap.size u w') := hid (pieces_at sig hs)
    have HW : Hid (∀ (u : World) (g b gd cap : Nat), StrsIn u (some ⟨g, 0, none⟩) (pieL sig) → b < u.heap.size → u.cell? ⟨b, 0, none⟩ = some (.slice (some ⟨gd, 0, none⟩) 35 cap) → IntsIn u (some ⟨gd, 0, none⟩) (nI (txtN t)) → Calls Try.prog 38 #[.slice (some ⟨g, 0, none⟩) 35 35, .func (.func 51) #[] #[.pointer (some ⟨b, 0, none⟩)]] u fun e w' => e = .returned (.string Y) ∧ Below u.heap.size u w') := hid (fun u g b gd cap hS hbl hcb hI => by
      rw [eY]
      exact walked_recover b (pieL sig) (pieceS sig) (fun i => 15 - (txtN t).getD i 0) g u (pieL_len _) (fun j hj => pieL_get _ _ hj) (fun j hj => pieceS_size sig j hs hj) (fun j _ => Nat.sub_le _ _) hS
        (fun j hj v hv => recover1_any b gd cap j _ (by omega) (by have := txtN_lt t j; omega) v ((hv.cell (p := ⟨b, 0, none⟩) hbl).trans hcb) ((hv.cell (p := ⟨gd, j, none⟩) (dig_cell hI j hj).1).trans (dig_cell hI j hj).2)))
    clear eY eT hY hs ht hb
    go_enter Try.func33, Try.ntmps33
    go_wp2_with (first
      | (go_at_call 44; refine (HD.out _).mono ?_; rintro e w1 ⟨gd, cap, rfl, hgl, hg1, hi1, hb1⟩; have H1 := hid (And.intro hg1 (And.intro hi1 hb1)); clear hgl hg1 hi1 hb1)
      | (go_at_call 50; refine (HG.out _).mono ?_; rintro e w2 ⟨g2, rfl, hs2, hb2⟩
         have hc2 : w2.cell? ⟨w1.heap.size, 0, none⟩ = some (.slice (some ⟨gd, 0, none⟩) 35 cap) := (hb2.cell (p := ⟨w1.heap.size, 0, none⟩) (by simp)).trans (cell_at (L := [.slice (some ⟨gd, 0, none⟩) 35 cap]) (t := 63) (fr := (0, 0)) (heap_alloc_last w1 _) 0 _ rfl)
         have hw2 : Below w1.heap.size w1 w2 := ((Below.refl _ _).alloc (Nat.le_refl _) _).trans (hb2.mono (by simp))
         have hz2 : w1.heap.size < w2.heap.size := Nat.lt_of_lt_of_le (by simp) hb2.size
         have H2 := hid (And.intro hs2 (And.intro hz2 (And.intro hc2 (And.intro (H1.out.2.1.keep hw2 (Nat.le_refl _)) (H1.out.2.2.trans (hw2.mono H1.out.2.2.size))))))
         clear hs2 hb2 hc2 hw2 hz2)
      | (go_at_call 38; refine (HW.out _ _ _ _ _ (by exact H2.out.1) (by exact H2.out.2.1) (by exact H2.out.2.2.1) (by exact H2.out.2.2.2.1)).mono ?_; rintro e w3 ⟨rfl, hb3⟩; have H3 := hid (H2.out.2.2.2.2.trans (hb3.mono H2.out.2.2.2.2.size)); clear hb3)
      | (go_at_call 41; refine (HS.out _ _ (by simp)).mono ?_; rintro e w4 ⟨rfl, hb4⟩; have H4 := hid (H3.out.trans (hb4.mono H3.out.size)); clear hb4))
    go_ret2
    exact ⟨rfl, H4.out⟩
  · have hb : sigOk sig = false := decide_eq_false hs
    rw [show recS t sig = ⟨#[]⟩ by unfold recS; rw [hb]; rfl, hb]
    have hz : ¬ ((sig.size : Int) = 560) := by omega
    clear hs hb ht
    go_enter Try.func33, Try.ntmps33
    go_wp2
    go_ret2
    exact ⟨rfl, Below.refl _ _⟩
end Go.Proofs.Ytebhkifjommpjaa
