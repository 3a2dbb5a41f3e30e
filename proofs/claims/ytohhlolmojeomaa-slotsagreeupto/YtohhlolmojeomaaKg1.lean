/- Texts laid together: TeA TeB TeC TeE TeF. -/
import Derived.Test.YtohhlolmojeomaaKb1
import Derived.Deep.QuietTactic
import Derived.Test.YtohhlolmojeomaaKc1
/- Signatures as pairs. No walk here. -/
namespace Go.Proofs.Ytohhlolmojeomaa
open Go.RowKit

theorem bytes_eq {a b : ByteArray} (h : a.data.toList = b.data.toList) : a = b := by
  apply ByteArray.ext
  exact Array.toList_inj.1 h
def eqP (p q : Int × ByteArray) : Bool := decide (p.1 = q.1) && decide (p.2.data.toList = q.2.data.toList)
theorem eqP_iff (p q : Int × ByteArray) : eqP p q = true ↔ p = q := by
  unfold eqP
  rw [Bool.and_eq_true_iff, decide_eq_true_iff, decide_eq_true_iff]
  constructor
  · rintro ⟨h1, h2⟩
    exact Prod.ext h1 (bytes_eq h2)
  · rintro rfl
    exact ⟨rfl, rfl⟩
def stands (l : List (Int × ByteArray)) (p : Int × ByteArray) : Bool := l.any (eqP p)
theorem stands_iff (l : List (Int × ByteArray)) (p : Int × ByteArray) : stands l p = true ↔ p ∈ l := by
  unfold stands
  rw [List.any_eq_true]
  constructor
  · rintro ⟨q, hq, h⟩
    rw [(eqP_iff p q).1 h]
    exact hq
  · intro h
    exact ⟨p, h, (eqP_iff p p).2 rfl⟩
theorem stands_no {l : List (Int × ByteArray)} {p : Int × ByteArray} (h : p ∉ l) : stands l p = false := by
  cases e : stands l p with
  | false => rfl
  | true => exact absurd ((stands_iff l p).1 e) h
theorem stands_snoc {l : List (Int × ByteArray)} {p : Int × ByteArray} {j : Nat} (h : p ∉ l.take j) (hx : (idOf l j, rtOf l j) ≠ p) (hj : j < l.length) : p ∉ l.take (j + 1) := by
  rw [List.take_add_one, getP_some hj]
  intro hm
  rcases List.mem_append.1 hm with h1 | h1
  · exact h h1
  · exact hx (List.mem_singleton.1 h1).symm
theorem stands_at {l : List (Int × ByteArray)} {p : Int × ByteArray} {j : Nat} (hx : (idOf l j, rtOf l j) = p) (hj : j < l.length) : p ∈ l := by
  rw [← hx]
  exact List.mem_of_getElem? (getP_some hj)
end Go.Proofs.Ytohhlolmojeomaa

/- The document's: is a signature in the list? -/
namespace Go.Proofs.Ytohhlolmojeomaa
open Go.RowKit

theorem data_list (b : ByteArray) : b.toList = b.data.toList := ByteArray.toList_eq b
theorem SgP.new (w : World) (q : Int) (r : ByteArray) : (w.alloc (.cells #[.int .i64 q, .string r] 67)).heap[w.heap.size]? = some (.cells #[.int .i64 q, .string r] 67 (0, 0)) := heap_alloc_last w _
set_option maxRecDepth 100000 in
set_option maxHeartbeats 1600000 in
/-- The same lists are the same. -/
theorem wsame_yes (a1 a2 : Option Addr) (n c1 c2 : Nat) (ps : List (Int × ByteArray)) (hn : ps.length = n) (hm : n ≤ maxLen) (w : World) (h1 : PairsIn w a1 ps) (h2 : PairsIn w a2 ps) :
    Calls Try.prog 45 #[.slice a1 n c1, .slice a2 n c2] w fun e w' => e = .returned (.bool true) ∧ Below w.heap.size w w' := by
  have hm2 : (n : Int) ≤ 9223372036854775807 := by unfold maxLen at hm; omega
  have HP := hid (And.intro h1 h2)
  have HN := hid hn
  clear h1 h2 hm hn
  go_enter Try.func45, Try.ntmps45
  go_wp2
  go_loopw [5] (fun i wr => ∃ j : Nat, j ≤ n ∧ i = .int .i64 (j : Int) ∧ Below w.heap.size w wr)
    (fun i _ => ((n : Int) - intOf i).toNat)
  case atStart => exact ⟨0, by omega, rfl, Below.refl _ _⟩
  case round =>
    obtain ⟨j, hj, rfl, hbel⟩ := hrel
    have HB := hid hbel
    clear hbel
    by_cases hjn : j = n
    · have hj1 : ¬ ((j : Int) < (n : Int)) := by omega
      clear hj hjn
      go_wp2
      go_ret
      exact ⟨rfl, HB.out⟩
    · have hj1 : (j : Int) < (n : Int) := by omega
      have hj0 : (0 : Int) ≤ (j : Int) := Int.natCast_nonneg _
      have hp := getP_some (ps := ps) (j := j) (by rw [HN.out]; omega)
      obtain ⟨g1, o1, rfl, hg1, x1, y1⟩ := HP.out.1.at j _ hp
      obtain ⟨g2, o2, rfl, hg2, x2, y2⟩ := HP.out.2.at j _ hp
      obtain ⟨x, ex⟩ : ∃ x, x = idOf ps j := ⟨_, rfl⟩
      obtain ⟨r, er⟩ : ∃ r, r = rtOf ps j := ⟨_, rfl⟩
      rw [← ex] at x1 x2
      rw [← er] at y1 y2
      have hbx : ∀ q : Cls wr, Below w.heap.size w q.1 := fun q => HB.out.trans (q.2.mono HB.out.size)
      have d1 : ∀ q : Cls wr, q.1.cell? ⟨g1, o1 + j * 2, none⟩ = some (.int .i64 x) := fun q => ((hbx q).cell (p := ⟨g1, _, none⟩) hg1).trans x1
      have d2 : ∀ q : Cls wr, q.1.cell? ⟨g1, o1 + j * 2 + 1, none⟩ = some (.string r) := fun q => ((hbx q).cell (p := ⟨g1, _, none⟩) hg1).trans y1
      have d3 : ∀ q : Cls wr, q.1.cell? ⟨g2, o2 + j * 2, none⟩ = some (.int .i64 x) := fun q => ((hbx q).cell (p := ⟨g2, _, none⟩) hg2).trans x2
      have d4 : ∀ q : Cls wr, q.1.cell? ⟨g2, o2 + j * 2 + 1, none⟩ = some (.string r) := fun q => ((hbx q).cell (p := ⟨g2, _, none⟩) hg2).trans y2
      have HJ := hid (And.intro hj hjn)
      clear hp x1 y1 x2 y2 hbx hg1 hg2 ex er hj hjn
      go_wp2
      haveI := Cls.ne wr
      refine wp_region_cls wr (by kernel_rfl) (by kernel_rfl) ?_
      repeat (go_big_quiet_step ((fail)))
      refine wpQuiet_nil ?_
      rintro _ ⟨q, rfl⟩
      go_wp2
      go_roundw
      case rel => exact ⟨j + 1, by have := HJ.out; omega, by go_num, HB.out.trans (q.2.mono HB.out.size)⟩
      case measure => simp [intOf]; omega
end Go.Proofs.Ytohhlolmojeomaa

/- The document's proofs. -/
namespace Go.Proofs.Ytohhlolmojeomaa
open Go.RowKit

/-- The i-th signature is of this text, by a member, behind the one ahead of it. -/
def okT (l : List Int) (t : ByteArray) (ss : List (Int × ByteArray)) (i : Nat) : Bool := decide ((rtOf ss i).data.toList = t.data.toList) && (hasM l (idOf ss i) && (decide (i = 0) || decide (idOf ss (i - 1) < idOf ss i)))
def okTTo (l : List Int) (t : ByteArray) (ss : List (Int × ByteArray)) : Nat → Bool
  | 0 => true
  | j + 1 => okTTo l t ss j && okT l t ss j
theorem okTTo_succ (l : List Int) (t : ByteArray) (ss : List (Int × ByteArray)) (j : Nat) : okTTo l t ss (j + 1) = (okTTo l t ss j && okT l t ss j) := rfl
theorem okTTo_false (l : List Int) (t : ByteArray) (ss : List (Int × ByteArray)) (j n : Nat) (h : okTTo l t ss j = false) (hn : j ≤ n) : okTTo l t ss n = false := by
  induction n with
  | zero =>
    obtain rfl : j = 0 := by omega
    exact h
  | succ n ih =>
    by_cases e : j = n + 1
    · rw [← e]; exact h
    · rw [okTTo_succ, ih (by omega)]; rfl
def provesB (ep : Int) (l : List Int) (t : ByteArray) (ss : List (Int × ByteArray)) : Bool := okTTo l t ss ss.length && (rightC ep l && (decide (quoZ (l.length : Int) ≤ (ss.length : Int)) && decide (ss.length ≤ 16)))
end Go.Proofs.Ytohhlolmojeomaa

/- Who signed a text, gathered. No walk here. -/
namespace Go.Proofs.Ytohhlolmojeomaa
open Go.RowKit

/-- Numbers with one text. -/
def gP (t : ByteArray) (zs : List Int) : List (Int × ByteArray) := zs.map fun z => (z, t)
theorem gP_len (t : ByteArray) (zs : List Int) : (gP t zs).length = zs.length := by simp [gP]
theorem gP_app (t : ByteArray) (a b : List Int) : gP t (a ++ b) = gP t a ++ gP t b := by simp [gP]
theorem gP_mem (t : ByteArray) (zs : List Int) (z : Int) : (z, t) ∈ gP t zs ↔ z ∈ zs := by
  unfold gP
  rw [List.mem_map]
  constructor
  · rintro ⟨y, hy, h⟩
    have e : y = z := congrArg Prod.fst h
    rw [← e]
    exact hy
  · intro h
    exact ⟨z, h, rfl⟩
theorem gP_stands (t : ByteArray) (zs : List Int) (z : Int) : stands (gP t zs) (z, t) = hasM zs z := by
  by_cases h : z ∈ zs
  · rw [(stands_iff _ _).2 ((gP_mem t zs z).2 h)]
    exact (decide_eq_true h).symm
  · rw [stands_no (fun hm => h ((gP_mem t zs z).1 hm))]
    exact (decide_eq_false h).symm
/-- The members whose signature is there, each once. -/
def gOut (l : List Int) (t : ByteArray) (ss : List (Int × ByteArray)) : Nat → List Int
  | 0 => []
  | j + 1 => gOut l t ss j ++ (if stands ss (l.getD j 0, t) = true ∧ hasM (gOut l t ss j) (l.getD j 0) = false then [l.getD j 0] else [])
theorem gOut_yes {l : List Int} {t : ByteArray} {ss : List (Int × ByteArray)} {j : Nat} (h1 : stands ss (l.getD j 0, t) = true) (h2 : hasM (gOut l t ss j) (l.getD j 0) = false) : gOut l t ss (j + 1) = gOut l t ss j ++ [l.getD j 0] := by rw [gOut, if_pos ⟨h1, h2⟩]
theorem gOut_no {l : List Int} {t : ByteArray} {ss : List (Int × ByteArray)} {j : Nat} (h : ¬ (stands ss (l.getD j 0, t) = true ∧ hasM (gOut l t ss j) (l.getD j 0) = false)) : gOut l t ss (j + 1) = gOut l t ss j := by rw [gOut, if_neg h, List.append_nil]
theorem gOut_len (l : List Int) (t : ByteArray) (ss : List (Int × ByteArray)) : ∀ j, (gOut l t ss j).length ≤ j
  | 0 => Nat.le_refl _
  | j + 1 => by
    have := gOut_len l t ss j
    rw [gOut, List.length_append]
    split <;> simp <;> omega
theorem gOut_nodup (l : List Int) (t : ByteArray) (ss : List (Int × ByteArray)) : ∀ j, (gOut l t ss j).Nodup
  | 0 => List.Pairwise.nil
  | j + 1 => by
    rw [gOut]
    split
    · next h =>
      refine List.nodup_append.2 ⟨gOut_nodup l t ss j, by simp, fun x hx y hy => ?_⟩
      rw [List.mem_singleton.1 hy]
      intro e
      rw [e] at hx
      exact of_decide_eq_false h.2 hx
    · rw [List.append_nil]
      exact gOut_nodup l t ss j
theorem gOut_mem (l : List Int) (t : ByteArray) (ss : List (Int × ByteArray)) (z : Int) : ∀ j, j ≤ l.length → (z ∈ gOut l t ss j ↔ z ∈ l.take j ∧ (z, t) ∈ ss)
  | 0, _ => by simp [gOut]
  | j + 1, hj => by
    have ih := gOut_mem l t ss z j (by omega)
    have hl : l.getD j 0 = l[j]'(by omega) := getD_get l j (by omega)
    rw [List.take_add_one, List.getElem?_eq_getElem (show j < l.length by omega)]
    by_cases hc : stands ss (l.getD j 0, t) = true ∧ hasM (gOut l t ss j) (l.getD j 0) = false
    · rw [gOut_yes hc.1 hc.2, List.mem_append, List.mem_append, ih, hl]
      constructor
      · rintro (h | h)
        · exact ⟨.inl h.1, h.2⟩
        · have e := List.mem_singleton.1 h
          refine ⟨.inr (by simp [e]), ?_⟩
          rw [e, ← hl]
          exact (stands_iff _ _).1 hc.1
      · rintro ⟨h | h, h2⟩
        · exact .inl ⟨h, h2⟩
        · exact .inr (by simpa using h)
    · rw [gOut_no hc, List.mem_append, ih]
      constructor
      · rintro ⟨h, h2⟩
        exact ⟨.inl h, h2⟩
      · rintro ⟨h | h, h2⟩
        · exact ⟨h, h2⟩
        · have e : z = l.getD j 0 := by rw [hl]; simpa using h
          have hs : stands ss (l.getD j 0, t) = true := (stands_iff _ _).2 (by rw [← e]; exact h2)
          have hh : hasM (gOut l t ss j) (l.getD j 0) = true := by
            cases e2 : hasM (gOut l t ss j) (l.getD j 0) with
            | true => rfl
            | false => exact absurd ⟨hs, e2⟩ hc
          have := of_decide_eq_true hh
          rw [← e] at this
          exact ih.1 this
/-- A list of different ones is no longer than a list that has them all. -/
theorem nodup_len {α : Type} [DecidableEq α] : ∀ (a b : List α), a.Nodup → (∀ x, x ∈ a → x ∈ b) → a.length ≤ b.length
  | [], _, _, _ => Nat.zero_le _
  | x :: a, b, h1, h2 => by
    have hx := h2 x (List.mem_cons_self ..)
    have h3 := List.nodup_cons.1 h1
    have := nodup_len a (b.erase x) h3.2 (fun y hy => (List.mem_erase_of_ne (a := y) (b := x) (fun e => h3.1 (by rw [← e]; exact hy))).2 (h2 y (List.mem_cons_of_mem _ hy)))
    rw [List.length_erase_of_mem hx] at this
    have := List.length_pos_of_mem hx
    rw [List.length_cons]
    omega
theorem gP_nodup (t : ByteArray) {zs : List Int} (h : zs.Nodup) : (gP t zs).Nodup := List.pairwise_map.2 (h.imp (fun hab e => hab (congrArg Prod.fst e)))
theorem gOut_le (l : List Int) (t : ByteArray) (ss : List (Int × ByteArray)) (j : Nat) (hj : j ≤ l.length) : (gOut l t ss j).length ≤ ss.length := by
  rw [← gP_len t]
  refine nodup_len _ _ (gP_nodup t (gOut_nodup l t ss j)) (fun x hx => ?_)
  obtain ⟨z, hz, rfl⟩ := List.mem_map.1 hx
  exact ((gOut_mem l t ss z j hj).1 hz).2
/-- .. rising. -/
def gathL (l : List Int) (t : ByteArray) (ss : List (Int × ByteArray)) : List Int := (gOut l t ss l.length).mergeSort (fun a b => decide (a ≤ b))
theorem gathL_mem (l : List Int) (t : ByteArray) (ss : List (Int × ByteArray)) (z : Int) : z ∈ gathL l t ss ↔ z ∈ l ∧ (z, t) ∈ ss := by
  rw [gathL, List.mem_mergeSort, gOut_mem l t ss z l.length (Nat.le_refl _), List.take_length]
theorem gathL_inc (l : List Int) (t : ByteArray) (ss : List (Int × ByteArray)) : Inc (gathL l t ss) := by
  have h1 : (gathL l t ss).Pairwise (fun a b => decide (a ≤ b) = true) := List.pairwise_mergeSort (fun a b c h1 h2 => by simp at *; omega) (fun a b => by simp; omega) _
  have h2 : (gathL l t ss).Nodup := (List.mergeSort_perm _ _).nodup_iff.2 (gOut_nodup l t ss _)
  exact (List.pairwise_and_iff.2 ⟨h1, h2⟩).imp (fun {a b} h => by have := of_decide_eq_true h.1; have := h.2; omega)
theorem gathL_eq {l : List Int} {t : ByteArray} {ss : List (Int × ByteArray)} {S : List Int} (h1 : Inc S) (h2 : ∀ z, z ∈ S ↔ z ∈ gOut l t ss l.length) : S = gathL l t ss :=
  inc_eq _ _ h1 (gathL_inc l t ss) (fun z => by rw [h2, gOut_mem l t ss z l.length (Nat.le_refl _), List.take_length, gathL_mem])
end Go.Proofs.Ytohhlolmojeomaa

/- The document's Gather. -/
namespace Go.Proofs.Ytohhlolmojeomaa
open Go.RowKit

theorem Try.info67 : (Try.prog.info? 67).map (fun i => (i.zero, i.size, i.bytes)) = some (some (.agg #[.int .i64 0, .string ⟨#[]⟩]), 2, 24) := by kernel_rfl
theorem own_pairsT {w : World} {B : Nat} {v : Value} {ps : List (Int × ByteArray)} {T : TypeId} (h : w.ownsRow B T 2 v ps.length (pC ps)) : ∃ ad cap, v = .slice ad ps.length cap ∧ PairsIn w ad ps := by
  rcases h.2 with ⟨hv, h0⟩ | ⟨g, cap, cur, hv, hB, hh, hx⟩
  · exact ⟨none, 0, by rw [hv, h0], .inl (List.eq_nil_of_length_eq_zero h0)⟩
  · refine ⟨_, cap, hv, .inr ⟨g, 0, rfl, lt_of_blk hh, fun j p hj => ?_⟩⟩
    subst hv
    have h1 := h.cells (g := g) rfl _ _ (pC_get ps j p hj).1
    have h2 := h.cells (g := g) rfl _ _ (pC_get ps j p hj).2
    rw [Addr.add_lit] at h1 h2
    exact ⟨h1, by rw [Nat.add_assoc]; exact h2⟩
/-! Sorting in place: all but the k-th of the first i + 1 rise. -/
theorem getD_set (L : List Int) (k j : Nat) (y : Int) (hk : k < L.length) : (L.set k y).getD j 0 = if j = k then y else L.getD j 0 := by
  rw [List.getD_eq_getElem?_getD, List.getD_eq_getElem?_getD, List.getElem?_set]
  by_cases h : k = j
  · rw [if_pos h, if_pos hk, if_pos h.symm]; rfl
  · rw [if_neg h, if_neg (fun e => h e.symm)]
def srt (L : List Int) (i k : Nat) : Prop := ∀ a b, a < b → b ≤ i → b ≠ k → L.getD a 0 < L.getD b 0
def rose (L : List Int) (i : Nat) : Prop := ∀ a b, a < b → b < i → L.getD a 0 < L.getD b 0
theorem rose.srt {L : List Int} {i : Nat} (h : rose L i) : srt L i i := fun a b h1 h2 h3 => h a b h1 (by omega)
def swp (L : List Int) (k : Nat) : List Int := (L.set (k + 1) (L.getD k 0)).set k (L.getD (k + 1) 0)
theorem swp_len (L : List Int) (k : Nat) : (swp L k).length = L.length := by simp [swp]
theorem swp_get (L : List Int) (k j : Nat) (hk : k + 1 < L.length) : (swp L k).getD j 0 = if j = k then L.getD (k + 1) 0 else if j = k + 1 then L.getD k 0 else L.getD j 0 := by
  rw [swp, getD_set _ _ _ _ (by simp; omega), getD_set _ _ _ _ hk]
theorem swp_perm (L : List Int) (k : Nat) (hk : k + 1 < L.length) : (swp L k).Perm L := by
  have := List.set_set_perm hk (show k < L.length by omega)
  rw [swp, getD_get L k (by omega), getD_get L (k + 1) hk]
  exact this
theorem srt.swp {L : List Int} {i k : Nat} (h : srt L i (k + 1)) (hi : i < L.length) (hk : k + 1 ≤ i) (hg : L.getD (k + 1) 0 < L.getD k 0) : srt (swp L k) i k := fun a b h1 h2 h3 => by
  rw [swp_get L k a (by omega), swp_get L k b (by omega)]
  rw [if_neg h3]
  by_cases hb : b = k + 1
  · rw [if_pos hb]
    by_cases ha : a = k
    · rw [if_pos ha]; exact hg
    · rw [if_neg ha, if_neg (by omega)]
      exact h a k (by omega) (by omega) (by omega)
  · rw [if_neg hb]
    by_cases ha : a = k
    · rw [if_pos ha]; exact h (k + 1) b (by omega) h2 hb
    · rw [if_neg ha]
      by_cases ha2 : a = k + 1
      · rw [if_pos ha2]; exact h k b (by omega) h2 hb
      · rw [if_neg ha2]; exact h a b h1 h2 hb
theorem srt.first {L : List Int} {i : Nat} (h : srt L i 0) : rose L (i + 1) := fun a b h1 h2 => h a b h1 (by omega) (by omega)
theorem srt.here {L : List Int} {i k : Nat} (h : srt L i (k + 1)) (hd : L.Nodup) (hi : i < L.length) (hk : k + 1 ≤ i) (hg : ¬ (L.getD (k + 1) 0 < L.getD k 0)) : rose L (i + 1) := fun a b h1 h2 => by
  have hne : L.getD k 0 ≠ L.getD (k + 1) 0 := fun e => by
    rw [getD_get L k (by omega), getD_get L (k + 1) (by omega)] at e
    exact List.pairwise_iff_getElem.1 hd k (k + 1) (by omega) (by omega) (by omega) e
  by_cases hb : b = k + 1
  · subst hb
    by_cases ha : a = k
    · subst ha; omega
    · have := h a k (by omega) (by omega) (by omega)
      omega
  · exact h a b h1 (by omega) hb
theorem rose.inc {L : List Int} (h : rose L L.length) : Inc L := List.pairwise_iff_getElem.2 (fun a b ha hb hab => by
  have := h a b hab hb
  rwa [getD_get L a ha, getD_get L b hb] at this)
/-! .. in memory. -/
theorem pC_set (ps : List (Int × ByteArray)) : ∀ (k : Nat) (p : Int × ByteArray), (((pC ps).set (k * 2) (.int .i64 p.1)).set (k * 2 + 1) (.string p.2)) = pC (ps.set k p) := by
  induction ps with
  | nil => intro k p; rfl
  | cons q ps ih =>
    intro k p
    cases k with
    | zero => rfl
    | succ k =>
      rw [pC_cons, show (k + 1) * 2 = k * 2 + 1 + 1 by omega, List.set_cons_succ, List.set_cons_succ, List.set_cons_succ, List.set_cons_succ, ih k p, List.set_cons_succ, pC_cons]
theorem gP_set (t : ByteArray) (L : List Int) (k : Nat) (x : Int) : gP t (L.set k x) = (gP t L).set k (x, t) := by simp [gP, List.map_set]
theorem own_cellset {w : World} {B z : Nat} {g cp n : Nat} {xs : List Value} {e : TypeId} (h : w.ownsRow B e z (.slice (some ⟨g, 0, none⟩) n cp) n xs) (o : Nat) (x : Value) : (w.setCell ⟨g, o, none⟩ x).ownsRow B e z (.slice (some ⟨g, 0, none⟩) n cp) n (xs.set o x) := by
  refine ⟨by rw [List.length_set]; exact h.1, ?_⟩
  rcases h.2 with ⟨hv, _⟩ | ⟨g', cap, cur, hv, hB, hh, hc1, hc2, hc3, hc4⟩
  · exact absurd hv (by simp)
  · cases hv
    refine .inr ⟨g, cp, _, rfl, hB, (blk_set hh o x).trans rfl, hc1, hc2, by simp [hc3], ?_⟩
    rw [← hc4]
    simp [List.take_set]
theorem own_two {w : World} {B : Nat} {g cp n : Nat} {ps : List (Int × ByteArray)} {e : TypeId} (h : w.ownsRow B e 2 (.slice (some ⟨g, 0, none⟩) n cp) n (pC ps)) (k : Nat) (p : Int × ByteArray) : ((w.setCell ⟨g, k * 2, none⟩ (.int .i64 p.1)).setCell ⟨g, k * 2 + 1, none⟩ (.string p.2)).ownsRow B e 2 (.slice (some ⟨g, 0, none⟩) n cp) n (pC (ps.set k p)) := by
  have := own_cellset (own_cellset h (k * 2) (.int .i64 p.1)) (k * 2 + 1) (.string p.2)
  rwa [pC_set] at this
theorem ownsRow_low {w : World} {B B' : Nat} {e : TypeId} {z : Nat} {v : Value} {n : Nat} {xs : List Value} (h : w.ownsRow B e z v n xs) (hB : B' ≤ B) : w.ownsRow B' e z v n xs := by
  refine ⟨h.1, ?_⟩
  rcases h.2 with hn | ⟨g, cap, cur, hv, hg, hx⟩
  · exact .inl hn
  · exact .inr ⟨g, cap, cur, hv, by omega, hx⟩
theorem below_drewN (w : World) (n : Nat) : Below w.heap.size w (w.drewN n) := ⟨rfl, rfl, rfl, Nat.le_refl _, fun _ _ => rfl⟩
/-- What is gathered so far lies in a row of its own. -/
structure GaSt (w0 w : World) (v : Value) (t : ByteArray) (O : List Int) : Prop where
  own : w.ownsRow w0.heap.size 67 2 v O.length (pC (gP t O))
  bel : Below w0.heap.size w0 w
theorem GaSt.keep {w0 w w' : World} {v : Value} {t : ByteArray} {O : List Int} (h : GaSt w0 w v t O) (hb : Below w.heap.size w w') : GaSt w0 w' v t O := ⟨ownsRow_keep h.own hb, h.bel.trans (hb.mono h.bel.size)⟩
theorem GaSt.pairs {w0 w : World} {v : Value} {t : ByteArray} {O : List Int} (h : GaSt w0 w v t O) : ∃ ad cap, v = .slice ad O.length cap ∧ PairsIn w ad (gP t O) := by
  obtain ⟨ad, cap, hv, hi⟩ := own_pairsT (ps := gP t O) (by rw [gP_len]; exact h.own)
  rw [gP_len] at hv
  exact ⟨ad, cap, hv, hi⟩
theorem GaSt.cells {w0 w : World} {g n cp : Nat} {t : ByteArray} {L : List Int} (h : GaSt w0 w (.slice (some ⟨g, 0, none⟩) n cp) t L) (k : Nat) (hk : k < L.length) : w.cell? ⟨g, k * 2, none⟩ = some (.int .i64 (L.getD k 0)) ∧ w.cell? ⟨g, k * 2 + 1, none⟩ = some (.string t) := by
  have hp : (gP t L)[k]? = some (L.getD k 0, t) := by rw [gP, List.getElem?_map, getD_some hk]; rfl
  have h1 := h.own.cells (g := g) rfl _ _ (pC_get _ k _ hp).1
  have h2 := h.own.cells (g := g) rfl _ _ (pC_get _ k _ hp).2
  rw [Addr.add_lit, Nat.zero_add] at h1 h2
  exact ⟨h1, h2⟩
theorem GaSt.blk {w0 w : World} {g n cp : Nat} {t : ByteArray} {L : List Int} (h : GaSt w0 w (.slice (some ⟨g, 0, none⟩) n cp) t L) : w0.heap.size ≤ g ∧ g < w.heap.size := h.own.lt g rfl
theorem GaSt.free {w0 w : World} {g n cp : Nat} {t : ByteArray} {L : List Int} (h : GaSt w0 w (.slice (some ⟨g, 0, none⟩) n cp) t L) (hn : L.length = n) (j : Nat) : w.frozen? ⟨g, j, none⟩ = false := by
  subst hn
  exact h.own.frozenAt j
theorem GaSt.put {w0 w : World} {g n cp : Nat} {t : ByteArray} {L : List Int} (h : GaSt w0 w (.slice (some ⟨g, 0, none⟩) n cp) t L) (hn : L.length = n) (k : Nat) (y : Int) : GaSt w0 ((w.setCell ⟨g, k * 2, none⟩ (.int .i64 y)).setCell ⟨g, k * 2 + 1, none⟩ (.string t)) (.slice (some ⟨g, 0, none⟩) n cp) t (L.set k y) := by
  subst hn
  refine ⟨?_, (h.bel.setCell h.blk.1 _).setCell h.blk.1 _⟩
  rw [List.length_set, gP_set]
  exact own_two h.own k (y, t)
end Go.Proofs.Ytohhlolmojeomaa
