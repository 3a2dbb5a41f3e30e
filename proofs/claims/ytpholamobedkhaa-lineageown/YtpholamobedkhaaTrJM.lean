/- Lists that are written over; the document's Copied once more, with lists that may be written; links put behind a row of any length. -/
import Derived.Test.YtpholamobedkhaaTrIM
namespace Go.Proofs.Ytpholamobedkhaa
open Go.RowKit

/-- Only blocks of Z were written, and no block changed its size. -/
structure Spo (Z : Nat → Prop) (w w' : World) : Prop where
  out : Outs Z w w'
  wr : ∀ (k : Nat) (cs : Array Value) (T : TypeId), w.heap[k]? = some (.cells cs T (0, 0)) → ∃ cs' : Array Value, w'.heap[k]? = some (.cells cs' T (0, 0)) ∧ cs'.size = cs.size
theorem Spo.refl (Z : Nat → Prop) (w : World) : Spo Z w w := ⟨Outs.refl Z w, fun _ cs _ h => ⟨cs, h, rfl⟩⟩
theorem Spo.below {Z : Nat → Prop} {w w' : World} (h : Below w.heap.size w w') : Spo Z w w' := ⟨outs_of h, fun k cs _ hk => ⟨cs, (h.block k (lt_of_blk hk)).trans hk, rfl⟩⟩
theorem Spo.trans {Z : Nat → Prop} {x y z : World} (h : Spo Z x y) (k : Spo Z y z) : Spo Z x z :=
  ⟨h.out.trans k.out (fun _ _ hq => hq), fun j cs T hj => by
    obtain ⟨c1, h1, e1⟩ := h.wr j cs T hj
    obtain ⟨c2, h2, e2⟩ := k.wr j c1 T h1
    exact ⟨c2, h2, e2.trans e1⟩⟩
theorem Spo.set {Z : Nat → Prop} {w w' : World} (h : Spo Z w w') {g : Nat} (hg : Z g) (o : Nat) (v : Value) : Spo Z w (w'.setCell ⟨g, o, none⟩ v) := by
  refine ⟨⟨h.out.os, h.out.tape, h.out.output, by simpa [World.setCell] using h.out.size, fun k hk hn => (Below.heap_setCell _ _ _ _ (fun e => hn (by rw [show k = g from e]; exact hg))).trans (h.out.block k hk hn)⟩, fun k cs T hk => ?_⟩
  obtain ⟨c1, h1, e1⟩ := h.wr k cs T hk
  by_cases he : k = g
  · subst he
    exact ⟨_, blk_set h1 o v, by simp [e1]⟩
  · exact ⟨c1, (Below.heap_setCell _ _ _ _ he).trans h1, e1⟩
theorem Spo.mono {Z Z' : Nat → Prop} {w w' : World} (h : Spo Z w w') (hZ : ∀ k, Z k → Z' k) : Spo Z' w w' :=
  ⟨⟨h.out.os, h.out.tape, h.out.output, h.out.size, fun k hk hn => h.out.block k hk (fun hz => hn (hZ k hz))⟩, h.wr⟩
/-- A list of n elements of sz cells that may be written over, in a block of Z. -/
def Wri (Z : Nat → Prop) (w : World) (ad : Option Addr) (n sz : Nat) : Prop := n = 0 ∨ ∃ (g off : Nat) (cs : Array Value) (T : TypeId), ad = some ⟨g, off, none⟩ ∧ Z g ∧ w.heap[g]? = some (.cells cs T (0, 0)) ∧ off + n * sz ≤ cs.size
theorem Wri.keep {Z Z' : Nat → Prop} {w w' : World} {ad : Option Addr} {n sz : Nat} (h : Wri Z w ad n sz) (hs : Spo Z' w w') : Wri Z w' ad n sz := by
  rcases h with h | ⟨g, off, cs, T, ha, hg, hh, hl⟩
  · exact .inl h
  · obtain ⟨c1, h1, e1⟩ := hs.wr g cs T hh
    exact .inr ⟨g, off, c1, T, ha, hg, h1, by omega⟩
theorem Wri.mono {Z Z' : Nat → Prop} {w : World} {ad : Option Addr} {n sz : Nat} (h : Wri Z w ad n sz) (hZ : ∀ k, Z k → Z' k) : Wri Z' w ad n sz := by
  rcases h with h | ⟨g, off, cs, T, ha, hg, hh, hl⟩
  · exact .inl h
  · exact .inr ⟨g, off, cs, T, ha, hZ g hg, hh, hl⟩
theorem Wri.at {Z : Nat → Prop} {w : World} {ad : Option Addr} {n sz : Nat} (h : Wri Z w ad n sz) (j : Nat) (hj : j < n) (q : Nat) (hq : q < sz) : ∃ g off u, ad = some ⟨g, off, none⟩ ∧ Z g ∧ w.cell? ⟨g, off + j * sz + q, none⟩ = some u ∧ ∀ i, w.frozen? ⟨g, i, none⟩ = false := by
  rcases h with h | ⟨g, off, cs, T, ha, hg, hh, hl⟩
  · omega
  · have h1 : (j + 1) * sz ≤ n * sz := Nat.mul_le_mul_right _ hj
    rw [Nat.add_mul, Nat.one_mul] at h1
    have h2 : off + j * sz + q < cs.size := by omega
    exact ⟨g, off, cs[off + j * sz + q], ha, hg, by simp [World.cell?, hh, h2], fun i => free_at hh i⟩
theorem NewI.wri {B : Nat} {w : World} {ad : Option Addr} {l : List Int} (h : NewI B w ad l) : Wri (fun k => ∃ x, ad = some x ∧ x.block = k) w ad l.length 1 := by
  cases l with
  | nil => exact .inl rfl
  | cons z l =>
    rcases h.ints with h0 | ⟨g, off, rfl, hg, hc⟩
    · cases h0
    · obtain ⟨cs, T, hh⟩ := (h.far _ rfl).2
      refine .inr ⟨g, off, cs, T, rfl, ⟨_, rfl, rfl⟩, hh, ?_⟩
      have hlast := hc l.length ((z :: l)[l.length]'(by simp)) (List.getElem?_eq_getElem _)
      simp only [World.cell?, hh] at hlast
      have := (Array.getElem?_eq_some_iff.1 (by simpa using hlast)).1
      simp
      omega
theorem reads_wri_i {F : Nat → Prop} {w : World} {ad : Option Addr} {c : Nat} {l : List Int} (h : Reads F w (.slice ad l.length c) (dInts l)) (hF : ∀ k, F k → Free w k) : Wri F w ad l.length 1 := by
  obtain ⟨ad', c', hv, hi, hb⟩ := reads_ints h
  cases hv
  cases l with
  | nil => exact .inl rfl
  | cons z l =>
    rcases hi with h0 | ⟨g, off, rfl, hg, hc⟩
    · cases h0
    · have hFg := hb _ rfl (by simp)
      obtain ⟨cs, T, hh⟩ := hF g hFg
      refine .inr ⟨g, off, cs, T, rfl, hFg, hh, ?_⟩
      have hlast := hc l.length ((z :: l)[l.length]'(by simp)) (List.getElem?_eq_getElem _)
      simp only [World.cell?, hh] at hlast
      have := (Array.getElem?_eq_some_iff.1 (by simpa using hlast)).1
      simp
      omega
theorem reads_wri_p {F : Nat → Prop} {w : World} {ad : Option Addr} {c : Nat} {l : List (Int × ByteArray)} (h : Reads F w (.slice ad l.length c) (dPairs l)) (hF : ∀ k, F k → Free w k) : Wri F w ad l.length 2 := by
  obtain ⟨ad', c', hv, hi, hb⟩ := reads_pairs h
  cases hv
  cases l with
  | nil => exact .inl rfl
  | cons z l =>
    rcases hi with h0 | ⟨g, off, rfl, hg, hc⟩
    · cases h0
    · have hFg := hb _ rfl (by simp)
      obtain ⟨cs, T, hh⟩ := hF g hFg
      refine .inr ⟨g, off, cs, T, rfl, hFg, hh, ?_⟩
      have hlast := (hc l.length ((z :: l)[l.length]'(by simp)) (List.getElem?_eq_getElem _)).2
      simp only [World.cell?, hh] at hlast
      have := (Array.getElem?_eq_some_iff.1 (by simpa using hlast)).1
      simp
      omega
/-- The j-th link of a row of one's own, as something to be written over. -/
theorem OwnD.link {B : Nat} {F : Nat → Prop} {w : World} {v : Value} {cs : List Lk} (h : OwnD 27 3 B F w v (dLks cs)) (hF : ∀ k, F k → Free w k) (j : Nat) (k : Lk) (hj : cs[j]? = some k) :
    ∃ g cap a1 c1 a2 c2, v = .slice (some ⟨g, 0, none⟩) cs.length cap ∧ v.ownBlock = some g ∧ g < w.heap.size ∧ w.cell? ⟨g, j * 3, none⟩ = some (.int .i64 k.1) ∧ w.cell? ⟨g, j * 3 + 1, none⟩ = some (.slice a1 k.2.1.length c1) ∧ w.cell? ⟨g, j * 3 + 2, none⟩ = some (.slice a2 k.2.2.length c2) ∧ Wri F w a1 k.2.1.length 1 ∧ Wri F w a2 k.2.2.length 2 := by
  obtain ⟨cells, ho, hc⟩ := h.own
  rcases ho.2 with ⟨_, h0⟩ | ⟨g, cap, cur, hv, hB, hh, hnc, hcp, hcs, ht⟩
  · rw [dLks_len] at h0
    rw [List.eq_nil_of_length_eq_zero h0] at hj
    cases hj
  · rw [dLks_len] at hv
    obtain ⟨_, h2⟩ := hc j (dLk k) (dLks_at hj)
    obtain ⟨u0, e0, r0⟩ := h2 0 (.i k.1) rfl
    obtain ⟨u1, e1, r1⟩ := h2 1 (dInts k.2.1) rfl
    obtain ⟨u2, e2, r2⟩ := h2 2 (dPairs k.2.2) rfl
    obtain ⟨a1, c1, q1, i1, _⟩ := reads_ints r1
    obtain ⟨a2, c2, q2, i2, _⟩ := reads_pairs r2
    subst q1
    subst q2
    subst hv
    have x0 := ho.cells (g := g) rfl _ _ e0
    have x1 := ho.cells (g := g) rfl _ _ e1
    have x2 := ho.cells (g := g) rfl _ _ e2
    rw [Addr.add_lit, Nat.zero_add] at x0 x1 x2
    rw [r0.int] at x0
    exact ⟨g, cap, a1, c1, a2, c2, rfl, rfl, lt_of_blk hh, x0, x1, x2, reads_wri_i r1 hF, reads_wri_p r2 hF⟩
set_option maxRecDepth 100000 in
set_option maxHeartbeats 3200000 in
theorem jspoil_any (Z : Nat → Prop) (e : Int) (a1 : Option Addr) (n c1 : Nat) (a2 : Option Addr) (m c2 : Nat) (hn : n ≤ maxLen) (hm : m ≤ maxLen) (w : World) (hZ : ∀ k, Z k → k < w.heap.size) (h1 : Wri Z w a1 n 1) (h2 : Wri Z w a2 m 2) :
    Calls Try.prog 23 #[.agg #[.int .i64 e, .slice a1 n c1, .slice a2 m c2]] w fun r w' => r = .returned (.tuple #[]) ∧ Spo Z w w' := by
  have hn2 : (n : Int) ≤ 9223372036854775807 := by unfold maxLen at hn; omega
  have hm2 : (m : Int) ≤ 9223372036854775807 := by unfold maxLen at hm; omega
  have hA : Below w.heap.size w (w.alloc (.cells #[.int .i64 e, .slice a1 n c1, .slice a2 m c2] 27)) := (Below.refl _ _).alloc (Nat.le_refl _) _
  have H0 : Hid (Spo Z w (w.alloc (.cells #[.int .i64 e, .slice a1 n c1, .slice a2 m c2] 27)) ∧ LnAt (w.alloc (.cells #[.int .i64 e, .slice a1 n c1, .slice a2 m c2] 27)) w.heap.size e (.slice a1 n c1) (.slice a2 m c2)) := hid ⟨Spo.below hA, heap_alloc_last w _⟩
  have HW := hid (And.intro h1 (And.intro h2 hZ))
  clear hA h1 h2 hZ hn hm
  go_enter Try.func23, Try.ntmps23
  go_wp2
  go_loopw [2] (fun i wr => ∃ j : Nat, j ≤ n ∧ i = .int .i64 (j : Int) ∧ Spo Z w wr ∧ LnAt wr w.heap.size e (.slice a1 n c1) (.slice a2 m c2))
    (fun i _ => ((n : Int) - intOf i).toNat)
  case atStart => exact ⟨0, by omega, rfl, H0.out⟩
  case round =>
    obtain ⟨j, hj, rfl, hS, hL⟩ := hrel
    have HS := hid (And.intro hS hL)
    have z1 := hL.cells.2.1
    clear hS hL
    by_cases hjn : j = n
    · have hj1 : ¬ ((j : Int) < (n : Int)) := by omega
      clear hj hjn
      go_wp2
      go_loopw [3] (fun i wr => ∃ j : Nat, j ≤ m ∧ i = .int .i64 (j : Int) ∧ Spo Z w wr ∧ LnAt wr w.heap.size e (.slice a1 n c1) (.slice a2 m c2))
        (fun i _ => ((m : Int) - intOf i).toNat)
      case atStart => exact ⟨0, by omega, rfl, HS.out⟩
      case round =>
        obtain ⟨p, hp, rfl, hS, hL⟩ := hrel
        have HSp := hid (And.intro hS hL)
        have z2 := hL.cells.2.2
        clear hS hL
        by_cases hpm : p = m
        · have hp1 : ¬ ((p : Int) < (m : Int)) := by omega
          clear hp hpm
          go_wp2
          first
            | (go_end0; exact ⟨rfl, HSp.out.1⟩)
            | (refine bodyPost_normal0 ?_; exact ⟨rfl, HSp.out.1⟩)
            | (refine bodyPost_ret (results_none rfl _ _ _) rfl ?_; exact ⟨rfl, HSp.out.1⟩)
        · have hp1 : (p : Int) < (m : Int) := by omega
          have hp0 : (0 : Int) ≤ (p : Int) := Int.natCast_nonneg _
          obtain ⟨g, off, u0, ha, hg, x0, f0⟩ := (HW.out.2.1.keep HSp.out.1).at p (by omega) 0 (by decide)
          obtain ⟨g', off', u1, ha', _, x1, _⟩ := (HW.out.2.1.keep HSp.out.1).at p (by omega) 1 (by decide)
          rw [ha] at ha'
          cases ha'
          subst ha
          rw [Nat.add_zero] at x0
          have f1 := f0 (off + p * 2)
          have f2 := f0 (off + p * 2 + 1)
          have HG := hid (And.intro hg (HW.out.2.2 g hg))
          have HJ := hid (And.intro hp hpm)
          clear hg f0 hp hpm
          go_wp2
          go_roundw
          case rel => exact ⟨p + 1, by have := HJ.out; omega, rfl, (HSp.out.1.set HG.out.1 _ _).set HG.out.1 _ _, (Below.heap_setCell _ _ _ _ (by have := HG.out.2; simp; omega)).trans ((Below.heap_setCell _ _ _ _ (by have := HG.out.2; simp; omega)).trans HSp.out.2)⟩
          case measure => have := HJ.out; simp [intOf]; omega
    · have hj1 : (j : Int) < (n : Int) := by omega
      have hj0 : (0 : Int) ≤ (j : Int) := Int.natCast_nonneg _
      obtain ⟨g, off, u0, ha, hg, x0, f0⟩ := (HW.out.1.keep HS.out.1).at j (by omega) 0 (by decide)
      subst ha
      rw [Nat.add_zero, Nat.mul_one] at x0
      have f1 := f0 (off + j)
      have HG := hid (And.intro hg (HW.out.2.2 g hg))
      have HJ := hid (And.intro hj hjn)
      clear hg f0 hj hjn
      go_wp2
      go_roundw
      case rel => exact ⟨j + 1, by have := HJ.out; omega, rfl, HS.out.1.set HG.out.1 _ _, (Below.heap_setCell _ _ _ _ (by have := HG.out.2; simp; omega)).trans HS.out.2⟩
      case measure => have := HJ.out; simp [intOf]; omega
end Go.Proofs.Ytpholamobedkhaa
