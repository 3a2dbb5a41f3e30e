/- The program's writers of signatures and requests. -/
import Derived.Test.YtepcdbmdfpaomaaWiMM
import Derived.Test.YtepcdbmdfpaomaaCoQM
namespace Go.Proofs.Ytepcdbmdfpaomaa
open Go.RowKit

theorem Pv.put {c : Nat} {w0 : World} {H : List (Nat × Obj)} {w w1 : World} {l : List UInt8} {o : Obj} (h : Pv c w0 H w l) (hb : Below w.heap.size w w1) (ho : w1.heap[w.heap.size]? = some o) : Pv c w0 ((w.heap.size, o) :: H) w1 l := by
  have h1 := h.under hb
  obtain ⟨v, l', er, hw, a1, a2, a3⟩ := h.wr
  refine ⟨⟨v, l', er, ⟨(hb.block c hw.lt).trans hw.blk, ownsRow_keep hw.own hb⟩, a1, a2, fun p hp => ?_⟩, fun p hp => ?_, h1.bel⟩
  · rcases List.mem_cons.1 hp with rfl | hp
    · intro e
      exact Nat.lt_irrefl _ (hw.own.lt _ e).2
    · exact a3 p hp
  · rcases List.mem_cons.1 hp with rfl | hp
    · exact ⟨Nat.ne_of_gt hw.lt, ho⟩
    · exact h1.hold p hp
set_option maxRecDepth 100000 in
set_option maxHeartbeats 1600000 in
theorem iwsig_any (c : Nat) (w0 : World) (H : List (Nat × Obj)) (p : Sg) (h0 : 0 ≤ p.1) (h1 : p.1 < 256) (w : World) (l : List UInt8) (h : Pv c w0 H w l) :
    Calls Try.prog 68 #[.pointer (some ⟨c, 0, none⟩), .agg #[.int .i64 p.1, .string p.2]] w fun e w' => e = .returned (.tuple #[]) ∧ Pv c w0 H w' (l ++ sigL p) := by
  have H1 : Hid (Pv c w0 ((w.heap.size, .cells #[.int .i64 p.1, .string p.2] 48 (0, 0)) :: H) (w.alloc (.cells #[.int .i64 p.1, .string p.2] 48)) l) := hid (h.push _)
  have HB : Hid (0 ≤ p.1 ∧ p.1 < 256) := hid ⟨h0, h1⟩
  clear h h0 h1
  go_enter Try.func68, Try.ntmps68
  go_wp2_with (first
    | (have := H2; go_at_call 43; refine (pvtext c w0 _ _ _ _ H2.out).mono ?_; rintro e w2 ⟨rfl, h3⟩; have H3 := hid h3; clear h3)
    | (go_at_call 40; refine (pvbyte c w0 _ _ l _ HB.out.1 HB.out.2 H1.out).mono ?_; rintro e w1 ⟨rfl, h2⟩; have H2 := hid h2; clear h2; have y1 := (H2.out.box (L := [.int .i64 p.1, .string p.2])).cell 1 _ rfl))
  go_end0
  exact ⟨rfl, by have := H3.out.pop; rw [List.append_assoc] at this; exact this⟩
theorem flat_snoc {α : Type} {f : α → List UInt8} {l : List α} {d : α} (j : Nat) (hj : j < l.length) : (l.take j).flatMap f ++ f (l.getD j d) = (l.take (j + 1)).flatMap f := by
  rw [List.take_succ_eq_append_getElem hj, List.flatMap_append]
  simp [hj]
set_option maxRecDepth 100000 in
set_option maxHeartbeats 3200000 in
theorem iwsigs_any (c : Nat) (w0 : World) (hc : w0.heap.size ≤ c) (H : List (Nat × Obj)) (a : Option Addr) (n cap : Nat) (ps : List Sg) (hn : ps.length = n) (hm : n < 256) (hb : ∀ p, p ∈ ps → 0 ≤ p.1 ∧ p.1 < 256) (hP : PairsIn w0 a ps) (w : World) (l : List UInt8) (h : Pv c w0 H w l) :
    Calls Try.prog 44 #[.pointer (some ⟨c, 0, none⟩), .slice a n cap] w fun e w' => e = .returned (.tuple #[]) ∧ Pv c w0 H w' (l ++ sgsL ps) := by
  have H1 := hid h
  have HP := hid hP
  have HC := hid hc
  have HB := hid hb
  have HN := hid hn
  have hn0 : (0 : Int) ≤ (n : Int) := Int.natCast_nonneg _
  have hn1 : (n : Int) < 256 := by omega
  clear h hP hc hb hn
  go_enter Try.func44, Try.ntmps44
  go_wp2_with (go_at_call 40; refine (pvbyte c w0 _ _ l _ hn0 hn1 H1.out).mono ?_; rintro e w1 ⟨rfl, h2⟩; have H2 := hid h2; clear h2)
  go_loopw [12] (fun i wr => ∃ j : Nat, j ≤ n ∧ i = .int .i64 (j : Int) ∧ Pv c w0 H wr (l ++ be 1 n ++ (ps.take j).flatMap sigL))
    (fun i _ => ((n : Int) - intOf i).toNat)
  case atStart => exact ⟨0, Nat.zero_le _, rfl, by have := H2.out; simpa using this⟩
  case round =>
    obtain ⟨j, hj, rfl, hpv⟩ := hrel
    have HV := hid hpv
    clear hpv
    have hj0 : (0 : Int) ≤ (j : Int) := Int.natCast_nonneg _
    by_cases hjn : j = n
    · have hj1 : ¬ ((j : Int) < (n : Int)) := by omega
      have HE : Hid (j = n) := hid hjn
      clear hj hjn
      go_wp2
      go_end0
      refine ⟨rfl, ?_⟩
      have := HV.out
      rw [HE.out, ← HN.out, List.take_length, List.append_assoc] at this
      exact this
    · have hj1 : (j : Int) < (n : Int) := by omega
      have hjl : j < ps.length := by have := HN.out; omega
      obtain ⟨g, off, rfl, hc1, hc2⟩ : ∃ g off, a = some ⟨g, off, none⟩ ∧ wr.cell? ⟨g, off + j * 2, none⟩ = some (.int .i64 (ps.getD j sg0).1) ∧ wr.cell? ⟨g, off + j * 2 + 1, none⟩ = some (.string (ps.getD j sg0).2) := by
        rcases HP.out.keep HV.out.bel HC.out with e | ⟨g, off, ha, hg, hc⟩
        · rw [e] at hjl; simp at hjl
        · have hx : ps[j]? = some (ps.getD j sg0) := by simp [hjl]
          obtain ⟨k1, k2⟩ := hc j _ hx
          exact ⟨g, off, ha, k1, k2⟩
      have HJ := hid (And.intro hj hjn)
      have HS := hid (flat_snoc (f := sigL) (d := sg0) j hjl)
      have HBj := hid (HB.out (ps.getD j sg0) (by rw [List.getD_eq_getElem?_getD, List.getElem?_eq_getElem hjl]; exact List.getElem_mem hjl))
      generalize ps.getD j sg0 = p at hc1 hc2 HS HBj
      clear hj hjn hjl
      go_wp2_with (go_at_call 68; refine (iwsig_any c w0 H p HBj.out.1 HBj.out.2 _ _ (HV.out.alloc _)).mono ?_; rintro e w2 ⟨rfl, h3⟩; have H3 := hid h3; clear h3)
      go_roundw
      case rel => exact ⟨j + 1, by have := HJ.out; omega, by go_num, by have := H3.out; rw [List.append_assoc, HS.out] at this; exact this⟩
      case measure => simp [intOf]; omega
set_option maxRecDepth 100000 in
set_option maxHeartbeats 1600000 in
theorem iwrequest_any (c : Nat) (w0 : World) (H : List (Nat × Obj)) (r : Rq) (hb : r.b < 18446744073709551616) (w : World) (l : List UInt8) (h : Pv c w0 H w l) :
    Calls Try.prog 42 #[.pointer (some ⟨c, 0, none⟩), .agg #[.int .i64 r.c, .int .i64 r.st, .int .i64 r.k, .string r.key, .float .f64 r.b, .int .i64 r.id]] w fun e w' => e = .returned (.tuple #[]) ∧ Pv c w0 H w' (l ++ rqX r) := by
  have H1 := hid (h.alloc (.cells #[.int .i64 r.c, .int .i64 r.st, .int .i64 r.k, .string r.key, .float .f64 r.b, .int .i64 r.id] 26))
  have HB := hid hb
  clear h hb
  go_enter Try.func42, Try.ntmps42
  go_wp2_with (first
    | (have := H2; go_at_call 43; refine (pvtext c w0 _ _ _ _ H2.out).mono ?_; rintro e w2 ⟨rfl, h3⟩; have H3 := hid h3; clear h3)
    | (go_at_call 65; refine (dtext_any r HB.out _).mono ?_; rintro e w1 ⟨rfl, h2⟩; have H2 := hid (H1.out.under h2); clear h2))
  go_end0
  exact ⟨rfl, H3.out⟩
set_option maxRecDepth 100000 in
set_option maxHeartbeats 1600000 in
theorem iwlink_any (c : Nat) (w0 : World) (hc : w0.heap.size ≤ c) (H : List (Nat × Obj)) (k : Ln) (a : Option Addr) (n cap : Nat) (a2 : Option Addr) (n2 cap2 : Nat) (hn : k.1.2.length = n) (hm : n ≤ maxLen) (hI : IntsIn w0 a k.1.2) (hn2 : k.2.length = n2) (hm2 : n2 < 256) (hb : ∀ p, p ∈ k.2 → 0 ≤ p.1 ∧ p.1 < 256) (hP : PairsIn w0 a2 k.2) (w : World) (l : List UInt8) (h : Pv c w0 H w l) :
    Calls Try.prog 46 #[.pointer (some ⟨c, 0, none⟩), .agg #[.int .i64 k.1.1, .slice a n cap, .slice a2 n2 cap2]] w fun e w' => e = .returned (.tuple #[]) ∧ Pv c w0 H w' (l ++ lnL k) := by
  have H1 : Hid (Pv c w0 ((w.heap.size, .cells #[.int .i64 k.1.1, .slice a n cap, .slice a2 n2 cap2] 63 (0, 0)) :: H) (w.alloc (.cells #[.int .i64 k.1.1, .slice a n cap, .slice a2 n2 cap2] 63)) l) := hid (h.push _)
  have HT : Hid (∀ u : World, Below c w0 u → Calls Try.prog 69 #[.agg #[.int .i64 k.1.1, .slice a n cap]] u fun e w' => e = .returned (.tuple #[.string (textC k.1.1 k.1.2), .int .i64 (textE k.1.1 k.1.2)]) ∧ Below u.heap.size u w') := hid (fun u hu => ctext_any k.1.1 a n cap k.1.2 hn hm u (hI.keep hu hc))
  have HS : Hid (∀ (H : List (Nat × Obj)) (u : World) (l : List UInt8), Pv c w0 H u l → Calls Try.prog 44 #[.pointer (some ⟨c, 0, none⟩), .slice a2 n2 cap2] u fun e w' => e = .returned (.tuple #[]) ∧ Pv c w0 H w' (l ++ sgsL k.2)) := hid (fun H u l hu => iwsigs_any c w0 hc H a2 n2 cap2 k.2 hn2 hm2 hb hP u l hu)
  clear h hc hn hm hI hn2 hm2 hb hP
  go_enter Try.func46, Try.ntmps46
  go_wp2_with (first
    | (have := H3; go_at_call 44; refine (HS.out _ _ _ H3.out).mono ?_; rintro e w3 ⟨rfl, h4⟩; have H4 := hid h4; clear h4)
    | (have := H2; go_at_call 43; refine (pvtext c w0 _ _ _ _ H2.out).mono ?_; rintro e w2 ⟨rfl, h3⟩; have H3 := hid h3; clear h3; have y2 := (H3.out.box (L := [.int .i64 k.1.1, .slice a n cap, .slice a2 n2 cap2])).cell 2 _ rfl)
    | (go_at_call 69; refine (HT.out _ H1.out.bel).mono ?_; rintro e w1 ⟨rfl, h2⟩; have H2 := hid (H1.out.under h2); clear h2; have y2 := (H2.out.box (L := [.int .i64 k.1.1, .slice a n cap, .slice a2 n2 cap2])).cell 2 _ rfl))
  go_end0
  exact ⟨rfl, by have := H4.out.pop; rw [List.append_assoc] at this; exact this⟩
end Go.Proofs.Ytepcdbmdfpaomaa
