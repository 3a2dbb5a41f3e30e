/- TermsNil, walked. -/
import Derived.Test.YtgnapfgiefdlaabTeL
import Derived.Test.YtgnapfgiefdlaabTeN
import Derived.Test.YtgnapfgiefdlaabTePn
import Derived.Deep.QuietTactic
namespace Go.Proofs.Ytgnapfgiefdlaab
open Go.RowKit

/-- The signature at its block; nothing else has turned. -/
structure NlSt (w0 w : World) (x : Int) (r : ByteArray) : Prop where
  sg : w.heap[w0.heap.size]? = some (.cells #[.int .i64 x, .string r] 23 (0, 0))
  bel : Below w0.heap.size w0 w
theorem NlSt.keep {w0 w w' : World} {x : Int} {r : ByteArray} (h : NlSt w0 w x r) (hb : Below w.heap.size w w') : NlSt w0 w' x r := ⟨(hb.block _ (lt_of_blk h.sg)).trans h.sg, h.bel.trans (hb.mono h.bel.size)⟩
theorem one_pair (w : World) (x : Int) (r : ByteArray) (T : TypeId) : PairsIn (w.alloc (.cells #[.int .i64 x, .string r] T)) (some ⟨w.heap.size, 0, none⟩) [(x, r)] :=
  .inr ⟨w.heap.size, 0, rfl, by simp, fun j p hp => by
    match j, hp with
    | 0, hp =>
      simp at hp
      subst hp
      have h := heap_alloc_last w (.cells #[.int .i64 x, .string r] T)
      exact ⟨cell_at (L := [.int .i64 x, .string r]) h 0 _ rfl, cell_at (L := [.int .i64 x, .string r]) h 1 _ rfl⟩
    | j + 1, hp => simp at hp⟩
theorem deriv_one (bad : List Int) (x : Int) (r : ByteArray) : derivB [] bad [(x, r)] = decide (x ∈ bad) := by
  rw [Bool.eq_iff_iff, derivB_iff]
  simp
theorem deriv_nil (bad : List Int) : derivB [] bad [] = true := by
  rw [derivB_iff]
  intro s hs
  cases hs
theorem two_cells {w : World} {b : Nat} {x y : Value} {T : TypeId} {fr : Nat × Nat} (h : w.heap[b]? = some (.cells #[x, y] T fr)) : w.cell? ⟨b, 0, none⟩ = some x ∧ w.cell? ⟨b, 1, none⟩ = some y :=
  ⟨cell_at (L := [x, y]) h 0 _ rfl, cell_at (L := [x, y]) h 1 _ rfl⟩
theorem mem_take (l : List Int) (j : Nat) (x : Int) (hj : j < l.length) : decide (x ∈ l.take (j + 1)) = (decide (x ∈ l.take j) || decide (l.getD j 0 = x)) := by
  rw [List.take_add_one, List.getElem?_eq_getElem hj, List.getD_eq_getElem?_getD, List.getElem?_eq_getElem hj]
  rw [Bool.eq_iff_iff, Bool.or_eq_true_iff, decide_eq_true_iff, decide_eq_true_iff, decide_eq_true_iff, List.mem_append]
  refine or_congr Iff.rfl ?_
  show x ∈ [l[j]] ↔ l[j] = x
  rw [List.mem_singleton]
  exact ⟨fun h => h.symm, fun h => h.symm⟩
set_option maxRecDepth 100000 in
set_option maxHeartbeats 3200000 in
theorem termsNil_walk (x : Int) (r : ByteArray) (a : Option Addr) (n cap : Nat) (bad : List Int) (hn : bad.length = n) (hm8 : n * 8 ≤ 140737488355328) (w : World) (hI : IntsIn w a bad) :
    Calls Try.prog 3 #[.agg #[.int .i64 x, .string r], .slice a n cap] w fun e w' => e = .returned (.bool true) ∧ Below w.heap.size w w' := by
  have hm : n ≤ maxLen := by unfold maxLen; omega
  have HM8 := hid hm8
  clear hm8
  have hm63 : (n : Int) ≤ 9223372036854775807 := by unfold maxLen at hm; omega
  have HW : Hid (NlSt w (w.alloc (.cells #[.int .i64 x, .string r] 23)) x r) := hid ⟨heap_alloc_last w _, (Below.refl _ _).alloc (Nat.le_refl _) _⟩
  have HNt : Hid (∀ u : World, NlSt w u x r → Calls Try.prog 5 #[.pointer none, .slice (some ⟨u.heap.size, 0, none⟩) 1 1] (u.alloc (.cells #[.int .i64 x, .string r] 23)) fun e w' => e = .returned (.tuple #[]) ∧ NlSt w w' x r) := hid (fun u hu =>
    (tnote_nil _ 1 1 _).mono fun e w' ⟨he, hb⟩ => ⟨he, (hu.keep ((Below.refl _ _).alloc (Nat.le_refl _) _)).keep hb⟩)
  have HDv : Hid (∀ (u : World) (B : Bool), decide (x ∈ bad) = B → NlSt w u x r → Calls Try.prog 8 #[.pointer none, .slice a n cap, .slice (some ⟨u.heap.size, 0, none⟩) 1 1] (u.alloc (.cells #[.int .i64 x, .string r] 23)) fun e w' => e = .returned (.bool B) ∧ NlSt w w' x r) := hid (fun u B hB hu =>
    (tderivable_nil a n cap bad hn HM8.out _ 1 1 [(x, r)] rfl (by decide) _ (hI.keep (hu.bel.alloc hu.bel.size _) (Nat.le_refl _)) (one_pair u x r _)).mono fun e w' ⟨he, hb⟩ => ⟨by rw [he, deriv_one, hB], (hu.keep ((Below.refl _ _).alloc (Nat.le_refl _) _)).keep hb⟩)
  have HDn : Hid (∀ (u : World), NlSt w u x r → Calls Try.prog 8 #[.pointer none, .slice a n cap, .slice none 0 0] u fun e w' => e = .returned (.bool true) ∧ NlSt w w' x r) := hid (fun u hu =>
    (tderivable_nil a n cap bad hn HM8.out none 0 0 [] rfl (by decide) _ (hI.keep hu.bel (Nat.le_refl _)) (.inl rfl)).mono fun e w' ⟨he, hb⟩ => ⟨by rw [he, deriv_nil], hu.keep hb⟩)
  have HD := hid (And.intro hI hn)
  clear hI hn hm
  go_enter Try.func3, Try.ntmps3
  go_wp2_with (first
    | (go_at_call 4; refine (tlives_any _).mono ?_; rintro e w1 ⟨rfl, hb1⟩; have H1 := hid (HW.out.keep hb1); clear hb1; have z0 := (two_cells H1.out.sg).1; have z1 := (two_cells H1.out.sg).2)
    | (go_at_call 5; refine (HNt.out _ (by exact H1.out)).mono ?_; rintro e w2 ⟨rfl, hg2⟩; have H2 := hid hg2; clear hg2))
  clear z0 z1
  go_loopw [7, 6] (fun i ow wr => ∃ j : Nat, j ≤ n ∧ i = .int .i64 (j : Int) ∧ ow = .bool (decide (x ∈ bad.take j)) ∧ NlSt w wr x r)
    (fun i _ _ => ((n : Int) - intOf i).toNat)
  case atStart => exact ⟨0, by omega, rfl, by simp, H2.out⟩
  case round =>
    obtain ⟨j, hj, rfl, rfl, hG⟩ := hrel
    have HG := hid hG
    clear hG H2
    have hj0 : (0 : Int) ≤ (j : Int) := Int.natCast_nonneg _
    by_cases hjn : j = n
    · have hj1 : ¬ ((j : Int) < (n : Int)) := by omega
      rw [show bad.take j = bad from List.take_of_length_le (by rw [HD.out.2]; omega)]
      have HDb := hid (HDv.out · _ rfl)
      generalize decide (x ∈ bad) = B at HDb ⊢
      have z0 := (two_cells HG.out.sg).1
      have z1 := (two_cells HG.out.sg).2
      have hbb : (B == B) = true := by simp
      clear hj hjn
      go_wp2_with (first
        | (go_at_call 6; refine (thas_nil _ _ _).mono ?_; rintro e w3 ⟨rfl, hb3⟩; have H3 := hid (HG.out.keep hb3); clear hb3)
        | (go_at_call 7; refine (tlen_nil _).mono ?_; rintro e w4 ⟨rfl, hb4⟩; have H4 := hid (H3.out.keep hb4); clear hb4; have y0 := (two_cells H4.out.sg).1; have y1 := (two_cells H4.out.sg).2)
        | (go_at_call 8; have := H5; refine (HDn.out _ (by exact H5.out)).mono ?_; rintro e w6 ⟨rfl, hg6⟩; have H6 := hid hg6; clear hg6)
        | (go_at_call 8; refine (HDb.out _ (by exact H4.out)).mono ?_; rintro e w5 ⟨rfl, hg5⟩; have H5 := hid hg5; clear hg5))
      go_ret
      exact ⟨by first | rfl | simp, H6.out.bel⟩
    · have hj1 : (j : Int) < (n : Int) := by omega
      have hjl : j < bad.length := by rw [HD.out.2]; omega
      have HT := hid (mem_take bad j x hjl)
      obtain ⟨g, off, rfl, hg, hcc⟩ := HD.out.1.at j (bad.getD j 0) (by rw [List.getD_eq_getElem?_getD, List.getElem?_eq_getElem hjl]; rfl)
      generalize bad.getD j 0 = z at HT hcc
      generalize decide (x ∈ bad.take j) = B at HT ⊢
      have k1 : ∀ q : Cls wr, q.1.cell? ⟨g, off + j, none⟩ = some (.int .i64 z) := fun q => ((HG.out.keep q.2).bel.cell (p := ⟨g, _, none⟩) hg).trans hcc
      have k2 : ∀ q : Cls wr, q.1.cell? ⟨w.heap.size, 0, none⟩ = some (.int .i64 x) := fun q => (two_cells (HG.out.keep q.2).sg).1
      have HJ := hid (And.intro hj hjn)
      clear hj hjn hjl hg hcc
      cases B with
      | true =>
        go_wp2
        haveI := Cls.ne wr
        refine wp_region_cls wr (by kernel_rfl) (by kernel_rfl) ?_
        repeat (go_big_quiet_step ((fail)))
        refine wpQuiet_nil ?_
        rintro _ ⟨q, rfl⟩
        have H5 := hid (HG.out.keep q.2)
        clear k1 k2
        go_wp2
        go_roundw
        case rel => exact ⟨j + 1, by have := HJ.out; omega, by go_num, by rw [HT.out]; rfl, H5.out⟩
        case measure => simp [intOf]; omega
      | false =>
        by_cases hzx : z = x
        · have e1 : (z == x) = true := by simp [hzx]
          have HT2 : Hid (decide (x ∈ bad.take (j + 1)) = true) := hid (by rw [HT.out, decide_eq_true hzx]; rfl)
          clear HT hzx
          go_wp2
          haveI := Cls.ne wr
          refine wp_region_cls wr (by kernel_rfl) (by kernel_rfl) ?_
          repeat (go_big_quiet_step ((fail)))
          refine wpQuiet_nil ?_
          rintro _ ⟨q, rfl⟩
          have H5 := hid (HG.out.keep q.2)
          clear k1 k2
          go_wp2
          go_roundw
          case rel => exact ⟨j + 1, by have := HJ.out; omega, by go_num, by rw [HT2.out], H5.out⟩
          case measure => simp [intOf]; omega
        · have e1 : (z == x) = false := by simp [hzx]
          have HT2 : Hid (decide (x ∈ bad.take (j + 1)) = false) := hid (by rw [HT.out, decide_eq_false hzx]; rfl)
          clear HT hzx
          go_wp2
          haveI := Cls.ne wr
          refine wp_region_cls wr (by kernel_rfl) (by kernel_rfl) ?_
          repeat (go_big_quiet_step ((fail)))
          refine wpQuiet_nil ?_
          rintro _ ⟨q, rfl⟩
          have H5 := hid (HG.out.keep q.2)
          clear k1 k2
          go_wp2
          go_roundw
          case rel => exact ⟨j + 1, by have := HJ.out; omega, by go_num, by rw [HT2.out], H5.out⟩
          case measure => simp [intOf]; omega
end Go.Proofs.Ytgnapfgiefdlaab
