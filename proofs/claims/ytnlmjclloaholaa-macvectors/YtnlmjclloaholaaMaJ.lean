/- The document's vector; lists held against each other. -/
import Derived.Test.YtnlmjclloaholaaMaI
namespace Go.Proofs.Ytnlmjclloaholaa
open Go.RowKit

theorem OwnedS.keep {B : Nat} {w0 w w' : World} {v : Value} {l : List ByteArray} (h : OwnedS B w0 w v l) (hb : Below w.heap.size w w') : OwnedS B w0 w' v l := by
  refine ⟨⟨h.own.1, ?_⟩, h.bel.trans (hb.mono h.le), Nat.le_trans h.le hb.size⟩
  rcases h.own.2 with hn | ⟨g, cap, cur, hv, hB, hh, hr⟩
  · exact .inl hn
  · exact .inr ⟨g, cap, cur, hv, hB, (hb.block g (lt_of_blk hh)).trans hh, hr⟩
theorem OwnedS.strs {B : Nat} {w0 w : World} {v : Value} {l : List ByteArray} (h : OwnedS B w0 w v l) : ∃ a cap, v = .slice a l.length cap ∧ StrsIn w a l := by
  by_cases h0 : 0 < l.length
  · obtain ⟨g, cap, hv, _, hg, _, hc⟩ := h.form h0
    exact ⟨_, cap, hv, .inr ⟨g, 0, rfl, hg, fun j s hj => by rw [Nat.zero_add]; exact hc j s hj⟩⟩
  · obtain rfl : l = [] := List.eq_nil_of_length_eq_zero (by omega)
    rcases h.own.2 with ⟨hv, _⟩ | ⟨g, cap, cur, hv, _⟩
    · exact ⟨none, 0, hv, .inl rfl⟩
    · exact ⟨_, cap, hv, .inl rfl⟩

set_option maxRecDepth 100000 in
set_option maxHeartbeats 1600000 in
theorem nvector_arg (s t : ByteArray) (b : Int) (a : Option Addr) (n cap : Nat) (zs : List Int) (hn : zs.length = n) (hm : n ≤ maxLen) (h : (nodeB b && zs.all nodeB) = false) (w : World) (hZ : IntsIn w a zs) :
    Calls Try.prog 16 #[.string s, .int .i64 b, .slice a n cap, .string t] w fun e w' => e = .returned (.tuple #[.slice none 0 0, .int .i64 1]) ∧ w' = w := by
  cases hb : nodeB b with
  | false =>
    have HN := hid hb
    clear hb h
    go_enter Try.func16, Try.ntmps16
    go_wp2_with (go_at_call 27; refine (nNode_at _ false (by exact HN.out) _).mono ?_; rintro e wx ⟨rfl, rfl⟩)
    go_ret2
    exact ⟨rfl, rfl⟩
  | true =>
    have hall : zs.all nodeB = false := by simpa [hb] using h
    have HN := hid hb
    have hm2 : (n : Int) ≤ 9223372036854775807 := by unfold maxLen at hm; omega
    have HZ := hid (And.intro hZ (And.intro hn hall))
    clear hb hall h hZ hn hm
    go_enter Try.func16, Try.ntmps16
    go_wp2_with (go_at_call 27; refine (nNode_at _ true (by exact HN.out) _).mono ?_; rintro e wx ⟨rfl, rfl⟩)
    go_loopw [10] (fun i wr => ∃ j : Nat, j ≤ n ∧ i = .int .i64 (j : Int) ∧ wr = wx ∧ (zs.take j).all nodeB = true)
      (fun i _ => ((n : Int) - intOf i).toNat)
    case atStart => exact ⟨0, by omega, rfl, by first | rfl | trivial, rfl⟩
    case round =>
      obtain ⟨j, hj, rfl, rfl, hall⟩ := hrel
      have HA := hid hall
      clear hall
      by_cases hjn : j = n
      · exfalso
        have := HA.out
        rw [List.take_of_length_le (by rw [HZ.out.2.1, hjn]; exact Nat.le_refl _), HZ.out.2.2] at this
        exact Bool.false_ne_true this
      · have hj1 : (j : Int) < (n : Int) := by omega
        have hj0 : (0 : Int) ≤ (j : Int) := Int.natCast_nonneg _
        obtain ⟨z, ez⟩ : ∃ z, zs[j]? = some z := ⟨_, List.getElem?_eq_getElem (by rw [HZ.out.2.1]; omega)⟩
        obtain ⟨g, off, rfl, hg, hcell⟩ := HZ.out.1.at j z ez
        cases hb : nodeB z with
        | false =>
          have HB := hid hb
          clear hb ez
          go_wp2_with (go_at_call 27; refine (nNode_at _ _ (by exact HB.out) _).mono ?_; rintro e wx ⟨rfl, rfl⟩)
          go_ret2
          exact ⟨rfl, rfl⟩
        | true =>
          have HB := hid (And.intro hb ez)
          clear hb ez
          go_wp2_with (go_at_call 27; refine (nNode_at _ _ (by exact HB.out.1) _).mono ?_; rintro e wx ⟨rfl, rfl⟩)
          go_roundw
          case rel => exact ⟨j + 1, by omega, rfl, by first | rfl | trivial, all_take zs j z HB.out.2 HA.out HB.out.1⟩
          case measure => simp [intOf]; omega

set_option maxRecDepth 100000 in
set_option maxHeartbeats 1600000 in
theorem nvector_long (s t : ByteArray) (b : Int) (a : Option Addr) (n cap : Nat) (zs : List Int) (hn : zs.length = n) (hm : n ≤ maxLen) (h : (nodeB b && zs.all nodeB) = true) (hl : 16 < n) (w : World) (hZ : IntsIn w a zs) :
    Calls Try.prog 16 #[.string s, .int .i64 b, .slice a n cap, .string t] w fun e w' => e = .returned (.tuple #[.slice none 0 0, .int .i64 3]) ∧ w' = w := by
  obtain ⟨h1, h2⟩ := Bool.and_eq_true_iff.1 h
  have HN := hid h1
  have hm2 : (n : Int) ≤ 9223372036854775807 := by unfold maxLen at hm; omega
  have hl2 : (16 : Int) < (n : Int) := by omega
  have HZ := hid (And.intro hZ (And.intro hn h2))
  clear h1 h2 h hZ hn hm hl
  go_enter Try.func16, Try.ntmps16
  go_wp2_with (go_at_call 27; refine (nNode_at _ true (by exact HN.out) _).mono ?_; rintro e wx ⟨rfl, rfl⟩)
  go_loopw [10] (fun i wr => ∃ j : Nat, j ≤ n ∧ i = .int .i64 (j : Int) ∧ wr = wx ∧ (zs.take j).all nodeB = true)
    (fun i _ => ((n : Int) - intOf i).toNat)
  case atStart => exact ⟨0, by omega, rfl, by first | rfl | trivial, rfl⟩
  case round =>
    obtain ⟨j, hj, rfl, rfl, hall⟩ := hrel
    have HA := hid hall
    clear hall
    by_cases hjn : j = n
    · have hj1 : ¬ ((j : Int) < (n : Int)) := by omega
      clear hj hjn
      go_wp2
      go_ret2
      exact ⟨rfl, rfl⟩
    · have hj1 : (j : Int) < (n : Int) := by omega
      have hj0 : (0 : Int) ≤ (j : Int) := Int.natCast_nonneg _
      obtain ⟨z, ez⟩ : ∃ z, zs[j]? = some z := ⟨_, List.getElem?_eq_getElem (by rw [HZ.out.2.1]; omega)⟩
      obtain ⟨g, off, rfl, hg, hcell⟩ := HZ.out.1.at j z ez
      cases hb : nodeB z with
      | false =>
        exact absurd (HZ.out.2.2) (by rw [all_not zs j z ez hb]; exact Bool.false_ne_true)
      | true =>
        have HB := hid (And.intro hb ez)
        clear hb ez
        go_wp2_with (go_at_call 27; refine (nNode_at _ _ (by exact HB.out.1) _).mono ?_; rintro e wx ⟨rfl, rfl⟩)
        go_roundw
        case rel => exact ⟨j + 1, by omega, rfl, by first | rfl | trivial, all_take zs j z HB.out.2 HA.out HB.out.1⟩
        case measure => simp [intOf]; omega

set_option maxRecDepth 100000 in
set_option maxHeartbeats 1600000 in
theorem nvector_yes (s t : ByteArray) (hs : s.size ≤ 1000000) (ht : t.size ≤ 100000) (b : Nat) (hb : b < 200) (a : Option Addr) (n cap : Nat) (zs : List Int) (hn : zs.length = n) (hl : n ≤ 16) (h : zs.all nodeB = true) (w : World) (hZ : IntsIn w a zs) :
    Calls Try.prog 16 #[.string s, .int .i64 (b : Int), .slice a n cap, .string t] w fun e w' => ∃ v, e = .returned (.tuple #[v, .int .i64 0]) ∧ OwnedS w.heap.size w w' v (tagsS s t b zs) := by
  obtain ⟨i0, hi0, hz0, hz1, hz2⟩ := info_parts Try.info9
  obtain ⟨L, eL⟩ : ∃ L, L = tagsS s t b zs := ⟨_, rfl⟩
  rw [← eL]
  have HT : Hid (∀ (j : Nat) (z : Int), zs[j]? = some z → ∀ u : World, Calls Try.prog 30 #[.string s, .int .i64 (b : Int), .int .i64 z, .string t] u fun e w' => e = .returned (.string (tagS s t b z)) ∧ Below u.heap.size u w') := hid (fun j z hz u => by
    obtain ⟨c, rfl, hc⟩ := node_nat (node_of_all h j z hz)
    have := ntag_any s hs b c hb hc t ht u
    rwa [tagS, Int.toNat_natCast])
  have HN := hid (nodeB_nat b hb)
  have hl2 : (n : Int) ≤ 16 := by omega
  have hl3 : ¬ ((16 : Int) < (n : Int)) := by omega
  have HZ := hid (And.intro hZ (And.intro hn h))
  have HL := hid (And.intro eL (show L.length = n by rw [eL, tagsS_len, hn]))
  clear hZ hn hl h hs ht hb eL
  go_enter Try.func16, Try.ntmps16
  go_wp2_with (go_at_call 27; refine (nNode_at _ true (by exact HN.out) _).mono ?_; rintro e wx ⟨rfl, rfl⟩)
  go_loopw [10] (fun i wr => ∃ j : Nat, j ≤ n ∧ i = .int .i64 (j : Int) ∧ wr = wx ∧ (zs.take j).all nodeB = true)
    (fun i _ => ((n : Int) - intOf i).toNat)
  case atStart => exact ⟨0, by omega, rfl, by first | rfl | trivial, rfl⟩
  case round =>
    obtain ⟨j, hj, rfl, rfl, hall⟩ := hrel
    have HA := hid hall
    clear hall
    by_cases hjn : j = n
    · have hj1 : ¬ ((j : Int) < (n : Int)) := by omega
      clear hj hjn HA
      go_wp2
      rename World => wa
      go_loopw [11, 12] (fun v i wq => ∃ k : Nat, k ≤ n ∧ i = .int .i64 (k : Int) ∧ OwnedS wa.heap.size wa wq v (L.take k))
        (fun _ i _ => ((n : Int) - intOf i).toNat)
      case atStart => exact ⟨0, by omega, rfl, OwnedS.nil (Below.refl _ _) (Nat.le_refl _)⟩
      case round =>
        obtain ⟨k, hk, rfl, hO⟩ := hrel
        have HO := hid hO
        clear hO
        by_cases hkn : k = n
        · have hk1 : ¬ ((k : Int) < (n : Int)) := by omega
          have hOL := HO.out
          rw [List.take_of_length_le (by rw [HL.out.2, hkn]; exact Nat.le_refl _)] at hOL
          have HOL := hid hOL
          clear hk hkn hOL
          go_wp2
          go_ret2
          exact ⟨_, rfl, HOL.out⟩
        · have hk1 : (k : Int) < (n : Int) := by omega
          have hk0 : (0 : Int) ≤ (k : Int) := Int.natCast_nonneg _
          obtain ⟨z, ez⟩ : ∃ z, zs[k]? = some z := ⟨_, List.getElem?_eq_getElem (by rw [HZ.out.2.1]; omega)⟩
          obtain ⟨g, off, rfl, hg, hcell⟩ := HZ.out.1.at k z ez
          have cz : wr.cell? ⟨g, off + k, none⟩ = some (.int .i64 z) := (HO.out.bel.cell (p := ⟨g, off + k, none⟩) hg).trans hcell
          have ek : L[k]? = some (tagS s t b z) := by rw [HL.out.1]; exact tagsS_get s t b zs k z ez
          have HE := hid (And.intro ez ek)
          have hlen : (L.take k).length ≤ 16 := by rw [List.length_take]; omega
          have HV := hid hlen
          clear ez ek hg hcell hlen
          go_wp2_with (first
            | (go_at_call 30; refine (HT.out k z (by exact HE.out.1) _).mono ?_; rintro e w4 ⟨rfl, hb4⟩; have H4 := hid (HO.out.keep hb4); clear hb4)
            | (at_builtin; refine wpList_append_own_at _ rfl _ _ 32 rfl wa.heap.size 9 i0 (.string ⟨#[]⟩) 1 16 Try.underlying32 hi0 hz0 hz1 hz2 rfl (by decide) _ _ _ rfl (H4.out.alloc _).own ⟨_, 0, none⟩ 1 1 (sC [tagS s t b z]) rfl rfl (World.news_of_block (t := 9) (fr := (0, 0)) (heap_alloc_last _ _)) (sC_one _) (by have := HV.out; unfold maxLen; omega) (by have := HV.out; omega) (H4.out.alloc _).le ?_
               intro v3 w3 hown3 hgrow3 i3 i4
               have HO3 := hid ((H4.out.alloc _).grow (xs := [tagS s t b z]) rfl hown3 hgrow3)
               clear hown3 hgrow3 i3 i4))
          go_roundw
          case rel => exact ⟨k + 1, by omega, rfl, by rw [List.take_add_one, HE.out.2]; exact HO3.out⟩
          case measure => simp [intOf]; omega
    · have hj1 : (j : Int) < (n : Int) := by omega
      have hj0 : (0 : Int) ≤ (j : Int) := Int.natCast_nonneg _
      obtain ⟨z, ez⟩ : ∃ z, zs[j]? = some z := ⟨_, List.getElem?_eq_getElem (by rw [HZ.out.2.1]; omega)⟩
      obtain ⟨g, off, rfl, hg, hcell⟩ := HZ.out.1.at j z ez
      cases hb : nodeB z with
      | false =>
        exact absurd (HZ.out.2.2) (by rw [all_not zs j z ez hb]; exact Bool.false_ne_true)
      | true =>
        have HB := hid (And.intro hb ez)
        clear hb ez
        go_wp2_with (go_at_call 27; refine (nNode_at _ _ (by exact HB.out.1) _).mono ?_; rintro e wx ⟨rfl, rfl⟩)
        go_roundw
        case rel => exact ⟨j + 1, by omega, rfl, by first | rfl | trivial, all_take zs j z HB.out.2 HA.out HB.out.1⟩
        case measure => simp [intOf]; omega

end Go.Proofs.Ytnlmjclloaholaa
