/- Each tag of a vector is taken: the walk. -/
import Derived.Test.YtnlmjclloaholaaMaK
import Derived.Test.YtnlmjclloaholaaMaL
import Derived.Deep.RegionWith
namespace Go.Proofs.Ytnlmjclloaholaa
open Go.RowKit

set_option maxRecDepth 100000 in
set_option maxHeartbeats 1600000 in
theorem taken_err (s t g : ByteArray) (a c : Int) (hs : s.size ≤ 4096) (ht : t.size ≤ 4096) (ad : Option Addr) (n cap : Nat) (zs : List Int) (k : Int) (hk : k ≠ 0) (w : World) (hZ : IntsIn w ad zs)
    (HV : Hid (∀ u : World, IntsIn u ad zs → Calls Try.prog 15 #[.string s, .int .i64 a, .slice ad n cap, .string t] u fun e w' => e = .returned (.tuple #[.slice none 0 0, .int .i64 k]) ∧ w' = u)) :
    Calls Try.prog 7 #[.agg #[.string s, .int .i64 a, .int .i64 c, .string t, .string g], .slice ad n cap] w fun e w' => e = .returned (.bool true) ∧ Below w.heap.size w w' := by
  have HS := hid (show decide (s.size ≤ 4096 ∧ t.size ≤ 4096) = true from decide_eq_true ⟨hs, ht⟩)
  have HZ := hid (hZ.keep ((Below.refl w.heap.size w).alloc (Nat.le_refl _) (.cells #[.string s, .int .i64 a, .int .i64 c, .string t, .string g] 30)) (Nat.le_refl _))
  clear hs ht hZ
  go_enter Try.func7, Try.ntmps7
  go_wp2_with (first
    | (go_at_call 9; refine (mlives_any _).mono ?_; rintro e w1 ⟨rfl, hb1⟩; have H1 := hid hb1; clear hb1
       have H2 := hid ((SentAt.new w s a c t g).keep H1.out)
       have c0 := H2.out.c0
       have c1 := H2.out.c1
       have c3 := H2.out.c3)
    | (go_at_call 10; refine (mshort_any _ _ _ (by exact HS.out) _).mono ?_; rintro e wx ⟨rfl, rfl⟩)
    | (go_at_call 15; refine (HV.out _ (by exact HZ.out.keep H1.out (Nat.le_refl _))).mono ?_; rintro e wx ⟨rfl, rfl⟩))
  go_ret
  exact ⟨rfl, ((Below.refl _ _).alloc (Nat.le_refl _) _).trans (H1.out.mono (by simp))⟩

set_option maxRecDepth 100000 in
set_option maxHeartbeats 3200000 in
theorem taken_yes (s t g : ByteArray) (b : Nat) (hb : b < 200) (c : Int) (hs : s.size ≤ 4096) (ht : t.size ≤ 4096) (ad : Option Addr) (n cap : Nat) (zs : List Int) (hn : zs.length = n) (hl : n ≤ 16) (hall : zs.all nodeB = true) (w : World) (hZ : IntsIn w ad zs) :
    Calls Try.prog 7 #[.agg #[.string s, .int .i64 (b : Int), .int .i64 c, .string t, .string g], .slice ad n cap] w fun e w' => e = .returned (.bool true) ∧ Below w.heap.size w w' := by
  have HS := hid (show decide (s.size ≤ 4096 ∧ t.size ≤ 4096) = true from decide_eq_true ⟨hs, ht⟩)
  have HZ := hid (hZ.keep ((Below.refl w.heap.size w).alloc (Nat.le_refl _) (.cells #[.string s, .int .i64 (b : Int), .int .i64 c, .string t, .string g] 30)) (Nat.le_refl _))
  have HC : Hid (∀ (j : Nat) (z : Int), zs[j]? = some z → ∀ (x : ByteArray) (r : Bool), (x.toList == (tagS s t b z).toList) = r → ∀ u : World, Calls Try.prog 19 #[.string s, .int .i64 (b : Int), .int .i64 z, .string t, .string x] u fun e w' => e = .returned (.bool r) ∧ Below u.heap.size u w') := hid (fun j z hz x r hr u => by
    obtain ⟨d, rfl, hd⟩ := node_nat (node_of_all hall j z hz)
    exact check_yes s (by omega) b d hb hd t (by omega) x r (by rw [← hr, tagS, Int.toNat_natCast]) u)
  have HV : Hid (∀ u : World, IntsIn u ad zs → Calls Try.prog 15 #[.string s, .int .i64 (b : Int), .slice ad n cap, .string t] u fun e w' => e = .returned (.tuple #[.slice (some ⟨u.heap.size, 0, none⟩) n n, .int .i64 0]) ∧ OwnedS u.heap.size u w' (.slice (some ⟨u.heap.size, 0, none⟩) n n) (tagsS s t b zs)) := hid (fun u hu => vector_yes s t (by omega) (by omega) b hb ad n cap zs hn hl hall u hu)
  have hl2 : (n : Int) ≤ 16 := by omega
  have HN := hid hn
  clear hs ht hZ hn hl hall hb
  go_enter Try.func7, Try.ntmps7
  go_wp2_with (first
    | (go_at_call 9; refine (mlives_any _).mono ?_; rintro e w1 ⟨rfl, hb1⟩; have H1 := hid hb1; clear hb1
       have H2 := hid ((SentAt.new w s b c t g).keep H1.out)
       have c0 := H2.out.c0
       have c1 := H2.out.c1
       have c3 := H2.out.c3)
    | (go_at_call 10; refine (mshort_any _ _ _ (by exact HS.out) _).mono ?_; rintro e wx ⟨rfl, rfl⟩)
    | (go_at_call 15; refine (HV.out _ (by exact HZ.out.keep H1.out (Nat.le_refl _))).mono ?_; rintro e w2 ⟨rfl, ho2⟩; have H3 := hid ho2; clear ho2))
  have H4 := hid (And.intro (H2.out.keep H3.out.bel) (And.intro ((HZ.out.keep H1.out (Nat.le_refl _)).keep H3.out.bel (Nat.le_refl _)) H3.out))
  go_loopw [7] (fun i wr => ∃ j : Nat, j ≤ n ∧ i = .int .i64 (j : Int) ∧ Below w2.heap.size w2 wr)
    (fun i _ => ((n : Int) - intOf i).toNat)
  case atStart => exact ⟨0, by omega, rfl, Below.refl _ _⟩
  case round =>
    obtain ⟨j, hj, rfl, hbel⟩ := hrel
    have HB := hid hbel
    clear hbel c0 c1 c3
    by_cases hjn : j = n
    · have hj1 : ¬ ((j : Int) < (n : Int)) := by omega
      clear hj hjn
      go_wp2
      go_ret
      refine ⟨rfl, ?_⟩
      have b1 : Below w.heap.size w wx := ((Below.refl _ _).alloc (Nat.le_refl _) _).trans (H1.out.mono (by simp))
      have b2 : Below w.heap.size w w2 := b1.trans (H3.out.bel.mono b1.size)
      exact b2.trans (HB.out.mono b2.size)
    · have hj1 : (j : Int) < (n : Int) := by omega
      have hj0 : (0 : Int) ≤ (j : Int) := Int.natCast_nonneg _
      obtain ⟨z, ez⟩ : ∃ z, zs[j]? = some z := ⟨_, List.getElem?_eq_getElem (by rw [HN.out]; omega)⟩
      obtain ⟨gz, off, rfl, hg, hcell⟩ := H4.out.2.1.at j z ez
      obtain ⟨T, eT⟩ : ∃ T, T = tagS s t b z := ⟨_, rfl⟩
      have hT : (T.size : Int) = 8 := by have := tagS_size s t b z; rw [← eT] at this; omega
      have hbx : ∀ x : Cls wr, Below w2.heap.size w2 x.1 := fun x => HB.out.trans (x.2.mono HB.out.size)
      have d0 : ∀ x : Cls wr, x.1.cell? ⟨w.heap.size, 0, none⟩ = some (.string s) := fun x => (H4.out.1.keep (hbx x)).c0
      have d1 : ∀ x : Cls wr, x.1.cell? ⟨w.heap.size, 1, none⟩ = some (.int .i64 (b : Int)) := fun x => (H4.out.1.keep (hbx x)).c1
      have d3 : ∀ x : Cls wr, x.1.cell? ⟨w.heap.size, 3, none⟩ = some (.string t) := fun x => (H4.out.1.keep (hbx x)).c3
      have d5 : ∀ x : Cls wr, x.1.cell? ⟨gz, off + j, none⟩ = some (.int .i64 z) := fun x => ((hbx x).cell (p := ⟨gz, off + j, none⟩) hg).trans hcell
      have d6 : ∀ x : Cls wr, x.1.cell? ⟨wx.heap.size, j, none⟩ = some (.string T) := fun x => by
        rw [eT]
        have h1 := H3.out.own.cells (g := wx.heap.size) rfl j _ (sC_get _ j _ (tagsS_get s t b zs j z ez))
        rw [Addr.add_lit, Nat.zero_add] at h1
        have hlt : wx.heap.size < w2.heap.size := World.block_lt_of_cell? w2 ⟨wx.heap.size, j, none⟩ h1
        exact ((hbx x).cell (p := ⟨wx.heap.size, j, none⟩) hlt).trans h1
      have HX := hid (fun (x : ByteArray) (r : Bool) (h : (x.toList == T.toList) = r) (u : World) => HC.out j z ez x r (by rw [← h, eT]) u)
      have HE := hid (And.intro (tag_same T) (And.intro (tag_more T) (tag_less T (by omega))))
      clear hbx ez hg hcell eT
      go_wp2
      haveI := Cls.ne wr
      refine wp_region_cls wr (by kernel_rfl) (by kernel_rfl) ?_
      repeat (go_big_quiet_step ((first
        | (go_at_call_of 19 (T.extract 0 7); exact Cls.of _ (fun u _ => HX.out _ false HE.out.2.2 u))
        | (go_at_call_of 19 (ByteArray.mk #[120]); exact Cls.of _ (fun u _ => HX.out _ false HE.out.2.1 u))
        | (go_at_call 19; exact Cls.of _ (fun u _ => HX.out _ true HE.out.1 u)))))
      refine wpQuiet_nil ?_
      rintro _ ⟨x, rfl⟩
      go_wp2
      go_roundw
      case rel => exact ⟨j + 1, by omega, rfl, HB.out.trans (x.2.mono HB.out.size)⟩
      case measure => simp [intOf]; omega

set_option maxRecDepth 100000 in
set_option maxHeartbeats 1600000 in
theorem macTaken_walk (s t g : ByteArray) (a c : Int) (ad : Option Addr) (n cap : Nat) (zs : List Int) (hn : zs.length = n) (hm : n ≤ maxLen) (w : World) (hZ : IntsIn w ad zs) :
    Calls Try.prog 7 #[.agg #[.string s, .int .i64 a, .int .i64 c, .string t, .string g], .slice ad n cap] w fun e w' => e = .returned (.bool true) ∧ Below w.heap.size w w' := by
  by_cases hl : s.size ≤ 4096 ∧ t.size ≤ 4096
  · cases hb : nodeB a && zs.all nodeB with
    | false => exact taken_err s t g a c hl.1 hl.2 ad n cap zs 1 (by decide) w hZ (hid (fun u hu => vector_arg s t a ad n cap zs hn hm hb u hu))
    | true =>
      by_cases h16 : 16 < n
      · exact taken_err s t g a c hl.1 hl.2 ad n cap zs 3 (by decide) w hZ (hid (fun u hu => vector_long s t a ad n cap zs hn hm hb h16 u hu))
      · obtain ⟨h1, h2⟩ := Bool.and_eq_true_iff.1 hb
        obtain ⟨b, rfl, hb2⟩ := node_nat h1
        exact taken_yes s t g b hb2 c hl.1 hl.2 ad n cap zs hn (by omega) h2 w hZ
  · have HS := hid (show decide (s.size ≤ 4096 ∧ t.size ≤ 4096) = false from decide_eq_false hl)
    clear hl
    go_enter Try.func7, Try.ntmps7
    go_wp2_with (first
      | (go_at_call 9; have := H1; refine (mlives_any _).mono ?_; rintro e w2 ⟨rfl, hb2⟩; have H3 := hid hb2; clear hb2)
      | (go_at_call 9; refine (mlives_any _).mono ?_; rintro e w1 ⟨rfl, hb1⟩; have H1 := hid hb1; clear hb1
         have H2 := hid ((SentAt.new w s a c t g).keep H1.out)
         have c0 := H2.out.c0
         have c3 := H2.out.c3)
      | (go_at_call 10; refine (mshort_any _ _ _ (by exact HS.out) _).mono ?_; rintro e wx ⟨rfl, rfl⟩))
    go_ret
    exact ⟨rfl, ((Below.refl _ _).alloc (Nat.le_refl _) _).trans ((H1.out.mono (by simp)).trans (H3.out.mono (Nat.le_trans (by simp) H1.out.size)))⟩
end Go.Proofs.Ytnlmjclloaholaa
