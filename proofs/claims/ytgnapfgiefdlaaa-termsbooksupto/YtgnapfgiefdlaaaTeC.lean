/- The document's proofs. -/
import Derived.Test.YtgnapfgiefdlaaaTeB
import Derived.Test.YtgnapfgiefdlaaaCoE
namespace Go.Proofs.Ytgnapfgiefdlaaa
open Go.RowKit

/-- The i-th signature is of this text, by a member, behind the one ahead of it. -/
def okT (l : List Int) (t : ByteArray) (ss : List (Int × ByteArray)) (i : Nat) : Bool := decide ((rtOf ss i).data.toList = t.data.toList) && (hasM l (idOf ss i) && (decide (i = 0) || decide (idOf ss (i - 1) < idOf ss i)))
def okTTo (l : List Int) (t : ByteArray) (ss : List (Int × ByteArray)) : Nat → Bool
  | 0 => true
  | j + 1 => okTTo l t ss j && okT l t ss j
theorem okTTo_succ (l : List Int) (t : ByteArray) (ss : List (Int × ByteArray)) (j : Nat) : okTTo l t ss (j + 1) = (okTTo l t ss j && okT l t ss j) := rfl
theorem okTTo_false (l : List Int) (t : ByteArray) (ss : List (Int × ByteArray)) (j n : Nat) (h : okTTo l t ss j = false) (hn : j ≤ n) : okTTo l t ss n = false := by
  induction n with
  | zero =>
    obtain rfl : j = 0 := by omega
    exact h
  | succ n ih =>
    by_cases e : j = n + 1
    · rw [← e]; exact h
    · rw [okTTo_succ, ih (by omega)]; rfl
def provesB (ep : Int) (l : List Int) (t : ByteArray) (ss : List (Int × ByteArray)) : Bool := okTTo l t ss ss.length && (rightC ep l && (decide (quoZ (l.length : Int) ≤ (ss.length : Int)) && decide (ss.length ≤ 16)))
set_option maxRecDepth 100000 in
set_option maxHeartbeats 3200000 in
theorem wproves_any (ep : Int) (a : Option Addr) (n cap : Nat) (l : List Int) (hn : l.length = n) (hm : n ≤ maxLen) (t : ByteArray) (b : Option Addr) (m cp : Nat) (ss : List (Int × ByteArray)) (hsn : ss.length = m) (hsm : m ≤ maxLen) (w : World) (hI : IntsIn w a l) (hP : PairsIn w b ss) :
    Calls Try.prog 11 #[.agg #[.int .i64 ep, .slice a n cap], .string t, .slice b m cp] w fun e w' => e = .returned (.bool (provesB ep l t ss)) ∧ Below w.heap.size w w' := by
  have hm2 : (m : Int) ≤ 9223372036854775807 := by unfold maxLen at hsm; omega
  have HH : Hid (∀ (z : Int) (u : World), IntsIn u a l → Calls Try.prog 29 #[.slice a n cap, .int .i64 z] u fun e w' => e = .returned (.bool (hasM l z)) ∧ w' = u) := hid (fun z u hu => vhas_any a n cap l hn hm z u hu)
  have HR : Hid (∀ u : World, IntsIn u a l → Calls Try.prog 30 #[.agg #[.int .i64 ep, .slice a n cap]] u fun e w' => e = .returned (.bool (rightC ep l)) ∧ Below u.heap.size u w') := hid (fun u hu => vright_any ep a n cap l hn hm u hu)
  have HQ : Hid (∀ u : World, Calls Try.prog 31 #[.int .i64 (n : Int)] u fun e w' => e = .returned (.int .i64 (quoZ (n : Int))) ∧ w' = u) := hid (fun u => vquorum_any (n : Int) (by unfold maxLen at hm; omega) u)
  have HF := hid (conf_cells w (.int .i64 ep) (.slice a n cap))
  have HI := hid hI
  have HP := hid (And.intro hP hsn)
  clear hI hP hsn hsm
  go_enter Try.func11, Try.ntmps11
  go_wp2
  go_loopw [7] (fun i wr => ∃ j : Nat, j ≤ m ∧ i = .int .i64 (j : Int) ∧ okTTo l t ss j = true ∧ Below (w.heap.size + 1) (w.alloc (.cells #[.int .i64 ep, .slice a n cap] 24)) wr)
    (fun i _ => ((m : Int) - intOf i).toNat)
  case atStart => exact ⟨0, by omega, rfl, rfl, Below.refl _ _⟩
  case round =>
    obtain ⟨j, hj, rfl, hok, hbel⟩ := hrel
    have HB := hid hbel
    clear hbel
    by_cases hjn : j = m
    · have hj1 : ¬ ((j : Int) < (m : Int)) := by omega
      rw [hjn] at hok
      have hb0 : Below w.heap.size w wr := ((Below.refl w.heap.size w).alloc (Nat.le_refl _) _).trans (HB.out.mono (by omega))
      have HB0 := hid hb0
      have HD : Hid (provesB ep l t ss = (rightC ep l && (decide (quoZ (n : Int) ≤ (m : Int)) && decide (m ≤ 16)))) := hid (by rw [provesB, HP.out.2, hok, hn]; rfl)
      have hcf : wr.heap[w.heap.size]? = some (.cells [.int .i64 ep, .slice a n cap].toArray 24 (0, 0)) := (HB.out.block _ (by omega)).trans HF.out
      have c0 : wr.cell? ⟨w.heap.size, 0, none⟩ = some (.int .i64 ep) := cell_at hcf 0 _ rfl
      have c1 : wr.cell? ⟨w.heap.size, 1, none⟩ = some (.slice a n cap) := cell_at hcf 1 _ rfl
      have HCf := hid hcf
      clear hok hj hjn hb0 hcf
      cases hrt : rightC ep l with
      | false =>
        have HRx : Hid (∀ u : World, IntsIn u a l → Calls Try.prog 30 #[.agg #[.int .i64 ep, .slice a n cap]] u fun e w' => e = .returned (.bool false) ∧ Below u.heap.size u w') := hid (fun u hu => by rw [← hrt]; exact HR.out u hu)
        have HE : Hid (provesB ep l t ss = false) := hid (by rw [HD.out, hrt]; rfl)
        clear hrt
        go_wp2_with (go_at_call 30; refine (HRx.out _ (HI.out.keep HB0.out (Nat.le_refl _))).mono ?_; rintro e w2 ⟨rfl, hb2⟩; have H2 := hid (HB0.out.trans (hb2.mono HB0.out.size)); clear hb2 c0 c1)
        go_ret
        exact ⟨by rw [HE.out]; rfl, H2.out⟩
      | true =>
        have HRx : Hid (∀ u : World, IntsIn u a l → Calls Try.prog 30 #[.agg #[.int .i64 ep, .slice a n cap]] u fun e w' => e = .returned (.bool true) ∧ Below u.heap.size u w') := hid (fun u hu => by rw [← hrt]; exact HR.out u hu)
        obtain ⟨qz, eqz⟩ : ∃ q, q = quoZ (n : Int) := ⟨_, rfl⟩
        have HQx : Hid (∀ u : World, Calls Try.prog 31 #[.int .i64 (n : Int)] u fun e w' => e = .returned (.int .i64 qz) ∧ w' = u) := hid (fun u => by rw [eqz]; exact HQ.out u)
        by_cases h1 : qz ≤ (m : Int)
        · by_cases h2 : m ≤ 16
          · have h3 : (m : Int) ≤ 16 := by omega
            have HE : Hid (provesB ep l t ss = true) := hid (by rw [HD.out, hrt, ← eqz, decide_eq_true h1, decide_eq_true h2]; rfl)
            clear hrt eqz h2
            go_wp2_with (first
              | (go_at_call 30; refine (HRx.out _ (HI.out.keep HB0.out (Nat.le_refl _))).mono ?_; rintro e w2 ⟨rfl, hb2⟩; have H2 := hid (HB0.out.trans (hb2.mono HB0.out.size)); have c2 : w2.cell? ⟨w.heap.size, 1, none⟩ = some (.slice a n cap) := cell_at ((hb2.block _ (lt_of_blk HCf.out)).trans HCf.out) 1 _ rfl; clear hb2 c0 c1)
              | (go_at_call 31; refine (HQx.out _).mono ?_; rintro e wx ⟨rfl, rfl⟩))
            go_ret
            exact ⟨by rw [HE.out]; rfl, H2.out⟩
          · have h3 : ¬ ((m : Int) ≤ 16) := by omega
            have h4 : decide ((m : Int) ≤ 16) = false := decide_eq_false h3
            have HE : Hid (provesB ep l t ss = false) := hid (by rw [HD.out, hrt, decide_eq_false h2]; simp)
            clear hrt eqz h2
            go_wp2_with (first
              | (go_at_call 30; refine (HRx.out _ (HI.out.keep HB0.out (Nat.le_refl _))).mono ?_; rintro e w2 ⟨rfl, hb2⟩; have H2 := hid (HB0.out.trans (hb2.mono HB0.out.size)); have c2 : w2.cell? ⟨w.heap.size, 1, none⟩ = some (.slice a n cap) := cell_at ((hb2.block _ (lt_of_blk HCf.out)).trans HCf.out) 1 _ rfl; clear hb2 c0 c1)
              | (go_at_call 31; refine (HQx.out _).mono ?_; rintro e wx ⟨rfl, rfl⟩))
            go_ret
            exact ⟨by rw [HE.out]; rfl, H2.out⟩
        · have HE : Hid (provesB ep l t ss = false) := hid (by rw [HD.out, hrt, ← eqz, decide_eq_false h1]; simp)
          clear hrt eqz
          go_wp2_with (first
            | (go_at_call 30; refine (HRx.out _ (HI.out.keep HB0.out (Nat.le_refl _))).mono ?_; rintro e w2 ⟨rfl, hb2⟩; have H2 := hid (HB0.out.trans (hb2.mono HB0.out.size)); have c2 : w2.cell? ⟨w.heap.size, 1, none⟩ = some (.slice a n cap) := cell_at ((hb2.block _ (lt_of_blk HCf.out)).trans HCf.out) 1 _ rfl; clear hb2 c0 c1)
            | (go_at_call 31; refine (HQx.out _).mono ?_; rintro e wx ⟨rfl, rfl⟩))
          go_ret
          exact ⟨by rw [HE.out]; rfl, H2.out⟩
    · have hj1 : (j : Int) < (m : Int) := by omega
      have hj0 : (0 : Int) ≤ (j : Int) := Int.natCast_nonneg _
      have hjl : j < ss.length := by rw [HP.out.2]; omega
      obtain ⟨g, off, rfl, hg, x1, y1⟩ := HP.out.1.at j _ (getP_some hjl)
      obtain ⟨x, ex⟩ : ∃ x, x = idOf ss j := ⟨_, rfl⟩
      obtain ⟨r, er⟩ : ∃ r, r = rtOf ss j := ⟨_, rfl⟩
      rw [← ex] at x1
      rw [← er] at y1
      have hb0 : Below w.heap.size w wr := ((Below.refl w.heap.size w).alloc (Nat.le_refl _) _).trans (HB.out.mono (by omega))
      have z0 : wr.cell? ⟨g, off + j * 2, none⟩ = some (.int .i64 x) := (hb0.cell (p := ⟨g, _, none⟩) hg).trans x1
      have z1 : wr.cell? ⟨g, off + j * 2 + 1, none⟩ = some (.string r) := (hb0.cell (p := ⟨g, _, none⟩) hg).trans y1
      have hbA : ∀ u : World, Below (wr.alloc (.cells #[.int .i64 x, .string r] 34)).heap.size (wr.alloc (.cells #[.int .i64 x, .string r] 34)) u → Below wr.heap.size wr u := fun u hu => ((Below.refl _ _).alloc (Nat.le_refl _) _).trans (hu.mono (by simp))
      have HBd : Hid (∀ c : Cls (wr.alloc (.cells #[.int .i64 x, .string r] 34)), Below (w.heap.size + 1) (w.alloc (.cells #[.int .i64 ep, .slice a n cap] 24)) c.1) := hid (fun c => HB.out.trans ((hbA _ c.2).mono (by have := HB.out.size; simp at this; omega)))
      have HBc : Hid (∀ c : Cls (wr.alloc (.cells #[.int .i64 x, .string r] 34)), Below w.heap.size w c.1) := hid (fun c => hb0.trans ((hbA _ c.2).mono hb0.size))
      have HIb : Hid (∀ u : World, Below (wr.alloc (.cells #[.int .i64 x, .string r] 34)).heap.size (wr.alloc (.cells #[.int .i64 x, .string r] 34)) u → IntsIn u a l) := hid (fun u hu => HI.out.keep (HBc.out ⟨u, hu⟩) (Nat.le_refl _))
      have hsb : ∀ c : Cls (wr.alloc (.cells #[.int .i64 x, .string r] 34)), c.1.heap[wr.heap.size]? = some (.cells [.int .i64 x, .string r].toArray 34 (0, 0)) := fun c => (c.2.block _ (by simp)).trans (heap_alloc_last wr _)
      have e0 : ∀ c : Cls (wr.alloc (.cells #[.int .i64 x, .string r] 34)), c.1.cell? ⟨wr.heap.size, 0, none⟩ = some (.int .i64 x) := fun c => cell_at (hsb c) 0 _ rfl
      have e1 : ∀ c : Cls (wr.alloc (.cells #[.int .i64 x, .string r] 34)), c.1.cell? ⟨wr.heap.size, 1, none⟩ = some (.string r) := fun c => cell_at (hsb c) 1 _ rfl
      have e2 : ∀ c : Cls (wr.alloc (.cells #[.int .i64 x, .string r] 34)), c.1.cell? ⟨w.heap.size, 1, none⟩ = some (.slice a n cap) := fun c => cell_at (L := [.int .i64 ep, .slice a n cap]) (((HBd.out c).block _ (by omega)).trans HF.out) 1 _ rfl
      have HJ := hid (And.intro hj hjn)
      clear x1 y1 hsb hbA hb0
      by_cases hr : r.data.toList = t.data.toList
      · obtain rfl : r = t := bytes_eq hr
        cases hh : hasM l x with
        | false =>
          have HHx : Hid (∀ u : World, IntsIn u a l → Calls Try.prog 29 #[.slice a n cap, .int .i64 x] u fun e w' => e = .returned (.bool false) ∧ Below u.heap.size u w') := hid (fun u hu => (HH.out x u hu).mono fun e w' ⟨h1, h2⟩ => ⟨by rw [h1, hh], by rw [h2]; exact Below.refl _ _⟩)
          have HFl : Hid (okTTo l r ss m = false) := hid (okTTo_false l r ss (j + 1) m (by rw [okTTo_succ, okT, ← ex, hh]; simp) (by omega))
          clear hok hj hjn hjl ex er hh hr hg
          go_wp2
          haveI := Cls.ne (wr.alloc (.cells #[.int .i64 x, .string r] 34))
          refine wp_region_cls (wr.alloc (.cells #[.int .i64 x, .string r] 34)) (by kernel_rfl) (by kernel_rfl) ?_
          repeat (go_big_quiet_step ((go_at_call 29; exact Cls.of _ (fun u hu => HHx.out u (HIb.out u hu)))))
          refine wpQuiet_nil ?_
          rintro _ ⟨c, rfl⟩
          go_wp2
          go_ret
          exact ⟨by rw [provesB, HP.out.2, HFl.out]; rfl, HBc.out c⟩

        | true =>
          have HHx : Hid (∀ u : World, IntsIn u a l → Calls Try.prog 29 #[.slice a n cap, .int .i64 x] u fun e w' => e = .returned (.bool true) ∧ Below u.heap.size u w') := hid (fun u hu => (HH.out x u hu).mono fun e w' ⟨h1, h2⟩ => ⟨by rw [h1, hh], by rw [h2]; exact Below.refl _ _⟩)
          by_cases hz : j = 0
          · have hz1 : ¬ ((0 : Int) < (j : Int)) := by omega
            have hz2 : decide (0 < j) = false := decide_eq_false (by omega)
            have HFl : Hid (okTTo l r ss (j + 1) = true) := hid (by rw [okTTo_succ, hok, okT, ← ex, ← er, hh, decide_eq_true hz]; simp)
            clear hok hj hjn hjl ex er hh hr hg hz
            go_wp2
            haveI := Cls.ne (wr.alloc (.cells #[.int .i64 x, .string r] 34))
            refine wp_region_cls (wr.alloc (.cells #[.int .i64 x, .string r] 34)) (by kernel_rfl) (by kernel_rfl) ?_
            repeat (go_big_quiet_step ((go_at_call 29; exact Cls.of _ (fun u hu => HHx.out u (HIb.out u hu)))))
            refine wpQuiet_nil ?_
            rintro _ ⟨c, rfl⟩
            go_wp2
            go_roundw
            case rel => exact ⟨j + 1, by have := HJ.out; omega, by go_num, HFl.out, HBd.out c⟩
            case measure => simp [intOf]; omega

          · obtain ⟨i, rfl⟩ : ∃ i, j = i + 1 := ⟨j - 1, by omega⟩
            have hil : i < ss.length := by omega
            obtain ⟨g', off', eg, hg', p1, _⟩ := HP.out.1.at i _ (getP_some hil)
            obtain ⟨rfl, rfl⟩ : g = g' ∧ off = off' := by simp at eg; exact eg
            obtain ⟨y, ey⟩ : ∃ y, y = idOf ss i := ⟨_, rfl⟩
            rw [← ey] at p1
            have e3 : ∀ c : Cls (wr.alloc (.cells #[.int .i64 x, .string r] 34)), c.1.cell? ⟨g, off + i * 2, none⟩ = some (.int .i64 y) := fun c => ((HBc.out c).cell (p := ⟨g, _, none⟩) hg).trans p1
            have hi0 : (0 : Int) < ((i + 1 : Nat) : Int) := by omega
            have hi1 : (i : Int) < (m : Int) := by omega
            have hi2 : (0 : Int) ≤ (i : Int) := by omega
            have hi3 : decide ((0 : Int) < (i : Int) + 1) = true := decide_eq_true (by omega)
            by_cases hxy : x ≤ y
            · have d3 : decide (x ≤ y) = true := decide_eq_true hxy
              have HFl : Hid (okTTo l r ss m = false) := hid (okTTo_false l r ss (i + 1 + 1) m (by rw [okTTo_succ, okT, ← ex, show i + 1 - 1 = i from rfl, ← ey, decide_eq_false (show ¬ (y < x) by omega), decide_eq_false (show ¬ (i + 1 = 0) by omega)]; simp) (by omega))
              clear hok hj hjn hjl ex er hh hr hg hz hil eg hg' p1 ey
              go_wp2
              haveI := Cls.ne (wr.alloc (.cells #[.int .i64 x, .string r] 34))
              refine wp_region_cls (wr.alloc (.cells #[.int .i64 x, .string r] 34)) (by kernel_rfl) (by kernel_rfl) ?_
              repeat (go_big_quiet_step ((go_at_call 29; exact Cls.of _ (fun u hu => HHx.out u (HIb.out u hu)))))
              refine wpQuiet_nil ?_
              rintro _ ⟨c, rfl⟩
              go_wp2
              go_ret
              exact ⟨by rw [provesB, HP.out.2, HFl.out]; rfl, HBc.out c⟩

            · have d3 : decide (x ≤ y) = false := decide_eq_false hxy
              have HFl : Hid (okTTo l r ss (i + 1 + 1) = true) := hid (by rw [okTTo_succ, hok, okT, ← ex, ← er, hh, show i + 1 - 1 = i from rfl, ← ey, decide_eq_true (show y < x by omega)]; simp)
              clear hok hj hjn hjl ex er hh hr hg hz hil eg hg' p1 ey
              go_wp2
              haveI := Cls.ne (wr.alloc (.cells #[.int .i64 x, .string r] 34))
              refine wp_region_cls (wr.alloc (.cells #[.int .i64 x, .string r] 34)) (by kernel_rfl) (by kernel_rfl) ?_
              repeat (go_big_quiet_step ((go_at_call 29; exact Cls.of _ (fun u hu => HHx.out u (HIb.out u hu)))))
              refine wpQuiet_nil ?_
              rintro _ ⟨c, rfl⟩
              go_wp2
              go_roundw
              case rel => exact ⟨i + 1 + 1, by have := HJ.out; omega, by go_num, HFl.out, HBd.out c⟩
              case measure => simp [intOf]; omega

      · have hr2 : ¬ (r = t) := fun h => hr (by rw [h])
        have hr3 : (r.toList == t.toList) = false := by rw [data_list, data_list]; simpa using hr
        have HHx : Hid (∀ u : World, IntsIn u a l → Calls Try.prog 29 #[.slice a n cap, .int .i64 x] u fun e w' => e = .returned (.bool (hasM l x)) ∧ Below u.heap.size u w') := hid (fun u hu => (HH.out x u hu).mono fun e w' ⟨h1, h2⟩ => ⟨h1, by rw [h2]; exact Below.refl _ _⟩)
        have HFl : Hid (okTTo l t ss m = false) := hid (okTTo_false l t ss (j + 1) m (by rw [okTTo_succ, okT, ← er, decide_eq_false hr]; simp) (by omega))
        clear hok hj hjn hjl ex er hg hr
        go_wp2
        haveI := Cls.ne (wr.alloc (.cells #[.int .i64 x, .string r] 34))
        refine wp_region_cls (wr.alloc (.cells #[.int .i64 x, .string r] 34)) (by kernel_rfl) (by kernel_rfl) ?_
        repeat (go_big_quiet_step ((go_at_call 29; exact Cls.of _ (fun u hu => HHx.out u (HIb.out u hu)))))
        refine wpQuiet_nil ?_
        rintro _ ⟨c, rfl⟩
        go_wp2
        go_ret
        exact ⟨by rw [provesB, HP.out.2, HFl.out]; rfl, HBc.out c⟩
end Go.Proofs.Ytgnapfgiefdlaaa
