/- The program's Proves. -/
import Derived.Test.YtohhlolmojeomaaTsTM
import Derived.Test.YtohhlolmojeomaaKg1
import Derived.Test.YtohhlolmojeomaaKf1
import Derived.Test.YtohhlolmojeomaaKd1
namespace Go.Proofs.Ytohhlolmojeomaa
open Go.RowKit

set_option maxRecDepth 100000 in
set_option maxHeartbeats 3200000 in
theorem tproves_any (ep : Int) (a : Option Addr) (n cap : Nat) (l : List Int) (hn : l.length = n) (hm : n ≤ maxLen) (t : ByteArray) (b : Option Addr) (m cp : Nat) (ss : List (Int × ByteArray)) (hsn : ss.length = m) (hsm : m ≤ maxLen) (w : World) (hI : IntsIn w a l) (hP : PairsIn w b ss) :
    Calls Try.prog 13 #[.agg #[.int .i64 ep, .slice a n cap], .string t, .slice b m cp] w fun e w' => e = .returned (.bool (provesB ep l t ss)) ∧ Below w.heap.size w w' := by
  have hm2 : (m : Int) ≤ 9223372036854775807 := by unfold maxLen at hsm; omega
  have HH : Hid (∀ (z : Int) (u : World), IntsIn u a l → Calls Try.prog 40 #[.agg #[.int .i64 ep, .slice a n cap], .int .i64 z] u fun e w' => e = .returned (.bool (hasM l z)) ∧ Below u.heap.size u w') := hid (fun z u hu => chas_any ep a n cap l hn hm z u hu)
  have HR : Hid (∀ u : World, IntsIn u a l → Calls Try.prog 31 #[.agg #[.int .i64 ep, .slice a n cap]] u fun e w' => e = .returned (.bool (rightC ep l)) ∧ Below u.heap.size u w') := hid (fun u hu => cright_any ep a n cap l hn hm u hu)
  obtain ⟨qz, eqz⟩ : ∃ q, q = quoZ (n : Int) := ⟨_, rfl⟩
  have HQx : Hid (∀ u : World, Calls Try.prog 39 #[.int .i64 (n : Int)] u fun e w' => e = .returned (.int .i64 qz) ∧ Below u.heap.size u w') := hid (fun u => by rw [eqz]; exact cquorum_any (n : Int) (by unfold maxLen at hm; omega) u)
  obtain ⟨W, eW⟩ : ∃ W, W = w.alloc (.cells #[.int .i64 ep, .slice a n cap] 24) := ⟨_, rfl⟩
  have hbW : Below w.heap.size w W := by rw [eW]; exact (Below.refl _ _).alloc (Nat.le_refl _) _
  have hcf : W.heap[w.heap.size]? = some (.cells [.int .i64 ep, .slice a n cap].toArray 24 (0, 0)) := by rw [eW]; exact heap_alloc_last w _
  have c0 : W.cell? ⟨w.heap.size, 0, none⟩ = some (.int .i64 ep) := cell_at hcf 0 _ rfl
  have c1 : W.cell? ⟨w.heap.size, 1, none⟩ = some (.slice a n cap) := cell_at hcf 1 _ rfl
  have HE := hid eW
  have HW := hid hbW
  have HCf := hid hcf
  have HI := hid (hI.keep hbW (Nat.le_refl _))
  have HP := hid (And.intro (hP.keep hbW (Nat.le_refl _)) hsn)
  have hd : provesB ep l t ss = (okTTo l t ss m && (rightC ep l && (decide (qz ≤ (m : Int)) && decide (m ≤ 16)))) := by rw [provesB, hsn, hn, eqz]
  clear hI hP hsn hsm hn hm eW hbW hcf eqz
  cases hrt : rightC ep l with
  | false =>
    have HRx : Hid (∀ u : World, IntsIn u a l → Calls Try.prog 31 #[.agg #[.int .i64 ep, .slice a n cap]] u fun e w' => e = .returned (.bool false) ∧ Below u.heap.size u w') := hid (fun u hu => by rw [← hrt]; exact HR.out u hu)
    have HD : Hid (provesB ep l t ss = false) := hid (by rw [hd, hrt]; simp)
    clear hrt hd
    go_enter Try.func13, Try.ntmps13
    go_wp2_with (go_at_call 31; have hx := HE.out; rw [← hx]; clear hx; refine (HRx.out _ HI.out).mono ?_; rintro e w2 ⟨rfl, hb2⟩; have H2 := hid hb2; have c2 : w2.cell? ⟨w.heap.size, 1, none⟩ = some (.slice a n cap) := cell_at ((hb2.block _ (lt_of_blk HCf.out)).trans HCf.out) 1 _ rfl; clear hb2 c0 c1)
    go_ret
    exact ⟨by rw [HD.out]; rfl, HW.out.trans (H2.out.mono HW.out.size)⟩
  | true =>
    have HRx : Hid (∀ u : World, IntsIn u a l → Calls Try.prog 31 #[.agg #[.int .i64 ep, .slice a n cap]] u fun e w' => e = .returned (.bool true) ∧ Below u.heap.size u w') := hid (fun u hu => by rw [← hrt]; exact HR.out u hu)
    by_cases h1 : (m : Int) < qz
    · have HD : Hid (provesB ep l t ss = false) := hid (by rw [hd, decide_eq_false (show ¬ (qz ≤ (m : Int)) by omega)]; simp)
      clear hrt hd
      go_enter Try.func13, Try.ntmps13
      go_wp2_with (first
        | (go_at_call 31; have hx := HE.out; rw [← hx]; clear hx; refine (HRx.out _ HI.out).mono ?_; rintro e w2 ⟨rfl, hb2⟩; have H2 := hid hb2; have c2 : w2.cell? ⟨w.heap.size, 1, none⟩ = some (.slice a n cap) := cell_at ((hb2.block _ (lt_of_blk HCf.out)).trans HCf.out) 1 _ rfl; clear hb2 c0 c1)
        | (go_at_call 39; have := H2; refine (HQx.out _).mono ?_; rintro e w3 ⟨rfl, hb3⟩; have H3 := hid (H2.out.trans (hb3.mono H2.out.size)); clear hb3 c2))
      go_ret
      exact ⟨by rw [HD.out]; rfl, HW.out.trans (H3.out.mono HW.out.size)⟩
    · by_cases h2 : m ≤ 16
      · have HD : Hid (provesB ep l t ss = okTTo l t ss m) := hid (by rw [hd, hrt, decide_eq_true (show qz ≤ (m : Int) by omega), decide_eq_true h2]; simp)
        have h3 : ¬ ((16 : Int) < (m : Int)) := by omega
        have h4 : decide ((16 : Int) < (m : Int)) = false := decide_eq_false h3
        have h5 : ¬ (16 < m) := by omega
        clear hrt hd h2
        go_enter Try.func13, Try.ntmps13
        go_wp2_with (first
          | (go_at_call 31; have hx := HE.out; rw [← hx]; clear hx; refine (HRx.out _ HI.out).mono ?_; rintro e w2 ⟨rfl, hb2⟩; have H2 := hid hb2; have c2 : w2.cell? ⟨w.heap.size, 1, none⟩ = some (.slice a n cap) := cell_at ((hb2.block _ (lt_of_blk HCf.out)).trans HCf.out) 1 _ rfl; clear hb2 c0 c1)
          | (go_at_call 39; have := H2; refine (HQx.out _).mono ?_; rintro e w3 ⟨rfl, hb3⟩; have H3 := hid (H2.out.trans (hb3.mono H2.out.size)); clear hb3 c2))
        clear h1 h3 h4 h5
        go_loopw [28] (fun i wr => ∃ j : Nat, j ≤ m ∧ i = .int .i64 (j : Int) ∧ okTTo l t ss j = true ∧ Below W.heap.size W wr)
          (fun i _ => ((m : Int) - intOf i).toNat)
        case atStart => exact ⟨0, by omega, rfl, rfl, H3.out⟩
        case round =>
          obtain ⟨j, hj, rfl, hok, hbel⟩ := hrel
          have HB := hid hbel
          clear hbel H2 H3 HRx HQx HR
          by_cases hjn : j = m
          · have hj1 : ¬ ((j : Int) < (m : Int)) := by omega
            rw [hjn] at hok
            have HF := hid hok
            clear hok hj hjn
            go_wp2
            go_ret
            exact ⟨by rw [HD.out, HF.out]; rfl, HW.out.trans (HB.out.mono HW.out.size)⟩
          · have hj1 : (j : Int) < (m : Int) := by omega
            have hj0 : (0 : Int) ≤ (j : Int) := Int.natCast_nonneg _
            have hjl : j < ss.length := by rw [HP.out.2]; omega
            obtain ⟨g, off, rfl, hg, x1, y1⟩ := HP.out.1.at j _ (getP_some hjl)
            obtain ⟨x, ex⟩ : ∃ x, x = idOf ss j := ⟨_, rfl⟩
            obtain ⟨r, er⟩ : ∃ r, r = rtOf ss j := ⟨_, rfl⟩
            rw [← ex] at x1
            rw [← er] at y1
            have z0 : wr.cell? ⟨g, off + j * 2, none⟩ = some (.int .i64 x) := (HB.out.cell (p := ⟨g, _, none⟩) hg).trans x1
            have z1 : wr.cell? ⟨g, off + j * 2 + 1, none⟩ = some (.string r) := (HB.out.cell (p := ⟨g, _, none⟩) hg).trans y1
            have hbA : ∀ u : World, Below (wr.alloc (.cells #[.int .i64 x, .string r] 67)).heap.size (wr.alloc (.cells #[.int .i64 x, .string r] 67)) u → Below wr.heap.size wr u := fun u hu => ((Below.refl _ _).alloc (Nat.le_refl _) _).trans (hu.mono (by simp))
            have HBd : Hid (∀ c : Cls (wr.alloc (.cells #[.int .i64 x, .string r] 67)), Below W.heap.size W c.1) := hid (fun c => HB.out.trans ((hbA _ c.2).mono HB.out.size))
            have HBc : Hid (∀ c : Cls (wr.alloc (.cells #[.int .i64 x, .string r] 67)), Below w.heap.size w c.1) := hid (fun c => HW.out.trans ((HBd.out c).mono HW.out.size))
            have HIb : Hid (∀ u : World, Below (wr.alloc (.cells #[.int .i64 x, .string r] 67)).heap.size (wr.alloc (.cells #[.int .i64 x, .string r] 67)) u → IntsIn u a l) := hid (fun u hu => HI.out.keep (HBd.out ⟨u, hu⟩) (Nat.le_refl _))
            have hsb : ∀ c : Cls (wr.alloc (.cells #[.int .i64 x, .string r] 67)), c.1.heap[wr.heap.size]? = some (.cells [.int .i64 x, .string r].toArray 67 (0, 0)) := fun c => (c.2.block _ (by simp)).trans (heap_alloc_last wr _)
            have e0 : ∀ c : Cls (wr.alloc (.cells #[.int .i64 x, .string r] 67)), c.1.cell? ⟨wr.heap.size, 0, none⟩ = some (.int .i64 x) := fun c => cell_at (hsb c) 0 _ rfl
            have e1 : ∀ c : Cls (wr.alloc (.cells #[.int .i64 x, .string r] 67)), c.1.cell? ⟨wr.heap.size, 1, none⟩ = some (.string r) := fun c => cell_at (hsb c) 1 _ rfl
            have e2 : ∀ c : Cls (wr.alloc (.cells #[.int .i64 x, .string r] 67)), c.1.cell? ⟨w.heap.size, 1, none⟩ = some (.slice a n cap) := fun c => cell_at (((HBd.out c).block _ (lt_of_blk HCf.out)).trans HCf.out) 1 _ rfl
            have e4 : ∀ c : Cls (wr.alloc (.cells #[.int .i64 x, .string r] 67)), c.1.cell? ⟨w.heap.size, 0, none⟩ = some (.int .i64 ep) := fun c => cell_at (((HBd.out c).block _ (lt_of_blk HCf.out)).trans HCf.out) 0 _ rfl
            have HJ := hid (And.intro hj hjn)
            clear x1 y1 hsb hbA
            by_cases hr : r.data.toList = t.data.toList
            · obtain rfl : r = t := bytes_eq hr
              cases hh : hasM l x with
              | false =>
                have HHx : Hid (∀ u : World, IntsIn u a l → Calls Try.prog 40 #[.agg #[.int .i64 ep, .slice a n cap], .int .i64 x] u fun e w' => e = .returned (.bool false) ∧ Below u.heap.size u w') := hid (fun u hu => by rw [← hh]; exact HH.out x u hu)
                have HFl : Hid (okTTo l r ss m = false) := hid (okTTo_false l r ss (j + 1) m (by rw [okTTo_succ, okT, ← ex, hh]; simp) (by omega))
                clear hok hj hjn hjl ex er hh hr hg
                go_wp2
                haveI := Cls.ne (wr.alloc (.cells #[.int .i64 x, .string r] 67))
                refine wp_region_cls (wr.alloc (.cells #[.int .i64 x, .string r] 67)) (by kernel_rfl) (by kernel_rfl) ?_
                repeat (go_big_quiet_step ((go_at_call 40; exact Cls.of _ (fun u hu => HHx.out u (HIb.out u hu)))))
                refine wpQuiet_nil ?_
                rintro _ ⟨c, rfl⟩
                go_wp2
                go_ret
                exact ⟨by rw [HD.out, HFl.out]; rfl, HBc.out c⟩
              | true =>
                have HHx : Hid (∀ u : World, IntsIn u a l → Calls Try.prog 40 #[.agg #[.int .i64 ep, .slice a n cap], .int .i64 x] u fun e w' => e = .returned (.bool true) ∧ Below u.heap.size u w') := hid (fun u hu => by rw [← hh]; exact HH.out x u hu)
                by_cases hz : j = 0
                · have hz1 : ¬ ((0 : Int) < (j : Int)) := by omega
                  have hz2 : decide (0 < j) = false := decide_eq_false (by omega)
                  have HFl : Hid (okTTo l r ss (j + 1) = true) := hid (by rw [okTTo_succ, hok, okT, ← ex, ← er, hh, decide_eq_true hz]; simp)
                  clear hok hj hjn hjl ex er hh hr hg hz
                  go_wp2
                  haveI := Cls.ne (wr.alloc (.cells #[.int .i64 x, .string r] 67))
                  refine wp_region_cls (wr.alloc (.cells #[.int .i64 x, .string r] 67)) (by kernel_rfl) (by kernel_rfl) ?_
                  repeat (go_big_quiet_step ((go_at_call 40; exact Cls.of _ (fun u hu => HHx.out u (HIb.out u hu)))))
                  refine wpQuiet_nil ?_
                  rintro _ ⟨c, rfl⟩
                  go_wp2
                  go_roundw
                  case rel => exact ⟨j + 1, by have := HJ.out; omega, by go_num, HFl.out, HBd.out c⟩
                  case measure => simp [intOf]; omega
                · obtain ⟨i, rfl⟩ : ∃ i, j = i + 1 := ⟨j - 1, by omega⟩
                  have hil : i < ss.length := by omega
                  obtain ⟨g', off', eg, hg', p1, _⟩ := HP.out.1.at i _ (getP_some hil)
                  obtain ⟨rfl, rfl⟩ : g = g' ∧ off = off' := by simp at eg; exact eg
                  obtain ⟨y, ey⟩ : ∃ y, y = idOf ss i := ⟨_, rfl⟩
                  rw [← ey] at p1
                  have e3 : ∀ c : Cls (wr.alloc (.cells #[.int .i64 x, .string r] 67)), c.1.cell? ⟨g, off + i * 2, none⟩ = some (.int .i64 y) := fun c => ((HBd.out c).cell (p := ⟨g, _, none⟩) hg).trans p1
                  have hi0 : (0 : Int) < ((i + 1 : Nat) : Int) := by omega
                  have hi1 : (i : Int) < (m : Int) := by omega
                  have hi2 : (0 : Int) ≤ (i : Int) := by omega
                  have hi3 : decide ((0 : Int) < (i : Int) + 1) = true := decide_eq_true (by omega)
                  by_cases hxy : x ≤ y
                  · have d3 : decide (x ≤ y) = true := decide_eq_true hxy
                    have HFl : Hid (okTTo l r ss m = false) := hid (okTTo_false l r ss (i + 1 + 1) m (by rw [okTTo_succ, okT, ← ex, show i + 1 - 1 = i from rfl, ← ey, decide_eq_false (show ¬ (y < x) by omega), decide_eq_false (show ¬ (i + 1 = 0) by omega)]; simp) (by omega))
                    clear hok hj hjn hjl ex er hh hr hg hz hil eg hg' p1 ey
                    go_wp2
                    haveI := Cls.ne (wr.alloc (.cells #[.int .i64 x, .string r] 67))
                    refine wp_region_cls (wr.alloc (.cells #[.int .i64 x, .string r] 67)) (by kernel_rfl) (by kernel_rfl) ?_
                    repeat (go_big_quiet_step ((go_at_call 40; exact Cls.of _ (fun u hu => HHx.out u (HIb.out u hu)))))
                    refine wpQuiet_nil ?_
                    rintro _ ⟨c, rfl⟩
                    go_wp2
                    go_ret
                    exact ⟨by rw [HD.out, HFl.out]; rfl, HBc.out c⟩
                  · have d3 : decide (x ≤ y) = false := decide_eq_false hxy
                    have HFl : Hid (okTTo l r ss (i + 1 + 1) = true) := hid (by rw [okTTo_succ, hok, okT, ← ex, ← er, hh, show i + 1 - 1 = i from rfl, ← ey, decide_eq_true (show y < x by omega)]; simp)
                    clear hok hj hjn hjl ex er hh hr hg hz hil eg hg' p1 ey
                    go_wp2
                    haveI := Cls.ne (wr.alloc (.cells #[.int .i64 x, .string r] 67))
                    refine wp_region_cls (wr.alloc (.cells #[.int .i64 x, .string r] 67)) (by kernel_rfl) (by kernel_rfl) ?_
                    repeat (go_big_quiet_step ((go_at_call 40; exact Cls.of _ (fun u hu => HHx.out u (HIb.out u hu)))))
                    refine wpQuiet_nil ?_
                    rintro _ ⟨c, rfl⟩
                    go_wp2
                    go_roundw
                    case rel => exact ⟨i + 1 + 1, by have := HJ.out; omega, by go_num, HFl.out, HBd.out c⟩
                    case measure => simp [intOf]; omega
            · have hr2 : ¬ (r = t) := fun h => hr (by rw [h])
              have hr3 : (r.toList == t.toList) = false := text_no hr
              have HHx : Hid (∀ u : World, IntsIn u a l → Calls Try.prog 40 #[.agg #[.int .i64 ep, .slice a n cap], .int .i64 x] u fun e w' => e = .returned (.bool (hasM l x)) ∧ Below u.heap.size u w') := hid (fun u hu => HH.out x u hu)
              have HFl : Hid (okTTo l t ss m = false) := hid (okTTo_false l t ss (j + 1) m (by rw [okTTo_succ, okT, ← er, decide_eq_false hr]; simp) (by omega))
              clear hok hj hjn hjl ex er hg hr
              go_wp2
              haveI := Cls.ne (wr.alloc (.cells #[.int .i64 x, .string r] 67))
              refine wp_region_cls (wr.alloc (.cells #[.int .i64 x, .string r] 67)) (by kernel_rfl) (by kernel_rfl) ?_
              repeat (go_big_quiet_step ((go_at_call 40; exact Cls.of _ (fun u hu => HHx.out u (HIb.out u hu)))))
              refine wpQuiet_nil ?_
              rintro _ ⟨c, rfl⟩
              go_wp2
              go_ret
              exact ⟨by rw [HD.out, HFl.out]; rfl, HBc.out c⟩
      · have HD : Hid (provesB ep l t ss = false) := hid (by rw [hd, decide_eq_false h2]; simp)
        have h3 : (16 : Int) < (m : Int) := by omega
        clear hrt hd h2
        go_enter Try.func13, Try.ntmps13
        go_wp2_with (first
          | (go_at_call 31; have hx := HE.out; rw [← hx]; clear hx; refine (HRx.out _ HI.out).mono ?_; rintro e w2 ⟨rfl, hb2⟩; have H2 := hid hb2; have c2 : w2.cell? ⟨w.heap.size, 1, none⟩ = some (.slice a n cap) := cell_at ((hb2.block _ (lt_of_blk HCf.out)).trans HCf.out) 1 _ rfl; clear hb2 c0 c1)
          | (go_at_call 39; have := H2; refine (HQx.out _).mono ?_; rintro e w3 ⟨rfl, hb3⟩; have H3 := hid (H2.out.trans (hb3.mono H2.out.size)); clear hb3 c2))
        go_ret
        exact ⟨by rw [HD.out]; rfl, HW.out.trans (H3.out.mono HW.out.size)⟩
end Go.Proofs.Ytohhlolmojeomaa
